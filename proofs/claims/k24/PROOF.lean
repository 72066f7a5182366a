import PyProof.Rows.All
import Wide.All
import OpenK.AllK
import Wide.FinOn
import HandS.ForMost
import HandS.DictComp
import HandS.Wide
import HandS.Style
import HandS.IsInst
import HandS.TupAny
import HandS.NoneIn
import HandS.SetFor
import HandS.Conv
import HandS.Zip
import HandS.SortKw
import HandS.Deep
import KE.DataMinMax
import KE.GoesMore
import KE.KDictZip
import KE.GoesZip
import KE.GoesEnum
import HandS.AnyAll
import HandS.GenOver
import HandS.Strs
import HandS.TupLen
import KE.KeyNested
import PyProof.Rows.TupTab
import HandS.TupMul
import HandS.Words
import HandS.EndTab
import HandS.HeadWalk
import HandS.Defaults
import HandS.Head0
import HandS.Head1
import HandS.Head2
import HandS.HeadEnd
import HandS.HeadHook1
import HandS.HeadHook2
import HandS.HeadHook3
import HandS.HeadHook4
import KE.KStateDown
import KE.KIsAll
import KE.KNestM
import PyProof.GenCompD
import PyProof.WalksMore
import PyProof.ReprRoads
import PySem.Challenge.RW_beltshift_k24_rooms_of_formulas
import KE.DataFind
import HandS.Lambda
import KE.KLam
import KE.DataMinKey
import HandS.TryOnly
import HandS.ExcInit
import HandS.WordsExc
import HandS.ExcIs
import HandS.ExcField
import HandS.ExcOwn
set_option Elab.async false
set_option linter.all false
set_option maxRecDepth 100000
namespace Mine
open PySem PyProof.Rows L2
def topS (i : Nat) : Stmt := PySem.Challenge.pw_beltshift_k24_rooms_of_formulas.main.body.getD i (.Pass ⟨0, 0, 0, 0⟩)
abbrev s_first_on_ring : Stmt := topS 4
abbrev N_first_on_ring : List Str := ["places", "steps", "place"]
theorem sc_first_on_ring : FnScope N_first_on_ring ["places", "steps"] (defScope s_first_on_ring) := ⟨rfl, rfl, rfl, by decide +kernel, rfl, by decide +kernel, by decide +kernel⟩
abbrev s_comes_back : Stmt := topS 5
abbrev N_comes_back : List Str := ["place", "steps", "seen", "left", "here"]
theorem sc_comes_back : FnScope N_comes_back ["place", "steps"] (defScope s_comes_back) := ⟨rfl, rfl, rfl, by decide +kernel, rfl, by decide +kernel, by decide +kernel⟩
abbrev s_is_whole : Stmt := topS 7
abbrev N_is_whole : List Str := ["thing"]
theorem sc_is_whole : FnScope N_is_whole ["thing"] (defScope s_is_whole) := ⟨rfl, rfl, rfl, by decide +kernel, rfl, by decide +kernel, by decide +kernel⟩
abbrev s_is_rule : Stmt := topS 11
abbrev N_is_rule : List Str := ["thing", "word"]
theorem sc_is_rule : FnScope N_is_rule ["thing"] (defScope s_is_rule) := ⟨rfl, rfl, rfl, by decide +kernel, rfl, by decide +kernel, by decide +kernel⟩
abbrev s_needs : Stmt := topS 12
abbrev N_needs : List Str := ["rule"]
theorem sc_needs : FnScope N_needs ["rule"] (defScope s_needs) := ⟨rfl, rfl, rfl, by decide +kernel, rfl, by decide +kernel, by decide +kernel⟩
abbrev s_look_room : Stmt := topS 16
abbrev N_look_room : List Str := ["room"]
theorem sc_look_room : FnScope N_look_room ["room"] (defScope s_look_room) := ⟨rfl, rfl, rfl, by decide +kernel, rfl, by decide +kernel, by decide +kernel⟩
abbrev s_refuse_room : Stmt := topS 17
abbrev N_refuse_room : List Str := ["word", "at"]
theorem sc_refuse_room : FnScope N_refuse_room ["word", "at"] (defScope s_refuse_room) := ⟨rfl, rfl, rfl, by decide +kernel, rfl, by decide +kernel, by decide +kernel⟩
abbrev s_is_tuple_of : Stmt := topS 18
abbrev N_is_tuple_of : List Str := ["thing", "many"]
theorem sc_is_tuple_of : FnScope N_is_tuple_of ["thing", "many"] (defScope s_is_tuple_of) := ⟨rfl, rfl, rfl, by decide +kernel, rfl, by decide +kernel, by decide +kernel⟩
abbrev s_has_form : Stmt := topS 19
abbrev N_has_form : List Str := ["room", "hands", "belts"]
theorem sc_has_form : FnScope N_has_form ["room"] (defScope s_has_form) := ⟨rfl, rfl, rfl, by decide +kernel, rfl, by decide +kernel, by decide +kernel⟩
abbrev s_is_hand_pair : Stmt := topS 20
abbrev N_is_hand_pair : List Str := ["hand"]
theorem sc_is_hand_pair : FnScope N_is_hand_pair ["hand"] (defScope s_is_hand_pair) := ⟨rfl, rfl, rfl, by decide +kernel, rfl, by decide +kernel, by decide +kernel⟩
abbrev s_is_belt_triple : Stmt := topS 21
abbrev N_is_belt_triple : List Str := ["belt"]
theorem sc_is_belt_triple : FnScope N_is_belt_triple ["belt"] (defScope s_is_belt_triple) := ⟨rfl, rfl, rfl, by decide +kernel, rfl, by decide +kernel, by decide +kernel⟩
abbrev s_wrong_hand : Stmt := topS 22
abbrev N_wrong_hand : List Str := ["room", "number", "rule", "moments"]
theorem sc_wrong_hand : FnScope N_wrong_hand ["room"] (defScope s_wrong_hand) := ⟨rfl, rfl, rfl, by decide +kernel, rfl, by decide +kernel, by decide +kernel⟩
abbrev s_wrong_belt : Stmt := topS 23
abbrev N_wrong_belt : List Str := ["room", "hands", "belts", "number", "giver", "taker", "things"]
theorem sc_wrong_belt : FnScope N_wrong_belt ["room"] (defScope s_wrong_belt) := ⟨rfl, rfl, rfl, by decide +kernel, rfl, by decide +kernel, by decide +kernel⟩
abbrev s_wrong_count : Stmt := topS 24
abbrev N_wrong_count : List Str := ["room", "number", "rule", "moments"]
theorem sc_wrong_count : FnScope N_wrong_count ["room"] (defScope s_wrong_count) := ⟨rfl, rfl, rfl, by decide +kernel, rfl, by decide +kernel, by decide +kernel⟩
abbrev s_hand_on_ring : Stmt := topS 25
abbrev N_hand_on_ring : List Str := ["room", "hands", "belts", "steps", "number", "giver", "taker", "things"]
theorem sc_hand_on_ring : FnScope N_hand_on_ring ["room"] (defScope s_hand_on_ring) := ⟨rfl, rfl, rfl, by decide +kernel, rfl, by decide +kernel, by decide +kernel⟩
abbrev s_comings : Stmt := topS 26
abbrev N_comings : List Str := ["room", "hand", "number", "belt"]
theorem sc_comings : FnScope N_comings ["room", "hand"] (defScope s_comings) := ⟨rfl, rfl, rfl, by decide +kernel, rfl, by decide +kernel, by decide +kernel⟩
abbrev s_tree_parts : Stmt := topS 28
abbrev N_tree_parts : List Str := ["tree", "found", "left", "part", "branch"]
theorem sc_tree_parts : FnScope N_tree_parts ["tree"] (defScope s_tree_parts) := ⟨rfl, rfl, rfl, by decide +kernel, rfl, by decide +kernel, by decide +kernel⟩
abbrev s_part_rule : Stmt := topS 29
abbrev N_part_rule : List Str := ["part", "word"]
theorem sc_part_rule : FnScope N_part_rule ["part"] (defScope s_part_rule) := ⟨rfl, rfl, rfl, by decide +kernel, rfl, by decide +kernel, by decide +kernel⟩
abbrev s_thing_at : Stmt := topS 31
abbrev N_thing_at : List Str := ["since", "before", "bell", "ahead"]
theorem sc_thing_at : FnScope N_thing_at ["since", "before", "bell"] (defScope s_thing_at) := ⟨rfl, rfl, rfl, by decide +kernel, rfl, by decide +kernel, by decide +kernel⟩
abbrev s_made_room : Stmt := topS 34
abbrev N_made_room : List Str := ["formulas", "moments", "ins", "was", "rules", "outs", "making", "name", "tree"]
theorem sc_made_room : FnScope N_made_room ["formulas", "moments"] (defScope s_made_room) := ⟨rfl, rfl, rfl, by decide +kernel, rfl, by decide +kernel, by decide +kernel⟩
abbrev s_Making___init__ : Stmt := inClass (topS 35) 0
abbrev N_Making___init__ : List Str := ["self", "formulas", "moments", "ins", "was", "rules", "outs", "names", "name", "tree", "number"]
theorem sc_Making___init__ : FnScope N_Making___init__ ["self", "formulas", "moments"] (defScope s_Making___init__) := ⟨rfl, rfl, rfl, by decide +kernel, rfl, by decide +kernel, by decide +kernel⟩
abbrev s_Making_put_rule : Stmt := inClass (topS 35) 1
abbrev N_Making_put_rule : List Str := ["self", "name", "tree", "parts", "sources", "part", "taken", "root"]
theorem sc_Making_put_rule : FnScope N_Making_put_rule ["self", "name", "tree"] (defScope s_Making_put_rule) := ⟨rfl, rfl, rfl, by decide +kernel, rfl, by decide +kernel, by decide +kernel⟩
abbrev s_Making_source_of : Stmt := inClass (topS 35) 2
abbrev N_Making_source_of : List Str := ["self", "part", "word", "name", "ago", "before", "bell"]
theorem sc_Making_source_of : FnScope N_Making_source_of ["self", "part"] (defScope s_Making_source_of) := ⟨rfl, rfl, rfl, by decide +kernel, rfl, by decide +kernel, by decide +kernel⟩
abbrev s_Making_put_hand : Stmt := inClass (topS 35) 3
abbrev N_Making_put_hand : List Str := ["self", "rule", "sources", "number"]
theorem sc_Making_put_hand : FnScope N_Making_put_hand ["self", "rule", "sources"] (defScope s_Making_put_hand) := ⟨rfl, rfl, rfl, by decide +kernel, rfl, by decide +kernel, by decide +kernel⟩
abbrev s_Making_settle : Stmt := inClass (topS 35) 4
abbrev N_Making_settle : List Str := ["self", "number", "rule", "sources", "giver", "things"]
theorem sc_Making_settle : FnScope N_Making_settle ["self", "number", "rule", "sources"] (defScope s_Making_settle) := ⟨rfl, rfl, rfl, by decide +kernel, rfl, by decide +kernel, by decide +kernel⟩
abbrev s_taken_sources : Stmt := topS 36
abbrev N_taken_sources : List Str := ["sources", "part", "first", "taken"]
theorem sc_taken_sources : FnScope N_taken_sources ["sources", "part"] (defScope s_taken_sources) := ⟨rfl, rfl, rfl, by decide +kernel, rfl, by decide +kernel, by decide +kernel⟩
abbrev s_law_flow : Stmt := topS 38
abbrev N_law_flow : List Str := ["_law_script"]
theorem sc_law_flow : FnScope N_law_flow ["_law_script"] (defScope s_law_flow) := ⟨rfl, rfl, rfl, by decide +kernel, rfl, by decide +kernel, by decide +kernel⟩
abbrev s_law_pick : Stmt := topS 39
abbrev N_law_pick : List Str := ["_law_flow_here", "_law_many", "_law_cell", "_law_digit"]
theorem sc_law_pick : FnScope N_law_pick ["_law_flow_here", "_law_many"] (defScope s_law_pick) := ⟨rfl, rfl, rfl, by decide +kernel, rfl, by decide +kernel, by decide +kernel⟩
abbrev s_law_thing : Stmt := topS 40
abbrev N_law_thing : List Str := ["_law_flow_here"]
theorem sc_law_thing : FnScope N_law_thing ["_law_flow_here"] (defScope s_law_thing) := ⟨rfl, rfl, rfl, by decide +kernel, rfl, by decide +kernel, by decide +kernel⟩
abbrev s_law_shuffled : Stmt := topS 41
abbrev N_law_shuffled : List Str := ["_law_flow_here", "_law_some", "_law_left", "_law_k"]
theorem sc_law_shuffled : FnScope N_law_shuffled ["_law_flow_here", "_law_some"] (defScope s_law_shuffled) := ⟨rfl, rfl, rfl, by decide +kernel, rfl, by decide +kernel, by decide +kernel⟩
abbrev s_law_word : Stmt := topS 42
abbrev N_law_word : List Str := ["_law_flow_here", "_law_most", "_law_letters", "_law_k"]
theorem sc_law_word : FnScope N_law_word ["_law_flow_here", "_law_most"] (defScope s_law_word) := ⟨rfl, rfl, rfl, by decide +kernel, rfl, by decide +kernel, by decide +kernel⟩
abbrev s_law_taken : Stmt := topS 43
abbrev N_law_taken : List Str := []
theorem sc_law_taken : FnScope N_law_taken [] (defScope s_law_taken) := ⟨rfl, rfl, rfl, by decide +kernel, rfl, by decide +kernel, by decide +kernel⟩
abbrev s_law_names : Stmt := topS 44
abbrev N_law_names : List Str := ["_law_flow_here", "_law_many", "_law_names_here", "_law_stem", "_law_k", "_law_name", "_law_spare"]
theorem sc_law_names : FnScope N_law_names ["_law_flow_here", "_law_many"] (defScope s_law_names) := ⟨rfl, rfl, rfl, by decide +kernel, rfl, by decide +kernel, by decide +kernel⟩
abbrev s_law_leaf : Stmt := topS 45
abbrev N_law_leaf : List Str := ["_law_flow_here", "_law_now", "_law_names_here"]
theorem sc_law_leaf : FnScope N_law_leaf ["_law_flow_here", "_law_now", "_law_names_here"] (defScope s_law_leaf) := ⟨rfl, rfl, rfl, by decide +kernel, rfl, by decide +kernel, by decide +kernel⟩
abbrev s_law_tree : Stmt := topS 46
abbrev N_law_tree : List Str := ["_law_flow_here", "_law_room", "_law_now", "_law_names_here", "_law_word_here", "_law_one", "_law_parts_here"]
theorem sc_law_tree : FnScope N_law_tree ["_law_flow_here", "_law_room", "_law_now", "_law_names_here"] (defScope s_law_tree) := ⟨rfl, rfl, rfl, by decide +kernel, rfl, by decide +kernel, by decide +kernel⟩
abbrev s_law_formulas : Stmt := topS 47
abbrev N_law_formulas : List Str := ["_law_flow_here", "_law_most", "_law_names_here", "_law_ins", "_law_own", "_law_every", "_law_trees", "_law_k", "_law_name", "_law_rules", "_law_was", "_law_outs"]
theorem sc_law_formulas : FnScope N_law_formulas ["_law_flow_here", "_law_most"] (defScope s_law_formulas) := ⟨rfl, rfl, rfl, by decide +kernel, rfl, by decide +kernel, by decide +kernel⟩
abbrev s_law_parts : Stmt := topS 48
abbrev N_law_parts : List Str := ["_law_tree_here", "_law_part"]
theorem sc_law_parts : FnScope N_law_parts ["_law_tree_here"] (defScope s_law_parts) := ⟨rfl, rfl, rfl, by decide +kernel, rfl, by decide +kernel, by decide +kernel⟩
abbrev s_law_moments : Stmt := topS 49
abbrev N_law_moments : List Str := ["_law_flow_here", "_law_k"]
theorem sc_law_moments : FnScope N_law_moments ["_law_flow_here"] (defScope s_law_moments) := ⟨rfl, rfl, rfl, by decide +kernel, rfl, by decide +kernel, by decide +kernel⟩
abbrev s_law_count : Stmt := topS 50
abbrev N_law_count : List Str := ["_law_tree_here", "_law_part"]
theorem sc_law_count : FnScope N_law_count ["_law_tree_here"] (defScope s_law_count) := ⟨rfl, rfl, rfl, by decide +kernel, rfl, by decide +kernel, by decide +kernel⟩
abbrev s_law_right : Stmt := topS 51
abbrev N_law_right : List Str := ["_law_formulas_here", "_law_moments_here", "_law_copied", "_law_room", "_law_words", "_law_own", "_law_rule", "_law_many", "_law_doors", "_law_parts_here", "_law_name", "_law_tree_here", "_law_other"]
theorem sc_law_right : FnScope N_law_right ["_law_formulas_here", "_law_moments_here"] (defScope s_law_right) := ⟨rfl, rfl, rfl, by decide +kernel, rfl, by decide +kernel, by decide +kernel⟩
abbrev s_law : Stmt := topS 52
abbrev N_law : List Str := ["_law_script", "_law_flow_here", "_law_asked", "_law_most", "_law_formulas_here", "_law_moments_here"]
theorem sc_law : FnScope N_law ["_law_script"] (defScope s_law) := ⟨rfl, rfl, rfl, by decide +kernel, rfl, by decide +kernel, by decide +kernel⟩

/-- a def of the text stands, binds and is bound -/
def Dd (K : PySem.W.Frag) (mg : Str → Option Value) (name : Str) (st : Stmt) (ps : List Str) : Prop :=
  ∃ (f : Addr) (fd : FuncData), Fun K name name st f fd ∧ Binds K fd ps [] ∧ mg name = some (.ref f)
/-! ### the table of the rules -/
def eleven : List Str := ["same", "sum", "gap", "below", "most", "least", "pick", "times", "always", "in", "out"]
def needN (z : Str) : Int := if z = "always" ∨ z = "in" then 0 else if z = "same" ∨ z = "times" ∨ z = "out" then 1 else if z = "pick" then 3 else 2
structure NeedsAt (K : PySem.W.Frag) (w : World) (a : Addr) : Prop where
  dict : ∃ es n, KDict K w a es n
  yes : ∀ z ∈ eleven, ∃ t, PySem.W.nsIn K a z = some (some (.int (needN z) t))
structure Top (w : World) (K : PySem.W.Frag) (mg : Str → Option Value) (C : Addr) : Prop where
  d_first_on_ring : Dd K mg "first_on_ring" s_first_on_ring ["places", "steps"]
  d_comes_back : Dd K mg "comes_back" s_comes_back ["place", "steps"]
  d_is_whole : Dd K mg "is_whole" s_is_whole ["thing"]
  d_is_rule : Dd K mg "is_rule" s_is_rule ["thing"]
  d_needs : Dd K mg "needs" s_needs ["rule"]
  d_look_room : Dd K mg "look_room" s_look_room ["room"]
  d_refuse_room : Dd K mg "refuse_room" s_refuse_room ["word", "at"]
  d_is_tuple_of : Dd K mg "is_tuple_of" s_is_tuple_of ["thing", "many"]
  d_has_form : Dd K mg "has_form" s_has_form ["room"]
  d_is_hand_pair : Dd K mg "is_hand_pair" s_is_hand_pair ["hand"]
  d_is_belt_triple : Dd K mg "is_belt_triple" s_is_belt_triple ["belt"]
  d_wrong_hand : Dd K mg "wrong_hand" s_wrong_hand ["room"]
  d_wrong_belt : Dd K mg "wrong_belt" s_wrong_belt ["room"]
  d_wrong_count : Dd K mg "wrong_count" s_wrong_count ["room"]
  d_hand_on_ring : Dd K mg "hand_on_ring" s_hand_on_ring ["room"]
  d_comings : Dd K mg "comings" s_comings ["room", "hand"]
  d_tree_parts : Dd K mg "tree_parts" s_tree_parts ["tree"]
  d_part_rule : Dd K mg "part_rule" s_part_rule ["part"]
  d_thing_at : Dd K mg "thing_at" s_thing_at ["since", "before", "bell"]
  d_made_room : Dd K mg "made_room" s_made_room ["formulas", "moments"]
  d_Making___init__ : ∃ (f : Addr) (fd : FuncData), Fun K "__init__" "Making.__init__" s_Making___init__ f fd ∧ Binds K fd ["self", "formulas", "moments"] [] ∧ Mk K C f
  d_Making_put_rule : ∃ (f : Addr) (fd : FuncData), Fun K "put_rule" "Making.put_rule" s_Making_put_rule f fd ∧ Binds K fd ["self", "name", "tree"] [] ∧ Meth K C "put_rule" f
  d_Making_source_of : ∃ (f : Addr) (fd : FuncData), Fun K "source_of" "Making.source_of" s_Making_source_of f fd ∧ Binds K fd ["self", "part"] [] ∧ Meth K C "source_of" f
  d_Making_put_hand : ∃ (f : Addr) (fd : FuncData), Fun K "put_hand" "Making.put_hand" s_Making_put_hand f fd ∧ Binds K fd ["self", "rule", "sources"] [] ∧ Meth K C "put_hand" f
  d_Making_settle : ∃ (f : Addr) (fd : FuncData), Fun K "settle" "Making.settle" s_Making_settle f fd ∧ Binds K fd ["self", "number", "rule", "sources"] [] ∧ Meth K C "settle" f
  d_taken_sources : Dd K mg "taken_sources" s_taken_sources ["sources", "part"]
  d_law_flow : Dd K mg "_law_flow" s_law_flow ["_law_script"]
  d_law_pick : Dd K mg "_law_pick" s_law_pick ["_law_flow_here", "_law_many"]
  d_law_thing : Dd K mg "_law_thing" s_law_thing ["_law_flow_here"]
  d_law_shuffled : Dd K mg "_law_shuffled" s_law_shuffled ["_law_flow_here", "_law_some"]
  d_law_word : Dd K mg "_law_word" s_law_word ["_law_flow_here", "_law_most"]
  d_law_taken : Dd K mg "_law_taken" s_law_taken []
  d_law_names : Dd K mg "_law_names" s_law_names ["_law_flow_here", "_law_many"]
  d_law_leaf : Dd K mg "_law_leaf" s_law_leaf ["_law_flow_here", "_law_now", "_law_names_here"]
  d_law_tree : Dd K mg "_law_tree" s_law_tree ["_law_flow_here", "_law_room", "_law_now", "_law_names_here"]
  d_law_formulas : Dd K mg "_law_formulas" s_law_formulas ["_law_flow_here", "_law_most"]
  d_law_parts : Dd K mg "_law_parts" s_law_parts ["_law_tree_here"]
  d_law_moments : Dd K mg "_law_moments" s_law_moments ["_law_flow_here"]
  d_law_count : Dd K mg "_law_count" s_law_count ["_law_tree_here"]
  d_law_right : Dd K mg "_law_right" s_law_right ["_law_formulas_here", "_law_moments_here"]
  m_all : mg "all" = none
  m_bool : mg "bool" = none
  m_dict : mg "dict" = none
  m_enumerate : mg "enumerate" = none
  m_int : mg "int" = none
  m_isinstance : mg "isinstance" = none
  m_len : mg "len" = none
  m_list : mg "list" = none
  m_range : mg "range" = none
  m_repr : mg "repr" = none
  m_set : mg "set" = none
  m_str : mg "str" = none
  m_sum : mg "sum" = none
  m_tuple : mg "tuple" = none
  m_zip : mg "zip" = none
  x_in : ∃ aI : Addr, mg "IN_RULE" = some (.ref aI) ∧ ∀ H : Hp, SqT K H aI [.str "in"]
  x_out : ∃ aO : Addr, mg "OUT_RULE" = some (.ref aO) ∧ ∀ H : Hp, SqT K H aO [.str "out"]
  x_with : ∃ aW : Addr, mg "WITH_NUMBER" = some (.ref aW) ∧ ∀ H : Hp, SqT K H aW [.str "times", .str "always"]
  x_needs : ∃ aN : Addr, mg "NEEDS" = some (.ref aN) ∧ NeedsAt K w aN
  x_wd : ∃ aWd : Addr, mg "WORDS" = some (.ref aWd) ∧ ∀ H : Hp, SqT K H aWd [.str "same", .str "sum", .str "gap", .str "below", .str "most", .str "least", .str "pick", .str "times", .str "always"]
  cl : Cls K C
  mgC : mg "Making" = some (.ref C)
  n_moments : NoAttr K C "moments"
  n_before : NoAttr K C "before"
  n_homes : NoAttr K C "homes"
  n_hands : NoAttr K C "hands"
  n_belts : NoAttr K C "belts"

/-! ### heaps -/
def But (f : Addr) (H H' : Hp) : Prop := ∀ b o, H b = some o → b ≠ f → H' b = some o
theorem But.refl {f : Addr} {H : Hp} : But f H H := fun _ _ e _ => e
theorem But.trans {f : Addr} {H H1 H2 : Hp} (a : But f H H1) (b : But f H1 H2) : But f H H2 := fun x o e n => b x o (a x o e n) n
theorem But.upd {f : Addr} {H H1 : Hp} {o : HO} (a : But f H H1) : But f H (upd H1 f o) := fun x u e n => by rw [upd_ne n]; exact a x u e n
theorem But.new {f p : Addr} {H H1 : Hp} {o : HO} (a : But f H H1) (h : H1 p = none) : But f H (L2.upd H1 p o) := fun x u e n => by
  have e1 := a x u e n
  rw [upd_ne (ne_of_none e1 h)]
  exact e1
theorem same_new {H : Hp} {p : Addr} {o : HO} (h : H p = none) : Same H (upd H p o) := fun b u q => by rw [upd_ne (ne_of_none q h)]; exact q
theorem But.same {f : Addr} {H H1 H2 : Hp} (a : But f H H1) (b : Same H1 H2) : But f H H2 := fun x o e n => b x o (a x o e n)
theorem But.seqT {K : PySem.W.Frag} {f a : Addr} {H H1 : Hp} {xs : List V} (b : But f H H1) (h : SqT K H a xs) (n : a ≠ f) : SqT K H1 a xs := by
  rcases h with h | h
  · left
    rcases h with h | ⟨o, h⟩
    · exact .inl (b _ _ h n)
    · exact .inr ⟨o, b _ _ h n⟩
  · exact .inr h
/-- a comprehension without a test -/
theorem yes_in {σ : L2.St} {H : Hp} {A B : Hp → Prop} (h : A H) : tYes σ H (fun b H3 => if b = true then A H3 else B H3) := by
  show (if true = true then A H else B H)
  rw [if_pos rfl]
  exact h
/-! ### the draw -/
/-- the list of the law's draws at f, the script's copy at c -/
def Flow (H : Hp) (f c : Addr) : Prop := ∃ (ns : List Int) (i p q r : Int), H f = some (.lst [.ref c, .int i, .int p, .int q, .int r]) ∧ H c = some (.lst (ns.map V.int)) ∧ 0 ≤ i ∧ 0 ≤ p ∧ 0 ≤ q ∧ q < 2147483647
theorem Flow.new {H : Hp} {f c p : Addr} {o : HO} (h : Flow H f c) (n : H p = none) : Flow (upd H p o) f c := by
  obtain ⟨ns, i, a, q, r, e1, e2, e⟩ := h
  exact ⟨ns, i, a, q, r, same_new n _ _ e1, same_new n _ _ e2, e⟩
theorem Flow.ne {H : Hp} {f c p : Addr} (h : Flow H f c) (n : H p = none) : p ≠ f := by
  obtain ⟨ns, i, a, q, r, e1, _⟩ := h
  exact fun e => by rw [e, e1] at n; cases n
theorem Flow.nec {H : Hp} {f c p : Addr} (h : Flow H f c) (n : H p = none) : p ≠ c := by
  obtain ⟨ns, i, a, q, r, _, e1, _⟩ := h
  exact fun e => by rw [e, e1] at n; cases n
theorem Flow.lst {H : Hp} {f c p : Addr} {o : HO} (h : Flow H f c) (n1 : p ≠ f) (n2 : p ≠ c) : Flow (upd H p o) f c := by
  obtain ⟨ns, i, a, q, r, e1, e2, e⟩ := h
  exact ⟨ns, i, a, q, r, by rw [upd_ne n1.symm]; exact e1, by rw [upd_ne n2.symm]; exact e2, e⟩
theorem Flow.same {H H' : Hp} {f c : Addr} (h : Flow H f c) (s : Same H H') : Flow H' f c := by
  obtain ⟨ns, i, a, q, r, e1, e2, e⟩ := h
  exact ⟨ns, i, a, q, r, s _ _ e1, s _ _ e2, e⟩
theorem Flow.tup {H : Hp} {f c p : Addr} {xs : List V} (h : Flow H f c) (e : H p = some (.tup xs)) : p ≠ f := by
  obtain ⟨ns, i, a, q, r, e1, _⟩ := h
  exact ne_of e e1 (by intro z; cases z)
theorem at_ints {ns : List Int} {i : Int} (h0 : 0 ≤ i) (h1 : i < (ns.length : Int)) : ∃ v : Int, atI (ns.map V.int) i = some (.int v) := by
  have hk : i.toNat < ns.length := by omega
  have ek : i = ((i.toNat : Nat) : Int) := by omega
  have q : atI (ns.map V.int) ((i.toNat : Nat) : Int) = some (.int ns[i.toNat]) := atI_nat (by rw [List.getElem?_map, List.getElem?_eq_getElem hk]; rfl)
  rw [← ek] at q
  exact ⟨_, q⟩
/-- a block by less than it asks -/
theorem PSs.to {X : Cx} {ss : List Stmt} {t : TS} (h : PSs X ss t) (u : TS) (k : ∀ D σ H, u D σ H → t D σ H) : PSs X ss u := ⟨fun pins s σ H D I q => h.run pins s σ H D I (k D σ H q)⟩
theorem if_bl {b : Bool} {A B : Prop} (h1 : b = true → A) (h2 : b = false → B) : if b = true then A else B := by
  cases b
  · rw [if_neg Bool.false_ne_true]; exact h2 rfl
  · rw [if_pos rfl]; exact h1 rfl
/-! ### defs whose callers are showing nothing: a promise that may lean on it (repr of a list or tuple asks) -/
structure FnG (P : Program) (w : World) (K : PySem.W.Frag) (mg : Str → Option Value) (base : Heap) (CX : CXT) (lv : Nat) (fn : Addr) (dat : FuncData) (names : List Str) (sp : Sp) : Prop where
  many : ∀ xs H Q E, sp xs H Q E → xs.length = names.length
  goes : ∀ (A : Around) (outer : List Env) (st : Shared) (H : Hp) (given : Args) (us : List Value) (xs : List V) (Q : VK) (E : XK), Room lv A → A.guards = some [] →
    Env0 P w K mg base A outer st H → BindsTo st dat given (names.zip us) → Vals xs us → sp xs H Q E → codeAny (model P w) A (.call (.ref fn) given) (CR CX outer P w H st Q E) st
theorem FnG.of {P : Program} {w : World} {K : PySem.W.Frag} {mg : Str → Option Value} {base : Heap} {CX : CXT} {lv : Nat} {fn : Addr} {dat : FuncData} {names : List Str} {sp : Sp} (h : FnOk P w K mg base CX lv fn dat names sp) : FnG P w K mg base CX lv fn dat names sp :=
  ⟨h.len, fun A o st H g us xs Q E r _ e b v q => h.run A o st H g us xs Q E r e b v q⟩
section
variable {P : Program} {w : World} {K : PySem.W.Frag} {mg : Str → Option Value} {base : Heap} {CX : CXT} {lv : Nat}
theorem fnG_of {fn : Addr} {nm ql : Str} {pr : Arguments} {bd : List Stmt} {sc : Scope} {d1 d2 d3 d4 d5 d6 d7 : Value} {o1 o2 : Option Addr} {o3 : Array (Option Value)} {N names : List Str} {sp : Sp}
    (at_ : K.lookup fn = some ⟨d7, o2, .func (PySem.W.fnOf nm ql pr bd sc d1 d2 d3 d4 o1 d5 d6), o3⟩) (code : PySem.W.codeIn K d5 ql = true) (S : FnScope N names sc) (many : ∀ xs H Q E, sp xs H Q E → xs.length = names.length)
    (body : ∀ (A : Around) (outer : List Env) (st : Shared) (H : Hp) (xs : List V) (Q : VK) (E : XK), Room lv (A.deeper (envOfC ql sc st.heap.objs.size fn d5)) → (A.deeper (envOfC ql sc st.heap.objs.size fn d5)).guards = some [] → sp xs H Q E →
      ∃ t, PSs (cxOf CX P w K mg base N ql sc fn d5 A outer st H E) bd t ∧ t { nx := fun _ H' => Q .non H', rt := Q } (start N xs) H) :
    FnG P w K mg base CX (lv + 1) fn (PySem.W.fnOf nm ql pr bd sc d1 d2 d3 d4 o1 d5 d6) names sp := by
  refine ⟨many, fun A outer st H given us xs Q E rm gd e0 bnd rel asked => ?_⟩
  have inK : K.In st.heap := e0.mod.kin.keeps fun z u e => (e0.bs z u e).1
  have noL : st.heap.NoLimit := e0.mod.nolimit.keeps fun z u e => (e0.bs z u e).1
  have kinds : ∀ z ∈ names.zip us, sc.names.lookup z.1 = some .local ∨ (sc.names.lookup z.1 = some .cell ∧ ((cellsFrom (st.heap.objs.size + 1) sc.names []).lookup z.1).isSome = true) := by
    intro z hz
    rcases S.par z.1 (List.of_mem_zip (a := z.1) (b := z.2) hz).1 with k | k
    · left; exact k
    · right; exact ⟨k, PySem.W.cellsFrom_some _ _ _ (.inl k)⟩
  refine codeAny_call_function rm.depth (inK _ _ at_) rfl S.co S.gen rfl (PySem.W.codeRec_of inK code) (bnd _ _ _ _ ?_)
  refine wpAny_newFunctionEnv_cells S.kind kinds fun env eenv st1 inn => ?_
  subst eenv
  refine ⟨noL.keeps inn.toInCall.keep, codeAny_func ?_⟩
  obtain ⟨t, der, now⟩ := body A outer st H xs Q E (rm.deeper _) gd asked
  have J0 := inv_start (CX := CX) (E := E) S rm.hd e0 (many _ _ _ _ asked) rel inn
  refine wpAny_mono (der.run [] st1 (start N xs) H _ J0 now) (fun flow st' got => ?_) fun _ _ z => z
  cases flow with
  | ret u =>
    obtain ⟨v, σ', H', J, rv, fine⟩ := got
    exact ⟨v, H', J.os, J.bare, J.base, J.hok, rv, fine⟩
  | next =>
    obtain ⟨σ', H', J, fine⟩ := got
    exact ⟨V.non, H', J.os, J.bare, J.base, J.hok, rfl, fine⟩
  | brk =>
    obtain ⟨_, _, _, no⟩ := got
    exact no.elim
  | cont =>
    obtain ⟨_, _, _, no⟩ := got
    exact no.elim
theorem Fun.okG {nm ql : Str} {st : Stmt} {fn : Addr} {dat : FuncData} {N names : List Str} {sp : Sp} (F : L2.Fun K nm ql st fn dat) (S : FnScope N names (defScope st)) (many : ∀ xs H Q E, sp xs H Q E → xs.length = names.length)
    (body : ∀ (cdv : Value) (A : Around) (outer : List Env) (s : Shared) (H : Hp) (xs : List V) (Q : VK) (E : XK), Room lv (A.deeper (envOfC ql (defScope st) s.heap.objs.size fn cdv)) → (A.deeper (envOfC ql (defScope st) s.heap.objs.size fn cdv)).guards = some [] → sp xs H Q E →
      ∃ t, PSs (cxOf CX0 P w K mg base N ql (defScope st) fn cdv A outer s H E).nox (defBody st) t ∧ t { nx := fun _ H' => Q .non H', rt := Q } (start N xs) H) : FnG P w K mg base CX0 (lv + 1) fn dat names sp := by
  obtain ⟨c1, c2, c3, c4, c5, c6, cdv, c8, c9, rfl, at_, code⟩ := F.ex
  refine fnG_of at_ code S many fun A outer s H xs Q E rm gd asked => ?_
  obtain ⟨t, der, now⟩ := body cdv A outer s H xs Q E rm gd asked
  exact ⟨t, der.nox, now⟩
end
section
variable {X : Cx} {CX : CXT} {lv : Nat} {fn : Addr} {dat : FuncData} {names : List Str} {sp : Sp} {more : List V} {ds : List Value} {E : XK}
theorem goesG {pins : List (Addr × Obj)} {σ : L2.St} {H : Hp} {st : Shared} {Q : VK} {us : List Value} {xs : List V} (F : FnG X.prog X.w X.K X.mg X.base CX lv fn dat names sp) (rm : Room lv X.A) (gd : X.A.guards = some []) (bnd : Binds X.K dat names ds) (dv : Vals more ds) (out : Passes CX X E)
    (J : Inv X pins σ H st) (rel : Vals xs us) (asked : sp (xs ++ more) H Q E) : wpAny (model X.prog X.w) X.A (call (.ref fn) us) (EP X pins σ Q) X.xe st := by
  have rel2 := rel.append dv
  have len2 : (us ++ ds).length = names.length := by
    rw [← rel2.length]
    exact F.many _ _ _ _ asked
  refine wpAny_call (codeAny_mono (F.goes X.A X.stack st H ⟨us, []⟩ (us ++ ds) (xs ++ more) Q E rm gd J.env0 (bnd st us J.kIn len2) rel2 asked) fun res st' got => ?_)
  cases res with
  | error e => exact out pins σ H st e st' J got
  | ok flow =>
    cases flow with
    | ret u => exact J.after got
    | next => exact got.elim
    | brk => exact got.elim
    | cont => exact got.elim
theorem pe_callG {x : Str} {p pos : Pos} {e : Expr} {es : List Expr} {t : TA} (F : FnG X.prog X.w X.K X.mg X.base CX lv fn dat names sp) (rm : Room lv X.A) (gd : X.A.guards = some []) (glob : Gl X x) (here : X.mg x = some (.ref fn)) (kept : PySem.W.keepIn X.K (.ref fn) = true)
    (bnd : Binds X.K dat names ds) (dv : Vals more ds) (out : Passes CX X E) (args : PA X (e :: es) t) (n1 : (x == ("__debug__" : Str)) = false := by decide)
    (n2 : starEach (e :: es) X.env = (false, eval e X.env) :: starEach es X.env := by rfl) (n3 : (backTo pos (starEach es X.env)).any (·.1) = false := by rfl) : PE X (.Call (.Name x p) (e :: es) [] pos) (tCall sp more E t) := by
  refine ⟨fun pins st σ H Q J asked => ?_⟩
  refine wpAny_Call_Name_kw (ld_glob J glob here ?_ n1)
  exact PySem.W.callWith_K (h₀ := X.base) J.ok.mod.kin kept (thn (args.run pos pins st σ H _ J asked) fun us st1 ⟨xs, H1, J1, rel, now⟩ => ⟨J1.kIn, goesG F rm gd bnd dv out J1 rel now⟩) n2 n3
theorem pe_call0G {x : Str} {p pos : Pos} (F : FnG X.prog X.w X.K X.mg X.base CX lv fn dat names sp) (rm : Room lv X.A) (gd : X.A.guards = some []) (glob : Gl X x) (here : X.mg x = some (.ref fn)) (kept : PySem.W.keepIn X.K (.ref fn) = true)
    (bnd : Binds X.K dat names ds) (dv : Vals more ds) (out : Passes CX X E) (n1 : (x == ("__debug__" : Str)) = false := by decide) : PE X (.Call (.Name x p) [] [] pos) (tCall sp more E tNil) := by
  refine ⟨fun pins st σ H Q J asked => ?_⟩
  refine wpAny_Call_Name_kw (ld_glob J glob here ?_ n1)
  exact PySem.W.callWith_K0 J.kIn kept (goesG (us := []) F rm gd bnd dv out J .nil asked)
/-- repr of data -/
def rReprD (K : PySem.W.Frag) : List V → Hp → VK → Prop := fun xs H Q => ∃ (a : Addr) (d : PyData), xs = [.ref a] ∧ Dp K H (.ref a) d ∧ d.showable = true ∧ d.hasDict = false ∧ d.depth ≤ 60 ∧ d.shown.length ≤ sizeLine ∧ Q (.str d.shown) H
theorem call_reprD (gd : X.A.guards = some []) (un : X.A.units + 64 < cLine) : CallR X (.builtin "repr") (rReprD X.K) := by
  intro pins st σ H xs us Q J rel asked
  obtain ⟨a, d, rfl, hd, h1, h2, h3, h4, now⟩ := asked
  obtain ⟨u, rfl, ru⟩ := vals1 rel
  obtain rfl : u = Value.ref a := ru
  obtain ⟨as, rd⟩ := Dp.reads J d _ _ hd rfl
  exact repr_of_reads' rd h1 (PyData.noDict_hsm h2) gd (by omega) (fun _ _ e => e) (fun h' u tk kp => ⟨.str d.shown, H, J.kept (t' := tk) kp, ⟨_, rfl⟩, now⟩) h4
end
/-! ### the law's own call, its code objects' tables told, by a promise that leans on nothing being shown -/
theorem endGT {P : Program} {w : World} {K : PySem.W.Frag} {mg mb : Str → Option Value} {CX : CXT} {lv : Nat} {fn a : Addr} {dat : FuncData} {x : Str} {sp : Sp} {st : Shared} {us : List Value} {ns : List Int} {cs : List (Addr × Addr)}
    (inK : K.In st.heap) (gl : st.heap.Ns mainGlobals mg) (bl : st.heap.Ns builtinsNs mb) (boot : ∀ z : Str, z ≠ "__name__" → mb z = bootBuiltins z) (noL : st.heap.NoLimit) (gens : st.gens = #[])
    (bm : ∃ (m : Addr) (o : Obj), mg "__builtins__" = some (.ref m) ∧ m ≠ builtinsNs ∧ st.heap.get? m = some o ∧ o.cls = .type "module" ∧ o.dict = some builtinsNs ∧ o.data = .plain)
    (tabs : ∀ p ∈ cs, st.heap.get? p.2 = some { cls := .none, data := .fields #[] }) (free : ∀ p ∈ cs, K.lookup p.2 = none) (codes : ∀ p ∈ cs, PySem.W.CodeHd st.heap p.1 p.2)
    (obj : st.heap.get? a = some { cls := .type "list", data := .seq us.toArray }) (iv : IntsAre us ns) (short : ns.length ≤ sizeLine) (rm : Room lv callerA)
    (F : ∀ bs : Heap, K.In bs → bs.Ns mainGlobals mg → (∀ p ∈ cs, LamX.TabB bs mg p.1 p.2) → FnG P w K mg bs CX lv fn dat [x] sp) (bnd : ∀ (z : Shared) (u : Value), BindsTo z dat ⟨[u], []⟩ [(x, u)])
    (asked : ∀ H : Hp, (∀ p ∈ cs, H p.2 = some (.tbl #[])) → SqL K H a (ns.map V.int) → sp [.ref a] H (fun v _ => v = .bl true) fun _ _ _ => False)
    (never : ∀ H e st', CX [] H st (fun _ _ _ => False) e st' → False) :
    codeAny (model P w) callerA (.call (.ref fn) ⟨[.ref a], []⟩) (fun res st' => res = .ok (.ret (.bool true)) ∧ OldK st.heap st'.heap ∧ st'.os = st.os ∧ AllBare st'.gens) st := by
  classical
  have rel := vals_ints iv
  have many := iv.length
  let tb : Addr → Prop := fun b => ∃ p ∈ cs, p.2 = b
  have tObj : ∀ {b : Addr}, tb b → st.heap.get? b = some { cls := .none, data := .fields #[] } := fun {b} ⟨p, hp, e⟩ => e ▸ tabs p hp
  have aT : ¬ tb a := fun h => by
    have z : Data.fields #[] = Data.seq us.toArray _ := congrArg Obj.data (Option.some.inj ((tObj h).symm.trans obj))
    cases z
  have main : ∀ H : Hp, (∀ b, tb b → H b = some (.tbl #[])) → (∀ b, H b = none ∨ tb b ∨ (b = a ∧ K.lookup a = none ∧ ∃ o xs, H b = some (.frz o (.lst xs)))) → SqL K H a (ns.map V.int) → HOk P w H st.heap →
      codeAny (model P w) callerA (.call (.ref fn) ⟨[.ref a], []⟩) (fun res st' => res = .ok (.ret (.bool true)) ∧ OldK st.heap st'.heap ∧ st'.os = st.os ∧ AllBare st'.gens) st := by
    intro H ht trk sq ok
    have kClear : ∀ {b : Addr} {o : Obj}, K.lookup b = some o → H b = none := fun {b o} e => by
      rcases trk b with h | ⟨p, hp, rfl⟩ | ⟨rfl, h, _⟩
      · exact h
      · rw [free p hp] at e; cases e
      · rw [h] at e; cases e
    have dClear : ∀ {b : Addr} {o : Obj}, st.heap.get? b = some o → o.data ≠ .fields #[] → (∀ vs n, o.data ≠ .seq vs n) → H b = none := fun {b o} e n1 n2 => by
      rcases trk b with h | h | ⟨rfl, _⟩
      · exact h
      · rw [tObj h] at e; cases e; exact (n1 rfl).elim
      · rw [obj] at e; cases e; exact (n2 _ _ rfl).elim
    have names : ∀ {b : Addr} {m : Str → Option Value}, st.heap.Ns b m → (hidT st.heap H).Ns b m := by
      rintro b m ⟨u, es, ep, e, d, r⟩
      exact ⟨u, es, ep, hidT_get e (dClear e (by rw [d]; exact fun z => nomatch z) (by rw [d]; exact fun _ _ z => nomatch z)), d, r⟩
    have inB : K.In (hidT st.heap H) := fun b u e => hidT_get (inK b u e) (kClear e)
    have TB : ∀ p ∈ cs, LamX.TabB (hidT st.heap H) mg p.1 p.2 := fun p hp => by
      obtain ⟨o, vs, file, tf, flags, tg, inF, text, tt, e1, r1, r2, r3, rest⟩ := codes p hp
      obtain ⟨m, ob, b1, b2, b3, b4, b5, b6⟩ := bm
      obtain ⟨og, es, ep, eg, dg, _⟩ := gl
      have nG : m ≠ mainGlobals := fun z => by
        rw [z, eg] at b3; cases b3; rw [dg] at b6; cases b6
      have nP : m ≠ p.2 := fun z => by
        rw [z, tabs p hp] at b3; cases b3; cases b6
      refine ⟨⟨o, vs, file, tf, flags, tg, inF, text, tt, hidT_get e1 (dClear e1 (fun z => ?_) (by rw [r2]; exact fun _ _ z => nomatch z)), r1, r2, r3, rest⟩, ⟨m, ob, b1, b2, nG, nP, hidT_get b3 (dClear b3 (by rw [b6]; exact fun z => nomatch z) (by rw [b6]; exact fun _ _ z => nomatch z)), b4, b5, b6⟩, fun z => ?_⟩
      · rw [r2] at z; cases z; simp at r3
      · rw [z, tabs p hp] at eg; cases eg; cases dg
    obtain ⟨mc, l1, l2⟩ := noL
    have env : Env0 P w K mg (hidT st.heap H) callerA [] st H :=
      ⟨rfl, ⟨inB, names gl, ⟨mb, names bl, boot⟩, ⟨mc, names l1, l2⟩⟩, fun b u e => of_hidT e, Nat.le_of_eq (hidT_size _ _), trivial, (fun b z => nomatch z), ok, .of_eq gens⟩
    refine codeAny_mono ((F _ inB (names gl) TB).goes callerA [] st H ⟨[.ref a], []⟩ [.ref a] [.ref a] _ _ rm rfl env (bnd st (.ref a)) (.cons rfl .nil) (asked H (fun p hp => ht _ ⟨p, hp, rfl⟩) sq)) fun res st' got => ?_
    cases res with
    | error e => exact (never H e st' got).elim
    | ok flow =>
      cases flow with
      | next => exact got.elim
      | brk => exact got.elim
      | cont => exact got.elim
      | ret u =>
        obtain ⟨v, H', os, bare, un, ok', rv, now⟩ := got
        obtain rfl : v = V.bl true := now
        obtain rfl : u = Value.bool true := rv
        have stay : ∀ b o, ¬ tb b → st.heap.get? b = some o → st'.heap.get? b = some o := fun b o nb e => by
          rcases trk b with h | h | ⟨_, _, ob, xs, h⟩
          · exact un.keep b o e h (fun z => by cases z) (by simp)
          · exact absurd h nb
          · obtain ⟨f1, _⟩ := ok b _ h
            obtain ⟨f2, _⟩ := ok' b _ (un.frzs b ob _ h)
            rw [e] at f1
            cases f1
            exact f2
        have grown : ∀ p ∈ cs, ∃ more : Array Value, st'.heap.get? p.2 = some { cls := .none, data := .fields more } := fun p hp => by
          obtain ⟨more, z⟩ := un.tbls p.2 #[] (ht _ ⟨p, hp, rfl⟩)
          exact ⟨_, ok' p.2 _ z⟩
        refine ⟨rfl, ⟨fun b o e => ?_, fun b o e => ?_⟩, os, bare⟩
        · by_cases h : tb b
          · obtain ⟨p, hp, rfl⟩ := h
            obtain ⟨more, g⟩ := grown p hp
            rw [tabs p hp] at e
            cases e
            exact .inr (.inl ⟨((codes p hp).tab (tabs p hp)).isCodeTable, rfl, #[], more, rfl, by rw [Array.empty_append]; exact g⟩)
          · exact .inl (stay b o h e)
        · by_cases h : tb b
          · obtain ⟨p, hp, rfl⟩ := h
            obtain ⟨more, g⟩ := grown p hp
            exact ⟨_, g⟩
          · exact ⟨o, stay b o h e⟩
  cases hk : K.lookup a with
  | some u =>
    have e := inK a u hk
    rw [obj] at e
    cases e
    refine main (fun b => if tb b then some (.tbl #[]) else none) (fun b h => if_pos h) (fun b => ?_) (.inr ⟨_, us.toArray, _, hk, rfl, rfl, rfl, by rw [List.size_toArray, many]; exact short, by simpa using rel⟩) fun b z k => ?_
    · by_cases h : tb b
      · exact .inr (.inl h)
      · exact .inl (if_neg h)
    · by_cases h : tb b
      · have k2 := (if_pos h).symm.trans k
        cases k2
        exact tObj h
      · have k2 := (if_neg h).symm.trans k
        cases k2
  | none =>
    refine main (fun b => if b = a then some (.frz { cls := .type "list", data := .seq us.toArray } (.lst (ns.map V.int))) else if tb b then some (.tbl #[]) else none) (fun b h => (if_neg (fun (z : b = a) => aT (by rw [← z]; exact h))).trans (if_pos h)) (fun b => ?_) (.inl (.inr ⟨_, if_pos rfl⟩)) fun b z k => ?_
    · by_cases j : b = a
      · exact .inr (.inr ⟨j, hk, _, _, if_pos j⟩)
      · by_cases h : tb b
        · exact .inr (.inl h)
        · exact .inl ((if_neg j).trans (if_neg h))
    · by_cases j : b = a
      · have k2 := (if_pos j).symm.trans k
        cases k2
        subst j
        exact ⟨obj, by rw [List.length_map]; exact short, us, _, rel, obj⟩
      · have k1 := (if_neg j).symm.trans k
        by_cases h : tb b
        · have k2 := (if_pos h).symm.trans k1
          cases k2
          exact tObj h
        · have k2 := (if_neg h).symm.trans k1
          cases k2
/-- what is known of such a law's promise at the head's heap -/
def LawAtG (l : PySem.W.OpenLaw) (w : World) (K : PySem.W.Frag) (CX : CXT) (lv n : Nat) (x : Str) (mg : Str → Option Value) (fn : Addr) (h : Heap) : Prop :=
  ∃ (dat : FuncData) (cs : List (Addr × Addr)) (sp : Sp), (∀ p ∈ cs, h.get? p.2 = some { cls := .none, data := .fields #[] }) ∧ (∀ p ∈ cs, K.lookup p.2 = none) ∧ (∀ p ∈ cs, PySem.W.CodeHd h p.1 p.2) ∧ (∀ (z : Shared) (u : Value), BindsTo z dat ⟨[u], []⟩ [(x, u)]) ∧
    (∀ (H : Hp) (a : Addr) (ns : List Int), ns.length ≤ n → (∀ z ∈ ns, Builtin.Int.intBits z ≤ 1048576) → (∀ p ∈ cs, H p.2 = some (.tbl #[])) → SqL K H a (ns.map V.int) → sp [.ref a] H (fun v _ => v = .bl true) fun _ _ _ => False) ∧
    ∀ bs : Heap, K.In bs → bs.Ns mainGlobals mg → (∀ p ∈ cs, LamX.TabB bs mg p.1 p.2) → FnG l.prog w K mg bs CX lv fn dat [x] sp
theorem walkGT {l : PySem.W.OpenLaw} {n k : Nat} {q : Program} {loose : List Str} {XP : (Str → Option Value) → Heap → Prop} {YP : World → Heap → Prop} {d : DefRec} {CX : World → CXT} {x : Str}
    (h1 : l.most = some n) (h2 : n ≤ sizeLine) (h3 : d.params.defaults = []) (rm : Room k callerA)
    (F : ∀ (w : World) (mg : Str → Option Value) (fn : Addr) (h : Heap), YP w h → h.Ns mainGlobals mg → mg d.name = some (.ref fn) → ∃ K : PySem.W.Frag, K.In h ∧ LawAtG l w K (CX w) k n x mg fn h)
    (h6 : ∀ (w : World) (H : Hp) (s : Shared) (e : Value) (s' : Shared), CX w [] H s (fun _ _ _ => False) e s' → False) :
    PySem.W.WalkO q loose XP YP l.row.toRowW d [] (fun f vs => PySem.call f vs) := by
  refine Att.attach_callB h1 h3 fun w s₀ s₁ mg mb fn o pm cd doc a us ns G Y ho hd hcd hmg hobj hints hlen hbits hg => ?_
  obtain ⟨K, inK, dat, cs, sp, t1, t2, t3, bnd, ask, got⟩ := F w mg fn _ Y G.T.g hmg
  exact endGT inK G.T.g G.T.b G.T.builtins G.T.nolimit hg G.T.bmain t1 t2 t3 hobj hints (Nat.le_trans hlen h2) rm got bnd (fun H t o => ask H a ns hlen hbits t o) fun H e s' => h6 w H s₁ e s'
/-! ### lists, two by two -/
inductive All2 {α β : Type} (R : α → β → Prop) : List α → List β → Prop
  | nil : All2 R [] []
  | cons {a b as bs} : R a b → All2 R as bs → All2 R (a :: as) (b :: bs)
theorem All2.imp {α β : Type} {R S : α → β → Prop} (h : ∀ a b, R a b → S a b) : ∀ {as bs}, All2 R as bs → All2 S as bs
  | _, _, .nil => .nil
  | _, _, .cons a b => .cons (h _ _ a) (All2.imp h b)
theorem All2.length {α β : Type} {R : α → β → Prop} : ∀ {as bs}, All2 R as bs → as.length = bs.length
  | _, _, .nil => rfl
  | _, _, .cons _ b => congrArg (· + 1) (All2.length b)
theorem All2.snoc {α β : Type} {R : α → β → Prop} {a b} (r : R a b) : ∀ {as bs}, All2 R as bs → All2 R (as ++ [a]) (bs ++ [b])
  | _, _, .nil => .cons r .nil
  | _, _, .cons h t => .cons h (All2.snoc r t)
theorem All2.get {α β : Type} {R : α → β → Prop} {as : List α} {bs : List β} (h : All2 R as bs) : ∀ {i : Nat} {b : β}, bs[i]? = some b → ∃ a, as[i]? = some a ∧ R a b := by
  induction h with
  | nil => intro i b e; cases e
  | cons r t ih =>
    intro i b e
    cases i with
    | zero => cases e; exact ⟨_, rfl, r⟩
    | succ i => exact ih e
theorem All2.getL {α β : Type} {R : α → β → Prop} {as : List α} {bs : List β} (h : All2 R as bs) : ∀ {i : Nat} {a : α}, as[i]? = some a → ∃ b, bs[i]? = some b ∧ R a b := by
  induction h with
  | nil => intro i b e; cases e
  | cons r t ih =>
    intro i b e
    cases i with
    | zero => cases e; exact ⟨_, rfl, r⟩
    | succ i => exact ih e
/-! ### tuples stay -/
def TK (H H' : Hp) : Prop := ∀ b xs, H b = some (.tup xs) → H' b = some (.tup xs)
theorem TK.refl {H : Hp} : TK H H := fun _ _ e => e
theorem TK.trans {H H1 H2 : Hp} (a : TK H H1) (b : TK H1 H2) : TK H H2 := fun x xs e => b x xs (a x xs e)
theorem TK.same {H H' : Hp} (s : Same H H') : TK H H' := fun x xs e => s _ _ e
theorem TK.new {H : Hp} {p : Addr} {o : HO} (n : H p = none) : TK H (upd H p o) := fun x xs e => same_new n _ _ e
theorem TK.lst {H : Hp} {p : Addr} {xs ys : List V} (h : H p = some (.lst xs)) : TK H (upd H p (.lst ys)) := fun x zs e => by
  rw [upd_ne (ne_of e h (by intro z; cases z))]
  exact e
theorem TK.but {H H' : Hp} {f c : Addr} (F : Flow H f c) (b : But f H H') : TK H H' := fun x xs e => b _ _ e (F.tup e)
theorem same_none {H H' : Hp} {p : Addr} (s : Same H H') (n : H' p = none) : H p = none := by
  cases e : H p with
  | none => rfl
  | some o => rw [s _ _ e] at n; cases n
theorem But.none {f p : Addr} {H H' : Hp} (b : But f H H') (n : H' p = Option.none) (h : p ≠ f) : H p = Option.none := by
  cases e : H p with
  | none => rfl
  | some o => rw [b _ _ e h] at n; cases n
theorem But.of {f : Addr} {H H' : Hp} (s : Same H H') : But f H H' := fun _ _ e _ => s _ _ e
/-- a list that was not there is written: what was stays -/
theorem But.own {f p : Addr} {H H1 : Hp} {o : HO} (a : But f H H1) (h : H p = Option.none) : But f H (L2.upd H1 p o) := fun x u e n => by
  rw [upd_ne (ne_of_none e h)]
  exact a x u e n
theorem Same.own {p : Addr} {H H1 : Hp} {o : HO} (a : Same H H1) (h : H p = Option.none) : Same H (L2.upd H1 p o) := fun x u e => by
  rw [upd_ne (ne_of_none e h)]
  exact a x u e
/-! ### loops over any iterator -/
theorem for_it {J : It} {n : Nat} {g : TG} {tb : TS} {D : Ends} {σ : L2.St} {H : Hp} (Pv : Nat → L2.St → Hp → Prop) (h0 : Pv 0 σ H) (go : ∀ i σ H, i < n → Pv i σ H → J.go i H) (st : ∀ σ H, Pv n σ H → J.stop n H)
    (hs : ∀ i x σ H H', i < n → Pv i σ H → J.yld i H x H' → g x σ H' fun σ2 H2 => tb { D with nx := Pv (i + 1), ct := Pv (i + 1), bk := D.nx } σ2 H2) (hd : ∀ σ H, Pv n σ H → D.nx σ H) :
    ∃ W : Nat → Nat → L2.St → Hp → Prop, (∃ m, W 0 m σ H) ∧ ∀ i m σ H, W i m σ H →
      (J.stop i H ∧ D.nx σ H) ∨ (J.go i H ∧ ∃ N : L2.St → Hp → Prop, (∀ σ' H', N σ' H' → ∃ m', m' < m ∧ W (i + 1) m' σ' H') ∧ ∀ x H', J.yld i H x H' → g x σ H' fun σ2 H2 => tb { D with nx := N, ct := N, bk := D.nx } σ2 H2) := by
  refine ⟨fun i m σ H => i + m = n ∧ Pv i σ H, ⟨n, by omega, h0⟩, fun i m σ H ⟨e, p⟩ => ?_⟩
  by_cases k : i < n
  · exact .inr ⟨go i σ H k p, Pv (i + 1), fun σ' H' p' => ⟨m - 1, by omega, by omega, p'⟩, fun x H' y => hs i x σ H H' k p y⟩
  · have z : i = n := by omega
    subst z
    exact .inl ⟨st σ H p, hd σ H p⟩
theorem lc_it {J : It} {n : Nat} {g : TG} {tt : TT} {te : TE} {vs : List Nat} {σ : L2.St} {H1 : Hp} {D : Addr} {Qd : Hp → Prop} (Pv : Nat → Hp → Prop) (h0 : Pv 0 (upd H1 D (.lst []))) (go : ∀ i H, i < n → Pv i H → J.go i H) (st : ∀ H, Pv n H → J.stop n H)
    (hs : ∀ i x H H', i < n → Pv i H → J.yld i H x H' → g x (wipe σ vs) H' fun σ2 H2 => wipe σ2 vs = wipe σ vs ∧ tt σ2 H2 fun b H3 =>
      if b = true then te σ2 H3 fun y H4 => ∃ acc, H4 D = some (.lst acc) ∧ acc.length < sizeLine ∧ Pv (i + 1) (upd H4 D (.lst (acc ++ [y]))) else Pv (i + 1) H3) (hd : ∀ H, Pv n H → Qd H) :
    ∃ W : Nat → Nat → Hp → Prop, (∃ m, W 0 m (upd H1 D (.lst []))) ∧ ∀ i m H, W i m H →
      (J.stop i H ∧ Qd H) ∨ (J.go i H ∧ ∃ Nx : Hp → Prop, (∀ H', Nx H' → ∃ m', m' < m ∧ W (i + 1) m' H') ∧ ∀ x H', J.yld i H x H' → g x (wipe σ vs) H' fun σ2 H2 => wipe σ2 vs = wipe σ vs ∧ tt σ2 H2 fun b H3 =>
        if b = true then te σ2 H3 fun y H4 => ∃ acc, H4 D = some (.lst acc) ∧ acc.length < sizeLine ∧ Nx (upd H4 D (.lst (acc ++ [y]))) else Nx H3) := by
  refine ⟨fun i m H => i + m = n ∧ Pv i H, ⟨n, by omega, h0⟩, fun i m H ⟨e, p⟩ => ?_⟩
  by_cases k : i < n
  · exact .inr ⟨go i H k p, Pv (i + 1), fun H' p' => ⟨m - 1, by omega, by omega, p'⟩, fun x H' y => hs i x H H' k p y⟩
  · have z : i = n := by omega
    subst z
    exact .inl ⟨st H p, hd H p⟩
/-! ### tests -/
theorem if_str {x z : Str} {A B : Prop} (h1 : x = z → A) (h2 : x ≠ z → B) : if decide (V.str x = V.str z) = true then A else B :=
  if_bl (fun e => h1 (V.str.inj (of_decide_eq_true e))) (fun e => h2 (fun q => of_decide_eq_false e (congrArg V.str q)))
theorem inV_strs {x : Str} {zs : List Str} : inV (.str x) (zs.map V.str) = true ↔ x ∈ zs := by
  unfold inV
  induction zs with
  | nil => simp
  | cons z zs ih =>
    rw [List.map_cons, List.any_cons, Bool.or_eq_true, ih, List.mem_cons]
    constructor
    · rintro (h | h)
      · exact .inl (by simpa [eqV] using (show (z == x) = true from h) |> fun k => (eq_of_beq k).symm)
      · exact .inr h
    · rintro (h | h)
      · exact .inl (show (z == x) = true by rw [h]; exact beq_self_eq_true z)
      · exact .inr h
theorem if_in {x : Str} {zs : List Str} {A B : Prop} (h1 : x ∈ zs → A) (h2 : x ∉ zs → B) : if (if false = true then !inV (.str x) (zs.map V.str) else inV (.str x) (zs.map V.str)) = true then A else B := by
  have e : (if false = true then !inV (.str x) (zs.map V.str) else inV (.str x) (zs.map V.str)) = inV (.str x) (zs.map V.str) := if_neg Bool.false_ne_true
  rw [e]
  exact if_bl (fun c => h1 (inV_strs.mp c)) (fun c => h2 (fun k => by rw [inV_strs.mpr k] at c; cases c))
theorem same_seqT {K : PySem.W.Frag} {a : Addr} {H H1 : Hp} {xs : List V} (b : Same H H1) (h : SqT K H a xs) : SqT K H1 a xs := by
  rcases h with h | h
  · left
    rcases h with h | ⟨o, h⟩
    · exact .inl (b _ _ h)
    · exact .inr ⟨o, b _ _ h⟩
  · exact .inr h
theorem little {n : Nat} (h : n ≤ 1000) : n ≤ sizeLine := Nat.le_of_lt (small1000 h)
/-! ### xs[i] op= e -/
def rGetL (K : PySem.W.Frag) : V → V → Hp → VK → Prop := fun o i H Q => ∃ (p : Addr) (xs : List V) (j : Nat) (v : V), o = .ref p ∧ i = .int (j : Nat) ∧ SqL K H p xs ∧ xs[j]? = some v ∧ Q v H
theorem get_list {X : Cx} : PGet X (rGetL X.K) := by
  intro pins st σ H o i ov iv Q J ro ri asked
  obtain ⟨p, xs, j, v, rfl, rfl, hq, hj, now⟩ := asked
  cases ro
  obtain ⟨t, rfl⟩ := ri
  obtain ⟨its, r, pl, hz⟩ := J.list hq
  obtain ⟨u, eu, ru⟩ := r.get hj
  have n1 := (List.getElem?_eq_some_iff.mp hj).1
  have n2 := line63
  exact wpAny_getItem_list pl.isList (by omega) (by omega) (by simpa using eu) ⟨v, H, J, ru, now⟩
/-! ### the same rules, the written part named (so that they fit within comprehensions) -/
section
variable {X : Cx}
theorem ix_listK (K : PySem.W.Frag) (h : X.K = K) : IxR X (rIxL K) := by subst h; exact ix_list
theorem ix_tupK (K : PySem.W.Frag) (h : X.K = K) : IxR X (rIxT K) := by subst h; exact ix_tup
def rLenK (K : PySem.W.Frag) : List V → Hp → VK → Prop := fun xs H Q => ∃ (p : Addr) (ys : List V), xs = [.ref p] ∧ (SqL K H p ys ∨ SqT K H p ys) ∧ Q (.int (ys.length : Nat)) H
theorem call_len_seqK (K : PySem.W.Frag) (h : X.K = K) : CallR X (.builtin "len") (rLenK K) := by subst h; exact call_len_seq
def rListOfK (K : PySem.W.Frag) : List V → Hp → VK → Prop := fun xs H Q => ∃ (p : Addr) (ys : List V), xs = [.ref p] ∧ (SqL K H p ys ∨ SqT K H p ys) ∧ ∀ l, H l = none → Q (.ref l) (upd H l (.lst ys))
theorem call_list_ofK (K : PySem.W.Frag) (h : X.K = K) : CallR X (.type "list") (rListOfK K) := by subst h; exact call_list_of
def rTupOfK (K : PySem.W.Frag) : List V → Hp → VK → Prop := fun xs H Q => ∃ (p : Addr) (ys : List V), xs = [.ref p] ∧ ((SqL K H p ys ∧ ∀ l, H l = none → Q (.ref l) (upd H l (.tup ys))) ∨ (SqT K H p ys ∧ Q (.ref p) H))
theorem call_tuple_ofK (K : PySem.W.Frag) (h : X.K = K) : CallR X (.type "tuple") (rTupOfK K) := by subst h; exact call_tuple_of
theorem op_in_seqK (K : PySem.W.Frag) (h : X.K = K) : OpR X (compareOp .In) (rIn K false) := by subst h; exact op_in_seq
theorem op_notIn_seqK (K : PySem.W.Frag) (h : X.K = K) : OpR X (compareOp .NotIn) (rIn K true) := by subst h; exact op_notIn_seq
theorem sl_listK (K : PySem.W.Frag) (h : X.K = K) : SlR X (rSlL K) := by subst h; exact sl_list
theorem sl_tupAK (K : PySem.W.Frag) (h : X.K = K) : SlR X (rSlA K) := by subst h; exact sl_tupA
theorem op_eqDK (K : PySem.W.Frag) (h : X.K = K) (hu : X.A.units + 64 < cLine) : OpR X (compareOp .Eq) (rEqD K) := by subst h; exact op_eqD hu
theorem op_neDK (K : PySem.W.Frag) (h : X.K = K) (hu : X.A.units + 64 < cLine) : OpR X (compareOp .NotEq) (rNeD K) := by subst h; exact op_neD hu
theorem call_isiKK (K : PySem.W.Frag) (h : X.K = K) : CallR X (.builtin "isinstance") (rIsi K) := by subst h; exact call_isi
theorem cr_allK (K : PySem.W.Frag) (h : X.K = K) (hc : X.calm = true) : CallR X (.builtin "all") (rAll K) := by subst h; exact cr_all hc
theorem cr_anyK (K : PySem.W.Frag) (h : X.K = K) (hc : X.calm = true) : CallR X (.builtin "any") (rAny K) := by subst h; exact cr_any hc
theorem cr_minKK (K : PySem.W.Frag) (h : X.K = K) (hc : X.calm = true) : CallR X (.builtin "min") (rMin K) := by subst h; exact cr_min hc
theorem cr_maxKK (K : PySem.W.Frag) (h : X.K = K) (hc : X.calm = true) : CallR X (.builtin "max") (rMax K) := by subst h; exact cr_max hc
def tTruK (K : PySem.W.Frag) (ta : TE) : TT := fun σ H Q => ta σ H fun x H' => ∃ k, TruV K x H' k ∧ Q k H'
theorem pt_truthK (K : PySem.W.Frag) (h : X.K = K) {a : Expr} {ta : TE} (ha : PE X a ta) (he : ∀ whole, isTrue a X.env whole = (do let v ← whole; standAt a.pos; holding [v] (truthy v))) : PT X a (tTruK K ta) := by subst h; exact pt_truth ha he
theorem get_listK (K : PySem.W.Frag) (h : X.K = K) : PGet X (rGetL K) := by subst h; exact get_list
theorem pg_tupK (K : PySem.W.Frag) (h : X.K = K) {es : List Expr} {k n : Nat} {t : TGs} {pos : Pos} (hc : X.calm = true) (g : PGs X es t)
    (hn : (assignEach es X.env).length = n := by rfl) (hst : (assignEach es X.env).findIdx? (·.1) = none := by rfl) : PG X (.Tuple es k pos) (gTup K n t) := by subst h; exact pg_tup hc g hn hst
theorem pg_unlK (K : PySem.W.Frag) (h : X.K = K) {es : List Expr} {k n : Nat} {t : TGs} {pos : Pos} (hc : X.calm = true) (g : PGs X es t)
    (hn : (assignEach es X.env).length = n := by rfl) (hst : (assignEach es X.env).findIdx? (·.1) = none := by rfl) : PG X (.Tuple es k pos) (gUnl K n t) := by subst h; exact pg_unl hc g hn hst
theorem pi_listK (K : PySem.W.Frag) (h : X.K = K) {tg e : Expr} {te : TE} (he : PE X e te) : PI X tg e (iList K te) := by subst h; exact pi_list he
theorem pi_tupK (K : PySem.W.Frag) (h : X.K = K) {tg e : Expr} {te : TE} (he : PE X e te) : PI X tg e (iTup K te) := by subst h; exact pi_tup he
theorem pe_revLK (K : PySem.W.Frag) (h : X.K = K) {e : Expr} {te : TE} {k : Nat} {p1 p2 p3 pos : Pos} (he : PE X e te) : PE X (.Subscript e (.Slice none none (some (.UnaryOp .USub (.Constant (.int 1) k p1) p2)) p3) pos) (tRevL K te) := by subst h; exact pe_revL he
theorem pe_bmK (K : PySem.W.Frag) (h : X.K = K) {o e : Expr} {es : List Expr} {to : TE} {t : TA} {name : Str} {apos cpos : Pos} {T id : String} {r : V → List V → Hp → VK → Prop}
    (pa : PlainAttrs T) (slot : Slot T name id) (hty : typeOf (.builtin id) = pure (.type "method_descriptor")) (hm : MtR X id r) (ho : PE X o to) (ha : PA X (e :: es) t)
    (n1 : attributeBase o name X.env (eval o X.env) = eval o X.env := by rfl)
    (n2 : ((backTo cpos (starEach (e :: es) X.env)).all (fun x => !x.1) && (backToKw cpos (keywordEach [] X.env)).all (fun x => x.1.isSome) && decide ((e :: es).length + ([] : List Keyword).length + (if ([] : List Keyword).isEmpty then 0 else 1) < 30)) = true := by rfl)
    (n3 : (apos.endLine == cpos.line) = true := by rfl) (n4 : starEach (e :: es) X.env = (false, eval e X.env) :: starEach es X.env := by rfl) (n5 : (backTo cpos (starEach es X.env)).any (·.1) = false := by rfl) :
    PE X (.Call (.Attribute o name apos) (e :: es) [] cpos) (tBM K T r to t) := by subst h; exact pe_bm pa slot hty hm ho ha n1 n2 n3 n4 n5
theorem pe_bm0K (K : PySem.W.Frag) (h : X.K = K) {o : Expr} {to : TE} {name : Str} {apos cpos : Pos} {T id : String} {r : V → List V → Hp → VK → Prop}
    (pa : PlainAttrs T) (slot : Slot T name id) (hty : typeOf (.builtin id) = pure (.type "method_descriptor")) (hm : MtR X id r) (ho : PE X o to)
    (n1 : attributeBase o name X.env (eval o X.env) = eval o X.env := by rfl) (n3 : (apos.endLine == cpos.line) = true := by rfl) : PE X (.Call (.Attribute o name apos) [] [] cpos) (tBM0 K T r to) := by subst h; exact pe_bm0 pa slot hty hm ho n1 n3
theorem op_catAK (K : PySem.W.Frag) (h : X.K = K) : OpR X (binaryOp .Add) (rCatA K) := by subst h; exact op_catA
theorem call_isiTK (K : PySem.W.Frag) (h : X.K = K) : CallR X (.builtin "isinstance") (rIsiT K) := by subst h; exact call_isiT
theorem pi_zipAK (K : PySem.W.Frag) (h : X.K = K) {e e2 : Expr} {ta : TA} {p pos tpos : Pos} {elts : List Expr} {kk : Nat} (hg : Gl X "zip") (hm : X.mg "zip" = none) (ha : PA X [e, e2] ta)
    (hs : starEach [e, e2] X.env = (false, eval e X.env) :: starEach [e2] X.env := by rfl) (hpl : (backTo pos (starEach [e2] X.env)).any (·.1) = false := by rfl) :
    PI X (.Tuple elts kk tpos) (.Call (.Name "zip" p) [e, e2] [] pos) (RZ.iZipA K ta) := by subst h; exact RZ.pi_zipA hg hm ha hs hpl
theorem pi_or {tg e : Expr} {t1 t2 : TI} (h1 : PI X tg e t1) (h2 : PI X tg e t2) : PI X tg e (fun σ H R => t1 σ H R ∨ t2 σ H R) := ⟨fun pins s σ H R I h => h.elim (h1.run pins s σ H R I) (h2.run pins s σ H R I)⟩
theorem pe_fldK (K : PySem.W.Frag) (h : X.K = K) {e : Expr} {ta : TE} {f : Str} {pos : Pos} (he : PE X e ta) (hb : attributeBase e f X.env (eval e X.env) = eval e X.env) : PE X (.Attribute e f pos) (tFld K ta f) := by subst h; exact pe_fld he hb
theorem ps_fldK (K : PySem.W.Frag) (h : X.K = K) {o value : Expr} {ta tv : TE} {f : Str} {pos pos' : Pos} (ha : PE X o ta) (hv : PE X value tv) (hs : swapsWith value (some (.Attribute o f pos')) pos.line X.env = pure false) : PS X (.Assign [.Attribute o f pos'] value pos) (sFld K ta tv f) := by subst h; exact ps_fld ha hv hs
theorem ps_fldaugK (K : PySem.W.Frag) (h : X.K = K) {o value : Expr} {ta tv : TE} {f : Str} {pos tpos : Pos} {op : Operator} {rd : V → V → Hp → VK → Prop} (ha : PE X o ta) (hv : PE X value tv) (hop : InOp X op rd) : PS X (.AugAssign (.Attribute o f tpos) op value pos) (sFldAug K ta tv rd f) := by subst h; exact ps_fldaug ha hv hop
end
section
variable {X : Cx}
theorem cr_sumK (K : PySem.W.Frag) (h : X.K = K) (hc : X.calm = true) : CallR X (.builtin "sum") (rSum K) := by subst h; exact cr_sum hc
end
section
variable {X : Cx}
theorem op_ltTK (K : PySem.W.Frag) (h : X.K = K) (hu : X.A.units < cLine) : OpR X (compareOp .Lt) (rLtT K) := by subst h; exact op_ltT hu
end
section
variable {X : Cx}
theorem cr_sortedRevK (K : PySem.W.Frag) (h : X.K = K) {b : Bool} : CallRK X (.builtin "sorted") [Str.ofString "reverse"] (rSortedKw K b [.bl b]) := by subst h; exact cr_sortedRev
theorem op_inDK (K : PySem.W.Frag) (h : X.K = K) (hu : X.A.units + 65 < cLine) : OpR X (compareOp .In) (rInD K) := by subst h; exact op_inD hu
end
theorem hu65 {A : Around} {k : Nat} (hr : Room k A) : A.units + 65 < cLine := by have := hr.un; omega
section
variable {X : Cx}
/-- x not in t, t a tuple of data of any depth -/
def rNotInDT (K : PySem.W.Frag) : R2 := fun x y H Q => ∃ d ds, Dp K H x d ∧ Dp K H y (.tuple ds) ∧ SeqAt.shaped d = true ∧ SeqAt.shaped (.tuple ds) = true ∧ Q (.bl (!ds.any fun z => PyData.eqv z d)) H
theorem op_notInDTK (K : PySem.W.Frag) (same : X.K = K) (room : X.A.units + 65 < cLine) : OpR X (compareOp .NotIn) (rNotInDT K) := by
  subst same
  intro pins st σ H one many ov mv Q J ro rm asked
  have ⟨d, ds, dpO, dpM, shO, shM, done⟩ := asked
  have ⟨_, readO⟩ := Dp.reads J d one ov dpO ro
  have ⟨_, readM⟩ := Dp.reads J (.tuple ds) many mv dpM rm
  exact SeqAt.notIn_tuple_reads readM readO (SeqAt.canLay_of_shaped shM) (SeqAt.canLay_of_shaped shO) (room_in_shaped shO room) ⟨.bl _, H, J, rfl, done⟩
end
section
variable {X : Cx}
/-- x in t, t a tuple of data of any depth -/
def rInDT (K : PySem.W.Frag) : R2 := fun x y H Q => ∃ d ds, Dp K H x d ∧ Dp K H y (.tuple ds) ∧ SeqAt.shaped d = true ∧ SeqAt.shaped (.tuple ds) = true ∧ Q (.bl (ds.any fun z => PyData.eqv z d)) H
theorem op_inDTK (K : PySem.W.Frag) (same : X.K = K) (room : X.A.units + 65 < cLine) : OpR X (compareOp .In) (rInDT K) := by
  subst same
  intro pins st σ H one many ov mv Q J ro rm asked
  have ⟨d, ds, dpO, dpM, shO, shM, done⟩ := asked
  have ⟨_, readO⟩ := Dp.reads J d one ov dpO ro
  have ⟨_, readM⟩ := Dp.reads J (.tuple ds) many mv dpM rm
  exact SeqAt.in_tuple_reads readM readO (SeqAt.canLay_of_shaped shM) (SeqAt.canLay_of_shaped shO) (room_in_shaped shO room) ⟨.bl _, H, J, rfl, done⟩
end
section
variable {X : Cx}
def rReprG (K : PySem.W.Frag) : List V → Hp → VK → Prop := fun xs H Q => ∃ (x : V) (d : PyData), xs = [x] ∧ Dp K H x d ∧ d.showable = true ∧ d.hasDict = false ∧ d.depth ≤ 60 ∧ d.shown.length ≤ sizeLine ∧ Q (.str d.shown) H
theorem call_reprG (K : PySem.W.Frag) (hk : X.K = K) (gd : X.A.guards = some []) (un : X.A.units + 64 < cLine) : CallR X (.builtin "repr") (rReprG K) := by
  subst hk
  intro pins st σ H xs us Q J rel asked
  obtain ⟨x, d, rfl, hd, h1, h2, h3, h4, now⟩ := asked
  obtain ⟨u, rfl, ru⟩ := vals1 rel
  cases hd with
  | non =>
    obtain rfl : u = Value.none := ru
    exact PySem.P.repr_of_none ⟨.str _, H, J.tok _, ⟨_, rfl⟩, now⟩
  | bl b =>
    obtain rfl : u = Value.bool b := ru
    refine PySem.P.repr_of_bool ⟨.str (PyData.bool b).shown, H, J.tok _, ⟨st.toks, ?_⟩, now⟩
    cases b <;> rfl
  | int i =>
    obtain ⟨t, rfl⟩ := ru
    refine PySem.P.repr_of_int (by simpa [PyData.showable] using h1) ⟨.str (PyData.int i).shown, H, J.tok _, ⟨st.toks, ?_⟩, now⟩
    first | rfl | (simp only [PyData.shown]; rfl)
  | str z =>
    obtain ⟨t, rfl⟩ := ru
    refine PySem.P.repr_of_str ⟨.str (PyData.str z).shown, H, J.tok _, ⟨st.toks, ?_⟩, now⟩ (by simpa only [PyData.shown] using h4)
    first | rfl | (simp only [PyData.shown])
  | lst a b =>
    obtain rfl : u = Value.ref _ := ru
    obtain ⟨as, rd⟩ := Dp.reads J _ _ _ (.lst a b) rfl
    exact repr_of_reads' rd h1 (PyData.noDict_hsm h2) gd (by omega) (fun _ _ e => e) (fun h' u tk kp => ⟨.str _, H, J.kept (t' := tk) kp, ⟨_, rfl⟩, now⟩) h4
  | tup a b =>
    obtain rfl : u = Value.ref _ := ru
    obtain ⟨as, rd⟩ := Dp.reads J _ _ _ (.tup a b) rfl
    exact repr_of_reads' rd h1 (PyData.noDict_hsm h2) gd (by omega) (fun _ _ e => e) (fun h' u tk kp => ⟨.str _, H, J.kept (t' := tk) kp, ⟨_, rfl⟩, now⟩) h4
end
/-! ### for i, x in enumerate(t), t a tuple -/
section
open Sem (wp)
open AutoSeq1 (wpAny_loadPart')
theorem enum_of_tup (t : Addr) (its : Array Value) (n : Nat) (dct : Option Addr) (sl : Array (Option Value)) :
    Meets (Builtin.«enumerate.__new__» ⟨[.type "enumerate", .ref t], []⟩) (fun _ R st => st.heap.get? t = some { cls := .type "tuple", dict := dct, data := .seq its n, slots := sl } ∧
      R (.ok (.ret (.ref (st.heap.push { cls := .type "tuple_iterator", data := .fields #[.ref t, .int 0 0] }).objs.size)))
        { st with heap := (st.heap.push { cls := .type "tuple_iterator", data := .fields #[.ref t, .int 0 0] }).push { cls := .type "enumerate", data := .fields #[.none, .bool false, .ref st.heap.objs.size, rawInt 0, .none, .none] } }) :=
  .of_wp fun prog w A R st asked => by
    obtain ⟨hp, g, d, tk, os⟩ := st; obtain ⟨at_, asked⟩ := asked
    have sub := sub_enumerate
    have hT : Heap.IsTuple (Shared.heap ⟨hp, g, d, tk, os⟩) t its := ⟨_, at_, rfl, n, rfl⟩
    wp_walk using wpAny_loadPart' at_
    refine wpAny_stack_any fun stk => wpAny_pure ?_
    split
    · rename_i c _ _ _ _ _
      cases (c == Value.type "enumerate")
      · wp_walk using wpAny_loadPart' at_, wpAny_pyIter_tuple hT
        exact ⟨_, rfl, asked⟩
      · wp_walk using wpAny_loadPart' at_, wpAny_pyIter_tuple hT
        exact ⟨_, rfl, asked⟩
    · wp_walk using wpAny_loadPart' at_, wpAny_pyIter_tuple hT
      exact ⟨_, rfl, asked⟩
theorem call_enum_tup {prog : Program} {w : World} {A : Around} {E : Value → Shared → Prop} {st : Shared} {t : Addr} {its : Array Value} {Q : Value → Shared → Prop} (hT : st.heap.IsTuple t its)
    (now : ∀ h', IsEnum h' (st.heap.objs.size + 1) st.heap.objs.size 0 .none → h'.IsTupleIter st.heap.objs.size t 0 → h'.objs.size = st.heap.objs.size + 2 →
      (∀ b o, st.heap.get? b = some o → h'.get? b = some o) → Q (.ref (st.heap.objs.size + 1)) { st with heap := h' }) :
    wpAny (model prog w) A (call (.type "enumerate") [.ref t]) Q E st := by
  obtain ⟨⟨c, dct, dt, sl⟩, at_, hc, n, hd⟩ := hT
  replace hc : c = .type "tuple" := hc
  replace hd : dt = .seq its n := hd
  subst hc hd
  refine callType_new F.called_enumerate (by decide) (F.typeCall_enumerate_1 _) (F.newCall_enumerate_1 _) (fun obj => F.args_object_init_2 obj _) F.entry_enumerate_new (enum_of_tup t its n dct sl) ⟨at_, ?_⟩
  have size1 : (st.heap.push { cls := .type "tuple_iterator", data := .fields #[.ref t, .int 0 0] }).objs.size = st.heap.objs.size + 1 := Heap.size_push ..
  show _ ∧ _
  rw [size1]
  have made := Heap.get?_push_size (st.heap.push { cls := .type "tuple_iterator", data := .fields #[.ref t, .int 0 0] }) (o := { cls := .type "enumerate", data := .fields #[.none, .bool false, .ref st.heap.objs.size, rawInt 0, .none, .none] }) rfl
  rw [size1] at made
  exact ⟨⟨_, made, rfl⟩, now _ made ⟨_, Heap.get?_push_of_some _ (Heap.get?_push_size _ rfl), rfl, rfl⟩ (by rw [Heap.size_push, size1]) fun b o e => Heap.get?_push_of_some _ (Heap.get?_push_of_some _ e)⟩
end
/-- the tuple at a, each item in a new pair -/
def IteT (K : PySem.W.Frag) (a : Addr) (xs : List V) : It :=
  ⟨fun i H => SqT K H a xs ∧ i < xs.length, fun i H v H' => ∃ T x, v = .ref T ∧ H T = none ∧ H' = upd H T (.tup [.int (i : Nat), x]) ∧ xs[i]? = some x, fun i H => SqT K H a xs ∧ i = xs.length⟩
theorem turn_enumT {P : Program} {w : World} {K : PySem.W.Frag} {elts : List Expr} {kk : Nat} {tpos : Pos} (a e it : Addr) (xs : List V) :
    Turn P w K (.Tuple elts kk tpos) (IteT K a xs) [e, it] e (fun i h => (∃ old, IsEnum h e it ((i : Nat) : Int) old) ∧ h.IsTupleIter it a i ∧ e ≠ it ∧ a ≠ it ∧ a ≠ e) where
  mem := by simp
  obj := fun i h st b hb => by
    obtain ⟨⟨old, he⟩, ⟨o, ho, hc, hd⟩, _⟩ := st
    have either : b = e ∨ b = it := by simpa using hb
    rcases either with z | z
    · rw [z]; exact ⟨_, he, fun v q => nomatch q⟩
    · rw [z]; exact ⟨o, ho, fun v q => by rw [hd] at q; cases q⟩
  keep := fun i h h' st k => let ⟨⟨old, he⟩, hi, apart⟩ := st; ⟨⟨old, k e (by simp) _ he⟩, hi.at fun o q => k it (by simp) o q, apart⟩
  item := by
    intro X hP hw hK hc i pins st σ H E J hf stt going
    subst hP hw hK
    obtain ⟨⟨old, he⟩, hit, n1, n2, n3⟩ := stt
    obtain ⟨hq, hi⟩ := going
    obtain ⟨its, rv, tup, hz⟩ := J.tuple hq
    have len := rv.length
    have el : e < st.heap.objs.size := Heap.lt_size he
    have il : it < st.heap.objs.size := by obtain ⟨_, q, _⟩ := hit; exact Heap.lt_size q
    have D := Draws.tuple (prog := X.prog) (w := X.w) (A := X.A.in1) (J.ok.hd hc) it a n2 its.toArray
    refine wpAny_pyNext_enum_itemD D he ⟨hit, tup⟩ (by rw [List.size_toArray]; omega) n1 (by simp [n1, n3.symm]) fun u h' tk px out stt' new size kp => ?_
    refine ⟨_, rfl, wpAny_letOwnedTupleGo_enum (s := { st with heap := h', toks := tk + 1 }) out fun h'' he' sb => ?_⟩
    obtain ⟨x, hx⟩ : ∃ x, xs[i]? = some x := ⟨_, List.getElem?_eq_getElem hi⟩
    obtain ⟨u', hu', ru⟩ := rv.get hx
    have eu : u' = u := by
      have px : its.toArray[i]? = some u := px
      rw [List.getElem?_toArray, hu'] at px
      exact Option.some.inj px
    subst eu
    have there : h''.get? st.heap.objs.size = some { cls := .type "tuple", data := .seq #[.int i tk, u'] } := (sb.2 _ (Nat.ne_of_gt el)).trans new
    have ok2 : ObjOk X.prog X.w (upd H st.heap.objs.size (.tup [.int (i : Nat), x])) h'' st.heap.objs.size (.tup [.int (i : Nat), x]) :=
      ⟨by show 2 ≤ sizeLine; decide, [.int i tk, u'], .cons ⟨_, rfl⟩ (.cons ru .nil), ⟨_, there, rfl, _, rfl⟩⟩
    have J1 : Inv X pins σ (upd H st.heap.objs.size (.tup [.int (i : Nat), x])) { st with heap := h'', toks := tk + 1 } :=
      J.turnedNew (ch := [e, it]) (fun b ob hb q => (sb.2 b (fun z => hb (by simp [z]))).trans (kp b ob (fun z => hb (by simp [z])) (fun z => hb (by simp [z])) q)) hf (Nat.le_refl _) ok2
    refine ⟨.ref st.heap.objs.size, _, J1, rfl, ⟨_, x, rfl, J.hok.fresh (Nat.le_refl _), rfl, hx⟩, ⟨⟨u', ?_⟩, stt'.1.at fun o q => (sb.2 it (Ne.symm n1)).trans q, n1, n2, n3⟩, fun b hb => ?_⟩
    · rw [show ((i + 1 : Nat) : Int) = (i : Int) + 1 by omega]
      exact he'
    · have bl : b < st.heap.objs.size := by
        have either : b = e ∨ b = it := by simpa using hb
        rcases either with z | z
        · rw [z]; exact el
        · rw [z]; exact il
      rw [upd_ne (Nat.ne_of_lt bl)]
      exact (hf b hb).1
  done := by
    intro X hP hw hK hc i pins st σ H E J hf stt over
    subst hP hw hK
    obtain ⟨⟨old, he⟩, hit, n1, n2, n3⟩ := stt
    obtain ⟨hq, hi⟩ := over
    obtain ⟨its, rv, tup, hz⟩ := J.tuple hq
    obtain ⟨f0, f1, f2, f3, f4, f5⟩ := hf it (by simp)
    have len := rv.length
    have D := Draws.tuple (prog := X.prog) (w := X.w) (A := X.A.in1) (J.ok.hd hc) it a n2 its.toArray
    have ei : its.toArray.size = i := by rw [List.size_toArray]; omega
    exact wpAny_pyNext_enum_endD D he ⟨by rw [ei]; exact hit, tup⟩ fun h' eb => ⟨rfl, J.turned (t' := st.toks) (fun b o hb q => eb b o hb q) f0 f1 f3 f4 f5⟩
  self := fun A i st Q E stt now => let ⟨⟨_, he⟩, _⟩ := stt; wpAny_pyIter_enum he now
def iEnumT (K : PySem.W.Frag) (ta : TA) : TI := fun σ H R => ta σ H fun vs H1 => ∃ a xs, vs = [.ref a] ∧ SqT K H1 a xs ∧ R (IteT K a xs) H1
theorem pi_enumT (K : PySem.W.Frag) {X : Cx} (hk : X.K = K) {e : Expr} {ta : TA} {p pos tpos : Pos} {elts : List Expr} {kk : Nat} (hg : Gl X "enumerate") (hm : X.mg "enumerate" = none) (ha : PA X [e] ta) (hs : starEach [e] X.env = [(false, eval e X.env)] := by rfl) :
    PI X (.Tuple elts kk tpos) (.Call (.Name "enumerate" p) [e] [] pos) (iEnumT K ta) := by
  subst hk
  refine ⟨fun pins st σ H R J asked => ?_⟩
  refine Call_ (ld_blt J hg hm boot_enumerate (PyProof.Rows.callWith_type1 (thn (ha.run pos pins st σ H _ J asked) fun us st1 ⟨vs, H1, J1, rel, now⟩ => ?_) hs rfl))
  obtain ⟨a, xs, ex, hq, now⟩ := now
  subst ex
  obtain ⟨u, rfl, ru⟩ := vals1 rel
  obtain rfl : u = Value.ref a := ru
  obtain ⟨its, rv, tup, hz⟩ := J1.tuple hq
  have al : a < st1.heap.objs.size := by obtain ⟨o, ho, _⟩ := tup; exact Heap.lt_size ho
  refine call_enum_tup tup fun h' he hit size kp => wpAny_pyIter_enum he ?_
  have J2 : Inv X pins σ H1 { st1 with heap := h' } := J1.kept (t' := st1.toks) kp
  refine ⟨st1.heap.objs.size + 1, [st1.heap.objs.size + 1, st1.heap.objs.size], _, _, H1, rfl, J2, turn_enumT a (st1.heap.objs.size + 1) st1.heap.objs.size xs, ⟨⟨.none, he⟩, hit, Nat.succ_ne_self _, Nat.ne_of_lt al, Nat.ne_of_lt (Nat.lt_succ_of_lt al)⟩, fun b hb => ?_, now⟩
  have either : b = st1.heap.objs.size + 1 ∨ b = st1.heap.objs.size := by simpa using hb
  have low : st1.heap.objs.size ≤ b := by
    rcases either with z | z
    · rw [z]; exact Nat.le_add_right _ _
    · rw [z]; exact Nat.le_refl _
  exact J1.fpOk low (J1.hok.fresh low)
theorem pi_enumK (K : PySem.W.Frag) (h : X.K = K) {e : Expr} {ta : TA} {p pos tpos : Pos} {elts : List Expr} {kk : Nat} (hg : Gl X "enumerate") (hm : X.mg "enumerate" = none) (ha : PA X [e] ta) (hs : starEach [e] X.env = [(false, eval e X.env)] := by rfl) :
    PI X (.Tuple elts kk tpos) (.Call (.Name "enumerate" p) [e] [] pos) (iEnum K ta) := by subst h; exact pi_enum hg hm ha hs
/-! ### dict(zip(xs, ys)), xs a list, ys a tuple -/
section
open Sem (wp)
variable {prog : Program} {w : World} {A : Around} {E : Value → Shared → Prop} {st : Shared} {z TI TO T i1 i2 : Addr} {fp1 fp2 : List Addr} {n1 n2 i : Nat} {P1 P2 : Nat → Value → Prop} {S1 S2 : Nat → Heap → Prop} {f : Bool} {oT : Obj}
theorem out_next (S : ZipSep2 z TI TO i1 i2 fp1 fp2) (D1 : Draws prog w A i1 fp1 n1 P1 S1) (D2 : Draws prog w A i2 fp2 n2 P2 S2) {Q : Value → Shared → Prop}
    (out : IsZipHeld st.heap z TI TO T f) (hT : st.heap.get? T = some oT) (both : IsTupOf2 st.heap TI (.ref i1) (.ref i2)) (at1 : S1 i st.heap) (at2 : S2 i st.heap) (l1 : i < n1) (l2 : i < n2)
    (now : ∀ x y h' tk, P1 i x → P2 i y → IsZipHeld h' z TI TO T true → S1 (i + 1) h' → S2 (i + 1) h' → IsTupOf2 h' st.heap.objs.size x y → (∀ c o, c ≠ z → c ≠ i1 → c ≠ i2 → st.heap.get? c = some o → h'.get? c = some o) → Q (.ref st.heap.objs.size) { st with heap := h', toks := tk }) :
    wpAny (model prog w) A (Builtin.«zip.__next__» ⟨[.ref z], []⟩) (fun fin s' => ∃ v, fin = .done (.ret v) ∧ Q v s') E st := by
  obtain ⟨hp, g, d, tk0, os⟩ := st
  show wpAny _ _ (field (.ref z) 2 >>= _) _ _ _; refine wpAny_bind (wpAny_field out rfl (x := .bool false) rfl ?_)
  show wpAny _ _ (field (.ref z) 3 >>= _) _ _ _; refine wpAny_bind (wpAny_field out rfl (x := .ref TI) rfl ?_)
  refine wpAny_bind (wpAny_seqItems both rfl ?_); show wpAny _ _ (Builtin.SmallTypes.ownedTupleIsFree (.ref z) >>= _) _ _ _
  refine wpAny_bind (wpAny_tupleHeld_zip out hT fun g1 out1 b1 => ?_)
  replace b1 : Heap.SameBut z hp g1 := b1
  simp only [Bool.false_eq_true, if_false]; refine wpAny_bind ?_; rw [← Array.forIn_toList]; simp only [List.forIn_cons, List.forIn_nil]
  refine wpAny_bind (wpAny_bind (wpAny_holding ?_)); show wpAny _ _ (Builtin.SmallTypes.nextOf (.ref i1) >>= _) _ _ ⟨g1, g, d, tk0, os⟩
  refine wpAny_bind (D1.item i _ _ _ l1 (D1.over at1 b1 S.zf1) fun x g2 tk1 px n1' b2 => wpAny_pure ?_)
  replace b2 : Heap.SameBut i1 g1 g2 := b2
  refine wpAny_pure ?_; refine wpAny_bind (wpAny_bind (wpAny_holding ?_)); show wpAny _ _ (Builtin.SmallTypes.nextOf (.ref i2) >>= _) _ _ ⟨g2, g, d, tk1, os⟩
  refine wpAny_bind (D2.item i _ _ _ l2 (D2.over (D2.over at2 b1 S.zf2) b2 S.sep1_2) fun y g3 tk2 py n2' b3 => wpAny_pure ?_)
  replace b3 : Heap.SameBut i2 g2 g3 := b3
  refine wpAny_pure (wpAny_pure ?_); show wpAny _ _ (newTuple [x, y] >>= _) _ _ ⟨g3, g, d, tk2, os⟩
  refine wpAny_bind (wpAny_newTuple ?_); refine wpAny_pure ⟨_, rfl, ?_⟩
  have size : g3.objs.size = hp.objs.size := by rw [b3.1, b2.1, b1.1]
  have out3 : IsZipHeld g3 z TI TO T true := b3.extBut _ _ S.zi2 (b2.extBut _ _ S.zi1 out1)
  have new : IsTupOf2 (g3.push { cls := .type "tuple", data := .seq #[x, y] }) g3.objs.size x y := Heap.get?_push_size _ rfl
  show Q (.ref g3.objs.size) _
  rw [size] at new ⊢
  exact now x y _ tk2 px py (Heap.get?_push_of_some _ out3) (D1.frame _ _ _ (D1.over n1' b3 S.sep2_1) fun _ _ _ q => Heap.get?_push_of_some _ q) (D2.frame _ _ _ n2' fun _ _ _ q => Heap.get?_push_of_some _ q) new
    fun c o c1 c2 c3 q => Heap.get?_push_of_some _ (b3.extBut _ _ c3 (b2.extBut _ _ c2 (b1.extBut _ _ c1 q)))
theorem out_end (S : ZipSep2 z TI TO i1 i2 fp1 fp2) (D1 : Draws prog w A i1 fp1 n1 P1 S1) (D2 : Draws prog w A i2 fp2 n2 P2 S2) {Q : Fin → Shared → Prop}
    (out : IsZipHeld st.heap z TI TO T f) (hT : st.heap.get? T = some oT) (both : IsTupOf2 st.heap TI (.ref i1) (.ref i2)) (at1 : S1 i st.heap) (at2 : S2 i st.heap) (l1 : i ≤ n1) (l2 : i ≤ n2) (last : i = n1 ∨ i = n2)
    (now : ∀ h' tk e, (∀ c o, c ≠ z → c ≠ i1 → c ≠ i2 → st.heap.get? c = some o → h'.get? c = some o) → (∃ o, h'.get? e = some o ∧ o.cls = .type "StopIteration") → E (.ref e) { st with heap := h', toks := tk }) :
    wpAny (model prog w) A (Builtin.«zip.__next__» ⟨[.ref z], []⟩) Q E st := by
  obtain ⟨hp, g, d, tk0, os⟩ := st
  show wpAny _ _ (field (.ref z) 2 >>= _) _ _ _; refine wpAny_bind (wpAny_field out rfl (x := .bool false) rfl ?_)
  show wpAny _ _ (field (.ref z) 3 >>= _) _ _ _; refine wpAny_bind (wpAny_field out rfl (x := .ref TI) rfl ?_)
  refine wpAny_bind (wpAny_seqItems both rfl ?_); show wpAny _ _ (Builtin.SmallTypes.ownedTupleIsFree (.ref z) >>= _) _ _ _
  refine wpAny_bind (wpAny_tupleHeld_zip out hT fun g1 out1 b1 => ?_)
  replace b1 : Heap.SameBut z hp g1 := b1
  simp only [Bool.false_eq_true, if_false]; refine wpAny_bind ?_; rw [← Array.forIn_toList]; simp only [List.forIn_cons, List.forIn_nil]
  refine wpAny_bind (wpAny_bind (wpAny_holding ?_)); show wpAny _ _ (Builtin.SmallTypes.nextOf (.ref i1) >>= _) _ _ ⟨g1, g, d, tk0, os⟩
  by_cases more : i < n1
  · refine wpAny_bind (D1.item i _ _ _ more (D1.over at1 b1 S.zf1) fun x g2 tk1 px n1' b2 => wpAny_pure ?_)
    replace b2 : Heap.SameBut i1 g1 g2 := b2
    refine wpAny_pure ?_; refine wpAny_bind (wpAny_bind (wpAny_holding ?_)); show wpAny _ _ (Builtin.SmallTypes.nextOf (.ref i2) >>= _) _ _ ⟨g2, g, d, tk1, os⟩
    have e2 : i = n2 := by omega
    subst e2
    refine wpAny_bind (D2.done _ _ _ (D2.over (D2.over at2 b1 S.zf2) b2 S.sep1_2) fun g3 e b3 he => ?_)
    exact now g3 tk1 e (fun c o c1 c2 c3 q => b3 _ _ c3 (b2.extBut _ _ c2 (b1.extBut _ _ c1 q))) he
  · have e1 : i = n1 := by omega
    subst e1
    refine wpAny_bind (D1.done _ _ _ (D1.over at1 b1 S.zf1) fun g3 e b3 he => ?_)
    exact now g3 tk0 e (fun c o c1 c2 c3 q => b3 _ _ c2 (b1.extBut _ _ c1 q)) he
theorem out_pyNext (S : ZipSep2 z TI TO i1 i2 fp1 fp2) (D1 : Draws prog w A.in1 i1 fp1 n1 P1 S1) (D2 : Draws prog w A.in1 i2 fp2 n2 P2 S2) {Q : Option Value → Shared → Prop}
    (out : IsZipHeld st.heap z TI TO T f) (hT : st.heap.get? T = some oT) (both : IsTupOf2 st.heap TI (.ref i1) (.ref i2)) (at1 : S1 i st.heap) (at2 : S2 i st.heap) (l1 : i < n1) (l2 : i < n2)
    (now : ∀ x y h' tk, P1 i x → P2 i y → IsZipHeld h' z TI TO T true → S1 (i + 1) h' → S2 (i + 1) h' → IsTupOf2 h' st.heap.objs.size x y → (∀ c o, c ≠ z → c ≠ i1 → c ≠ i2 → st.heap.get? c = some o → h'.get? c = some o) → Q (some (.ref st.heap.objs.size)) { st with heap := h', toks := tk }) :
    wpAny (model prog w) A (pyNext (.ref z)) Q E st := by
  have ty : st.TypeIs (.ref z) "zip" := ⟨_, out, rfl⟩
  unfold pyNext
  refine wpAny_bind (wpAny_attempt (wpAny_callSpecial?_slot (name := Str.ofString "__next__") ty F.slot_zip_next (wpAny_call_entry F.slot_zip_next ty F.entry_zip_next (out_next S D1 D2 out hT both at1 at2 l1 l2 ?_) (F.args_zip_next_1 _))))
  exact fun x y h' tk a b c d e g k => wpAny_pure (now x y h' tk a b c d e g k)
theorem out_pyNext_end (S : ZipSep2 z TI TO i1 i2 fp1 fp2) (D1 : Draws prog w A.in1 i1 fp1 n1 P1 S1) (D2 : Draws prog w A.in1 i2 fp2 n2 P2 S2) {Q : Option Value → Shared → Prop}
    (out : IsZipHeld st.heap z TI TO T f) (hT : st.heap.get? T = some oT) (both : IsTupOf2 st.heap TI (.ref i1) (.ref i2)) (at1 : S1 i st.heap) (at2 : S2 i st.heap) (l1 : i ≤ n1) (l2 : i ≤ n2) (last : i = n1 ∨ i = n2)
    (now : ∀ h' tk, (∀ c o, c ≠ z → c ≠ i1 → c ≠ i2 → st.heap.get? c = some o → h'.get? c = some o) → Q none { st with heap := h', toks := tk }) :
    wpAny (model prog w) A (pyNext (.ref z)) Q E st := by
  have ty : st.TypeIs (.ref z) "zip" := ⟨_, out, rfl⟩
  unfold pyNext
  refine wpAny_bind (wpAny_attempt (wpAny_callSpecial?_slot (name := Str.ofString "__next__") ty F.slot_zip_next (wpAny_call_entry F.slot_zip_next ty F.entry_zip_next (out_end S D1 D2 out hT both at1 at2 l1 l2 last ?_) (F.args_zip_next_1 _))))
  rintro h' tk e kp ⟨o, ho, hc⟩
  exact wpAny_bind (wpAny_isInstance (T := "StopIteration") (b := true) ⟨o, ho, hc⟩ isSubtype_stop (wpAny_pure (now _ _ kp)))
/-- the zip of the list l and the tuple t, begun -/
def ZipLT (h : Heap) (z TI TO i1 i2 l t : Addr) (xs ys : Array Value) (n : Nat) : Prop := IsTupOf2 h TI (.ref i1) (.ref i2) ∧ (h.IsListIter i1 l n ∧ h.IsList l xs) ∧ (h.IsTupleIter i2 t n ∧ h.IsTuple t ys)
theorem ZipLT.keep {h h' : Heap} {z TI TO i1 i2 l t : Addr} {xs ys : Array Value} {n : Nat} (q : ZipLT h z TI TO i1 i2 l t xs ys n) (k : ∀ b, b = TI ∨ b = i1 ∨ b = i2 ∨ b = l ∨ b = t → ∀ o, h.get? b = some o → h'.get? b = some o) : ZipLT h' z TI TO i1 i2 l t xs ys n :=
  ⟨k _ (.inl rfl) _ q.1, ⟨q.2.1.1.at fun o e => k _ (.inr (.inl rfl)) o e, q.2.1.2.at fun o e => k _ (.inr (.inr (.inr (.inl rfl)))) o e⟩, ⟨q.2.2.1.at fun o e => k _ (.inr (.inr (.inl rfl))) o e, q.2.2.2.at fun o e => k _ (.inr (.inr (.inr (.inr rfl)))) o e⟩⟩
theorem pairs_LT (z TI TO i1 i2 l t : Addr) (S : ZipSep2 z TI TO i1 i2 [i1, l] [i2, t]) (hl : l ≠ i1) (ht : t ≠ i2) (xs ys : Array Value) :
    PairArg prog w "zip" z [z, TI, TO, i1, i2, l, t] [z, TO, i1, i2] (min xs.size ys.size) (fun i k v => xs[i]? = some k ∧ ys[i]? = some v)
      (fun h => IsZip h z TI TO .none ∧ (∃ a b, IsTupOf2 h TO a b) ∧ ZipLT h z TI TO i1 i2 l t xs ys 0) where
  type := fun s ok => ⟨_, ok.1, rfl⟩
  notDict := by decide
  keep := fun h h' ok k => by
    obtain ⟨a1, ⟨a, b, a2⟩, a3⟩ := ok
    exact ⟨k _ _ a1, ⟨a, b, k _ _ a2⟩, a3.keep fun b _ o e => k b o e⟩
  there := fun h ok b hb => by
    obtain ⟨a1, ⟨a, c, a2⟩, a3, ⟨⟨o1, e1, _⟩, ⟨o2, e2, _⟩⟩, ⟨⟨o3, e3, _⟩, ⟨o4, e4, _⟩⟩⟩ := ok
    have either : b = z ∨ b = TI ∨ b = TO ∨ b = i1 ∨ b = i2 ∨ b = l ∨ b = t := by simpa using hb
    rcases either with q | q | q | q | q | q | q <;> subst q
    · exact ⟨_, a1⟩
    · exact ⟨_, a3⟩
    · exact ⟨_, a2⟩
    · exact ⟨_, e1⟩
    · exact ⟨_, e3⟩
    · exact ⟨_, e2⟩
    · exact ⟨_, e4⟩
  sub := fun b hb => by
    have either : b = z ∨ b = TO ∨ b = i1 ∨ b = i2 := by simpa using hb
    rcases either with q | q | q | q <;> subst q <;> simp
  noKeys := fun A s Q E hA ok now => getAttrOr_miss_zip ok.1 rfl rfl rfl zip_no_keys (by decide +kernel) hA now
  iter := fun A s d Q E hA ok dlt dfar now => by
    obtain ⟨a1, ⟨a, b, a2⟩, a3⟩ := ok
    have far : d ≠ z ∧ d ≠ TI ∧ d ≠ TO ∧ d ≠ i1 ∧ d ≠ i2 ∧ d ≠ l ∧ d ≠ t := by simpa using dfar
    obtain ⟨d1, d2, d3, d4, d5, d6, d7⟩ := far
    have D1 := Draws.list (prog := prog) (w := w) (A := A.in1) hA i1 l hl xs
    have D2 := Draws.tuple (prog := prog) (w := w) (A := A.in1) hA i2 t ht ys
    refine wpAny_pyIter_zip a1 (now z [z, TO, i1, i2] (fun n h => ZipLT h z TI TO i1 i2 l t xs ys n ∧ ((IsZip h z TI TO .none ∧ ∃ a b, IsTupOf2 h TO a b) ∨ ∃ T f oT, IsZipHeld h z TI TO T f ∧ h.get? T = some oT ∧ T ≠ z ∧ T ≠ i1 ∧ T ≠ i2 ∧ T ≠ d)) s.heap s.toks ?_ ⟨a3, .inl ⟨a1, a, b, a2⟩⟩ (fun _ _ e => e) fun b hb => .inl hb)
    refine ⟨fun hm => ?_, fun n h h' q k => ?_, fun n s1 Q1 E1 hn q dl now1 => ?_, fun s1 Q1 E1 q now1 => ?_⟩
    · have either : d = z ∨ d = TO ∨ d = i1 ∨ d = i2 := by simpa using hm
      rcases either with q | q | q | q
      · exact d1 q
      · exact d3 q
      · exact d4 q
      · exact d5 q
    · refine ⟨q.1.keep fun b hb o e => k b o (fun y => ?_) e, ?_⟩
      · rcases hb with q | q | q | q | q <;> rw [q] at y
        · exact d2 y.symm
        · exact d4 y.symm
        · exact d5 y.symm
        · exact d6 y.symm
        · exact d7 y.symm
      · rcases q.2 with ⟨q1, a, b, q2⟩ | ⟨T, f, oT, q1, q2, r1, r2, r3, r4⟩
        · exact .inl ⟨k _ _ (Ne.symm d1) q1, a, b, k _ _ (Ne.symm d3) q2⟩
        · exact .inr ⟨T, f, oT, k _ _ (Ne.symm d1) q1, k _ _ r4 q2, r1, r2, r3, r4⟩
    · obtain ⟨⟨both, at1, at2⟩, q⟩ := q
      have m1 : n < xs.size := Nat.lt_of_lt_of_le hn (Nat.min_le_left ..)
      have m2 : n < ys.size := Nat.lt_of_lt_of_le hn (Nat.min_le_right ..)
      have lt : ∀ {c o}, s1.heap.get? c = some o → s1.heap.objs.size ≠ c := fun e => Nat.ne_of_gt (Heap.lt_size e)
      have j1 : s1.heap.objs.size ≠ i1 := let ⟨_, e⟩ := D1.live _ _ at1; lt e
      have j2 : s1.heap.objs.size ≠ i2 := let ⟨_, e⟩ := D2.live _ _ at2; lt e
      rcases q with ⟨q1, a, b, q2⟩ | ⟨T, f, oT, q1, q2, r1, r2, r3, r4⟩
      · refine wpAny_pyNext_zipD2_item S D1 D2 q1 both q2 at1 at2 m1 m2 fun x y h' tk px py b1 b2 b3 b4 b5 b6 k => ?_
        exact now1 s1.heap.objs.size x y h' tk ⟨px, py⟩ (.inl ⟨_, b5, rfl, _, rfl⟩) ⟨⟨k _ _ S.TIz S.TITO S.TIi1 S.TIi2 both, b3, b4⟩, .inr ⟨_, false, _, b1, b5, lt q1, j1, j2, Nat.ne_of_gt dl⟩⟩
          fun c o hc e => k c o (fun y => hc (by simp [y])) (fun y => hc (by simp [y])) (fun y => hc (by simp [y])) (fun y => hc (by simp [y])) e
      · refine out_pyNext S D1 D2 q1 q2 both at1 at2 m1 m2 fun x y h' tk px py b1 b3 b4 b5 k => ?_
        exact now1 s1.heap.objs.size x y h' tk ⟨px, py⟩ (.inl ⟨_, b5, rfl, _, rfl⟩) ⟨⟨k _ _ S.TIz S.TIi1 S.TIi2 both, b3, b4⟩, .inr ⟨T, true, oT, b1, k _ _ r1 r2 r3 q2, r1, r2, r3, r4⟩⟩
          fun c o hc e => k c o (fun y => hc (by simp [y])) (fun y => hc (by simp [y])) (fun y => hc (by simp [y])) e
    · obtain ⟨⟨both, at1, at2⟩, q⟩ := q
      rcases q with ⟨q1, a, b, q2⟩ | ⟨T, f, oT, q1, q2, r1, r2, r3, r4⟩
      · exact wpAny_pyNext_zipD2_end S D1 D2 q1 both q2 at1 at2 (Nat.min_le_left ..) (Nat.min_le_right ..) (by omega) fun h' tk k => now1 h' tk fun c o hc e => k c o (fun y => hc (by simp [y])) (fun y => hc (by simp [y])) (fun y => hc (by simp [y])) (fun y => hc (by simp [y])) e
      · exact out_pyNext_end S D1 D2 q1 q2 both at1 at2 (Nat.min_le_left ..) (Nat.min_le_right ..) (by omega) fun h' tk k => now1 h' tk fun c o hc e => k c o (fun y => hc (by simp [y])) (fun y => hc (by simp [y])) (fun y => hc (by simp [y])) e
end
/-- dict(zip(e1, e2)): keys from a list, values from a tuple -/
def eDictZip (K : PySem.W.Frag) (ta : TA) : TE := fun σ H Q => ta σ H fun vs H1 => ∃ (a b : Addr) (ks : List Key) (xs : List V), vs = [.ref a, .ref b] ∧ SqL K H1 a (ks.map kV) ∧ SqT K H1 b xs ∧ ∀ p, H1 p = none → Q (.ref p) (upd H1 p (.dK (mergeK [] (ks.zip xs))))
theorem pe_dictZip (K : PySem.W.Frag) {X : Cx} (hk : X.K = K) (hcalm : X.calm = true) {e e2 : Expr} {ta : TA} {p p2 pos pos2 : Pos} (hd : Gl X "dict") (md : X.mg "dict" = none) (hg : Gl X "zip") (hm : X.mg "zip" = none) (ha : PA X [e, e2] ta)
    (hs : starEach [e, e2] X.env = (false, eval e X.env) :: starEach [e2] X.env := by rfl) (hpl : (backTo pos2 (starEach [e2] X.env)).any (·.1) = false := by rfl)
    (hs1 : starEach [.Call (.Name "zip" p2) [e, e2] [] pos2] X.env = [(false, eval (.Call (.Name "zip" p2) [e, e2] [] pos2) X.env)] := by rfl) :
    PE X (.Call (.Name "dict" p) [.Call (.Name "zip" p2) [e, e2] [] pos2] [] pos) (eDictZip K ta) := by
  subst hk
  refine ⟨fun pins st σ H Q J asked => ?_⟩
  refine Call_ (ld_blt J hd md boot_dict (PyProof.Rows.callWith_type1 (args_cons (Call_ (ld_blt J hg hm boot_zip (PyProof.Rows.callWith_type1 (thn (ha.run pos2 pins st σ H _ J asked) fun us st1 ⟨vs, H1, J1, rel, now⟩ => ?_) hs hpl))) hs1) hs1 rfl))
  obtain ⟨a, b, ks, xs, ex, hq1, hq2, now⟩ := now
  subst ex
  cases rel with
  | cons r1 rel =>
  cases rel with
  | cons r2 rel =>
  cases rel
  cases r1
  cases r2
  obtain ⟨its, rv, p1, z1⟩ := J1.list hq1
  obtain ⟨its2, rv2, p2, z2⟩ := J1.tuple hq2
  have al : a < st1.heap.objs.size := p1.lt
  have bl : b < st1.heap.objs.size := by obtain ⟨o, ho, _⟩ := p2; exact Heap.lt_size ho
  have B1 := begins_list a its.toArray
  have B2 := begins_tuple b its2.toArray
  refine zip_begins2 B1 B2 p1.isList p2 fun h' c1 c2 c3 c4 c5 size kp => args_nil ?_
  have S := zip_sep2 (N := st1.heap.objs.size) (fp1 := [a]) (fp2 := [b]) (by simpa using al) (by simpa using bl)
  have P := pairs_LT (prog := X.prog) (w := X.w) _ _ _ _ _ a b S (Nat.ne_of_lt al) (Nat.ne_of_lt (Nat.lt_succ_of_lt bl)) its.toArray its2.toArray
  have n1 := rv.length
  have n2 := rv2.length
  rw [List.length_map] at n1 z1
  have all : ∀ (ks : List Key) (xs : List V) (us vs : List Value), Vals (ks.map kV) us → Vals xs vs → ∃ rs : List (Key × Value), KV (ks.zip xs) rs ∧ rs.length = min us.length vs.length ∧ ∀ (i : Nat) (k v : Value), us[i]? = some k → vs[i]? = some v → ∃ q, rs[i]? = some (q, v) ∧ (mixKind X.prog X.w).is q k = true := by
    intro ks
    induction ks with
    | nil => intro xs us vs r1 r2; cases r1; exact ⟨[], .nil, by simp, fun i k v e => nomatch e⟩
    | cons k ks ih =>
      intro xs us vs r1 r2
      cases r1 with
      | cons h1 t1 =>
      cases r2 with
      | nil => exact ⟨[], .nil, by simp, fun i k v _ e => nomatch e⟩
      | cons h2 t2 =>
        obtain ⟨rs, e1, e2, e3⟩ := ih _ _ _ t1 t2
        refine ⟨(k, _) :: rs, .cons ⟨rfl, h2⟩ e1, by simp only [List.length_cons, e2]; omega, fun i q v e f => ?_⟩
        cases i with
        | zero => cases e; cases f; exact ⟨k, rfl, kV_is h1⟩
        | succ i => exact e3 i q v e f
  obtain ⟨rs, e1, e2, e3⟩ := all ks xs its its2 rv rv2
  have PH : PairsHave (mixKind X.prog X.w) (min its.toArray.size its2.toArray.size) (fun i k v => its.toArray[i]? = some k ∧ its2.toArray[i]? = some v) rs :=
    ⟨by simpa using e2, fun i k v q => e3 i k v (by simpa using q.1) (by simpa using q.2)⟩
  refine _root_.PySem.call_dict_pairs (s := { st1 with heap := h' }) P (J1.ok.hd hcalm) ⟨c1, ⟨_, _, c3⟩, c2, ⟨⟨_, c4, rfl, rfl⟩, B1.keeps _ _ p1.isList kp⟩, ⟨⟨_, c5, rfl, rfl⟩, B2.keeps _ _ p2 kp⟩⟩ PH (by have := n1; have := n2; simp only [List.size_toArray]; omega) fun h2 tk isd kp2 => ?_
  replace isd : h2.DictOf (mixKind X.prog X.w) h'.objs.size (merged [] rs) := isd
  have low : st1.heap.objs.size ≤ h'.objs.size := by rw [size]; exact Nat.le_add_right _ _
  have big : sysModules < h'.objs.size := Nat.lt_of_lt_of_le J1.big low
  have ne : (h'.objs.size == sysModules) = false := beq_eq_false_iff_ne.mpr (Nat.ne_of_gt big)
  have few : (mergeK [] (ks.zip xs)).length ≤ sizeLine := by
    refine Nat.le_trans (length_mergeK _ []) ?_
    rw [List.length_nil, Nat.zero_add, List.length_zip]
    omega
  refine ⟨.ref h'.objs.size, upd H1 h'.objs.size (.dK (mergeK [] (ks.zip xs))), J1.laid (t' := tk) (fun c o q => kp2 c o (fun hm => ?_) (kp c o q)) low (show ObjOk X.prog X.w _ _ _ (.dK (mergeK [] (ks.zip xs))) from ⟨few, ne, merged [] rs, KV.merge e1 .nil, isd⟩), rfl, now _ (J1.hok.fresh low)⟩
  have cl := Heap.lt_size q
  have either : c = st1.heap.objs.size + 4 ∨ c = st1.heap.objs.size + 3 ∨ c = st1.heap.objs.size ∨ c = st1.heap.objs.size + 1 := by simpa using hm
  rcases either with y | y | y | y <;> rw [y] at cl
  · exact absurd cl (Nat.not_lt.mpr (Nat.le_add_right _ _))
  · exact absurd cl (Nat.not_lt.mpr (Nat.le_add_right _ _))
  · exact absurd cl (Nat.lt_irrefl _)
  · exact absurd cl (Nat.not_lt.mpr (Nat.le_add_right _ _))
/-! ### dict(zip(xs, ys)), xs and ys tuples -/
section
open Sem (wp)
variable {prog : Program} {w : World}
/-- the zip of the list l and the tuple t, begun (tuples) -/
def ZipTT (h : Heap) (z TI TO i1 i2 l t : Addr) (xs ys : Array Value) (n : Nat) : Prop := IsTupOf2 h TI (.ref i1) (.ref i2) ∧ (h.IsTupleIter i1 l n ∧ h.IsTuple l xs) ∧ (h.IsTupleIter i2 t n ∧ h.IsTuple t ys)
theorem ZipTT.keep {h h' : Heap} {z TI TO i1 i2 l t : Addr} {xs ys : Array Value} {n : Nat} (q : ZipTT h z TI TO i1 i2 l t xs ys n) (k : ∀ b, b = TI ∨ b = i1 ∨ b = i2 ∨ b = l ∨ b = t → ∀ o, h.get? b = some o → h'.get? b = some o) : ZipTT h' z TI TO i1 i2 l t xs ys n :=
  ⟨k _ (.inl rfl) _ q.1, ⟨q.2.1.1.at fun o e => k _ (.inr (.inl rfl)) o e, q.2.1.2.at fun o e => k _ (.inr (.inr (.inr (.inl rfl)))) o e⟩, ⟨q.2.2.1.at fun o e => k _ (.inr (.inr (.inl rfl))) o e, q.2.2.2.at fun o e => k _ (.inr (.inr (.inr (.inr rfl)))) o e⟩⟩
theorem pairs_TT (z TI TO i1 i2 l t : Addr) (S : ZipSep2 z TI TO i1 i2 [i1, l] [i2, t]) (hl : l ≠ i1) (ht : t ≠ i2) (xs ys : Array Value) :
    PairArg prog w "zip" z [z, TI, TO, i1, i2, l, t] [z, TO, i1, i2] (min xs.size ys.size) (fun i k v => xs[i]? = some k ∧ ys[i]? = some v)
      (fun h => IsZip h z TI TO .none ∧ (∃ a b, IsTupOf2 h TO a b) ∧ ZipTT h z TI TO i1 i2 l t xs ys 0) where
  type := fun s ok => ⟨_, ok.1, rfl⟩
  notDict := by decide
  keep := fun h h' ok k => by
    obtain ⟨a1, ⟨a, b, a2⟩, a3⟩ := ok
    exact ⟨k _ _ a1, ⟨a, b, k _ _ a2⟩, a3.keep fun b _ o e => k b o e⟩
  there := fun h ok b hb => by
    obtain ⟨a1, ⟨a, c, a2⟩, a3, ⟨⟨o1, e1, _⟩, ⟨o2, e2, _⟩⟩, ⟨⟨o3, e3, _⟩, ⟨o4, e4, _⟩⟩⟩ := ok
    have either : b = z ∨ b = TI ∨ b = TO ∨ b = i1 ∨ b = i2 ∨ b = l ∨ b = t := by simpa using hb
    rcases either with q | q | q | q | q | q | q <;> subst q
    · exact ⟨_, a1⟩
    · exact ⟨_, a3⟩
    · exact ⟨_, a2⟩
    · exact ⟨_, e1⟩
    · exact ⟨_, e3⟩
    · exact ⟨_, e2⟩
    · exact ⟨_, e4⟩
  sub := fun b hb => by
    have either : b = z ∨ b = TO ∨ b = i1 ∨ b = i2 := by simpa using hb
    rcases either with q | q | q | q <;> subst q <;> simp
  noKeys := fun A s Q E hA ok now => getAttrOr_miss_zip ok.1 rfl rfl rfl zip_no_keys (by decide +kernel) hA now
  iter := fun A s d Q E hA ok dlt dfar now => by
    obtain ⟨a1, ⟨a, b, a2⟩, a3⟩ := ok
    have far : d ≠ z ∧ d ≠ TI ∧ d ≠ TO ∧ d ≠ i1 ∧ d ≠ i2 ∧ d ≠ l ∧ d ≠ t := by simpa using dfar
    obtain ⟨d1, d2, d3, d4, d5, d6, d7⟩ := far
    have D1 := Draws.tuple (prog := prog) (w := w) (A := A.in1) hA i1 l hl xs
    have D2 := Draws.tuple (prog := prog) (w := w) (A := A.in1) hA i2 t ht ys
    refine wpAny_pyIter_zip a1 (now z [z, TO, i1, i2] (fun n h => ZipTT h z TI TO i1 i2 l t xs ys n ∧ ((IsZip h z TI TO .none ∧ ∃ a b, IsTupOf2 h TO a b) ∨ ∃ T f oT, IsZipHeld h z TI TO T f ∧ h.get? T = some oT ∧ T ≠ z ∧ T ≠ i1 ∧ T ≠ i2 ∧ T ≠ d)) s.heap s.toks ?_ ⟨a3, .inl ⟨a1, a, b, a2⟩⟩ (fun _ _ e => e) fun b hb => .inl hb)
    refine ⟨fun hm => ?_, fun n h h' q k => ?_, fun n s1 Q1 E1 hn q dl now1 => ?_, fun s1 Q1 E1 q now1 => ?_⟩
    · have either : d = z ∨ d = TO ∨ d = i1 ∨ d = i2 := by simpa using hm
      rcases either with q | q | q | q
      · exact d1 q
      · exact d3 q
      · exact d4 q
      · exact d5 q
    · refine ⟨q.1.keep fun b hb o e => k b o (fun y => ?_) e, ?_⟩
      · rcases hb with q | q | q | q | q <;> rw [q] at y
        · exact d2 y.symm
        · exact d4 y.symm
        · exact d5 y.symm
        · exact d6 y.symm
        · exact d7 y.symm
      · rcases q.2 with ⟨q1, a, b, q2⟩ | ⟨T, f, oT, q1, q2, r1, r2, r3, r4⟩
        · exact .inl ⟨k _ _ (Ne.symm d1) q1, a, b, k _ _ (Ne.symm d3) q2⟩
        · exact .inr ⟨T, f, oT, k _ _ (Ne.symm d1) q1, k _ _ r4 q2, r1, r2, r3, r4⟩
    · obtain ⟨⟨both, at1, at2⟩, q⟩ := q
      have m1 : n < xs.size := Nat.lt_of_lt_of_le hn (Nat.min_le_left ..)
      have m2 : n < ys.size := Nat.lt_of_lt_of_le hn (Nat.min_le_right ..)
      have lt : ∀ {c o}, s1.heap.get? c = some o → s1.heap.objs.size ≠ c := fun e => Nat.ne_of_gt (Heap.lt_size e)
      have j1 : s1.heap.objs.size ≠ i1 := let ⟨_, e⟩ := D1.live _ _ at1; lt e
      have j2 : s1.heap.objs.size ≠ i2 := let ⟨_, e⟩ := D2.live _ _ at2; lt e
      rcases q with ⟨q1, a, b, q2⟩ | ⟨T, f, oT, q1, q2, r1, r2, r3, r4⟩
      · refine wpAny_pyNext_zipD2_item S D1 D2 q1 both q2 at1 at2 m1 m2 fun x y h' tk px py b1 b2 b3 b4 b5 b6 k => ?_
        exact now1 s1.heap.objs.size x y h' tk ⟨px, py⟩ (.inl ⟨_, b5, rfl, _, rfl⟩) ⟨⟨k _ _ S.TIz S.TITO S.TIi1 S.TIi2 both, b3, b4⟩, .inr ⟨_, false, _, b1, b5, lt q1, j1, j2, Nat.ne_of_gt dl⟩⟩
          fun c o hc e => k c o (fun y => hc (by simp [y])) (fun y => hc (by simp [y])) (fun y => hc (by simp [y])) (fun y => hc (by simp [y])) e
      · refine out_pyNext S D1 D2 q1 q2 both at1 at2 m1 m2 fun x y h' tk px py b1 b3 b4 b5 k => ?_
        exact now1 s1.heap.objs.size x y h' tk ⟨px, py⟩ (.inl ⟨_, b5, rfl, _, rfl⟩) ⟨⟨k _ _ S.TIz S.TIi1 S.TIi2 both, b3, b4⟩, .inr ⟨T, true, oT, b1, k _ _ r1 r2 r3 q2, r1, r2, r3, r4⟩⟩
          fun c o hc e => k c o (fun y => hc (by simp [y])) (fun y => hc (by simp [y])) (fun y => hc (by simp [y])) e
    · obtain ⟨⟨both, at1, at2⟩, q⟩ := q
      rcases q with ⟨q1, a, b, q2⟩ | ⟨T, f, oT, q1, q2, r1, r2, r3, r4⟩
      · exact wpAny_pyNext_zipD2_end S D1 D2 q1 both q2 at1 at2 (Nat.min_le_left ..) (Nat.min_le_right ..) (by omega) fun h' tk k => now1 h' tk fun c o hc e => k c o (fun y => hc (by simp [y])) (fun y => hc (by simp [y])) (fun y => hc (by simp [y])) (fun y => hc (by simp [y])) e
      · exact out_pyNext_end S D1 D2 q1 q2 both at1 at2 (Nat.min_le_left ..) (Nat.min_le_right ..) (by omega) fun h' tk k => now1 h' tk fun c o hc e => k c o (fun y => hc (by simp [y])) (fun y => hc (by simp [y])) (fun y => hc (by simp [y])) e
end
/-- dict(zip(e1, e2)): from tuples -/
def eDictZipTT (K : PySem.W.Frag) (ta : TA) : TE := fun σ H Q => ta σ H fun vs H1 => ∃ (a b : Addr) (ks : List Key) (xs : List V), vs = [.ref a, .ref b] ∧ SqT K H1 a (ks.map kV) ∧ SqT K H1 b xs ∧ ∀ p, H1 p = none → Q (.ref p) (upd H1 p (.dK (mergeK [] (ks.zip xs))))
theorem pe_dictZipTT (K : PySem.W.Frag) {X : Cx} (hk : X.K = K) (hcalm : X.calm = true) {e e2 : Expr} {ta : TA} {p p2 pos pos2 : Pos} (hd : Gl X "dict") (md : X.mg "dict" = none) (hg : Gl X "zip") (hm : X.mg "zip" = none) (ha : PA X [e, e2] ta)
    (hs : starEach [e, e2] X.env = (false, eval e X.env) :: starEach [e2] X.env := by rfl) (hpl : (backTo pos2 (starEach [e2] X.env)).any (·.1) = false := by rfl)
    (hs1 : starEach [.Call (.Name "zip" p2) [e, e2] [] pos2] X.env = [(false, eval (.Call (.Name "zip" p2) [e, e2] [] pos2) X.env)] := by rfl) :
    PE X (.Call (.Name "dict" p) [.Call (.Name "zip" p2) [e, e2] [] pos2] [] pos) (eDictZipTT K ta) := by
  subst hk
  refine ⟨fun pins st σ H Q J asked => ?_⟩
  refine Call_ (ld_blt J hd md boot_dict (PyProof.Rows.callWith_type1 (args_cons (Call_ (ld_blt J hg hm boot_zip (PyProof.Rows.callWith_type1 (thn (ha.run pos2 pins st σ H _ J asked) fun us st1 ⟨vs, H1, J1, rel, now⟩ => ?_) hs hpl))) hs1) hs1 rfl))
  obtain ⟨a, b, ks, xs, ex, hq1, hq2, now⟩ := now
  subst ex
  cases rel with
  | cons r1 rel =>
  cases rel with
  | cons r2 rel =>
  cases rel
  cases r1
  cases r2
  obtain ⟨its, rv, p1, z1⟩ := J1.tuple hq1
  obtain ⟨its2, rv2, p2, z2⟩ := J1.tuple hq2
  have al : a < st1.heap.objs.size := by obtain ⟨o, ho, _⟩ := p1; exact Heap.lt_size ho
  have bl : b < st1.heap.objs.size := by obtain ⟨o, ho, _⟩ := p2; exact Heap.lt_size ho
  have B1 := begins_tuple a its.toArray
  have B2 := begins_tuple b its2.toArray
  refine zip_begins2 B1 B2 p1 p2 fun h' c1 c2 c3 c4 c5 size kp => args_nil ?_
  have S := zip_sep2 (N := st1.heap.objs.size) (fp1 := [a]) (fp2 := [b]) (by simpa using al) (by simpa using bl)
  have P := pairs_TT (prog := X.prog) (w := X.w) _ _ _ _ _ a b S (Nat.ne_of_lt al) (Nat.ne_of_lt (Nat.lt_succ_of_lt bl)) its.toArray its2.toArray
  have n1 := rv.length
  have n2 := rv2.length
  rw [List.length_map] at n1 z1
  have all : ∀ (ks : List Key) (xs : List V) (us vs : List Value), Vals (ks.map kV) us → Vals xs vs → ∃ rs : List (Key × Value), KV (ks.zip xs) rs ∧ rs.length = min us.length vs.length ∧ ∀ (i : Nat) (k v : Value), us[i]? = some k → vs[i]? = some v → ∃ q, rs[i]? = some (q, v) ∧ (mixKind X.prog X.w).is q k = true := by
    intro ks
    induction ks with
    | nil => intro xs us vs r1 r2; cases r1; exact ⟨[], .nil, by simp, fun i k v e => nomatch e⟩
    | cons k ks ih =>
      intro xs us vs r1 r2
      cases r1 with
      | cons h1 t1 =>
      cases r2 with
      | nil => exact ⟨[], .nil, by simp, fun i k v _ e => nomatch e⟩
      | cons h2 t2 =>
        obtain ⟨rs, e1, e2, e3⟩ := ih _ _ _ t1 t2
        refine ⟨(k, _) :: rs, .cons ⟨rfl, h2⟩ e1, by simp only [List.length_cons, e2]; omega, fun i q v e f => ?_⟩
        cases i with
        | zero => cases e; cases f; exact ⟨k, rfl, kV_is h1⟩
        | succ i => exact e3 i q v e f
  obtain ⟨rs, e1, e2, e3⟩ := all ks xs its its2 rv rv2
  have PH : PairsHave (mixKind X.prog X.w) (min its.toArray.size its2.toArray.size) (fun i k v => its.toArray[i]? = some k ∧ its2.toArray[i]? = some v) rs :=
    ⟨by simpa using e2, fun i k v q => e3 i k v (by simpa using q.1) (by simpa using q.2)⟩
  refine _root_.PySem.call_dict_pairs (s := { st1 with heap := h' }) P (J1.ok.hd hcalm) ⟨c1, ⟨_, _, c3⟩, c2, ⟨⟨_, c4, rfl, rfl⟩, B1.keeps _ _ p1 kp⟩, ⟨⟨_, c5, rfl, rfl⟩, B2.keeps _ _ p2 kp⟩⟩ PH (by have := n1; have := n2; simp only [List.size_toArray]; omega) fun h2 tk isd kp2 => ?_
  replace isd : h2.DictOf (mixKind X.prog X.w) h'.objs.size (merged [] rs) := isd
  have low : st1.heap.objs.size ≤ h'.objs.size := by rw [size]; exact Nat.le_add_right _ _
  have big : sysModules < h'.objs.size := Nat.lt_of_lt_of_le J1.big low
  have ne : (h'.objs.size == sysModules) = false := beq_eq_false_iff_ne.mpr (Nat.ne_of_gt big)
  have few : (mergeK [] (ks.zip xs)).length ≤ sizeLine := by
    refine Nat.le_trans (length_mergeK _ []) ?_
    rw [List.length_nil, Nat.zero_add, List.length_zip]
    omega
  refine ⟨.ref h'.objs.size, upd H1 h'.objs.size (.dK (mergeK [] (ks.zip xs))), J1.laid (t' := tk) (fun c o q => kp2 c o (fun hm => ?_) (kp c o q)) low (show ObjOk X.prog X.w _ _ _ (.dK (mergeK [] (ks.zip xs))) from ⟨few, ne, merged [] rs, KV.merge e1 .nil, isd⟩), rfl, now _ (J1.hok.fresh low)⟩
  have cl := Heap.lt_size q
  have either : c = st1.heap.objs.size + 4 ∨ c = st1.heap.objs.size + 3 ∨ c = st1.heap.objs.size ∨ c = st1.heap.objs.size + 1 := by simpa using hm
  rcases either with y | y | y | y <;> rw [y] at cl
  · exact absurd cl (Nat.not_lt.mpr (Nat.le_add_right _ _))
  · exact absurd cl (Nat.not_lt.mpr (Nat.le_add_right _ _))
  · exact absurd cl (Nat.lt_irrefl _)
  · exact absurd cl (Nat.not_lt.mpr (Nat.le_add_right _ _))
theorem one_at {K : PySem.W.Frag} {a : Addr} {od : Option Addr} {z : Str} {t1 : Tok} {n : Nat} {sl : Array (Option Value)} (l : K.lookup a = some ⟨.type "tuple", od, .seq #[.str z t1] n, sl⟩) (H : Hp) : SqT K H a [.str z] :=
  .inr ⟨_, _, _, l, rfl, rfl, (show 1 ≤ sizeLine by decide), .cons ⟨_, rfl⟩ .nil⟩
/-! ### dicts whose keys are tuples of tuples -/
mutual
/-- a value that is such a key -/
inductive NkV (H : Hp) : NestedKey → V → Prop
  | num (i : Int) : NkV H (.num i) (.int i)
  | text (x : Str) : NkV H (.text x) (.str x)
  | tup {a : Addr} {xs : List V} {ks : List NestedKey} : H a = some (.tup xs) → NkL H ks xs → NkV H (.tup ks) (.ref a)
inductive NkL (H : Hp) : List NestedKey → List V → Prop
  | nil : NkL H [] []
  | cons {k : NestedKey} {x : V} {ks : List NestedKey} {xs : List V} : NkV H k x → NkL H ks xs → NkL H (k :: ks) (x :: xs)
end
section
variable {P : Program} {w : World} {H H' : Hp} {h : Heap}
mutual
theorem NkV.keep (kp : TK H H') : ∀ {k : NestedKey} {x : V}, NkV H k x → NkV H' k x
  | _, _, .num i => .num i
  | _, _, .text x => .text x
  | _, _, .tup e l => .tup (kp _ _ e) (NkL.keep kp l)
theorem NkL.keep (kp : TK H H') : ∀ {ks : List NestedKey} {xs : List V}, NkL H ks xs → NkL H' ks xs
  | _, _, .nil => .nil
  | _, _, .cons a b => .cons (NkV.keep kp a) (NkL.keep kp b)
end
mutual
theorem NkV.is (ok : HOk P w H h) : ∀ {k : NestedKey} {x : V} {u : Value}, NkV H k x → RelV x u → NestedIs h k u
  | _, _, u, .num i, r => by
    obtain ⟨t, rfl⟩ := (show ∃ t, u = Value.int i t from r)
    exact .int i t
  | _, _, u, .text x, r => by
    obtain ⟨t, rfl⟩ := (show ∃ t, u = Value.str x t from r)
    exact .text x t
  | _, _, u, @NkV.tup _ a xs ks e l, r => by
    obtain rfl : u = Value.ref a := r
    obtain ⟨_, its, rv, o, e1, e2, n, e3⟩ := (show ObjOk P w H h a (.tup xs) from ok a _ e)
    exact .tup e1 e2 e3 (by simpa using NkL.is ok l rv)
theorem NkL.is (ok : HOk P w H h) : ∀ {ks : List NestedKey} {xs : List V} {us : List Value}, NkL H ks xs → Vals xs us → NestedAll h ks us
  | _, _, _, .nil, .nil => .nil
  | _, _, _, .cons a b, .cons r t => .cons (NkV.is ok a r) (NkL.is ok b t)
end
/-- what stands in the heap for a dict with the entries kas: key, the key's address, number -/
def nkRow (k : NestedKey × Addr × Int) (x : NestedKey × Addr × Value) : Prop := x.1 = k.1 ∧ x.2.1 = k.2.1 ∧ ∃ t, x.2.2 = .int k.2.2 t
def nkObj (P : Program) (w : World) (d : Addr) (kas : List (NestedKey × Addr × Int)) (h : Heap) : Prop :=
  (d == sysModules) = false ∧ kas.length ≤ sizeLine ∧ ∃ xs : List (NestedKey × Addr × Value), All2 nkRow kas xs ∧ ∃ o es ep, h.get? d = some o ∧ o.ExactDict ∧ o.data = .dict es ep ∧ es.toList = xs.map (entryOfKey (nestedKind P w)) ∧ (xs.map (·.1)).Nodup
def nkO (P : Program) (w : World) (d : Addr) (kas : List (NestedKey × Addr × Int)) : HO := .ext (nkObj P w d kas)
structure NkD (P : Program) (w : World) (H : Hp) (d : Addr) (kas : List (NestedKey × Addr × Int)) : Prop where
  at_ : H d = some (nkO P w d kas)
  key : ∀ q ∈ kas, NkV H q.1 (.ref q.2.1) ∧ q.1.depth ≤ 8
theorem nkO_tup {d : Addr} {kas : List (NestedKey × Addr × Int)} {xs : List V} : nkO P w d kas ≠ .tup xs := fun z => by
  have z' : HO.ext _ = HO.tup xs := z
  cases z'
theorem nkObj_ok {d : Addr} {kas : List (NestedKey × Addr × Int)} (q : nkObj P w d kas h) : ObjOk P w H h d (nkO P w d kas) := by
  have q0 := q
  obtain ⟨_, _, xs, _, o, es, ep, e, _⟩ := q0
  refine ⟨q, ⟨o, e⟩, fun h1 h2 q1 k => ?_⟩
  obtain ⟨a1, a2, xs, al, o, es, ep, e, r⟩ := q1
  exact ⟨a1, a2, xs, al, o, es, ep, k _ e, r⟩
theorem nk_names : ∀ {kas : List (NestedKey × Addr × Int)} {xs : List (NestedKey × Addr × Value)}, All2 nkRow kas xs → xs.map (·.1) = kas.map (·.1)
  | _, _, .nil => rfl
  | _, _, .cons r t => by rw [List.map_cons, List.map_cons, r.1, nk_names t]
/-- the number at a key -/
def nkAt (kas : List (NestedKey × Addr × Int)) (k : NestedKey) : Option Int := (kas.find? fun q => decide (q.1 = k)).map fun q => q.2.2
theorem nk_at {k : NestedKey} : ∀ {kas : List (NestedKey × Addr × Int)} {xs : List (NestedKey × Addr × Value)}, All2 nkRow kas xs → (nkAt kas k = none ∧ atKey xs k = none) ∨ ∃ n a t, nkAt kas k = some n ∧ atKey xs k = some (a, .int n t)
  | _, _, .nil => .inl ⟨rfl, rfl⟩
  | _, _, @All2.cons _ _ _ c x cs xs r t => by
    unfold nkAt atKey
    rw [List.find?_cons, List.find?_cons, r.1]
    by_cases e : c.1 = k
    · rw [decide_eq_true e]
      obtain ⟨tt, ht⟩ := r.2.2
      refine .inr ⟨c.2.2, x.2.1, tt, rfl, ?_⟩
      show some x.2 = _
      rw [← ht]
    · rw [decide_eq_false e]
      exact nk_at t
theorem NkD.get {d : Addr} {kas : List (NestedKey × Addr × Int)} (D : NkD P w H d kas) (ok : HOk P w H h) : (d == sysModules) = false ∧ kas.length ≤ sizeLine ∧ ∃ xs, All2 nkRow kas xs ∧ h.DictOfH (nestedKind P w) d xs := by
  obtain ⟨⟨a1, a2, xs, al, o, es, ep, e1, e2, e3, e4, e5⟩, _⟩ := (show ObjOk P w H h d (nkO P w d kas) from ok d _ D.at_)
  refine ⟨a1, a2, xs, al, o, es, ep, e1, e2, e3, e4, fun x hx => ?_, e5⟩
  have : ∀ {kas : List (NestedKey × Addr × Int)} {xs : List (NestedKey × Addr × Value)}, All2 nkRow kas xs → ∀ x ∈ xs, ∃ q ∈ kas, x.1 = q.1 ∧ x.2.1 = q.2.1 := by
    intro kas xs al
    induction al with
    | nil => intro x hx; cases hx
    | cons r t ih =>
      intro x hx
      rcases List.mem_cons.mp hx with rfl | hx
      · exact ⟨_, List.mem_cons_self .., r.1, r.2.1⟩
      · obtain ⟨q, hq, z⟩ := ih x hx
        exact ⟨q, List.mem_cons_of_mem _ hq, z⟩
  obtain ⟨q, hq, z1, z2⟩ := this al x hx
  obtain ⟨k1, k2⟩ := D.key q hq
  rw [z1, z2]
  exact ⟨NkV.is ok k1 rfl, k2⟩
theorem NkD.go {d : Addr} {kas : List (NestedKey × Addr × Int)} (D : NkD P w H d kas) (e : H' d = H d) (kp : TK H H') : NkD P w H' d kas := ⟨e.trans D.at_, fun q hq => ⟨(D.key q hq).1.keep kp, (D.key q hq).2⟩⟩
theorem NkD.same {d : Addr} {kas : List (NestedKey × Addr × Int)} (D : NkD P w H d kas) (s : Same H H') : NkD P w H' d kas := D.go ((s _ _ D.at_).trans D.at_.symm) (TK.same s)
end
section
variable {X : Cx} {o i e : Expr} {pos pos' : Pos} {td ty tv : TE}
theorem nk_room {X : Cx} (hu : X.A.units + 65 < cLine) : (nestedKind X.prog X.w).room X.A.in1 := by
  show X.A.in1.units + 8 < cLine
  show X.A.units + 1 + 8 < cLine
  omega
/-- {}, for such keys -/
def tNkNew (P : Program) (w : World) : TE := fun _ H Q => ∀ p, H p = none → NkD P w (upd H p (nkO P w p [])) p [] → Q (.ref p) (upd H p (nkO P w p []))
theorem pe_nknew (P : Program) (w : World) (h1 : X.prog = P) (h2 : X.w = w) : PE X (.Dict [] [] pos) (tNkNew P w) := by
  subst h1 h2
  refine ⟨fun pins s σ H Q I h => ?_⟩
  have hb := I.big
  have ob : nkObj X.prog X.w s.heap.objs.size [] (s.heap.push { cls := .type "dict", data := .dict #[] }) := ⟨beq_eq_false_iff_ne.mpr (Ne.symm (Nat.ne_of_lt hb)), Nat.zero_le _, [], .nil, _, #[], 0, Heap.get?_push_size _ rfl, ⟨rfl, rfl, rfl⟩, rfl, rfl, List.nodup_nil⟩
  exact wpAny_Dict_empty ⟨.ref s.heap.objs.size, _, I.laid (a := s.heap.objs.size) (o := nkO X.prog X.w s.heap.objs.size []) (t' := s.toks) (fun _ _ q => Heap.get?_push_of_some _ q) (Nat.le_refl _) (nkObj_ok ob), rfl, h _ (I.hok.fresh (Nat.le_refl _)) ⟨upd_same, fun q hq => by cases hq⟩⟩
/-- y not in d -/
def tNkOut (P : Program) (w : World) (ty td : TE) : TE := fun σ H Q => ty σ H fun y H1 => td σ H1 fun x H2 => ∃ (d b : Addr) (kas : List (NestedKey × Addr × Int)) (k : NestedKey), x = .ref d ∧ y = .ref b ∧ NkD P w H2 d kas ∧ NkV H2 k (.ref b) ∧ k.depth ≤ 8 ∧ Q (.bl (!(nkAt kas k).isSome)) H2
theorem pc_nkout (P : Program) (w : World) (h1 : X.prog = P) (h2 : X.w = w) (hu : X.A.units + 65 < cLine) (hi : PE X i ty) (ho : PE X o td) : PC X .NotIn i o (tNkOut P w ty td) := by
  subst h1 h2
  refine ⟨fun pins s σ H Q I h => ?_⟩
  refine thn (hi.run pins s σ H _ I h) fun iv s1 ⟨y, H1, I1, ry, q1⟩ => thn (ho.run pins s1 σ H1 _ I1 q1) fun u s2 ⟨x, H2, I2, rx, d, b, kas, k, ex, ey, D, kv, dp, q2⟩ => ?_
  subst ex ey
  obtain rfl : u = Value.ref d := rx
  obtain rfl : iv = Value.ref b := ry
  obtain ⟨a1, a2, xs, al, dd⟩ := D.get I2.hok
  refine wpAny_notIn_heap (nk_room hu) ⟨NkV.is I2.hok kv rfl, dp⟩ a1 dd ⟨.bl (!(nkAt kas k).isSome), H2, I2.tok _, ?_, q2⟩
  rcases nk_at (k := k) al with ⟨z1, z2⟩ | ⟨n, a, t, z1, z2⟩ <;> rw [z1, z2] <;> rfl
/-- d[y] -/
def tNkGet (P : Program) (w : World) (td ty : TE) : TE := fun σ H Q => td σ H fun x H1 => ty σ H1 fun y H2 => ∃ (d b : Addr) (kas : List (NestedKey × Addr × Int)) (k : NestedKey) (n : Int), x = .ref d ∧ y = .ref b ∧ NkD P w H2 d kas ∧ NkV H2 k (.ref b) ∧ k.depth ≤ 8 ∧ nkAt kas k = some n ∧ Q (.int n) H2
theorem pe_nkget (P : Program) (w : World) (h1 : X.prog = P) (h2 : X.w = w) (hu : X.A.units + 65 < cLine) (ho : PE X o td) (hi : PE X i ty) (hs : NoSl i) : PE X (.Subscript o i pos) (tNkGet P w td ty) := by
  subst h1 h2
  refine ⟨fun pins s σ H Q I h => ?_⟩
  refine subD_of PySem.F.slot_dict_getitem.lookup hs (thn (ho.run pins s σ H _ I h) fun u s1 ⟨x, H1, I1, rx, q1⟩ => thn (hi.run pins s1 σ H1 _ I1 q1) fun iv s2 ⟨y, H2, I2, ry, d, b, kas, k, n, ex, ey, D, kv, dp, hk, q2⟩ => ?_)
  subst ex ey
  obtain rfl : u = Value.ref d := rx
  obtain rfl : iv = Value.ref b := ry
  obtain ⟨a1, a2, xs, al, dd⟩ := D.get I2.hok
  refine ⟨dd.typeIs, ?_⟩
  rcases nk_at (k := k) al with ⟨z1, z2⟩ | ⟨m, a, t, z1, z2⟩
  · rw [z1] at hk; cases hk
  · rw [z1] at hk
    cases hk
    exact wpAny_getItem_heap (nk_room hu) ⟨NkV.is I2.hok kv rfl, dp⟩ dd z2 ⟨.int n, H2, I2.tok _, ⟨t, rfl⟩, q2⟩
/-- len(d) -/
theorem call_lenNk (P : Program) (w : World) (h1 : X.prog = P) (h2 : X.w = w) : CallR X (.builtin "len") (fun vs H Q => ∃ (d : Addr) (kas : List (NestedKey × Addr × Int)), vs = [.ref d] ∧ NkD P w H d kas ∧ Q (.int (kas.length : Nat)) H) := by
  subst h1 h2
  intro pins s σ H vs us Q I r asked
  obtain ⟨d, kas, rfl, D, q⟩ := asked
  obtain ⟨u, rfl, ru⟩ := vals1 r
  obtain rfl : u = Value.ref d := ru
  obtain ⟨a1, a2, xs, al, dd⟩ := D.get I.hok
  have l := al.length
  refine PySem.call_len_dictH a1 dd (by rw [← l]; rw [sizeLine_eq] at a2; omega) ?_
  exact ⟨.int (kas.length : Nat), H, I.tok _, ⟨_, by rw [l]⟩, q⟩
/-- d[y] = v, y not yet in d -/
def sNkPut (P : Program) (w : World) (td ty tv : TE) : TS := fun D σ H => tv σ H fun v H1 => td σ H1 fun x H2 => ty σ H2 fun y H3 => ∃ (d b : Addr) (kas : List (NestedKey × Addr × Int)) (k : NestedKey) (n : Int), x = .ref d ∧ y = .ref b ∧ v = .int n ∧ NkD P w H3 d kas ∧ NkV H3 k (.ref b) ∧ k.depth ≤ 8 ∧ nkAt kas k = none ∧ kas.length < sizeLine ∧
  (NkD P w (upd H3 d (nkO P w d (kas ++ [(k, b, n)]))) d (kas ++ [(k, b, n)]) → D.nx σ (upd H3 d (nkO P w d (kas ++ [(k, b, n)]))))
theorem ps_nkput {value : Expr} (P : Program) (w : World) (h1 : X.prog = P) (h2 : X.w = w) (hu : X.A.units + 65 < cLine) (ho : PE X o td) (hi : PE X i ty) (hv : PE X value tv) (hs : swapsWith value (some (.Subscript o i pos')) pos.line X.env = pure false) :
    PS X (.Assign [.Subscript o i pos'] value pos) (sNkPut P w td ty tv) := by
  subst h1 h2
  refine ⟨fun pins s σ H D I h => ?_⟩
  refine wpAny_Assign_Subscript (thn (hv.run pins s σ H _ I h) fun r s1 ⟨v, H1, I1, rv, q1⟩ => thn (ho.run pins s1 σ H1 _ I1 q1) fun u s2 ⟨x, H2, I2, rx, q2⟩ => thn (hi.run pins s2 σ H2 _ I2 q2) fun iv s3 ⟨y, H3, I3, ry, d, b, kas, k, n, ex, ey, ev, Dk, kv, dp, hk, hl, q3⟩ => ?_) hs
  subst ex ey ev
  obtain rfl : u = Value.ref d := rx
  obtain rfl : iv = Value.ref b := ry
  obtain ⟨t, rfl⟩ := (show ∃ t, r = Value.int n t from rv)
  obtain ⟨a1, a2, xs, al, dd⟩ := Dk.get I3.hok
  have l := al.length
  have z2 : atKey xs k = none := by
    rcases nk_at (k := k) al with ⟨z1, z2⟩ | ⟨m, a, t, z1, z2⟩
    · exact z2
    · rw [z1] at hk; cases hk
  refine wpAny_setItem_heap (hsz := by rw [← l]; exact a2) (nk_room hu) ⟨NkV.is I3.hok kv rfl, dp⟩ dd fun h' dd' hsb => ?_
  rw [storedH_new z2] at dd'
  obtain ⟨ob, es, ep, g1, g2, g3, g4, g5, g6⟩ := dd'
  have kp : TK H3 (upd H3 d (nkO X.prog X.w d (kas ++ [(k, b, n)]))) := fun a ys e => by
    rw [upd_ne (ne_of e Dk.at_ (fun z => nkO_tup z.symm))]
    exact e
  have new : nkObj X.prog X.w d (kas ++ [(k, b, n)]) h' := ⟨a1, by rw [List.length_append]; exact hl, _, al.snoc ⟨rfl, rfl, t, rfl⟩, ob, es, ep, g1, g2, g3, g4, g6⟩
  refine ⟨σ, _, d_write I3 (by rw [Dk.at_]; exact True.intro) hsb ⟨ob, g1⟩ (nkObj_ok new), q3 ⟨upd_same, fun q hq => ?_⟩⟩
  rcases List.mem_append.mp hq with hq | hq
  · exact ⟨(Dk.key q hq).1.keep kp, (Dk.key q hq).2⟩
  · rw [List.mem_singleton.mp hq]
    exact ⟨kv.keep kp, dp⟩
end
/-! ### numbers from 0 on, slices -/
abbrev nV (n : Nat) : V := .int ((n : Nat) : Int)
theorem cut_drop (xs : List V) (k : Nat) : cutV xs (some ((k : Nat) : Int)) none = xs.drop k := by
  unfold cutV
  rw [HT.sIx_nat, HT.sIx_none]
  rcases Nat.le_total k xs.length with h | h
  · rw [Nat.min_eq_left h, List.take_of_length_le]
    rw [List.length_drop]; exact Nat.le_refl _
  · rw [Nat.min_eq_right h, Nat.sub_self, List.take_zero, List.drop_eq_nil_of_le h]
/-! ### slices and sums of tuples, whatever they are -/
theorem slA_of {K : PySem.W.Frag} {H : Hp} {a : Addr} {xs : List V} {lo hi : Option Int} {Q : VK} (h : H a = some (.tup xs)) (k : ∀ (p : Addr) (H' : Hp), H' p = some (.tup (cutV xs lo hi)) → Same H H' → Q (.ref p) H') : rSlA K (.ref a) lo hi H Q := by
  refine ⟨a, xs, rfl, SqT.of h, fun z => k a H ?_ (Same.refl _), fun _ p np => k p _ upd_same (same_new np)⟩
  unfold cutV
  rw [z.1, z.2, List.drop_zero, Nat.sub_zero, List.take_length]
  exact h
theorem catA_of {K : PySem.W.Frag} {H : Hp} {a b : Addr} {xs ys : List V} {Q : VK} (h : H a = some (.tup xs)) (g : H b = some (.tup ys)) (l : xs.length + ys.length ≤ 1000) (k : ∀ (p : Addr) (H' : Hp), H' p = some (.tup (xs ++ ys)) → Same H H' → Q (.ref p) H') : rCatA K (.ref a) (.ref b) H Q := by
  refine ⟨a, b, xs, ys, rfl, rfl, SqT.of h, SqT.of g, little l, fun e => k b H ?_ (Same.refl _), fun _ e => k a H ?_ (Same.refl _), fun _ _ p np => k p _ upd_same (same_new np)⟩
  · rw [e]; exact g
  · rw [e, List.append_nil]; exact h
theorem cut_take (xs : List V) (k : Nat) : cutV xs none (some ((k : Nat) : Int)) = xs.take k := by
  unfold cutV
  rw [HT.sIx_nat, HT.sIx_none, List.drop_zero, Nat.sub_zero]
  by_cases h : k ≤ xs.length
  · rw [Nat.min_eq_left h]
  · rw [Nat.min_eq_right (by omega), List.take_length, List.take_of_length_le (by omega)]
theorem cut_part {xs : List V} {lo hi : Option Int} : ∀ x ∈ cutV xs lo hi, x ∈ xs := fun x hx => List.mem_of_mem_drop (List.mem_of_mem_take hx)
theorem cut_nats {ns : List Nat} {lo hi : Option Int} : ∃ ms : List Nat, cutV (ns.map nV) lo hi = ms.map nV ∧ ms.length ≤ ns.length ∧ ∀ x ∈ ms, x ∈ ns := by
  refine ⟨(ns.drop (HT.sIx (ns.map nV).length 0 lo)).take (HT.sIx (ns.map nV).length (ns.map nV).length hi - HT.sIx (ns.map nV).length 0 lo), ?_, ?_, fun x hx => List.mem_of_mem_drop (List.mem_of_mem_take hx)⟩
  · unfold cutV
    rw [List.map_take, List.map_drop]
  · rw [List.length_take, List.length_drop]
    omega
section
variable {P : Program} {w : World} {K : PySem.W.Frag} {mg : Str → Option Value} {base : Heap}
def sp_law_flow (K : PySem.W.Frag) : Sp := fun vs H Q _ => ∃ (a : Addr) (ns : List Int), vs = [.ref a] ∧ SqL K H a (ns.map V.int) ∧ ∀ (f c : Addr) (H' : Hp), H f = none → H c = none → Flow H' f c → Same H H' → Q (.ref f) H'
theorem ok_law_flow {f : Addr} {fd : FuncData} (F : Fun K "_law_flow" "_law_flow" s_law_flow f fd) {C : Addr} (T : Top w K mg C) : FnOk P w K mg base CX0 1 f fd ["_law_script"] (sp_law_flow K) := by
  refine F.ok sc_law_flow (fun vs H Q E h => ?_) (fun cdv A outer s H vs Q E hr h => ?_)
  · obtain ⟨a, ns, rfl, _⟩ := h
    rfl
  obtain ⟨a, ns, rfl, hS, q⟩ := h
  refine ⟨_, (pss_one (ps_ret (pe_lst (pa_cons (pe_callTy (call_list_ofK K rfl) (by rfl) T.m_list (by decide +kernel) (pa_cons (pv 0) pa_nil)) (pa_cons pe_int (pa_cons pe_int (pa_cons pe_int (pa_cons pe_int pa_nil)))))))), ?_⟩
  refine ⟨_, rfl, a, _, rfl, .inl hS, fun c hc => ?_⟩
  refine ⟨(by show 5 ≤ sizeLine; decide), fun f hf => ?_⟩
  have nf : H f = none := by
    cases e : H f with
    | none => rfl
    | some o => rw [same_new hc _ _ e] at hf; cases hf
  have s1 := same_new (o := .lst (ns.map V.int)) hc
  refine q f c _ nf hc ⟨ns, 0, 0, 1, 0, upd_same, same_new hf _ _ upd_same, by decide, by decide, by decide, by decide⟩ fun b o e => same_new hf _ _ (s1 _ _ e)
def sp_law_pick (K : PySem.W.Frag) : Sp := fun vs H Q _ => ∃ (f c : Addr) (m : Int), vs = [.ref f, .int m] ∧ 0 < m ∧ m.natAbs.log2 < 9000 ∧ Flow H f c ∧
  ∀ (v : Int) (H' : Hp), 0 ≤ v → v < m → Flow H' f c → But f H H' → Q (.int v) H'
theorem ok_law_pick {f : Addr} {fd : FuncData} (F : Fun K "_law_pick" "_law_pick" s_law_pick f fd) {C : Addr} (T : Top w K mg C) : FnOk P w K mg base CX0 1 f fd ["_law_flow_here", "_law_many"] (sp_law_pick K) := by
  refine F.ok sc_law_pick (fun vs H Q E h => ?_) (fun cdv A outer s H vs Q E hr h => ?_)
  · obtain ⟨f, c, m, rfl, _⟩ := h
    rfl
  obtain ⟨f, c, m, rfl, m0, m9, hF, q⟩ := h
  obtain ⟨ns, i, p, z, r, hf, hc, hi, hp, hz, hz2⟩ := hF
  have ncf : c ≠ f := ne_of hc hf (by intro e; injection e with e; cases ns with | nil => cases e | cons x l => cases e)
  let R1 : TS := fun D' σ' H' => D'.rt = Q ∧ ∃ x2 : Option V, σ' = [some (.ref f), some (.int m), x2, none] ∧ (∃ (i p z r : Int), H' f = some (.lst [.ref c, .int i, .int p, .int z, .int r]) ∧ H' c = some (.lst (ns.map V.int)) ∧ 0 ≤ i ∧ 0 ≤ p ∧ 0 ≤ z ∧ z < 2147483647) ∧ But f H H'
  refine ⟨_, (pss_cons (ps_if (PW.pt (pw_and (pt_cmpR op_eq (pe_ix (ix_listK K rfl) (pv 0) pe_int (fun _ _ => rfl)) pe_int (nomark _)) (pw_and1 (pt_cmpR op_lt (pe_ix (ix_listK K rfl) (pv 0) pe_int (fun _ _ => rfl)) (pe_callB (call_len_seqK K rfl) (by rfl) T.m_len (by decide +kernel) (pa_cons (pe_ix (ix_listK K rfl) (pv 0) pe_int (fun _ _ => rfl)) pa_nil)) (nomark _))))) (pss_cons (ps_set (i := 2) sc_law_pick.nd rfl (Or.inl rfl) (pe_ix (ix_listK K rfl) (pe_ix (ix_listK K rfl) (pv 0) pe_int (fun _ _ => rfl)) (pe_ix (ix_listK K rfl) (pv 0) pe_int (fun _ _ => rfl)) (fun _ _ => rfl)))
      (pss_cons (ps_asg (pe_op op_add (pe_ix (ix_listK K rfl) (pv 0) pe_int (fun _ _ => rfl)) pe_int) (pg_sub (pv 0) pe_int set_list))
      (pss_one (ps_if (pt_cmpR op_ge (pv 2) (pe_op op_pow pe_int pe_int) (nomark _)) (pss_one (ps_asg (pv 2) (pg_sub (pv 0) pe_int set_list))) (pss_one (ps_asg (pe_op op_mod (pe_op op_add (pe_op op_add (pe_op op_mul (pe_ix (ix_listK K rfl) (pv 0) pe_int (fun _ _ => rfl)) pe_int) (pe_op op_mod (pv 2) pe_int)) pe_int) pe_int) (pg_sub (pv 0) pe_int set_list))))))) pss_nil)
      (PSs.to (pss_cons (ps_if (pt_cmpR op_gt (pe_ix (ix_listK K rfl) (pv 0) pe_int (fun _ _ => rfl)) pe_int (nomark _)) (pss_cons (ps_set (i := 3) sc_law_pick.nd rfl (Or.inl rfl) (pe_op op_mod (pe_ix (ix_listK K rfl) (pv 0) pe_int (fun _ _ => rfl)) (pv 1)))
      (pss_cons (ps_asg (pe_op op_fdivW (pe_ix (ix_listK K rfl) (pv 0) pe_int (fun _ _ => rfl)) (pv 1)) (pg_sub (pv 0) pe_int set_list))
      (pss_one (ps_ret (pv 3))))) pss_nil)
      (pss_cons (ps_asg (pe_op op_add (pe_ix (ix_listK K rfl) (pv 0) pe_int (fun _ _ => rfl)) pe_int) (pg_sub (pv 0) pe_int set_list))
      (pss_cons (ps_asg (pe_op op_mod (pe_op op_add (pe_op op_add (pe_op op_mul (pe_ix (ix_listK K rfl) (pv 0) pe_int (fun _ _ => rfl)) pe_int) pe_int) (pe_ix (ix_listK K rfl) (pv 0) pe_int (fun _ _ => rfl))) pe_int) (pg_sub (pv 0) pe_int set_list))
      (pss_one (ps_ret (pe_op op_mod (pe_op op_fdiv (pe_op op_mod (pe_op op_mul (pe_op op_add (pe_op op_mod (pe_ix (ix_listK K rfl) (pv 0) pe_int (fun _ _ => rfl)) pe_int) pe_int) (pe_op op_add (pe_op op_fdiv (pe_ix (ix_listK K rfl) (pv 0) pe_int (fun _ _ => rfl)) pe_int) pe_int)) pe_int) pe_int) (pv 1))))))) R1 ?tail1)), ?_⟩
  case tail1 =>
    rintro D' σ' H1 ⟨eD, x2, rfl, ⟨i, p, z, r, hf, hc, hi, hp, hz, hz2⟩, bt⟩
    refine ⟨_, rfl, f, _, _, _, rfl, rfl, SqL.of hf, atI_nat (j := 2) rfl, _, _, rfl, rfl, _, rfl, if_bl (fun c1 => ?_) (fun c1 => ?_)⟩
    · refine ⟨_, rfl, f, _, _, _, rfl, rfl, SqL.of hf, atI_nat (j := 2) rfl, _, rfl, _, _, rfl, rfl, m0, ?_⟩
      refine ⟨_, rfl, f, _, _, _, rfl, rfl, SqL.of hf, atI_nat (j := 2) rfl, _, rfl, _, _, rfl, rfl, ⟨m0, m9⟩, _, rfl, f, _, _, 2, rfl, rfl, hf, rfl, ?_⟩
      refine ⟨_, rfl, ?_⟩
      rw [eD]
      exact q _ _ (Int.emod_nonneg _ (by omega)) (Int.emod_lt_of_pos _ m0) ⟨ns, i, p / m, z, r, upd_same, (by rw [upd_ne ncf]; exact hc), hi, Int.ediv_nonneg hp (by omega), hz, hz2⟩ bt.upd
    · refine ⟨_, rfl, f, _, _, _, rfl, rfl, SqL.of hf, atI_nat (j := 4) rfl, _, _, rfl, rfl, _, rfl, f, _, _, 4, rfl, rfl, hf, rfl, ?_⟩
      have hf2 : upd H1 f (.lst ([V.ref c, V.int i, V.int p, V.int z, V.int r].set 4 (V.int (r + 1)))) f = some (.lst [.ref c, .int i, .int p, .int z, .int (r + 1)]) := upd_same
      refine ⟨_, rfl, f, _, _, _, rfl, rfl, SqL.of hf2, atI_nat (j := 3) rfl, _, _, rfl, rfl, .inl ⟨by omega, by omega⟩, _, _, rfl, rfl, _, rfl, f, _, _, _, rfl, rfl, SqL.of hf2, atI_nat (j := 4) rfl, _, _, rfl, rfl, _, _, rfl, rfl, (by show (0 : Int) < 2147483647; decide), _, rfl, f, _, _, 3, rfl, rfl, hf2, rfl, ?_⟩
      have z0 : 0 ≤ (z * 48271 + 12820163 + (r + 1)) % 2147483647 := Int.emod_nonneg _ (by decide)
      have z1 : (z * 48271 + 12820163 + (r + 1)) % 2147483647 < 2147483647 := Int.emod_lt_of_pos _ (by decide)
      have hf3 : upd (upd H1 f (.lst ([V.ref c, V.int i, V.int p, V.int z, V.int r].set 4 (V.int (r + 1))))) f (.lst ([V.ref c, V.int i, V.int p, V.int z, V.int (r + 1)].set 3 (V.int ((z * 48271 + 12820163 + (r + 1)) % 2147483647)))) f =
        some (.lst [.ref c, .int i, .int p, .int ((z * 48271 + 12820163 + (r + 1)) % 2147483647), .int (r + 1)]) := upd_same
      have hc3 : upd (upd H1 f (.lst ([V.ref c, V.int i, V.int p, V.int z, V.int r].set 4 (V.int (r + 1))))) f (.lst ([V.ref c, V.int i, V.int p, V.int z, V.int (r + 1)].set 3 (V.int ((z * 48271 + 12820163 + (r + 1)) % 2147483647)))) c = some (.lst (ns.map V.int)) := by
        rw [upd_ne ncf, upd_ne ncf]
        exact hc
      refine ⟨_, rfl, f, _, _, _, rfl, rfl, SqL.of hf3, atI_nat (j := 3) rfl, _, _, rfl, rfl, (by show (0 : Int) < 65521; decide), _, _, rfl, rfl, _, rfl, f, _, _, _, rfl, rfl, SqL.of hf3, atI_nat (j := 3) rfl, _, _, rfl, rfl, ⟨by decide, by decide⟩, _, _, rfl, rfl, _, _, rfl, rfl, .inl ⟨?_, ?_⟩, _, _, rfl, rfl, (by show (0 : Int) < 1000003; decide), _, _, rfl, rfl, ⟨by decide, by decide⟩, _, rfl, _, _, rfl, rfl, m0, ?_⟩
      · omega
      · omega
      · rw [eD]
        exact q _ _ (Int.emod_nonneg _ (by omega)) (Int.emod_lt_of_pos _ m0) ⟨ns, i, p, _, r + 1, hf3, hc3, hi, hp, z0, z1⟩ bt.upd.upd
  refine ⟨_, rfl, f, _, _, _, rfl, rfl, SqL.of hf, atI_nat (j := 2) rfl, rfl, _, rfl, if_bl (fun c1 => ?_) (fun c1 => ?_)⟩
  · refine ⟨_, rfl, f, _, _, _, rfl, rfl, SqL.of hf, atI_nat (j := 1) rfl, _, rfl, f, _, _, _, rfl, rfl, SqL.of hf, atI_nat (j := 0) rfl, c, _, rfl, .inl (SqL.of hc), _, _, rfl, rfl, _, rfl, if_bl (fun c2 => ?_) (fun c2 => ?_)⟩
    · have c3 : i < ((ns.map V.int).length : Int) := of_decide_eq_true c2
      rw [List.length_map] at c3
      obtain ⟨v, hv⟩ := at_ints hi c3
      refine ⟨_, rfl, f, _, _, _, rfl, rfl, SqL.of hf, atI_nat (j := 0) rfl, _, rfl, f, _, _, _, rfl, rfl, SqL.of hf, atI_nat (j := 1) rfl, c, _, i, _, rfl, rfl, SqL.of hc, hv, ?_⟩
      refine ⟨_, rfl, f, _, _, _, rfl, rfl, SqL.of hf, atI_nat (j := 1) rfl, _, _, rfl, rfl, _, rfl, f, _, _, 1, rfl, rfl, hf, rfl, ?_⟩
      have hf2 : upd H f (.lst ([V.ref c, V.int i, V.int p, V.int z, V.int r].set 1 (V.int (i + 1)))) f = some (.lst [.ref c, .int (i + 1), .int p, .int z, .int r]) := upd_same
      refine ⟨_, rfl, _, _, rfl, rfl, ⟨by decide, by decide, by decide⟩, _, _, rfl, rfl, _, rfl, if_bl (fun c4 => ?_) (fun c4 => ?_)⟩
      · have c5 : (10 : Int) ^ (18 : Int).toNat ≤ v := of_decide_eq_true c4
        have c6 : (0 : Int) ≤ (10 : Int) ^ (18 : Int).toNat := by decide
        refine ⟨_, rfl, _, rfl, f, _, _, 2, rfl, rfl, hf2, rfl, rfl, _, rfl, ⟨i + 1, v, z, r, upd_same, ?_, by omega, by omega, hz, hz2⟩, But.refl.upd.upd⟩
        rw [upd_ne ncf, upd_ne ncf]
        exact hc
      · refine ⟨_, rfl, f, _, _, _, rfl, rfl, SqL.of hf2, atI_nat (j := 3) rfl, _, _, rfl, rfl, .inl ⟨by omega, by omega⟩, _, rfl, _, _, rfl, rfl, (by show (0 : Int) < 1000003; decide), _, _, rfl, rfl, _, _, rfl, rfl, _, _, rfl, rfl, (by show (0 : Int) < 2147483647; decide), _, rfl, f, _, _, 3, rfl, rfl, hf2, rfl, rfl, _, rfl, ⟨i + 1, p, _, r, upd_same, ?_, by omega, hp, Int.emod_nonneg _ (by decide), Int.emod_lt_of_pos _ (by decide)⟩, But.refl.upd.upd⟩
        rw [upd_ne ncf, upd_ne ncf]
        exact hc
    · exact ⟨rfl, _, rfl, ⟨i, p, z, r, hf, hc, hi, hp, hz, hz2⟩, But.refl⟩
  · exact ⟨rfl, _, rfl, ⟨i, p, z, r, hf, hc, hi, hp, hz, hz2⟩, But.refl⟩
end
theorem op_notB {X : Cx} : OpR X (compareOp .IsNot) (fun x y H Q => ∃ a b : Bool, x = .bl a ∧ y = .bl b ∧ Q (.bl (!decide (a = b))) H) := by
  intro pins s σ H x y v u Q I rx ry h
  obtain ⟨a, b, rfl, rfl, q⟩ := h
  obtain rfl : v = Value.bool a := rx
  obtain rfl : u = Value.bool b := ry
  exact wpAny_isNot_plain rfl (fin_bl I q (by cases a <;> cases b <;> rfl))
theorem op_isB {X : Cx} : OpR X (compareOp .Is) (fun x y H Q => ∃ a b : Bool, x = .bl a ∧ y = .bl b ∧ Q (.bl (decide (a = b))) H) := by
  intro pins s σ H x y v u Q I rx ry h
  obtain ⟨a, b, rfl, rfl, q⟩ := h
  obtain rfl : v = Value.bool a := rx
  obtain rfl : u = Value.bool b := ry
  exact wpAny_is_plain rfl (fin_bl I q (by cases a <;> cases b <;> rfl))
/-! ### a name told a dict written out -/
section
variable {X : Cx}
theorem ps_setDc {i : Nat} {y : Str} {py : Pos} {kx vx tg iter : Expr} {ifs : List Expr} {scope : Scope} {own : List (Str × Nat)} {pos spos : Pos} {wi : TI} {g : TG} {tt : TT} {tk tv : TE} (hc : X.calm = true) (hN : X.N.Nodup) (hy : X.N[i]? = some y) (hyl : X.env.scope.names.lookup y = some .local)
    (hsw : swapsWith (.DictComp kx vx [⟨tg, iter, ifs, 0⟩] scope pos) (some (.Name y py)) spos.line X.env = pure true) (hi : L2.PI X tg iter wi) (ok : BlkOk X.N X.env.scope scope own)
    (hg : ∀ (s : Shared) (H : Hp) (C : Addr) (cl : List (Str × Addr)) (fp : List Addr), L2.PG (X.blk s H scope (compEnvC scope cl C X.env) fp) tg g) (ht : ∀ (s : Shared) (H : Hp) (C : Addr) (cl : List (Str × Addr)) (fp : List Addr), PTs (X.blk s H scope (compEnvC scope cl C X.env) fp) ifs tt)
    (hk : ∀ (s : Shared) (H : Hp) (C : Addr) (cl : List (Str × Addr)) (fp : List Addr), L2.PE (X.blk s H scope (compEnvC scope cl C X.env) fp) kx tk)
    (he : ∀ (s : Shared) (H : Hp) (C : Addr) (cl : List (Str × Addr)) (fp : List Addr), L2.PE (X.blk s H scope (compEnvC scope cl C X.env) fp) vx tv) (hs : ∀ x, foldedSetIterable iter X.env x = pure x := by intro _; rfl) :
    PS X (.Assign [.Name y py] (.DictComp kx vx [⟨tg, iter, ifs, 0⟩] scope pos) spos) (tAsg (tDc wi g tt tk tv (own.map (·.2))) (gName i)) := by
  refine ⟨fun pins s σ H D I h => ?_⟩
  rw [exec_Assign_Name_used _ _ _ _ hsw]
  refine wpAny_bind (wpAny_standAt (wpAny_bind ?_))
  show wpAny _ X.A (do let _ ← comprehension (.DictComp kx vx [⟨tg, iter, ifs, 0⟩] scope pos) scope X.env (firstIterPos [⟨tg, iter, ifs, 0⟩] pos) newDict false (eval iter X.env) (some (assign (.Name y py) X.env))) _ _ s
  have h : tDc wi g tt tk tv (own.map (·.2)) σ H (fun x H1 => gName i x σ H1 D.nx) := h
  refine wpAny_bind (thn (dc_core (Qf := fun _ s' => SP X pins D .next s') hc hN I hi ok hg ht hk he hs h fun L C s' m H' I' q hn f => ?_) fun _ s' hq => wpAny_pure (wpAny_pure hq))
  refine wpAny_assign_Name (store_ok2 (v := V.ref L) I' hN hy (.inl hyl) rfl (fun s2 I2 ⟨a, sb, ha⟩ => ?_) (.inr hyl))
  obtain ⟨f0, f1, f2, f3, f4, f5⟩ := f
  have haC : C ≠ a := ha.elim (fun z => by rw [z]; exact f1) fun z e => f4 y a z e.symm
  exact ⟨m, hn.sameBut sb haC, fun h3 sb3 => ⟨_, H', I2.turned (t' := s2.toks) (fun b o hb e => (sb3.2 b hb).trans e) f0 f1 f3 f4 f5, q⟩⟩
theorem sw_dc {kx vx : Expr} {gs : List Comprehension} {scope : Scope} {pos py : Pos} {y : Str} {l : Nat} {env : Env} (hk : env.scope.kind = .function) (hy : env.scope.names.lookup y = some .local) (hl : (py.line == pos.line) = true)
    (ha : (scope.names.any fun (n, k) => n == y && (k == .local || k == .cell)) = false) : swapsWith (.DictComp kx vx gs scope pos) (some (.Name y py)) l env = pure true := by
  have ky : env.kindOf y = some .local := hy
  have hb : env.blockKind = .function := by unfold Env.blockKind; rw [hk]; rfl
  unfold swapsWith
  simp only [hb, ky, ha, Expr.pos, hl]
  rfl
end
/-- a tuple known to its object, which has no names of its own -/
theorem SqT.fz {K : PySem.W.Frag} {H : Hp} {a : Addr} {o : Obj} {xs : List V} (h : H a = some (.frz o (.tup xs))) : SqT K H a xs := .inl (.inr ⟨o, h⟩)
def rTupOfF (K : PySem.W.Frag) : List V → Hp → VK → Prop := fun xs H Q => ∃ p ys, xs = [.ref p] ∧ SqL K H p ys ∧ ∀ l ob, ob.dict = none → H l = none → Q (.ref l) (upd H l (.frz ob (.tup ys)))
theorem call_tuple_ofF {X : Cx} (K : PySem.W.Frag) (same : X.K = K) : CallR X (.type "tuple") (rTupOfF K) := by
  subst same
  intro pins s σ H xs us Q I r h
  obtain ⟨p, ys, ex, sq, q⟩ := h
  subst ex
  obtain ⟨_, rfl, rx⟩ := vals1 r
  cases rx
  obtain ⟨its, rv, pl, few⟩ := I.list sq
  have len := rv.length
  refine call_tuple_list pl.isList (fun h' kp => ?_) (by simp only [List.size_toArray] <;> omega)
  have J : Inv X pins σ H { s with heap := h' } := I.kept (t' := s.toks) kp
  have at_ : (h'.push { cls := .type "tuple", data := .seq its.toArray }).get? h'.objs.size = some { cls := .type "tuple", data := .seq its.toArray } := Heap.get?_push_size _ rfl
  refine ⟨.ref h'.objs.size, _, J.laid (o := .frz { cls := .type "tuple", data := .seq its.toArray } (.tup ys)) (t' := s.toks) (fun b o e => Heap.get?_push_of_some _ e) (Nat.le_refl _) ⟨at_, few, its, rv, IsTup.new _ _⟩, rfl, q _ _ rfl (J.hok.fresh (Nat.le_refl _))⟩
/-! ### dict(t) of a tuple of pairs -/
section
open PySem
theorem pairs_ofT {X : Cx} {pins : List (Addr × Obj)} {σ : L2.St} {H : Hp} {s : Shared} (I : Inv X pins σ H s) : ∀ {ps : List Addr} {kvs : List (Key × V)}, Paired (fun p kv => SqT X.K H p [kV kv.1, kv.2]) ps kvs →
    ∃ (prs : List (Key × Value)) (us : List (Value × Value)), KV kvs prs ∧ prs.length = ps.length ∧ us.length = ps.length ∧ ∀ (j : Nat) (k v : Value), us[j]? = some (k, v) → ∃ (b : Addr) (q : Key), ps[j]? = some b ∧ prs[j]? = some (q, v) ∧ IsTup s.heap b #[k, v] ∧ keyIs q k = true
  | _, _, .nil => ⟨[], [], .nil, rfl, rfl, fun j k v e => by simp at e⟩
  | _, _, .cons (a := p) (b := kv) h t => by
    obtain ⟨prs, us, r, hl, hu, hp⟩ := pairs_ofT I t
    obtain ⟨its, rv, ht, _⟩ := I.tuple h
    obtain ⟨u, y, ei, ru, ry⟩ := vals2 rv
    subst ei
    refine ⟨(kv.1, y) :: prs, (u, y) :: us, .cons ⟨rfl, ry⟩ r, by rw [List.length_cons, List.length_cons, hl], by rw [List.length_cons, List.length_cons, hu], fun j k v e => ?_⟩
    cases j with
    | zero =>
      obtain ⟨rfl, rfl⟩ := Prod.mk.inj (Option.some.inj e)
      exact ⟨p, kv.1, rfl, rfl, ht, kV_is (P := X.prog) (w := X.w) ru⟩
    | succ j =>
      obtain ⟨b, q, e1, e2, e3, e4⟩ := hp j k v (by simpa using e)
      exact ⟨b, q, by simpa using e1, by simpa using e2, e3, e4⟩
theorem call_dictPT {X : Cx} (K : PySem.W.Frag) (same : X.K = K) (hcalm : X.calm = true) : CallR X (.type "dict") (fun xs H Q => ∃ (a : Addr) (ob : Obj) (ps : List Addr) (kvs : List (Key × V)), xs = [.ref a] ∧ ob.dict = none ∧ H a = some (.frz ob (.tup (ps.map V.ref))) ∧ Paired (fun p kv => SqT K H p [kV kv.1, kv.2]) ps kvs ∧
    ∀ p, H p = none → Q (.ref p) (upd H p (.dK (mergeK [] kvs)))) := by
  subst same
  intro pins s σ H xs us Q I r q
  obtain ⟨a, ob, ps, kvs, ex, hd, ha, hp, q⟩ := q
  subst ex
  obtain ⟨u, eu, rx⟩ := vals1 r
  subst eu
  cases rx
  obtain ⟨its, rv, pt, hz⟩ := I.tuple (SqT.fz ha)
  have ei := refs_at rv
  subst ei
  rw [List.length_map] at hz
  obtain ⟨prs, us, rel, hl, hu, hpr⟩ := pairs_ofT I hp
  have got : s.heap.get? a = some ob := (I.hok a _ ha).1
  obtain ⟨o, ho, hc, n, hdat⟩ := pt
  obtain rfl : ob = o := Option.some.inj (got.symm.trans ho)
  have P := PairArg.tuple (prog := X.prog) (w := X.w) a (ps.map Value.ref).toArray (fun j => ps.getD j 0) us
  refine _root_.PySem.call_dict_pairs (knd := mixKind X.prog X.w) (kvs := prs) P (I.ok.hd hcalm) ⟨⟨ob, n, ho, hc, hd, hdat⟩, by simp [hu], fun j k v e => ?_⟩ ⟨by rw [hl, hu], fun i k v e => ?_⟩ (by rw [hu]; exact hz) fun h' tk hd' kp => ?_
  · obtain ⟨b, q, e1, e2, e3, e4⟩ := hpr j k v e
    refine ⟨by simp [e1], .inl ?_⟩
    have : ps.getD j 0 = b := by rw [List.getD_eq_getElem?_getD, e1]; rfl
    show _
    simp only [this]
    exact e3
  · obtain ⟨b, q, e1, e2, e3, e4⟩ := hpr i k v e
    exact ⟨q, e2, e4⟩
  · have notS : (s.heap.objs.size == sysModules) = false := beq_eq_false_iff_ne.mpr fun z => Nat.lt_irrefl _ (z ▸ I.big)
    have few : (mergeK [] kvs).length ≤ sizeLine := Nat.le_trans (length_mergeK kvs []) (by rw [rel.length, hl, List.length_nil, Nat.zero_add]; exact hz)
    exact ⟨.ref s.heap.objs.size, upd H s.heap.objs.size (.dK (mergeK [] kvs)), I.laid (t' := tk) (fun b o e => kp b o (fun z => nomatch z) e) (Nat.le_refl _) (show ObjOk X.prog X.w _ _ _ (.dK (mergeK [] kvs)) from ⟨few, notS, merged [] prs, KV.merge rel .nil, hd'⟩), rfl, q _ (I.hok.fresh (Nat.le_refl _))⟩
end
/-! ### xs[a:] = ys as a target -/
section
open PySem.Spec
variable {prog : Program} {w : World} {A : Around} {E : Value → Shared → Prop} {s : Shared}
theorem tail_run {a n : Nat} (h : a ≤ n) : sliceBounds (some ((a : Nat) : Int)) none none n = (((a : Nat) : Int), ((n : Nat) : Int), 1) := by
  have low : ¬ ((a : Nat) : Int) < 0 := fun z => by omega
  unfold sliceBounds
  simp only [Option.getD_none, low, if_false, Int.one_pos, gt_iff_lt, if_true, Prod.mk.injEq, and_true]
  omega
set_option maxRecDepth 100000 in
theorem tail_slice {l b sl : Addr} {items new : Array Value} {n n2 a : Nat} {vl vu : Value} {Q : Unit → Shared → Prop} (e : s.heap.get? l = some { cls := .type "list", data := .seq items n }) (e2 : s.heap.get? b = some { cls := .type "list", data := .seq new n2 }) (hne : l ≠ b)
    (hs : s.heap.IsSliceOf sl vl vu .none) (pl : IsPart vl (some ((a : Nat) : Int))) (pu : IsPart vu none) (ha : a ≤ items.size) (hsz : items.size + new.size ≤ sizeLine) (h : Q () { s with heap := s.heap.update l (Obj.mapSeq fun xs => xs.extract 0 a ++ new ++ xs.extract items.size xs.size) }) : wpAny (model prog w) A (setItem (.ref l) (.ref sl) (.ref b)) Q E s := by
  have L := PySem.IsL.isList e; have B := PySem.IsL.isList e2
  obtain ⟨os, f1, f2, f3⟩ := id hs; have T : s.TypeIs (.ref sl) "slice" := ⟨os, f1, f2⟩
  have other : Builtin.List.listSameRef (.ref l) (.ref b) = false := beq_eq_false_iff_ne.mpr hne
  have z0 : items.size + new.size ≤ sizeLine := hsz
  have z1 : ((fun xs : Array Value => xs.extract 0 a ++ new ++ xs.extract items.size xs.size) items).size ≤ sizeLine + 1 := by simp only [Array.size_append, Array.size_extract]; omega
  have hmax : (max ((a : Nat) : Int) ((items.size : Nat) : Int)).toNat = items.size := by omega
  unfold setItem; try with_reducible refine wpAny_holding ?_
  (try refine wpAny_bind (wpAny_pure ?_)); refine wpAny_bind (wpAny_sequenceKey L.typeIs (by decide) ?_)
  refine wpAny_bind (wpAny_callSpecial?_slot (name := Str.ofString "__setitem__") L.typeIs slot_list_setitem (wpAny_call_entry slot_list_setitem L.typeIs entry_list_setitem ?_ (args_list_setitem _ _ _)))
  show wpAny _ _ (Builtin.List.listSubscript? (.ref sl) >>= _) _ _ s; refine wpAny_bind ?_
  unfold Builtin.List.listSubscript?; refine wpAny_bind (wpAny_specialOf T slice_no_index ?_)
  simp only [Option.isNone_none, if_true]; refine wpAny_pure ?_
  show wpAny _ _ (typeOf (.ref sl) >>= _) _ _ s; refine wpAny_bind (wpAny_typeOf T ?_)
  (first | rw [if_neg (by decide)] | refine PySem.W.KFB.if_not (by decide) ?_); rw [listSliceParts_eq]
  refine wpAny_bind (wpAny_bind (wpAny_field f1 f3 (x := .none) rfl (wpAny_bind (wpAny_listPart .none ?_)))); rw [if_neg (show ¬ ((rawPart none == rawInt 0) = true) from Bool.false_ne_true)]
  refine wpAny_bind (wpAny_field f1 f3 (x := vl) rfl (wpAny_bind (wpAny_listPart pl ?_))); refine wpAny_bind (wpAny_field f1 f3 (x := vu) rfl (wpAny_bind (wpAny_listPart pu (wpAny_pure ?_))))
  (first | simp only [other, Bool.false_eq_true, if_false] | refine PySem.W.KFB.if_not other ?_ | (dsimp only; rw [if_neg (by rw [other]; exact Bool.false_ne_true)]))
  refine wpAny_bind (m := Builtin.List.listAllItems (.ref b) "must assign iterable to extended slice") ?_; unfold Builtin.List.listAllItems
  refine wpAny_bind (wpAny_typeOf B.typeIs ?_); (first | refine PySem.W.KFB.if_so (by decide) ?_ | rw [if_pos (by decide)] | simp only [beq_self_eq_true, Bool.true_or, if_true])
  unfold Builtin.List.listItems; refine wpAny_bind (wpAny_seqItems e2 rfl (wpAny_pure ?_))
  refine wpAny_bind (wpAny_bind (wpAny_seqItems e rfl (wpAny_pure ?_))); refine wpAny_bind (wpAny_of_eq ((sliceIndices_raw (some ((a : Nat) : Int)) none none items.size (by simp)).trans (congrArg (pure : Int × Int × Int → Sem (Int × Int × Int)) (tail_run ha))) ?_)
  show wpAny _ _ (if ((1 : Int) == 1) = true then _ else _) _ _ s; rw [if_pos (by decide)]; refine wpAny_bind (wpAny_rule ?_)
  (first | simp only [notLongL z0, Bool.false_eq_true, if_false] | refine PySem.W.KFB.if_not (notLongL z0) ?_); (try refine wpAny_bind (wpAny_pure ?_))
  show wpAny _ _ (updateSeq l (fun xs => xs.extract 0 (((a : Nat) : Int)).toNat ++ new ++ xs.extract (max ((a : Nat) : Int) ((items.size : Nat) : Int)).toNat xs.size) >>= _) _ _ s
  rw [hmax, Int.toNat_natCast]
  refine wpAny_bind (wpAny_updateSeq (hz := Nat.le_trans (Nat.le_add_right _ _) hsz) (_hz' := z1) e rfl ?_); refine wpAny_bind (wpAny_letGo ?_)
  (first | exact wpAny_bind (wpAny_pure (wpAny_pure ⟨.none, rfl, wpAny_pure h⟩)) | exact wpAny_pure ⟨.none, rfl, wpAny_pure h⟩)
end
section
variable {X : Cx} {pos p2 : Pos}
theorem tail_at {pins : List (Addr × Obj)} {s : Shared} {σ : L2.St} {H : Hp} {l b sl : Addr} {xs ys : List V} {a : Int} {vl : Value} {Q : Unit → Shared → Prop} (I : Inv X pins σ H s) (hH : H l = some (.lst xs)) (hB : H b = some (.lst ys)) (hne : l ≠ b) (hs : s.heap.IsSliceOf sl vl .none .none) (ra : RelV (.int a) vl)
    (h0 : 0 ≤ a) (h1 : a ≤ xs.length) (hz : xs.length + ys.length ≤ sizeLine) (h : ∀ s', Inv X pins σ (upd H l (.lst (xs.take a.toNat ++ ys))) s' → Q () s') : wpAny (model X.prog X.w) X.A (setItem (.ref l) (.ref sl) (.ref b)) Q X.xe s := by
  obtain ⟨ta, rfl⟩ := ra
  obtain ⟨z, its, n, r, hl, e⟩ := I.lstM hH; obtain ⟨z2, its2, n2, r2, hl2, e2⟩ := I.lstM hB
  obtain ⟨b', rfl⟩ := Int.eq_ofNat_of_zero_le h0
  rw [show ((b' : Nat) : Int).toNat = b' from Int.toNat_natCast b'] at h
  refine tail_slice (a := b') e e2 hne hs (.int _ _) .none (by rw [List.size_toArray]; omega) (by rw [List.size_toArray, List.size_toArray]; omega) (h _ ?_)
  refine I.lset (its' := its.take b' ++ its2) (t' := s.toks) hH e ?_ (Vals.append (r.take _) r2) ?_
  · have := splice_eq its its2 b' its.toArray.size
    rw [show its.drop its.toArray.size = [] by rw [List.size_toArray, List.drop_length], List.append_nil] at this
    exact this
  · rw [List.length_append, List.length_take]
    omega
/-- o[lo:] = .. -/
def gSubT (to : TE) (tl : TO) : TG := fun v σ H Q => to σ H fun o H1 => tl σ H1 fun lo H2 => ∃ (p b : Addr) (xs ys : List V) (a : Int), o = .ref p ∧ v = .ref b ∧ lo = some a ∧ H2 p = some (.lst xs) ∧ H2 b = some (.lst ys) ∧ p ≠ b ∧
  0 ≤ a ∧ a ≤ xs.length ∧ xs.length + ys.length ≤ sizeLine ∧ Q σ (upd H2 p (.lst (xs.take a.toNat ++ ys)))
theorem pg_subT {o lo : Expr} {to : TE} {tl : TO} (ho : PE X o to) (hl : PO X (some lo) tl) (ha : ∀ v, assign (.Subscript o (.Slice (some lo) none none p2) pos) X.env v = (do
      let ov ← holding [v] (eval o X.env)
      let iv ← holding [v, ov] (eval (.Slice (some lo) none none p2) X.env)
      standAt pos
      holding [v, ov, iv] (setItem ov iv v)
      release [iv, v, ov] []) := by intro _; rfl) : PG X (.Subscript o (.Slice (some lo) none none p2) pos) (gSubT to tl) := by
  refine ⟨fun pins s σ H v u Q I r h => ?_⟩
  rw [ha]
  refine wpAny_bind (wpAny_holding (thn (ho.run pins s σ H _ I h) fun ov s1 ⟨x, H1, I1, r1, q1⟩ => ?_))
  refine wpAny_bind (wpAny_holding (wpAny_Slice (thn (hl.run pins s1 σ H1 _ I1 q1) fun vl s2 ⟨l, H2, I2, pl, q2⟩ => ?_)))
  rw [evalPart_none]
  refine wpAny_pure ?_
  refine wpAny_pure ?_
  have I4 : Inv X pins σ H2 { s2 with heap := s2.heap.push { cls := .type "slice", data := .fields #[vl, .none, .none] } } := I2.kept (t' := s2.toks) fun b ob q => Heap.get?_push_of_some _ q
  obtain ⟨p, b, xs, ys, a, rfl, rfl, rfl, g1, g2, g3, g4, g5, g6, g7⟩ := q2
  cases r1
  cases r
  refine wpAny_bind (wpAny_standAt (wpAny_bind (wpAny_holding ?_)))
  refine tail_at I4 g1 g2 g3 (Heap.IsSliceOf.new ..) ?_ g4 g5 g6 fun s' I5 => ?_
  · cases pl
    exact ⟨_, rfl⟩
  · exact wpAny_release ⟨σ, _, I5, g7⟩
end
/-! ### del xs[a:] -/
section
open PySem.Spec
variable {prog : Program} {w : World} {A : Around} {E : Value → Shared → Prop} {s : Shared}
theorem kept_pre (p : Nat → Bool) : ∀ (xs : List Value) (m a : Nat), (∀ k, k < m + xs.length → p k = decide (a ≤ k)) → ((xs.zipIdx m).filterMap fun y => if p y.2 = true then none else some y.1) = xs.take (a - m)
  | [], _, _, _ => by simp
  | x :: xs, m, a, h => by
    have h0 := h m (by simp)
    have ih := kept_pre p xs (m + 1) a fun k hk => h k (by simp only [List.length_cons]; omega)
    rw [List.zipIdx_cons, List.filterMap_cons]
    dsimp only
    by_cases c : a ≤ m
    · rw [h0, decide_eq_true c, if_pos rfl]
      dsimp only
      rw [ih, Nat.sub_eq_zero_of_le c, Nat.sub_eq_zero_of_le (by omega)]
      rfl
    · rw [h0, decide_eq_false c, if_neg Bool.false_ne_true]
      dsimp only
      rw [ih, show a - m = a - (m + 1) + 1 by omega, List.take_succ_cons]
set_option maxRecDepth 100000 in
theorem tail_del {l sl : Addr} {items : Array Value} {n a : Nat} {vl : Value} {Q : Unit → Shared → Prop} (e : s.heap.get? l = some { cls := .type "list", data := .seq items n })
    (hs : s.heap.IsSliceOf sl vl .none .none) (pl : IsPart vl (some ((a : Nat) : Int))) (ha : a ≤ items.size) (hsz : items.size ≤ sizeLine) (h : ∀ f : Array Value → Array Value, f items = (items.toList.take a).toArray → Q () { s with heap := s.heap.update l (Obj.mapSeq f) }) : wpAny (model prog w) A (delItem (.ref l) (.ref sl)) Q E s := by
  have L := PySem.IsL.isList e
  obtain ⟨os, f1, f2, f3⟩ := id hs; have T : s.TypeIs (.ref sl) "slice" := ⟨os, f1, f2⟩
  unfold delItem; try with_reducible refine wpAny_holding ?_
  (try refine wpAny_bind (wpAny_pure ?_)); refine wpAny_bind (wpAny_sequenceKey L.typeIs (by decide) ?_)
  refine wpAny_bind (wpAny_callSpecial?_slot (name := Str.ofString "__delitem__") L.typeIs PySem.F.slot_list_delitem (wpAny_call_entry PySem.F.slot_list_delitem L.typeIs PySem.F.entry_list_delitem ?_ (PySem.F.args_list_delitem_2 _ _)))
  show wpAny _ _ (Builtin.List.listSubscript? (.ref sl) >>= _) _ _ s; refine wpAny_bind ?_
  unfold Builtin.List.listSubscript?; refine wpAny_bind (wpAny_specialOf T slice_no_index ?_)
  simp only [Option.isNone_none, if_true]; refine wpAny_pure ?_
  show wpAny _ _ (typeOf (.ref sl) >>= _) _ _ s; refine wpAny_bind (wpAny_typeOf T ?_)
  (first | rw [if_neg (by decide)] | refine PySem.W.KFB.if_not (by decide) ?_); rw [listSliceParts_eq]
  refine wpAny_bind (wpAny_bind (wpAny_field f1 f3 (x := .none) rfl (wpAny_bind (wpAny_listPart .none ?_)))); rw [if_neg (show ¬ ((rawPart none == rawInt 0) = true) from Bool.false_ne_true)]
  refine wpAny_bind (wpAny_field f1 f3 (x := vl) rfl (wpAny_bind (wpAny_listPart pl ?_))); refine wpAny_bind (wpAny_field f1 f3 (x := .none) rfl (wpAny_bind (wpAny_listPart .none (wpAny_pure ?_))))
  unfold Builtin.List.listItems
  refine wpAny_bind (wpAny_bind (wpAny_seqItems e rfl (wpAny_pure ?_))); refine wpAny_bind (wpAny_of_eq ((sliceIndices_raw (some ((a : Nat) : Int)) none none items.size (by simp)).trans (congrArg (pure : Int × Int × Int → Sem (Int × Int × Int)) (tail_run ha))) ?_)
  refine wpAny_bind (wpAny_rule ?_)
  show wpAny _ _ (updateSeq l _ >>= _) _ _ s
  have sz : (items.toList.take a).toArray.size ≤ sizeLine + 1 := by simp; omega
  refine wpAny_bind (wpAny_updateSeq (hz := hsz) (_hz' := (congrArg (fun z : Array Value => z.size ≤ sizeLine + 1) (congrArg List.toArray ((kept_pre _ items.toList 0 a fun k hk => ?eq1).trans (by rw [Nat.sub_zero])))).mpr sz) e rfl ?nx)
  case nx =>
    refine wpAny_bind (wpAny_letGo ?_)
    first
      | exact wpAny_bind (wpAny_pure (wpAny_pure ⟨.none, rfl, wpAny_pure (h _ (congrArg List.toArray ((kept_pre _ items.toList 0 a fun k hk => ?eq2).trans (by rw [Nat.sub_zero]))))⟩))
      | refine wpAny_pure ⟨.none, rfl, wpAny_pure (h _ (congrArg List.toArray ((kept_pre _ items.toList 0 a fun k hk => ?_).trans (by rw [Nat.sub_zero]))))⟩
    show (if (1 : Int) > 0 then _ else _) = _
    rw [if_pos (by decide)]
    have kn : k < items.size := by simpa using hk
    dsimp only
    rw [Int.emod_one, decide_eq_true (show ((k : Nat) : Int) < ((items.size : Nat) : Int) by omega), Bool.and_true]
    show (decide (((a : Nat) : Int) ≤ ((k : Nat) : Int)) && true) = _
    rw [Bool.and_true]
    exact decide_eq_decide.mpr (by omega)
  case eq1 =>
    show (if (1 : Int) > 0 then _ else _) = _
    rw [if_pos (by decide)]
    have kn : k < items.size := by simpa using hk
    dsimp only
    rw [Int.emod_one, decide_eq_true (show ((k : Nat) : Int) < ((items.size : Nat) : Int) by omega), Bool.and_true]
    show (decide (((a : Nat) : Int) ≤ ((k : Nat) : Int)) && true) = _
    rw [Bool.and_true]
    exact decide_eq_decide.mpr (by omega)
end
section
variable {X : Cx} {pos p2 tpos : Pos}
theorem del_at {pins : List (Addr × Obj)} {s : Shared} {σ : L2.St} {H : Hp} {l sl : Addr} {xs : List V} {a : Int} {vl : Value} {Q : Unit → Shared → Prop} (I : Inv X pins σ H s) (hH : H l = some (.lst xs)) (hs : s.heap.IsSliceOf sl vl .none .none) (ra : RelV (.int a) vl)
    (h0 : 0 ≤ a) (h1 : a ≤ xs.length) (h : ∀ s', Inv X pins σ (upd H l (.lst (xs.take a.toNat))) s' → Q () s') : wpAny (model X.prog X.w) X.A (delItem (.ref l) (.ref sl)) Q X.xe s := by
  obtain ⟨ta, rfl⟩ := ra
  obtain ⟨z, its, n, r, hl, e⟩ := I.lstM hH
  obtain ⟨b', rfl⟩ := Int.eq_ofNat_of_zero_le h0
  rw [show ((b' : Nat) : Int).toNat = b' from Int.toNat_natCast b'] at h
  refine tail_del (a := b') e hs (.int _ _) (by rw [List.size_toArray]; omega) (by rw [List.size_toArray]; omega) fun f hf => h _ ?_
  refine I.lset (its' := its.take b') (t' := s.toks) hH e hf (r.take _) ?_
  rw [List.length_take]
  omega
/-- del o[lo:] -/
def sDelT (to : TE) (tl : TO) : TS := fun D σ H => to σ H fun o H1 => tl σ H1 fun lo H2 => ∃ (p : Addr) (xs : List V) (a : Int), o = .ref p ∧ lo = some a ∧ H2 p = some (.lst xs) ∧ 0 ≤ a ∧ a ≤ xs.length ∧ D.nx σ (upd H2 p (.lst (xs.take a.toNat)))
theorem ps_delT {o lo : Expr} {to : TE} {tl : TO} (ho : PE X o to) (hl : PO X (some lo) tl) : PS X (.Delete [.Subscript o (.Slice (some lo) none none p2) tpos] pos) (sDelT to tl) := by
  refine ⟨fun pins s σ H D I h => ?_⟩
  refine wpAny_Delete (wpAny_deleteEach_cons (wpAny_delete_Subscript (thn (ho.run pins s σ H _ I h) fun u s1 ⟨x, H1, I1, rx, q1⟩ => wpAny_Slice (thn (hl.run pins s1 σ H1 _ I1 q1) fun vl s2 ⟨y, H2, I2, pl, q2⟩ => ?_))))
  rw [evalPart_none]
  refine wpAny_pure ?_
  refine wpAny_pure ?_
  have I4 : Inv X pins σ H2 { s2 with heap := s2.heap.push { cls := .type "slice", data := .fields #[vl, .none, .none] } } := I2.kept (t' := s2.toks) fun b ob q => Heap.get?_push_of_some _ q
  obtain ⟨p, xs, a, rfl, rfl, g1, g2, g3, g4⟩ := q2
  cases rx
  refine del_at I4 g1 (Heap.IsSliceOf.new ..) ?_ g2 g3 fun s' I5 => wpAny_deleteEach_nil ⟨σ, _, I5, g4⟩
  cases pl
  exact ⟨_, rfl⟩
end
/-! ### t[::-1], t a tuple -/
section
open PySem.Spec
variable {prog : Program} {w : World} {A : Around} {E : Value → Shared → Prop} {s : Shared}
theorem back_adjust (n : Nat) : Builtin.Slice.sliceAdjust none none (-1) ((n : Nat) : Int) = (((n : Nat) : Int) - 1, -1) := by
  unfold Builtin.Slice.sliceAdjust
  simp
theorem back_places (n : Nat) : Builtin.Slice.slicePlaces (((n : Nat) : Int) - 1) (-1) (-1) = n := by
  unfold Builtin.Slice.slicePlaces
  simp
  omega
theorem back_pick (xs : Array Value) : ((List.range xs.size).filterMap fun (m : Nat) => xs[((((xs.size : Nat) : Int) - 1) + (m : Int) * -1).toNat]?) = xs.toList.reverse := by
  apply List.ext_getElem?
  intro i
  have e : (fun (m : Nat) => xs[((((xs.size : Nat) : Int) - 1) + (m : Int) * -1).toNat]?) = fun m => xs[xs.size - 1 - m]? := by
    funext m
    congr 1
    omega
  rw [e]
  have key : ∀ k, k ≤ xs.size → ((List.range k).filterMap fun m => xs[xs.size - 1 - m]?) = xs.toList.reverse.take k := by
    intro k
    induction k with
    | zero => intro _; simp
    | succ k ih =>
      intro hk
      rw [List.range_succ, List.filterMap_append, ih (by omega), List.take_add_one]
      congr 1
      have : xs.toList.reverse[k]? = xs[xs.size - 1 - k]? := by
        rw [List.getElem?_reverse (by simp; omega)]
        simp
      rw [this]
      cases h : xs[xs.size - 1 - k]? with
      | none => simp [h]
      | some y => simp [h]
  rw [key _ (Nat.le_refl _), List.take_of_length_le (by simp)]
theorem getItem_tuple_back {t sl : Addr} {items : Array Value} {vs : Value} {Q : Value → Shared → Prop} (ht : IsTup s.heap t items) (hs : s.heap.IsSliceOf sl .none .none vs) (ps : IsPart vs (some (-1)))
    (h : Q (.ref s.heap.objs.size) { s with heap := s.heap.push { cls := .type "tuple", data := .seq items.toList.reverse.toArray } })
    (hsz : items.size ≤ sizeLine) : wpAny (model prog w) A (getItem (.ref t) (.ref sl)) Q E s := by
  have htake : sizeOk (.seq items.toList.reverse.toArray) := by
    show items.toList.reverse.toArray.size ≤ sizeLine
    rw [List.size_toArray, List.length_reverse, Array.length_toList]
    exact hsz
  obtain ⟨os, hos, hcs, hds⟩ := id hs
  have hTs : s.TypeIs (.ref sl) "slice" := ⟨os, hos, hcs⟩
  unfold getItem
  try with_reducible refine wpAny_holding ?_
  first | refine wpAny_bind (wpAny_pure ?_) | skip
  refine wpAny_bind (wpAny_sequenceKey ht.typeIs (by decide) ?_)
  refine wpAny_bind (wpAny_callSpecial?_slot (name := Str.ofString "__getitem__") ht.typeIs PyProof.Rows.slot_tuple_getitem
    (wpAny_call_entry PyProof.Rows.slot_tuple_getitem ht.typeIs PyProof.Rows.entry_tuple_getitem ?_ (PyProof.Rows.args_tuple_getitem _ _)))
  show wpAny _ _ (Builtin.Tuple.tupleItemsOf (.ref t) >>= _) _ _ s
  refine wpAny_bind (PyProof.Rows.tupleItemsOf_ ht ?_)
  refine wpAny_bind (wpAny_typeOf hTs ?_)
  rw [if_pos (by decide)]
  refine wpAny_bind (m := Builtin.Slice.sliceApplied (.ref sl) (pure ((items.size : Nat) : Int))) ?_
  unfold Builtin.Slice.sliceApplied Builtin.Slice.sliceFields
  refine wpAny_bind (wpAny_bind (wpAny_field hos hds (x := .none) rfl (wpAny_bind (wpAny_field hos hds (x := .none) rfl (wpAny_bind (wpAny_field hos hds (x := vs) rfl (wpAny_pure ?_)))))))
  refine wpAny_bind (HT.slicePart_ ps ?_)
  show wpAny _ _ (if ((-1 : Int) == 0) = true then _ else _) _ _ s
  rw [if_neg (by decide)]
  refine wpAny_bind (HT.slicePart_ .none (wpAny_bind (HT.slicePart_ .none (wpAny_bind (wpAny_pure ?_)))))
  show wpAny _ _ (match Builtin.Slice.sliceAdjust none none (-1) ((items.size : Nat) : Int) with | (lo, hi) => pure (lo, (-1 : Int), Builtin.Slice.slicePlaces lo hi (-1))) _ _ s
  rw [back_adjust]
  show wpAny _ _ (pure (((items.size : Nat) : Int) - 1, (-1 : Int), Builtin.Slice.slicePlaces (((items.size : Nat) : Int) - 1) (-1) (-1))) _ _ s
  rw [back_places]
  refine wpAny_pure ?_
  have hno : ¬ ((((items.size : Nat) : Int) - 1 == 0 && (-1 : Int) == 1 && items.size == items.size) = true) := by
    intro q
    rw [Bool.and_eq_true, Bool.and_eq_true] at q
    exact absurd (eq_of_beq q.1.2) (by decide)
  show wpAny _ _ (if ((((items.size : Nat) : Int) - 1 == 0 && (-1 : Int) == 1 && items.size == items.size) = true) then _ else _) _ _ s
  rw [if_neg hno, back_pick]
  first
    | exact wpAny_bind (m := Builtin.Tuple.tupleExact _) (wpAny_newObj_type (wpAny_pure ⟨_, rfl, wpAny_pure h⟩) htake)
    | exact wpAny_bind (m := Builtin.Tuple.tupleExact _) (wpAny_newObj_type (wpAny_bind (wpAny_pure (wpAny_pure ⟨_, rfl, wpAny_pure h⟩))) htake)
    | exact wpAny_bind (wpAny_bind (m := Builtin.Tuple.tupleExact _) (wpAny_newObj_type (wpAny_pure (wpAny_pure ⟨_, rfl, wpAny_pure h⟩)) htake))
    | exact wpAny_bind (wpAny_bind (m := Builtin.Tuple.tupleExact _) (wpAny_newObj_type (wpAny_pure (wpAny_pure ⟨_, rfl, wpAny_pure h⟩)) htake))
end
/-- t[::-1] -/
def tRevT (K : PySem.W.Frag) (te : TE) : TE := fun σ H Q => te σ H fun x H1 => ∃ (a : Addr) (xs : List V), x = .ref a ∧ SqT K H1 a xs ∧ ∀ p, H1 p = none → Q (.ref p) (upd H1 p (.tup xs.reverse))
theorem pe_revT (K : PySem.W.Frag) {X : Cx} (same : X.K = K) {e : Expr} {te : TE} {k : Nat} {p1 p2 p3 pos : Pos} (he : PE X e te) : PE X (.Subscript e (.Slice none none (some (.UnaryOp .USub (.Constant (.int 1) k p1) p2)) p3) pos) (tRevT K te) := by
  subst same
  refine ⟨fun pins s σ H Q I h => ?_⟩
  refine Subscript_ (thn (he.run pins s σ H _ I h) fun v s1 ⟨x, H1, I1, r1, q1⟩ => ?_)
  obtain ⟨a, xs, ex, hx, q⟩ := q1
  subst ex
  cases r1
  have hst : PO X (some (.UnaryOp .USub (.Constant (.int 1) k p1) p2)) (tPart (tUn (rU fun i => .int (-i)) (tC (.int 1)))) := po_some (pe_un un_neg pe_int)
  refine wpAny_Slice (thn (po_none.run pins s1 σ H1 (fun o H2 => o = none ∧ H2 = H1) I1 ⟨rfl, rfl⟩) fun vl s2 ⟨l, H2, I2, pl, el, e2⟩ => ?_)
  subst el e2
  refine thn (po_none.run pins s2 σ H2 (fun o H3 => o = none ∧ H3 = H2) I2 ⟨rfl, rfl⟩) fun vu s3 ⟨u, H3, I3, pu, eu, e3⟩ => ?_
  subst eu e3
  refine thn (hst.run pins s3 σ H3 (fun o H4 => o = some (-1) ∧ H4 = H3) I3 ⟨1, rfl, -1, rfl, rfl, rfl⟩) fun vs s4 ⟨o, H4, I4, ps, eo, e4⟩ => ?_
  subst eo e4
  obtain rfl : vl = .none := by cases pl; rfl
  obtain rfl : vu = .none := by cases pu; rfl
  have I5 : Inv X pins σ H4 { s4 with heap := s4.heap.push { cls := .type "slice", data := .fields #[.none, .none, vs] } } := I4.kept (t' := s4.toks) fun b ob q => Heap.get?_push_of_some _ q
  obtain ⟨its, r, ht, hz⟩ := I5.tuple hx
  have hlen := r.length
  show wpAny (model X.prog X.w) X.A (subscriptTail e (.Slice none none (some (.UnaryOp .USub (.Constant (.int 1) k p1) p2)) p3) (.ref a) (.ref s4.heap.objs.size)) (EP X pins σ Q) X.xe { s4 with heap := s4.heap.push { cls := .type "slice", data := .fields #[.none, .none, vs] } }
  refine tail_any (ops := [.ref a, .ref s4.heap.objs.size]) ht.typeIs (PyProof.Rows.slot_tuple_getitem.lookup) ?_ (by with_unfolding_all rfl)
  refine getItem_tuple_back ht (Heap.IsSliceOf.new _ .none .none vs) ps ?_ (by rw [List.size_toArray]; omega)
  refine ⟨.ref _, _, I5.laid (t' := s4.toks) (o := .tup xs.reverse) (fun b ob q => Heap.get?_push_of_some _ q) (Nat.le_refl _) ?_, rfl, q _ (I5.hok.fresh (Nat.le_refl _))⟩
  exact ⟨by rw [List.length_reverse]; exact hz, _, r.reverse, IsTup.new _ _⟩
section
variable {X : Cx}
/-- how often the data stands in the list -/
def rCountD (K : PySem.W.Frag) : V → List V → Hp → VK → Prop := fun x xs H Q => ∃ (l : Addr) (y : V) (vs : List V) (d : PyData) (ds : List PyData), x = .ref l ∧ xs = [y] ∧ SqL K H l vs ∧ DpAll K H vs ds ∧ Dp K H y d ∧
  PyData.plainAll ds = true ∧ d.plain = true ∧ d.depth ≤ 60 ∧ Q (.int ((ds.countP fun z => PyData.eqv z d : Nat) : Int)) H
theorem mt_countDK (K : PySem.W.Frag) (same : X.K = K) (room : X.A.units + 65 < cLine) : MtR X "list.count" (rCountD K) := by
  subst same
  intro pins st σ H o given ov gv Q J ro rg asked
  obtain ⟨l, y, vs, d, ds, rfl, rfl, onL, dpL, dpY, plL, plY, deep, done⟩ := asked
  cases ro
  obtain ⟨yv, rfl, ry⟩ := rg.one
  have ⟨ys, readY⟩ := Dp.reads J d y yv dpY ry
  have ⟨its, rels, isL, _⟩ := J.list onL
  have ⟨as, readL⟩ := Dp.readsAll J ds vs its dpL rels
  have few := Nat.min_le_right (PyData.depthAll ds) d.depth
  exact SeqAt.count_list_data (vs := its.toArray) isL.isList (show ReadsAll st.heap its.toArray.toList ds as from readL) readY plL plY (by omega) ⟨.int (ds.countP fun z => PyData.eqv z d : Nat), H, J.tok _, ⟨st.toks, rfl⟩, done⟩
end
/-! ### all(..), any(..) over anything that can be walked, whatever a def of ours does in the element -/
section
open PySem.Spec GxR GenW
/-- the table's growth, when the generator's code object was got -/
structure GotC (P : Addr) (ps : Array Value) (z z' : Shared) : Prop where
  same : z' = { z with heap := z'.heap, toks := z'.toks }
  ext : Heap.ExtBut P z.heap z'.heap
  tab : ∃ more, z'.heap.get? P = some { cls := .none, data := .fields (ps ++ more) } ∧ TriplesOk (ps ++ more).toList
theorem code_gotC {prog : Program} {w : World} {A : Around} {E : Value → Shared → Prop} {env : Env} {gpos : Pos} {nm : Str} {scope : Scope} {c P : Addr} {ps : Array Value} {z : Shared}
    (hcode : env.code = .ref c) (cd : PySem.W.CodeHd z.heap c P) (hP : z.heap.get? P = some { cls := .none, data := .fields ps }) (ht : TriplesOk ps.toList) :
    wpAny (model prog w) A (genexprCode env gpos nm scope) (fun _ z' => GotC P ps z z') E z := by
  cases among : codeAmong gpos ps.toList with
  | some cv => exact wpAny_genexprCode_hit hcode (cd.code hP ht) among ⟨rfl, .refl _ _, #[], by simpa using hP, by simpa using ht⟩
  | none =>
    refine wpAny_genexprCodeX hcode (cd.code hP ht) (cd.tab hP) among fun c' h' tk ext ge lt co _ tab _ => ?_
    obtain ⟨_, _, _, _, _, _, _, _, _, _, _, _, _, _, _, _, _, _, _, tr, _⟩ := co
    exact ⟨rfl, ext, _, tab.2, tr⟩
/-- the generator sleeps: others may have run generators, nothing else has changed -/
def Woke (s s' : Shared) : Prop := ∃ (g' : Array GenState) (tk : Nat), s' = { s with gens := g', toks := tk } ∧ AllBare g'
theorem Woke.trans {a b c : Shared} (h : Woke a b) (k : Woke b c) : Woke a c := by
  obtain ⟨g1, t1, rfl, _⟩ := h
  obtain ⟨g2, t2, rfl, b2⟩ := k
  exact ⟨g2, t2, rfl, b2⟩
theorem inv_woke {X : Cx} {pins : List (Addr × Obj)} {σ : L2.St} {H : Hp} {s s' : Shared} (I : Inv X pins σ H s) (k : Woke s s') : Inv X pins σ H s' := by
  obtain ⟨g', tk, rfl, b⟩ := k
  exact I.call (h' := s.heap) (d' := s.drawn) (ch := []) Un.refl I.hok b (fun _ z => nomatch z)
theorem bare_set {a : Array GenState} {g : Nat} {x : GenState} (h : AllBare a) (hx : x.bare = true) : AllBare (a.setIfInBounds g x) := fun y hy => by
  obtain ⟨i, hi, e⟩ := Array.mem_iff_getElem.mp hy
  rw [Array.getElem_setIfInBounds] at e
  · by_cases z : g = i
    · rw [if_pos z] at e
      rw [← e]; exact hx
    · rw [if_neg z] at e
      rw [← e]; exact h _ (Array.getElem_mem _)
  · rw [Array.size_setIfInBounds] at hi
    exact hi
/-- the context of a generator's frame: the objects at fp are its iterator's -/
abbrev gcx (X : Cx) (A' : Around) (N' : List Str) (s : Shared) (H : Hp) (cenv : Env) (fp : List Addr) (pn : List (Addr × Obj)) : Cx :=
  { X with A := A', N := N', s_0 := s, H_0 := H, env := cenv, outer := X.stack, stack := cenv :: X.stack, ex := fp, fn := fun _ => false, pn := pn, xe := fun _ _ => False }
/-- a generator's names: its own, and those that it takes from the def around it -/
structure GenN (X : Cx) (scope : Scope) (N' : List Str) (sg : L2.St → L2.St) : Prop where
  kind : scope.kind = .function
  co : scope.isCoroutine = false
  cell : ∀ y ∈ scope.names, y.2 ≠ .cell
  dot : scope.names.lookup (".0" : Str) = some NameKind.local
  free : ∀ y ∈ scope.names, y.2 = .free → X.env.scope.names.lookup y.1 = some .cell ∨ X.env.scope.names.lookup y.1 = some .free
  len : ∀ σ, (sg σ).length = N'.length
  took : ∀ σ (i : Nat) x v, N'[i]? = some x → (sg σ)[i]? = some (some v) → scope.names.lookup x = some .free ∧ ∃ j : Nat, X.N[j]? = some x ∧ σ[j]? = some (some v)
theorem gen_start {X : Cx} {pins : List (Addr × Obj)} {σ : L2.St} {H : Hp} {s : Shared} {scope : Scope} {N' : List Str} {sg : L2.St → L2.St} {A' : Around} {it : Value} {fp : List Addr} {code : Value} {h' : Heap} {go : Obj} {gens' : Array GenState} {tk : Nat}
    (I : Inv X pins σ H s) (S : GenN X scope N' sg) (hfp : ∀ b ∈ fp, FpOk X pins H b ∧ b < s.heap.objs.size)
    (hA : A'.frames = some (genEnv scope (cloFrom X.env.cells scope.names []) s.heap.objs.size code builtinsNs X.env :: X.stack)) (hh : A'.handled = none)
    (hn : h'.Ns s.heap.objs.size (fun y => if y = ".0" then some it else none)) (sb : Heap.SameBut s.heap.objs.size (s.heap.push { cls := .type "frame", data := .dict #[] }) h') (hd : ∀ v, go.data ≠ .cell v)
    (hpush : (h'.push go).get? h'.objs.size = some go) (bare : AllBare gens') :
    Inv (gcx X A' N' s H (genEnv scope (cloFrom X.env.cells scope.names []) s.heap.objs.size code builtinsNs X.env) fp [(h'.objs.size, go)]) [] (sg σ) H { s with gens := gens', toks := tk, heap := h'.push go } := by
  have sz : h'.objs.size = s.heap.objs.size + 1 := by rw [sb.1, Heap.size_push]
  have keep : ∀ b o, s.heap.get? b = some o → (h'.push go).get? b = some o := fun b o e => Heap.get?_push_of_some _ (sb.extBut b o (Nat.ne_of_lt (Heap.lt_size e)) (Heap.get?_push_of_some _ e))
  have has : ∀ y ∈ scope.names, y.2 = .free → ∃ c, X.env.cells.lookup y.1 = some c := fun y hy e => I.ok.has _ ((S.free y hy e).elim .inl .inr)
  have look : ∀ {x : Str} {c : Addr}, (cloFrom X.env.cells scope.names []).lookup x = some c → (x, NameKind.free) ∈ scope.names ∧ X.env.cells.lookup x = some c := fun {x c} e => by
    rcases cloFrom_mem (PySem.mem_of_lookup e) with z | ⟨z1, z2⟩
    · cases z
    · obtain ⟨c', e'⟩ := has _ z1 rfl
      rw [e'] at z2
      exact ⟨z1, by rw [e', z2]; rfl⟩
  have find : ∀ {x : Str}, scope.names.lookup x = some .free → ∃ c, (cloFrom X.env.cells scope.names []).lookup x = some c := fun {x} e => mem_lookup (cloFrom_has (PySem.mem_of_lookup e))
  have apart : ∀ b, s.heap.objs.size ≤ b → b ∉ frs X.stack := fun b hb m => by
    rcases List.mem_cons.mp (I.stkSub b m) with z | z
    · exact absurd (Nat.lt_of_lt_of_le I.lt (z ▸ hb)) (Nat.lt_irrefl _)
    · exact I.nofs hb z
  refine ⟨⟨I.ok.mod, S.kind, I.ok.glob, rfl, Nat.le_refl _, fun x y c h1 h2 => I.ok.inj x y c (look h1).2 (look h2).2, fun x hx => ?_, (fun x c h _ => nomatch h), fun _ => hh, hA, .inr ⟨rfl, rfl⟩, fun b hb => ⟨Nat.ne_of_lt (hfp b hb).2, fun x c e => (hfp b hb).1.2.2.2.2.1 x c (look e).2⟩, I.bs, Nat.le_trans I.ok.bsz I.sz, fun b o e hb => ?_, fun b hb m => ?_, I.stack, I.stkFree⟩,
    rfl, bare, Un.kept keep, ⟨_, hn.push _, fun i x v h1 h2 h3 => ?_⟩, fun x c e => ?_, I.hok.fresh (Nat.le_refl _), fun x c e => I.freeC x c (look e).2, fun p hp => ?_, I.hok.kept keep, S.len σ⟩
  · rcases hx with hx | hx
    · exact absurd rfl (S.cell _ (PySem.mem_of_lookup (show scope.names.lookup x = some .cell from hx)))
    · exact find hx
  · rcases (hfp b hb).1.2.2.2.1 with z | z
    · exact I.ok.noex b o e z
    · exact absurd (Nat.lt_of_lt_of_le (Heap.lt_size e) (Nat.le_trans I.ok.bsz z)) (Nat.lt_irrefl _)
  · rcases List.mem_cons.mp (I.stkSub b m) with z | z
    · exact (hfp b hb).1.2.1 z
    · exact (hfp b hb).1.2.2.1 z
  · obtain ⟨fr, j, e1, e2⟩ := S.took σ i x v h1 h2
    have kn := S.free _ (PySem.mem_of_lookup fr) rfl
    obtain ⟨m0, _, hl⟩ := I.loc
    obtain ⟨u, r, lk⟩ := hl j x v e1 e2 (kn.elim (fun z => .inr (.inl z)) (fun z => .inr (.inr z)))
    refine ⟨u, r, ?_⟩
    rcases lk with ⟨z, _⟩ | ⟨_, c, ec, ic⟩
    · have z : X.env.scope.names.lookup x = some .local := z
      rcases kn with k | k <;> rw [k] at z <;> cases z
    · obtain ⟨c', e'⟩ := find fr
      have e3 := (look e').2
      rw [ec] at e3
      obtain rfl := Option.some.inj e3
      obtain ⟨o, ho, hc⟩ := ic
      exact .inr ⟨.inr fr, _, e', o, keep _ _ ho, hc⟩
  · obtain ⟨v, o, ho, hc⟩ := I.cell x c (look e).2
    exact ⟨v, o, keep _ _ ho, hc⟩
  · have hp : p ∈ [(h'.objs.size, go)] ++ ([] : List (Addr × Obj)) := hp
    rw [List.append_nil, List.mem_singleton] at hp
    subst hp
    exact ⟨hpush, I.hok.fresh (by rw [sz]; exact Nat.le_succ _), by show h'.objs.size ≠ s.heap.objs.size; rw [sz]; exact Nat.succ_ne_self _, apart _ (by rw [sz]; exact Nat.le_succ _), hd⟩
end
section
open PySem.Spec GxR GenW
variable {X : Cx} {A2 : Around} {N' : List Str} {s0 : Shared} {H0 : Hp} {cenv : Env} {fp : List Addr} {pn : List (Addr × Obj)} {tg elt iter : Expr} {scope : Scope} {gpos : Pos} {it : Addr}
/-- the around of a generator's turn -/
abbrev genA (A2 : Around) (tg elt iter : Expr) (scope : Scope) (gpos : Pos) (it : Addr) (cenv : Env) : Around := A2.over (.compLoop (.GeneratorExp elt [⟨tg, iter, [], 0⟩] scope gpos) 0 (.ref it) .none cenv) []
/-- what a generator tells at its end -/
def genR (G : Cx) (sgσ : L2.St) (kp : Bool) (Q : Bool → Hp → Prop) : GenEnd := fun _ _ r s1 => r = .ok .next ∧ ∃ H, Inv G [] sgσ H s1 ∧ Q kp H
/-- what it hands out: a truth; the truth kp, and it may be woken again -/
def genY (G : Cx) (sgσ : L2.St) (kp : Bool) (Q : Bool → Hp → Prop) : Protocol := fun _ _ v s1 kap => ∃ b H, v = .bool b ∧ Inv G [] sgσ H s1 ∧ (b ≠ kp → Q b H) ∧ (b = kp → ∀ s2, Woke s1 s2 → kap (.send .none) s2)
theorem gen_loop {J : It} {tn : Nat → Heap → Prop} {g : TG} {te : TE} {sgσ : L2.St} {vs : List Nat} {kp : Bool} {Q : Bool → Hp → Prop} {W : Nat → Nat → Hp → Prop}
    (T : Turn X.prog X.w X.K tg J fp it tn) (hc : X.calm = true) (hco : cenv.scope.isCoroutine = false) (hpn : ∀ p ∈ pn, ∀ b ∈ fp, p.1 ≠ b)
    (pg : L2.PG (gcx X (genA A2 tg elt iter scope gpos it cenv) N' s0 H0 cenv fp pn) tg g) (pe : L2.PE (gcx X (genA A2 tg elt iter scope gpos it cenv) N' s0 H0 cenv fp pn) elt te)
    (turn : ∀ i m H, W i m H → (J.stop i H ∧ Q kp H) ∨ (J.go i H ∧ ∃ Nx : Hp → Prop, (∀ H', Nx H' → ∃ m', m' < m ∧ W (i + 1) m' H') ∧ ∀ x H', J.yld i H x H' → g x sgσ H' fun σ2 H2 => wipe σ2 vs = sgσ ∧ te σ2 H2 fun y H3 => ∃ b, y = .bl b ∧ (b ≠ kp → Q b H3) ∧ (b = kp → Nx H3))) :
    ∀ (n i m : Nat) (s₀ s : Shared) (H : Hp), m < n → Inv (gcx X (genA A2 tg elt iter scope gpos it cenv) N' s0 H0 cenv fp pn) [] sgσ H s → tn i s.heap → (∀ b ∈ fp, H b = none) → W i m H →
      Seg (model X.prog X.w) A2 (genR (gcx X (genA A2 tg elt iter scope gpos it cenv) N' s0 H0 cenv fp pn) sgσ kp Q) (genY (gcx X (genA A2 tg elt iter scope gpos it cenv) N' s0 H0 cenv fp pn) sgσ kp Q) n s₀
        (.compLoop (.GeneratorExp elt [⟨tg, iter, [], 0⟩] scope gpos) 0 (.ref it) .none cenv) ((model X.prog X.w).den (.compLoop (.GeneratorExp elt [⟨tg, iter, [], 0⟩] scope gpos) 0 (.ref it) .none cenv)) [] s := by
  have stat : ∀ {σ' : L2.St} {H' : Hp} {s' : Shared}, Inv (gcx X (genA A2 tg elt iter scope gpos it cenv) N' s0 H0 cenv fp pn) [] σ' H' s' → (∀ b ∈ fp, H' b = none) → ∀ b ∈ fp, FpOk (gcx X (genA A2 tg elt iter scope gpos it cenv) N' s0 H0 cenv fp pn) [] H' b := fun {σ' H' s'} I' hn b hb =>
    ⟨hn b hb, (I'.ok.exf b hb).1, I'.ok.exfs b hb, .inl hb, fun x c e => (I'.ok.exf b hb).2 x c e, fun p hp => hpn p (by simpa using hp) b hb⟩
  intro n
  induction n with
  | zero => intro i m s₀ s H h; exact absurd h (Nat.not_lt_zero _)
  | succ n ih =>
    intro i m s₀ s H hm I st nf w
    show Seg _ A2 _ _ _ s₀ _ ((compTurn (.GeneratorExp elt [⟨tg, iter, [], 0⟩] scope gpos) 0 (.ref it) .none cenv).onRaise (leaving cenv)) [] s
    rw [compTurn_gen, Sem.onRaise_eq_wrap]
    refine seg_bind_wrap (wpAny_standAt ?_)
    rcases turn i m H w with ⟨stop, q⟩ | ⟨go, Nx, hNx, step⟩
    · refine seg_bind_wrap (wpAny_mono (T.done (gcx X (genA A2 tg elt iter scope gpos it cenv) N' s0 H0 cenv fp pn) rfl rfl rfl hc i [] s _ H (fun _ _ => False) I (stat I nf) st stop) (fun r s6 ⟨hr, I6⟩ => ?_) fun _ _ z => z.elim)
      subst hr
      exact seg_end (.ok .next) ⟨rfl, H, I6, q⟩
    · refine seg_bind_wrap (wpAny_mono (T.item (gcx X (genA A2 tg elt iter scope gpos it cenv) N' s0 H0 cenv fp pn) rfl rfl rfl hc i [] s _ H (fun _ _ => False) I (stat I nf) st go) (fun r s6 ⟨u, hr, h6⟩ => ?_) fun _ _ z => z.elim)
      subst hr
      refine seg_bind_wrap (wpAny_mono h6 (fun _ s7 ⟨x, H7, I7, r7, y7, st7, n7⟩ => ?_) fun _ _ z => z.elim)
      have I7' := I7.pinned (stat I7 n7) (T.obj _ _ st7)
      refine seg_bind_wrap (wpAny_mono (pg.run _ s7 _ H7 x u _ I7' r7 (step x H7 y7)) (fun _ s8 ⟨σ8, H8, I8, hw8, q8⟩ => ?_) fun _ _ z => z.elim)
      refine seg_bind_wrap ?_
      rw [List.forIn_nil]
      refine wpAny_pure ?_
      simp only [if_true]
      have hy : ∀ v, yieldOut cenv v = yieldValue v := fun v => by simp only [yieldOut, hco, Bool.false_eq_true, if_false]
      simp only [hy]
      rw [Sem.bind_eq_wrap', Sem.bind_eq_wrap', Sem.wrap_wrap, Sem.wrap_wrap]
      refine seg_wrap (wpAny_mono (pe.run _ s8 σ8 H8 _ I8 q8) (fun z s9 ⟨yv, H9, I9, r9, b, ey, no, yes⟩ => ?_) fun _ _ z => z.elim)
      subst ey
      obtain rfl : z = .bool b := r9
      have pin' : ∀ b ∈ fp, ∀ o, s7.heap.get? b = some o → s9.heap.get? b = some o ∧ H9 b = none := fun b hb o e =>
        let z := I9.pin (b, o) (List.mem_append_right _ (List.mem_append_right _ (mem_pinsAt hb e)))
        ⟨z.1, z.2.1⟩
      have hl : sgσ.length = σ8.length := by rw [← hw8, wipe_length]
      have I10 : Inv (gcx X (genA A2 tg elt iter scope gpos it cenv) N' s0 H0 cenv fp pn) [] sgσ H9 s9 := (I9.unpinned (pins := [])).weak hl fun j v e => by
        rw [← hw8] at e
        exact (wipe_some e).1
      have st9 := T.keep _ _ _ st7 fun b hb o e => (pin' b hb o e).1
      have n9 : ∀ b ∈ fp, H9 b = none := fun b hb => by
        obtain ⟨o, e, _⟩ := T.obj _ _ st7 b hb
        exact (pin' b hb o e).2
      refine seg_at (seg_yield rfl rfl rfl ⟨b, H9, rfl, I10, no, fun eb s2 wk => ?_⟩)
      obtain ⟨m', lt, w'⟩ := hNx H9 (yes eb)
      have I2 := inv_woke I10 wk
      obtain ⟨g', tk, rfl, _⟩ := wk
      exact seg_again rfl (ih (i + 1) m' _ _ H9 (by omega) I2 st9 n9 w')
end
section
open PySem.Spec GxR GenW
variable {X : Cx} {A2 : Around} {N' : List Str} {s0 : Shared} {H0 : Hp} {cenv : Env} {fp : List Addr} {pn : List (Addr × Obj)} {tg elt iter : Expr} {scope : Scope} {gpos : Pos} {it : Addr}
theorem gen_begin {J : It} {tn : Nat → Heap → Prop} {R : GenEnd} {Y : Protocol} {n : Nat} {s₀ s : Shared} (T : Turn X.prog X.w X.K tg J fp it tn) (st : tn 0 s.heap)
    (loop : Seg (model X.prog X.w) A2 R Y n s₀ (.compLoop (.GeneratorExp elt [⟨tg, iter, [], 0⟩] scope gpos) 0 (.ref it) .none cenv) ((model X.prog X.w).den (.compLoop (.GeneratorExp elt [⟨tg, iter, [], 0⟩] scope gpos) 0 (.ref it) .none cenv)) [] s) :
    Seg (model X.prog X.w) A2 R Y n s₀ (.compStart (.GeneratorExp elt [⟨tg, iter, [], 0⟩] scope gpos) 0 (.ref it) .none cenv) ((model X.prog X.w).den (.compStart (.GeneratorExp elt [⟨tg, iter, [], 0⟩] scope gpos) 0 (.ref it) .none cenv)) [] s := by
  show Seg _ A2 _ _ _ s₀ _ ((compStart (.GeneratorExp elt [⟨tg, iter, [], 0⟩] scope gpos) 0 (.ref it) .none cenv).onRaise (leaving cenv)) [] s
  unfold compStart
  rw [Sem.onRaise_eq_wrap]
  show Seg _ A2 _ _ _ s₀ _ ((ask >>= _).wrap _ _ _ _) [] s
  refine seg_bind_wrap (wpAny_askSetting ?_)
  split
  · exact seg_again rfl loop
  · refine seg_bind_wrap (wpAny_rule (seg_bind_wrap (wpAny_standAt (seg_bind_wrap (T.self _ 0 s _ _ st (seg_again rfl loop))))))
/-- a generator asleep, that may be woken n times more -/
structure Asleep (X : Cx) (A2 : Around) (G : Cx) (sgσ : L2.St) (kp : Bool) (Q : Bool → Hp → Prop) (a : Addr) (k : Nat) (n : Nat) (s : Shared) : Prop where
  inv : ∃ H, Inv G [] sgσ H s
  is : ∀ {s' : Shared} {H' : Hp}, Inv G [] sgσ H' s' → s'.heap.IsGen a k
  at_ : ∃ gs, s.gens[k]? = some gs ∧ ∀ s2, Woke s s2 → gs.Goes (model X.prog X.w) A2 (genR G sgσ kp Q) (genY G sgσ kp Q) n (.send .none) s2
theorem setGen_woke {s : Shared} {k : Nat} {x : GenState} (h : AllBare s.gens) (hx : x.bare = true) : Woke s (s.setGen k x) := ⟨_, s.toks, rfl, bare_set h hx⟩
theorem setGen_at {s : Shared} {k : Nat} {x : GenState} (h : k < s.gens.size) : (s.setGen k x).gens[k]? = some x := by
  show (s.gens.setIfInBounds k x)[k]? = some x
  rw [Array.getElem?_setIfInBounds_self, if_pos h]
theorem gen_next {A : Around} {G : Cx} {sgσ : L2.St} {kp : Bool} {Q : Bool → Hp → Prop} {a : Addr} {k n : Nat} {s : Shared} {R : Option Value → Shared → Prop} {E : Value → Shared → Prop} (hh : A.handled = none) (hd : A.depth < recursionLimit) (z : Asleep X A.in1 G sgσ kp Q a k n s)
    (yes : ∀ n' s', n = n' + 1 → Asleep X A.in1 G sgσ kp Q a k n' s' → R (some (.bool kp)) s')
    (no : ∀ b H s', b ≠ kp → Inv G [] sgσ H s' → Q b H → R (some (.bool b)) s') (done : ∀ H s', Inv G [] sgσ H s' → Q kp H → R none s') : wpAny (model X.prog X.w) A (pyNext (.ref a)) R E s := by
  obtain ⟨H0, I0⟩ := z.inv
  obtain ⟨gs, hgs, hgo⟩ := z.at_
  have ks : k < s.gens.size := by
    rcases Nat.lt_or_ge k s.gens.size with h | h
    · exact h
    · rw [Array.getElem?_eq_none h] at hgs; cases hgs
  refine wpAny_gsz (n := k + 1) ks ?_
  refine wpAny_pyNext_genexpQ (P := fun _ _ s1 => ∃ H, Inv G [] sgσ H s1 ∧ Q kp H) (Y := genY G sgσ kp Q) hh I0.nolimit hd (z.is I0) hgs (hgo _ (setGen_woke I0.bare rfl)) (fun v s1 gs' hb hy => ?_) fun s1 ⟨H, I, q⟩ h' hk _ => ?_
  · obtain ⟨b, H, rfl, I, stop, on⟩ := hy
    have wk := setGen_woke (k := k) I.bare hb
    intro sz
    have sz : k < s1.gens.size := by
      have e : (s1.setGen k gs').gens.size = s1.gens.size := setGen_size ..
      rw [e] at sz
      exact sz
    by_cases eb : b = kp
    · subst eb
      have on := on rfl
      cases n with
      | zero => exact (on s1 ⟨s1.gens, s1.toks, rfl, I.bare⟩).elim
      | succ n' => exact yes n' _ rfl ⟨⟨H, inv_woke I wk⟩, z.is, gs', setGen_at sz, fun s2 w2 => on s2 (wk.trans w2)⟩
    · exact no b H _ eb (inv_woke I wk) (stop eb)
  · have J : Inv G [] sgσ H { s1.setGen k .finished with heap := h' } := by
      have J1 := inv_woke I (setGen_woke (k := k) (x := .finished) I.bare rfl)
      exact J1.kept (t' := s1.toks) hk
    exact done H _ J q
theorem all_loop {A : Around} {G : Cx} {sgσ : L2.St} {Q : Bool → Hp → Prop} {a : Addr} {k : Nat} (hh : A.handled = none) (hd : A.depth < recursionLimit) :
    ∀ (n : Nat) (s : Shared), Asleep X A.in1.in1 G sgσ true Q a k n s → codeAny (model X.prog X.w) A (.builtin "all.loop" ⟨[.ref a], []⟩) (fun r s' => ∃ b H, r = .ok (.ret (.bool b)) ∧ Inv G [] sgσ H s' ∧ Q b H) s := by
  intro n
  induction n with
  | zero =>
    intro s z
    refine codeAny_builtin F.entry_all_loop ?_
    rw [Around.under_plainId F.plain_all_loop _]
    show wpAny _ A.in1 (pyNext (.ref a) >>= _) _ _ s
    refine wpAny_bind (gen_next (A := A.in1) hh hd z (fun n' s' e => nomatch e) (fun b H s' eb I q => ?_) fun H s' I q => ?_)
    · obtain rfl : b = false := by cases b <;> first | rfl | exact absurd rfl eb
      refine wpAny_bind (wpAny_holding (wpAny_truthy_bool ?_))
      refine wpAny_bind (wpAny_letGo ?_)
      simp only [Bool.false_eq_true, if_false]
      exact wpAny_bind (wpAny_rule (wpAny_pure ⟨false, H, rfl, I, q⟩))
    · exact wpAny_bind (wpAny_rule (wpAny_pure ⟨true, H, rfl, I, q⟩))
  | succ n ih =>
    intro s z
    refine codeAny_builtin F.entry_all_loop ?_
    rw [Around.under_plainId F.plain_all_loop _]
    show wpAny _ A.in1 (pyNext (.ref a) >>= _) _ _ s
    refine wpAny_bind (gen_next (A := A.in1) hh hd z (fun n' s' e z' => ?_) (fun b H s' eb I q => ?_) fun H s' I q => ?_)
    · obtain rfl : n' = n := by omega
      refine wpAny_bind (wpAny_holding (wpAny_truthy_bool ?_))
      refine wpAny_bind (wpAny_letGo ?_)
      simp only [if_true]
      exact wpAny_pure ⟨plainId_quiet F.plain_all_loop _, ih _ z'⟩
    · obtain rfl : b = false := by cases b <;> first | rfl | exact absurd rfl eb
      refine wpAny_bind (wpAny_holding (wpAny_truthy_bool ?_))
      refine wpAny_bind (wpAny_letGo ?_)
      simp only [Bool.false_eq_true, if_false]
      exact wpAny_bind (wpAny_rule (wpAny_pure ⟨false, H, rfl, I, q⟩))
    · exact wpAny_bind (wpAny_rule (wpAny_pure ⟨true, H, rfl, I, q⟩))
theorem any_loop {A : Around} {G : Cx} {sgσ : L2.St} {Q : Bool → Hp → Prop} {a : Addr} {k : Nat} (hh : A.handled = none) (hd : A.depth < recursionLimit) :
    ∀ (n : Nat) (s : Shared), Asleep X A.in1.in1 G sgσ false Q a k n s → codeAny (model X.prog X.w) A (.builtin "any.loop" ⟨[.ref a], []⟩) (fun r s' => ∃ b H, r = .ok (.ret (.bool b)) ∧ Inv G [] sgσ H s' ∧ Q b H) s := by
  intro n
  induction n with
  | zero =>
    intro s z
    refine codeAny_builtin F.entry_any_loop ?_
    rw [Around.under_plainId F.plain_any_loop _]
    show wpAny _ A.in1 (pyNext (.ref a) >>= _) _ _ s
    refine wpAny_bind (gen_next (A := A.in1) hh hd z (fun n' s' e => nomatch e) (fun b H s' eb I q => ?_) fun H s' I q => ?_)
    · obtain rfl : b = true := by cases b <;> first | rfl | exact absurd rfl eb
      refine wpAny_bind (wpAny_holding (wpAny_truthy_bool ?_))
      refine wpAny_bind (wpAny_letGo ?_)
      simp only [if_true]
      exact wpAny_bind (wpAny_rule (wpAny_pure ⟨true, H, rfl, I, q⟩))
    · exact wpAny_bind (wpAny_rule (wpAny_pure ⟨false, H, rfl, I, q⟩))
  | succ n ih =>
    intro s z
    refine codeAny_builtin F.entry_any_loop ?_
    rw [Around.under_plainId F.plain_any_loop _]
    show wpAny _ A.in1 (pyNext (.ref a) >>= _) _ _ s
    refine wpAny_bind (gen_next (A := A.in1) hh hd z (fun n' s' e z' => ?_) (fun b H s' eb I q => ?_) fun H s' I q => ?_)
    · obtain rfl : n' = n := by omega
      refine wpAny_bind (wpAny_holding (wpAny_truthy_bool ?_))
      refine wpAny_bind (wpAny_letGo ?_)
      simp only [Bool.false_eq_true, if_false]
      exact wpAny_pure ⟨plainId_quiet F.plain_any_loop _, ih _ z'⟩
    · obtain rfl : b = true := by cases b <;> first | rfl | exact absurd rfl eb
      refine wpAny_bind (wpAny_holding (wpAny_truthy_bool ?_))
      refine wpAny_bind (wpAny_letGo ?_)
      simp only [if_true]
      exact wpAny_bind (wpAny_rule (wpAny_pure ⟨true, H, rfl, I, q⟩))
    · exact wpAny_bind (wpAny_rule (wpAny_pure ⟨false, H, rfl, I, q⟩))
end
section
open PySem.Spec GxR GenW
/-- all (kp true), any (kp false): over what comes, g puts it under its names, te tells the element; the table at P may grow -/
def tQuant (kp : Bool) (P : Addr) (wi : TI) (sg : L2.St → L2.St) (g : TG) (te : TE) (vs : List Nat) : TE := fun σ H Q => wi σ H fun J H1 => TabG H1 P ∧ ∀ H2, Tabbed P H1 H2 → ∃ W : Nat → Nat → Hp → Prop, (∃ m, W 0 m H2) ∧ ∀ i m H, W i m H →
  (J.stop i H ∧ Q (.bl kp) H) ∨ (J.go i H ∧ ∃ Nx : Hp → Prop, (∀ H', Nx H' → ∃ m', m' < m ∧ W (i + 1) m' H') ∧ ∀ x H', J.yld i H x H' → g x (sg σ) H' fun σ2 H3 => wipe σ2 vs = sg σ ∧ te σ2 H3 fun y H4 => ∃ b, y = .bl b ∧ (b ≠ kp → Q (.bl b) H4) ∧ (b = kp → Nx H4))
theorem over_gen {A : Around} {elt tg iter : Expr} {scope : Scope} {gpos : Pos} {it acc : Value} {cenv : Env} : A.over (.compLoop (.GeneratorExp elt [⟨tg, iter, [], 0⟩] scope gpos) 0 it acc cenv) [] = A.deeper cenv := by
  first
    | rfl
    | (obtain ⟨hd, d, fr, gs, u⟩ := A; simp [Around.over, Around.deeper, marksOver, frameCount, unitsOf, envsOf, guardsOf, pushEnvs, pushGuards, Code.envs, Code.env?, Code.isFrame, Code.guards, Code.isGuard, Code.weight, Code.frames, Code.isCreation, Code.isCaller, Code.cUnits])
theorem gen_made {X : Cx} {c P : Addr} {elt iter tg : Expr} {scope : Scope} {gpos : Pos} {N' : List Str} {sg : L2.St → L2.St} {kp : Bool} {wi : TI} {g : TG} {te : TE} {vs : List Nat} {k : Nat} {pins : List (Addr × Obj)} {σ : L2.St} {H : Hp} {s : Shared} {Q : VK}
    (hr : Room (k + 1) X.A) (hc : X.calm = true) (TB : TabB X.base X.mg c P) (hcode : X.env.code = .ref c) (S : GenN X scope N' sg) (hi : L2.PI X tg iter wi) (hs : ∀ v, genFold iter X.env v = pure v)
    (pg : ∀ (A' : Around) (s : Shared) (H : Hp) (cl : List (Str × Addr)) (C bi : Addr) (code : Value) (fp : List Addr) (pn : List (Addr × Obj)), Room k A' → L2.PG (gcx X A' N' s H (genEnv scope cl C code bi X.env) fp pn) tg g)
    (pe : ∀ (A' : Around) (s : Shared) (H : Hp) (cl : List (Str × Addr)) (C bi : Addr) (code : Value) (fp : List Addr) (pn : List (Addr × Obj)), Room k A' → L2.PE (gcx X A' N' s H (genEnv scope cl C code bi X.env) fp pn) elt te)
    (I : Inv X pins σ H s) (h : tQuant kp P wi sg g te vs σ H Q) :
    wpAny (model X.prog X.w) X.A (eval (.GeneratorExp elt [⟨tg, iter, [], 0⟩] scope gpos) X.env) (fun gv z => ∃ (a : Addr) (kk n : Nat) (G : Cx), gv = .ref a ∧ Asleep X X.A.in1.in1 G (sg σ) kp (fun b H' => Q (.bl b) H') a kk n z ∧ ∀ s' b H', Inv G [] (sg σ) H' s' → Q (.bl b) H' → EP X pins σ Q (.bool b) s') X.xe s := by
  have has : ∀ y ∈ scope.names, y.2 = .free → ∃ c, X.env.cells.lookup y.1 = some c := fun y hy e => I.ok.has _ ((S.free y hy e).elim .inl .inr)
  refine wpAny_GeneratorExp_make S.co (closure_ok has) S.cell S.dot S.kind (by have := hr.dp; omega) ?_ hs
  refine thn (hi.run pins s σ H _ I h) fun xv s1 hx => thn hx fun itv s2 ⟨it, fp, tn, J, H2, ei, I2, T, st2, f2, ⟨ps, hP, tri⟩, q⟩ => ?_
  subst ei
  have tabP : s2.heap.get? P = some { cls := .none, data := .fields ps } := I2.hok P _ hP
  refine ⟨I2.nolimit, thn (code_gotC (ps := ps) hcode (TB.code.keeps fun b o e => I2.bk b o e) tabP tri) fun code s3 got => ?_⟩
  obtain ⟨eq3, ext, more, hP3, tri3⟩ := got
  obtain ⟨h3, g3, d3, t3, o3⟩ := s3
  obtain ⟨rfl, rfl, rfl⟩ : g3 = s2.gens ∧ d3 = s2.drawn ∧ o3 = s2.os := by
    have := eq3
    simp only [Shared.mk.injEq] at this
    exact ⟨this.2.1, this.2.2.1, this.2.2.2.2⟩
  replace ext : Heap.ExtBut P s2.heap h3 := ext
  replace hP3 : h3.get? P = some { cls := .none, data := .fields (ps ++ more) } := hP3
  have kept : ∀ b o, b ≠ P → s2.heap.get? b = some o → h3.get? b = some o := fun b o nb e => ext b o nb e
  have neP : ∀ b ∈ fp, b ≠ P := fun b hb e => by
    have := (f2 b hb).1
    rw [e, hP] at this
    cases this
  have I3 : Inv X pins σ (upd H2 P (.tbl (ps ++ more))) { s2 with heap := h3, toks := t3 } := inv_tab (more := more) (h' := h3) (g' := s2.gens) (d' := s2.drawn) (t' := t3) I2 hP kept hP3 I2.bare
  have tb : Tabbed P H2 (upd H2 P (.tbl (ps ++ more))) := ⟨⟨_, upd_same, tri3⟩, fun b nb => upd_ne nb⟩
  obtain ⟨W, ⟨m0, w0⟩, turn⟩ := q _ tb
  have st3 : tn 0 h3 := T.keep _ _ _ st2 fun b hb o e => kept b o (neP b hb) e
  have n3 : ∀ b ∈ fp, upd H2 P (.tbl (ps ++ more)) b = none := fun b hb => by rw [upd_ne (neP b hb)]; exact (f2 b hb).1
  have f3 : ∀ b ∈ fp, FpOk X pins (upd H2 P (.tbl (ps ++ more))) b ∧ b < h3.objs.size := fun b hb => by
    obtain ⟨o, e, _⟩ := T.obj _ _ st3 b hb
    exact ⟨⟨n3 b hb, (f2 b hb).2⟩, Heap.lt_size e⟩
  generalize upd H2 P (.tbl (ps ++ more)) = H3 at *
  obtain ⟨bm, ob, b1, b2, b3, b4, b5, b6, b7, b8⟩ := TB.bm
  refine wpAny_builtinsFor (m := X.mg) (by rw [I2.ok.glob]; exact (I2.mod.glob.keeps fun b o e => I2.bk b o e).extBut ext TB.gP) b1 b2 (kept _ _ b4 (I2.bk _ _ b5)) b6 b7 b8 ?_
  intro h' hn' sb'
  have sz : h'.objs.size = h3.objs.size + 1 := by
    have := sb'.1
    rw [this, Heap.size_push]
  generalize ego : ({ cls := .type "generator", data := .fields #[.int s2.gens.size 0, .str "<genexpr>" (t3 + 1), .str (X.env.qual ++ "<genexpr>") (t3 + 1 + 1)] } : Obj) = go
  have hpush : (h'.push go).get? h'.objs.size = some go := by
    rw [← ego]
    exact Heap.get?_push_size _ rfl
  have hgen : ∀ hh : Heap, hh.get? h'.objs.size = some go → hh.IsGen h'.objs.size s2.gens.size := fun hh e => by
    rw [← ego] at e
    exact ⟨_, _, _, e, rfl, rfl, rfl⟩
  have hd : ∀ v, go.data ≠ .cell v := fun v z => by rw [← ego] at z; cases z
  have hbare : AllBare (s2.gens.push (.fresh (.compStart (.GeneratorExp elt [⟨tg, iter, [], 0⟩] scope gpos) 0 (.ref it) .none (genEnv scope (cloFrom X.env.cells scope.names []) h3.objs.size code builtinsNs X.env)))) := AllBare.push I2.bare rfl
  have hA : (genA X.A.in1.in1 tg elt iter scope gpos it (genEnv scope (cloFrom X.env.cells scope.names []) h3.objs.size code builtinsNs X.env)).frames = some (genEnv scope (cloFrom X.env.cells scope.names []) h3.objs.size code builtinsNs X.env :: X.stack) := by
    rw [show genA X.A.in1.in1 tg elt iter scope gpos it _ = _ from over_gen]
    exact Around.frames_deeper I3.ok.frames
  have hroom : Room k (genA X.A.in1.in1 tg elt iter scope gpos it (genEnv scope (cloFrom X.env.cells scope.names []) h3.objs.size code builtinsNs X.env)) := by
    rw [show genA X.A.in1.in1 tg elt iter scope gpos it _ = _ from over_gen]
    refine ⟨hr.hd, ?_, ?_⟩
    · have := hr.dp
      show X.A.depth + 1 + 3 * k + 5 < _
      omega
    · have := hr.un
      show X.A.units + 1 + 1 + 3 + 16 * k + 200 < _
      omega
  have I4 := gen_start (tk := t3 + 1 + 1 + 1) (gens' := s2.gens.push (.fresh (.compStart (.GeneratorExp elt [⟨tg, iter, [], 0⟩] scope gpos) 0 (.ref it) .none (genEnv scope (cloFrom X.env.cells scope.names []) h3.objs.size code builtinsNs X.env)))) I3 S f3 hA hr.hd hn' sb' hd hpush hbare
  have hpn : ∀ p ∈ [(h'.objs.size, go)], ∀ b ∈ fp, p.1 ≠ b := fun p hp b hb e => by
    rw [List.mem_singleton.mp hp] at e
    have := (f3 b hb).2
    rw [← e] at this
    have this : h'.objs.size < h3.objs.size := this
    omega
  refine ⟨h'.objs.size, s2.gens.size, m0 + 1, _, rfl, ⟨⟨H3, I4⟩, fun {s' H'} I' => hgen _ (I'.pin (h'.objs.size, go) (List.mem_append_left _ (List.mem_singleton.mpr rfl))).1, _, Array.getElem?_push_size .., fun s5 wk => ⟨rfl, ?_⟩⟩, fun s' b H' I' qb => ?_⟩
  · have I5 := inv_woke I4 wk
    have st5 : tn 0 s5.heap := by
      obtain ⟨g', tk, rfl, _⟩ := wk
      exact T.keep _ _ _ st3 fun b hb o e => Heap.get?_push_of_some _ (sb'.extBut b o (Nat.ne_of_lt (Heap.lt_size e)) (Heap.get?_push_of_some _ e))
    exact gen_begin T st5 (gen_loop (kp := kp) (Q := fun b H' => Q (.bl b) H') (vs := vs) T hc S.co hpn (pg _ _ _ _ _ _ _ _ _ hroom) (pe _ _ _ _ _ _ _ _ _ hroom) turn _ 0 m0 _ _ H3 (Nat.lt_succ_self _) I5 st5 n3 w0)
  · exact ⟨.bl b, H', I3.call' (ch := fp) I'.os I'.base I'.hok I'.bare fun b hb => ⟨(f3 b hb).1.2.2.2.1, (f3 b hb).1.2.1, (f3 b hb).1.2.2.2.2.1, (f3 b hb).1.2.2.2.2.2⟩, rfl, qb⟩
end
section
open PySem.Spec GxR GenW
variable {X : Cx} {c P : Addr} {elt iter tg : Expr} {scope : Scope} {p pos gpos : Pos} {N' : List Str} {sg : L2.St → L2.St} {wi : TI} {g : TG} {te : TE} {vs : List Nat} {k : Nat}
theorem pe_allG (hr : Room (k + 1) X.A) (hc : X.calm = true) (hg : Gl X "all") (hm : X.mg "all" = none) (hb : bootBuiltins "all" = some (.builtin "all")) (TB : TabB X.base X.mg c P) (hcode : X.env.code = .ref c) (S : GenN X scope N' sg) (hi : L2.PI X tg iter wi) (hs : ∀ v, genFold iter X.env v = pure v)
    (pg : ∀ (A' : Around) (s : Shared) (H : Hp) (cl : List (Str × Addr)) (C bi : Addr) (code : Value) (fp : List Addr) (pn : List (Addr × Obj)), Room k A' → L2.PG (gcx X A' N' s H (genEnv scope cl C code bi X.env) fp pn) tg g)
    (pe : ∀ (A' : Around) (s : Shared) (H : Hp) (cl : List (Str × Addr)) (C bi : Addr) (code : Value) (fp : List Addr) (pn : List (Addr × Obj)), Room k A' → L2.PE (gcx X A' N' s H (genEnv scope cl C code bi X.env) fp pn) elt te) :
    L2.PE X (.Call (.Name "all" p) [.GeneratorExp elt [⟨tg, iter, [], 0⟩] scope gpos] [] pos) (tQuant true P wi sg g te vs) := by
  refine ⟨fun pins s σ H Q I h => ?_⟩
  refine wpAny_Call_Name_kw (ld_blt I hg hm hb (PyProof.Rows.callWith_builtin1 ?_ rfl rfl))
  show wpAny _ _ (spliced ((false, eval (.GeneratorExp elt [⟨tg, iter, [], 0⟩] scope gpos) X.env) :: backTo pos (starEach [] X.env))) _ _ s
  refine Calls.spliced_cons (thn (gen_made hr hc TB hcode S hi hs pg pe I h) fun gv z ⟨a, kk, n, G, ev, sl, fin⟩ => Calls.spliced_nil ?_)
  subst ev
  refine call_function_tree F.kind_all F.plain_all F.entry_all (F.args_all1 _) ?_
  unfold Builtin.«all»
  refine wpAny_bind (m := oneArg "all" _) (wpAny_pure ?_)
  obtain ⟨H0, I0⟩ := sl.inv
  refine wpAny_bind (wpAny_pyIter_gen (sl.is I0) ?_)
  refine wpAny_pure ⟨plainId_quiet F.plain_all_loop _, codeAny_mono (all_loop hr.hd (by have := hr.dp; omega) n z sl) fun r s' ⟨b, H', er, I', q⟩ => ?_⟩
  subst er
  exact fin s' b H' I' q
theorem pe_anyG (hr : Room (k + 1) X.A) (hc : X.calm = true) (hg : Gl X "any") (hm : X.mg "any" = none) (hb : bootBuiltins "any" = some (.builtin "any")) (TB : TabB X.base X.mg c P) (hcode : X.env.code = .ref c) (S : GenN X scope N' sg) (hi : L2.PI X tg iter wi) (hs : ∀ v, genFold iter X.env v = pure v)
    (pg : ∀ (A' : Around) (s : Shared) (H : Hp) (cl : List (Str × Addr)) (C bi : Addr) (code : Value) (fp : List Addr) (pn : List (Addr × Obj)), Room k A' → L2.PG (gcx X A' N' s H (genEnv scope cl C code bi X.env) fp pn) tg g)
    (pe : ∀ (A' : Around) (s : Shared) (H : Hp) (cl : List (Str × Addr)) (C bi : Addr) (code : Value) (fp : List Addr) (pn : List (Addr × Obj)), Room k A' → L2.PE (gcx X A' N' s H (genEnv scope cl C code bi X.env) fp pn) elt te) :
    L2.PE X (.Call (.Name "any" p) [.GeneratorExp elt [⟨tg, iter, [], 0⟩] scope gpos] [] pos) (tQuant false P wi sg g te vs) := by
  refine ⟨fun pins s σ H Q I h => ?_⟩
  refine wpAny_Call_Name_kw (ld_blt I hg hm hb (PyProof.Rows.callWith_builtin1 ?_ rfl rfl))
  show wpAny _ _ (spliced ((false, eval (.GeneratorExp elt [⟨tg, iter, [], 0⟩] scope gpos) X.env) :: backTo pos (starEach [] X.env))) _ _ s
  refine Calls.spliced_cons (thn (gen_made hr hc TB hcode S hi hs pg pe I h) fun gv z ⟨a, kk, n, G, ev, sl, fin⟩ => Calls.spliced_nil ?_)
  subst ev
  refine call_function_tree F.kind_any F.plain_any F.entry_any (F.args_any1 _) ?_
  unfold Builtin.«any»
  refine wpAny_bind (m := oneArg "any" _) (wpAny_pure ?_)
  obtain ⟨H0, I0⟩ := sl.inv
  refine wpAny_bind (wpAny_pyIter_gen (sl.is I0) ?_)
  refine wpAny_pure ⟨plainId_quiet F.plain_any_loop _, codeAny_mono (any_loop hr.hd (by have := hr.dp; omega) n z sl) fun r s' ⟨b, H', er, I', q⟩ => ?_⟩
  subst er
  exact fin s' b H' I' q
end
section
theorem genN_none {X : Cx} {scope : Scope} {N' : List Str} {n : Nat} (h1 : scope.kind = .function) (h2 : scope.isCoroutine = false) (h3 : ∀ y ∈ scope.names, y.2 ≠ .cell) (h4 : scope.names.lookup (".0" : Str) = some NameKind.local) (h5 : ∀ y ∈ scope.names, y.2 ≠ .free) (h6 : n = N'.length := by rfl) :
    GenN X scope N' (fun _ => List.replicate n none) :=
  ⟨h1, h2, h3, h4, fun y hy z => absurd z (h5 y hy), fun _ => by rw [List.length_replicate]; exact h6, fun σ i x v _ e => by
    rw [List.getElem?_replicate] at e
    split at e <;> cases e⟩
theorem genN_one {X : Cx} {scope : Scope} {ts : List Str} {f : Str} {j : Nat} (h1 : scope.kind = .function) (h2 : scope.isCoroutine = false) (h3 : ∀ y ∈ scope.names, y.2 ≠ .cell) (h4 : scope.names.lookup (".0" : Str) = some NameKind.local) (h5 : ∀ y ∈ scope.names, y.2 = .free → y.1 = f)
    (h6 : scope.names.lookup f = some .free) (h7 : X.N[j]? = some f) (h8 : X.env.scope.names.lookup f = some .cell ∨ X.env.scope.names.lookup f = some .free) :
    GenN X scope (ts ++ [f]) (fun σ => List.replicate ts.length none ++ [σ.getD j none]) :=
  ⟨h1, h2, h3, h4, fun y hy z => by rw [h5 y hy z]; exact h8, fun _ => by rw [List.length_append, List.length_append, List.length_replicate]; rfl, fun σ i x v e1 e2 => by
    by_cases h : i < ts.length
    · rw [List.getElem?_append_left (by rw [List.length_replicate]; exact h), List.getElem?_replicate] at e2
      split at e2 <;> cases e2
    · rw [List.getElem?_append_right (by omega)] at e1
      rw [List.getElem?_append_right (by rw [List.length_replicate]; omega), List.length_replicate] at e2
      cases hz : i - ts.length with
      | zero =>
        rw [hz] at e1 e2
        obtain rfl : f = x := Option.some.inj e1
        have e2 : σ.getD j none = some v := Option.some.inj e2
        refine ⟨h6, j, h7, ?_⟩
        rw [List.getD_eq_getElem?_getD] at e2
        cases hj : σ[j]? with
        | none => rw [hj] at e2; cases e2
        | some z => rw [hj] at e2; rw [show z = some v from e2]
      | succ z => rw [hz] at e1; cases e1⟩
end
/-! ### trees -/
inductive W2 where
  | sum | gap | below | most | least
def W2.s : W2 → Str
  | .sum => "sum"
  | .gap => "gap"
  | .below => "below"
  | .most => "most"
  | .least => "least"
inductive Tr where
  | nm (n : Str) (k : Nat)
  | no (i : Int)
  | tm (k : Int) (t : Tr)
  | o2 (w : W2) (a b : Tr)
  | o3 (a b c : Tr)
/-- what stands ahead of the branches -/
def Tr.hd : Tr → List V
  | .nm n k => [.str "name", .str n, nV k]
  | .no i => [.str "number", .int i]
  | .tm k _ => [.str "times", .int k]
  | .o2 w _ _ => [.str w.s]
  | .o3 _ _ _ => [.str "pick"]
def Tr.kids : Tr → List Tr
  | .nm _ _ => []
  | .no _ => []
  | .tm _ t => [t]
  | .o2 _ a b => [a, b]
  | .o3 a b c => [a, b, c]
/-- all parts, each behind its branches -/
def Tr.parts : Tr → List Tr
  | .nm n k => [.nm n k]
  | .no i => [.no i]
  | .tm k t => t.parts ++ [.tm k t]
  | .o2 w a b => a.parts ++ b.parts ++ [.o2 w a b]
  | .o3 a b c => a.parts ++ b.parts ++ c.parts ++ [.o3 a b c]
theorem Tr.parts_eq (t : Tr) : t.parts = t.kids.flatMap Tr.parts ++ [t] := by
  cases t <;> simp [Tr.parts, Tr.kids]
/-- the names that a tree leans on -/
def Tr.leans : Tr → List (Str × Nat)
  | .nm n k => [(n, k)]
  | .no _ => []
  | .tm _ t => t.leans
  | .o2 _ a b => a.leans ++ b.leans
  | .o3 a b c => a.leans ++ b.leans ++ c.leans
def Tr.isNm : Tr → Bool
  | .nm _ _ => true
  | _ => false
def Tr.ofNm : Tr → Str × Nat
  | .nm n k => (n, k)
  | _ => ("", 0)
theorem Tr.leans_eq (t : Tr) : (t.parts.filter Tr.isNm).map Tr.ofNm = t.leans := by
  induction t with
  | nm n k => rfl
  | no i => rfl
  | tm k t ih => simp [Tr.parts, Tr.leans, List.filter_append, ih, Tr.isNm, List.filter_cons]
  | o2 w a b iha ihb => simp [Tr.parts, Tr.leans, List.filter_append, iha, ihb, Tr.isNm, List.filter_cons]
  | o3 a b c iha ihb ihc => simp [Tr.parts, Tr.leans, List.filter_append, iha, ihb, ihc, Tr.isNm, List.filter_cons]
def TrAt (H : Hp) : V → Tr → Prop
  | v, .nm n k => ∃ a, v = .ref a ∧ H a = some (.tup [.str "name", .str n, nV k])
  | v, .no i => ∃ a, v = .ref a ∧ H a = some (.tup [.str "number", .int i])
  | v, .tm k t => ∃ a x, v = .ref a ∧ H a = some (.tup [.str "times", .int k, x]) ∧ TrAt H x t
  | v, .o2 w s t => ∃ a x y, v = .ref a ∧ H a = some (.tup [.str w.s, x, y]) ∧ TrAt H x s ∧ TrAt H y t
  | v, .o3 s t u => ∃ a x y z, v = .ref a ∧ H a = some (.tup [.str "pick", x, y, z]) ∧ TrAt H x s ∧ TrAt H y t ∧ TrAt H z u
theorem TrAt.op {H : Hp} {v : V} {t : Tr} (h : TrAt H v t) : ∃ a ks, v = .ref a ∧ H a = some (.tup (t.hd ++ ks)) ∧ All2 (TrAt H) ks t.kids := by
  cases t with
  | nm n k => obtain ⟨a, rfl, e⟩ := h; exact ⟨a, [], rfl, e, .nil⟩
  | no i => obtain ⟨a, rfl, e⟩ := h; exact ⟨a, [], rfl, e, .nil⟩
  | tm k t => obtain ⟨a, x, rfl, e, h⟩ := h; exact ⟨a, [x], rfl, e, .cons h .nil⟩
  | o2 w s t => obtain ⟨a, x, y, rfl, e, h, g⟩ := h; exact ⟨a, [x, y], rfl, e, .cons h (.cons g .nil)⟩
  | o3 s t u => obtain ⟨a, x, y, z, rfl, e, h, g, i⟩ := h; exact ⟨a, [x, y, z], rfl, e, .cons h (.cons g (.cons i .nil))⟩
theorem TrAt.mk {H : Hp} {a : Addr} {ks : List V} {t : Tr} (e : H a = some (.tup (t.hd ++ ks))) (h : All2 (TrAt H) ks t.kids) : TrAt H (.ref a) t := by
  cases t with
  | nm n k => cases h; exact ⟨a, rfl, e⟩
  | no i => cases h; exact ⟨a, rfl, e⟩
  | tm k t => cases h with | cons x h => cases h; exact ⟨a, _, rfl, e, x⟩
  | o2 w s t => cases h with | cons x h => cases h with | cons y h => cases h; exact ⟨a, _, _, rfl, e, x, y⟩
  | o3 s t u => cases h with | cons x h => cases h with | cons y h => cases h with | cons z h => cases h; exact ⟨a, _, _, _, rfl, e, x, y, z⟩
theorem TrAt.keep {H H' : Hp} (k : TK H H') : ∀ {t : Tr} {v : V}, TrAt H v t → TrAt H' v t := by
  intro t
  induction t with
  | nm n i => intro v h; obtain ⟨a, rfl, e⟩ := h; exact ⟨a, rfl, k _ _ e⟩
  | no i => intro v h; obtain ⟨a, rfl, e⟩ := h; exact ⟨a, rfl, k _ _ e⟩
  | tm i t ih => intro v h; obtain ⟨a, x, rfl, e, h⟩ := h; exact ⟨a, x, rfl, k _ _ e, ih h⟩
  | o2 w s t i1 i2 => intro v h; obtain ⟨a, x, y, rfl, e, h, g⟩ := h; exact ⟨a, x, y, rfl, k _ _ e, i1 h, i2 g⟩
  | o3 s t u i1 i2 i3 => intro v h; obtain ⟨a, x, y, z, rfl, e, h, g, i⟩ := h; exact ⟨a, x, y, z, rfl, k _ _ e, i1 h, i2 g, i3 i⟩
/-- the word at a tree's head -/
def Tr.wd : Tr → Str
  | .nm _ _ => "name"
  | .no _ => "number"
  | .tm _ _ => "times"
  | .o2 w _ _ => w.s
  | .o3 _ _ _ => "pick"
theorem Tr.hd_wd (t : Tr) : ∃ r, t.hd = .str t.wd :: r ∧ (∀ x ∈ r, (∃ z, x = V.str z) ∨ ∃ i, x = V.int i) := by
  cases t with
  | nm n k => exact ⟨_, rfl, fun x hx => by
      rcases List.mem_cons.mp hx with rfl | hx
      · exact .inl ⟨_, rfl⟩
      · exact .inr ⟨_, List.mem_singleton.mp hx⟩⟩
  | no i => exact ⟨_, rfl, fun x hx => .inr ⟨_, List.mem_singleton.mp hx⟩⟩
  | tm k t => exact ⟨_, rfl, fun x hx => .inr ⟨_, List.mem_singleton.mp hx⟩⟩
  | o2 w a b => exact ⟨[], rfl, fun x hx => by cases hx⟩
  | o3 a b c => exact ⟨[], rfl, fun x hx => by cases hx⟩
theorem Tr.wd_nm (t : Tr) : t.isNm = decide (t.wd = "name") := by
  cases t with
  | o2 w a b => cases w <;> rfl
  | _ => rfl
theorem All2.app {α β : Type} {R : α → β → Prop} {as : List α} {bs : List β} (h : All2 R as bs) {cs : List α} {ds : List β} (g : All2 R cs ds) : All2 R (as ++ cs) (bs ++ ds) := by
  induction h with
  | nil => exact g
  | cons r _ ih => exact .cons r ih
theorem All2.rev {α β : Type} {R : α → β → Prop} {as : List α} {bs : List β} (h : All2 R as bs) : All2 R as.reverse bs.reverse := by
  induction h with
  | nil => exact .nil
  | cons r _ ih => rw [List.reverse_cons, List.reverse_cons]; exact ih.snoc r
theorem All2.unsnoc {α β : Type} {R : α → β → Prop} {b : β} : ∀ {bs : List β} {as : List α}, All2 R as (bs ++ [b]) → ∃ as' x, as = as' ++ [x] ∧ All2 R as' bs ∧ R x b
  | [], _, .cons r .nil => ⟨[], _, rfl, .nil, r⟩
  | _ :: _, _, .cons r h => by
    obtain ⟨as', x, rfl, h', r'⟩ := All2.unsnoc h
    exact ⟨_ :: as', x, rfl, .cons r h', r'⟩
/-- what is found from a stack of trees -/
def rpS (L : List Tr) : List Tr := L.reverse.flatMap fun t => t.parts.reverse
theorem rpS_snoc (L : List Tr) (t : Tr) : rpS (L ++ [t]) = t :: rpS (L ++ t.kids) := by
  unfold rpS
  rw [List.reverse_append, List.reverse_append, List.flatMap_append, List.flatMap_append]
  show [t].reverse.flatMap _ ++ _ = _
  rw [List.reverse_singleton, List.flatMap_singleton, Tr.parts_eq, List.reverse_append, List.reverse_singleton]
  have : ∀ l : List Tr, (l.flatMap Tr.parts).reverse = l.reverse.flatMap fun t => t.parts.reverse := by
    intro l
    induction l with
    | nil => rfl
    | cons x r ih => rw [List.flatMap_cons, List.reverse_append, ih, List.reverse_cons, List.flatMap_append, List.flatMap_singleton]
  rw [this]
  rfl
/-- the things that are no texts and no numbers -/
def refB : V → Bool
  | .ref _ => true
  | _ => false
theorem refB_kids {H : Hp} {ks : List V} {ts : List Tr} (h : All2 (TrAt H) ks ts) : ks.filter refB = ks := by
  induction h with
  | nil => rfl
  | cons r _ ih =>
    obtain ⟨a, _, rfl, _⟩ := r.op
    rw [List.filter_cons, if_pos (show refB (.ref a) = true from rfl), ih]
theorem refB_hd {r : List V} (sort : ∀ x ∈ r, (∃ z, x = V.str z) ∨ ∃ i, x = V.int i) : r.filter refB = [] := by
  rw [List.filter_eq_nil_iff]
  intro x hx
  rcases sort x hx with ⟨z, rfl⟩ | ⟨i, rfl⟩ <;> exact fun z => nomatch z
theorem Tr.kids_len (t : Tr) : t.kids.length ≤ 3 := by cases t <;> simp [Tr.kids]
section
variable {P : Program} {w : World} {K : PySem.W.Frag} {mg : Str → Option Value} {base : Heap}
theorem kit_tupS {K : PySem.W.Frag} : PySem.W.kitOne K (.type "str") (.type "tuple") = some false := kit_ty (by decide +kernel)
theorem kit_tupI {K : PySem.W.Frag} : PySem.W.kitOne K (.type "int") (.type "tuple") = some false := kit_ty (by decide +kernel)
theorem kit_tupT {K : PySem.W.Frag} : PySem.W.kitOne K (.type "tuple") (.type "tuple") = some true := kit_ty (by decide +kernel)
def sp_tree_parts (K : PySem.W.Frag) : Sp := fun vs H Q _ => ∃ (v : V) (t : Tr), vs = [v] ∧ TrAt H v t ∧ t.parts.length ≤ 400 ∧ ∀ (p : Addr) (l : List V) (H' : Hp), H p = none → H' p = some (.lst l) → All2 (TrAt H') l t.parts → Same H H' → Q (.ref p) H'
theorem ok_tree_parts {f : Addr} {fd : FuncData} (F : Fun K "tree_parts" "tree_parts" s_tree_parts f fd) {C : Addr} (T : Top w K mg C) : FnOk P w K mg base CX0 1 f fd ["tree"] (sp_tree_parts K) := by
  refine F.ok sc_tree_parts (fun vs H Q E h => ?_) (fun cdv A outer s H vs Q E hr h => ?_)
  · obtain ⟨v, t, rfl, _⟩ := h
    rfl
  obtain ⟨v, t, rfl, ht, hl, q⟩ := h
  refine ⟨_, (pss_cons (ps_set (i := 1) sc_tree_parts.nd rfl (Or.inl rfl) (pe_lst pa_nil))
      (pss_cons (ps_set (i := 2) sc_tree_parts.nd rfl (Or.inl rfl) (pe_lst (pa_cons (pv 0) pa_nil)))
      (pss_cons (ps_while PassesOwn.never (pt_truthK K rfl (pv 2) (by intro _; rfl))
        (pss_cons (ps_set (i := 3) sc_tree_parts.nd rfl (Or.inl rfl) (pe_bm0K K rfl PySem.F.plainAttrs_list PySem.F.slot_list_pop PySem.F.type_list_pop mt_pop (pv 2)))
      (pss_cons (ps_expr (pe_bmK K rfl PySem.F.plainAttrs_list PySem.F.slot_list_append PySem.F.type_list_append mt_append (pv 1) (pa_cons (pv 3) pa_nil)))
      (pss_one (ps_expr (pe_bmK K rfl PySem.F.plainAttrs_list PySem.F.slot_list_extend PySem.F.type_list_extend mt_extend (pv 2) (pa_cons (pe_lc (own := [("branch", 4)]) (g := gName 4) (by rfl) sc_tree_parts.nd (pi_tupK K rfl (pe_slice (sl_tupAK K rfl) (pv 3) (po_some pe_int) po_none)) (blkOk_by (own := [("branch", 4)]) (N := N_tree_parts) (sc := defScope s_tree_parts) (by decide +kernel)) (fun _ _ _ _ _ => (pg_name (i := 4) sc_tree_parts.nd rfl (Or.inl rfl))) (fun _ _ _ _ _ => pts_one (pt_val (pe_callB (call_isiKK K rfl) (by rfl) T.m_isinstance (by decide +kernel) (pa_cons (pv 4) (pa_cons (pe_bltn (v := .ty "tuple") (by rfl) T.m_tuple (by decide +kernel) rfl) pa_nil))))) (fun _ _ _ _ _ => (pv 4))) pa_nil)))))))
      (pss_one (ps_ret (pe_revLK K rfl (pv 1))))))), ?_⟩
  refine ⟨(by show 0 ≤ sizeLine; decide), fun fl nfl => ?_⟩
  have s1 : Same H (upd H fl (.lst [])) := same_new nfl
  refine ⟨_, rfl, (by show 1 ≤ sizeLine; decide), fun ll nll => ?_⟩
  have s2 := s1.trans (same_new (o := .lst [v]) nll)
  have nel : fl ≠ ll := fun z => by rw [← z, upd_same] at nll; cases nll
  have nll0 : H ll = none := same_none s1 nll
  let W : Nat → L2.St → Hp → Prop := fun m σ H5 => ∃ (fv lv : List V) (F L : List Tr) (v3 : Option V), σ = [some v, some (.ref fl), some (.ref ll), v3, none] ∧ H5 fl = some (.lst fv) ∧ H5 ll = some (.lst lv) ∧ Same H H5 ∧ All2 (TrAt H5) fv F ∧ All2 (TrAt H5) lv L ∧ F ++ rpS L = t.parts.reverse ∧ m = (rpS L).length
  refine ⟨W, ⟨_, [], [v], [], [t], none, rfl, by rw [upd_ne nel]; exact upd_same, upd_same, s2, .nil, .cons (ht.keep (TK.same s2)) .nil, ?_, rfl⟩, ?_⟩
  · unfold rpS
    rw [List.reverse_singleton, List.flatMap_singleton]
    rfl
  rintro m σ H5 ⟨fv, lv, F, L, v3, rfl, hfl, hll, s5, aF, aL, eq, em⟩
  have lenE := congrArg List.length eq
  rw [List.length_append, List.length_reverse] at lenE
  refine ⟨_, rfl, !lv.isEmpty, .inl ⟨_, SqL.of hll, rfl⟩, ?_⟩
  rcases List.eq_nil_or_concat L with rfl | ⟨L', x, rfl⟩
  · cases aL
    show (if (false : Bool) = true then _ else _)
    rw [if_neg Bool.false_ne_true]
    refine ⟨_, rfl, fl, fv, rfl, SqL.of hfl, fun p np => ?_⟩
    have s6 : Same H5 (upd H5 p (.lst fv.reverse)) := same_new np
    have eF : F = t.parts.reverse := by
      have : rpS [] = [] := rfl
      rwa [this, List.append_nil] at eq
    have := aF.rev
    rw [eF, List.reverse_reverse] at this
    exact q p _ _ (same_none s5 np) upd_same (this.imp fun _ _ z => z.keep (TK.same s6)) (s5.trans s6)
  rw [List.concat_eq_append] at *
  obtain ⟨lv', y, rfl, aL', hy⟩ := aL.unsnoc
  have tr : (!(lv' ++ [y]).isEmpty) = true := by cases lv' <;> rfl
  rw [tr]
  refine if_bl (fun _ => ?_) (fun z => nomatch z)
  refine ⟨fun σ' H' => ∃ m', m' < m ∧ W m' σ' H', fun _ _ z => z, ?_⟩
  refine ⟨_, rfl, .inl ⟨rfl, _, SqL.of hll⟩, ll, _, y, rfl, rfl, hll, by simp, ?_⟩
  rw [List.dropLast_concat]
  have s6 : Same H (upd H5 ll (.lst lv')) := Same.own s5 nll0
  have k6 : TK H5 (upd H5 ll (.lst lv')) := TK.lst hll
  have hfl6 : upd H5 ll (.lst lv') fl = some (.lst fv) := by rw [upd_ne nel]; exact hfl
  have hll6 : upd H5 ll (.lst lv') ll = some (.lst lv') := upd_same
  replace aF := aF.imp fun _ _ z => z.keep k6
  replace aL' := aL'.imp fun _ _ z => z.keep k6
  replace hy := hy.keep k6
  generalize upd H5 ll (.lst lv') = H6 at *
  have lF := aF.length
  rw [rpS_snoc] at eq em lenE
  rw [List.length_cons] at em lenE
  refine ⟨_, rfl, .inl ⟨rfl, _, SqL.of hfl6⟩, _, rfl, fl, _, _, rfl, rfl, hfl6, small1000 (by omega), ?_⟩
  have s7 : Same H (upd H6 fl (.lst (fv ++ [y]))) := Same.own s6 nfl
  have k7 : TK H6 (upd H6 fl (.lst (fv ++ [y]))) := TK.lst hfl6
  have hfl7 : upd H6 fl (.lst (fv ++ [y])) fl = some (.lst (fv ++ [y])) := upd_same
  have hll7 : upd H6 fl (.lst (fv ++ [y])) ll = some (.lst lv') := by rw [upd_ne nel.symm]; exact hll6
  replace aF := (aF.snoc hy).imp fun _ _ z => z.keep k7
  replace aL' := aL'.imp fun _ _ z => z.keep k7
  replace hy := hy.keep k7
  generalize upd H6 fl (.lst (fv ++ [y])) = H7 at *
  obtain ⟨a, ks, rfl, ha, ak⟩ := hy.op
  obtain ⟨r, er, sort⟩ := x.hd_wd
  refine ⟨_, rfl, .inl ⟨rfl, _, SqL.of hll7⟩, _, rfl, _, rfl, ?_⟩
  dsimp only [tNoPart]
  refine slA_of ha fun p8 H8 h8 s8 => ?_
  rw [show (1 : Int) = ((1 : Nat) : Int) from rfl, cut_drop, er, List.cons_append, List.drop_succ_cons, List.drop_zero] at h8
  refine ⟨p8, rfl, ⟨_, SqT.of h8⟩, fun D nD => ?_⟩
  have mD : D ≠ ll := fun z => by rw [z, s8 _ _ hll7] at nD; cases nD
  refine lc_tup (K := K) (a := p8) (xs := r ++ ks) (fun i H9 => H9 D = some (.lst (((r ++ ks).take i).filter refB)) ∧ Same H8 H9) ⟨upd_same, same_new nD⟩ (fun i H9 _ ⟨_, s9⟩ => SqT.of (s9 _ _ h8)) ?_ ?_
  · rintro i z H9 hz ⟨hD, s9⟩
    refine ⟨rfl, ?_⟩
    have zm : (∃ y, z = V.str y) ∨ (∃ y, z = V.int y) ∨ ∃ b u, z = V.ref b ∧ TrAt H9 (.ref b) u := by
      rcases List.mem_append.mp (List.mem_of_getElem? hz) with m | m
      · rcases sort z m with y | y
        · exact .inl y
        · exact .inr (.inl y)
      · obtain ⟨j, hj⟩ := List.getElem?_of_mem m
        obtain ⟨u, _, hu⟩ := ak.getL hj
        obtain ⟨b, _, rfl, _⟩ := hu.op
        exact .inr (.inr ⟨b, u, rfl, hu.keep (TK.same (s8.trans s9))⟩)
    have tk : (r ++ ks).take (i + 1) = (r ++ ks).take i ++ [z] := by rw [List.take_add_one, hz]; rfl
    rcases zm with ⟨y, rfl⟩ | ⟨y, rfl⟩ | ⟨b, u, rfl, hu⟩
    · refine ⟨_, rfl, _, _, _, _, _, rfl, .ty "tuple", .base (.str _), kit_tupS, _, rfl, ?_⟩
      refine ⟨?_, s9⟩
      rw [hD, tk, List.filter_append]
      rw [show [V.str y].filter refB = [] from rfl, List.append_nil]
    · refine ⟨_, rfl, _, _, _, _, _, rfl, .ty "tuple", .base (.int _), kit_tupI, _, rfl, ?_⟩
      refine ⟨?_, s9⟩
      rw [hD, tk, List.filter_append]
      rw [show [V.int y].filter refB = [] from rfl, List.append_nil]
    · obtain ⟨_, k2, e2, hb, _⟩ := hu.op
      cases e2
      refine ⟨_, rfl, _, _, _, _, _, rfl, .ty "tuple", .base (.tup hb), kit_tupT, _, rfl, ?_⟩
      refine ⟨_, rfl, _, hD, ?_, ?_⟩
      · have : ((((r ++ ks).take i).filter refB)).length ≤ (r ++ ks).length := Nat.le_trans (List.length_filter_le ..) (by rw [List.length_take]; omega)
        rw [List.length_append] at this
        have l1 : r.length ≤ 3 := by
          have := congrArg List.length er
          have h3 : x.hd.length ≤ 3 := by cases x <;> simp [Tr.hd]
          rw [this, List.length_cons] at h3
          omega
        have l2 := ak.length
        have l3 := x.kids_len
        exact Nat.lt_of_le_of_lt this (small1000 (by omega))
      · refine ⟨?_, Same.own s9 nD⟩
        rw [upd_same, tk, List.filter_append]
        rfl
  rintro H9 ⟨hD, s9⟩
  rw [List.take_length, List.filter_append, refB_hd sort, List.nil_append, refB_kids ak] at hD
  have s79 := s8.trans s9
  have hll9 := s79 _ _ hll7
  refine ⟨ll, D, _, _, rfl, rfl, hll9, hD, ?_, ?_⟩
  · have l1 := aL'.length
    have l2 := ak.length
    have l3 := x.kids_len
    have l4 : L'.length ≤ (rpS (L' ++ x.kids)).length := by
      have : ∀ l : List Tr, l.length ≤ (rpS l).length := by
        intro l
        unfold rpS
        have key : ∀ m : List Tr, m.length ≤ (m.flatMap fun t => t.parts.reverse).length := by
          intro m
          induction m with
          | nil => exact Nat.le_refl _
          | cons y m ih =>
            rw [List.flatMap_cons, List.length_append, List.length_cons, List.length_reverse, Tr.parts_eq, List.length_append]
            have : [y].length = 1 := rfl
            omega
        have := key l.reverse
        rwa [List.length_reverse] at this
      have := this (L' ++ x.kids)
      rw [List.length_append] at this
      omega
    rw [sizeLine_eq]
    omega
  have k9 : TK H7 (upd H9 ll (.lst (lv' ++ ks))) := (TK.same s79).trans (TK.lst hll9)
  refine ⟨(rpS (L' ++ x.kids)).length, by omega, fv ++ [.ref a], lv' ++ ks, F ++ [x], L' ++ x.kids, _, rfl, by rw [upd_ne nel]; exact s79 _ _ hfl7, upd_same, Same.own (s7.trans s79) nll0, aF.imp fun _ _ z => z.keep k9, (aL'.app ak).imp fun _ _ z => z.keep k9, ?_, rfl⟩
  rw [← eq, List.append_assoc]; rfl
end
/-! ### formulas -/
def firstN (n : Nat) (p : Nat → Bool) : Option Nat := (List.range n).find? p
theorem firstN_at {n i : Nat} {p : Nat → Bool} (hi : i < n) (hp : p i = true) (no : ∀ j, j < i → p j = false) : firstN n p = some i := by
  unfold firstN
  rw [List.find?_range_eq_some]
  exact ⟨hp, List.mem_range.mpr hi, fun j hj => by rw [no j hj]; rfl⟩
theorem firstN_none {n : Nat} {p : Nat → Bool} (no : ∀ j, j < n → p j = false) : firstN n p = none := by
  unfold firstN
  rw [List.find?_eq_none]
  intro j hj
  rw [no j (List.mem_range.mp hj)]
  exact Bool.false_ne_true
theorem firstN_no {n : Nat} {p : Nat → Bool} (h : firstN n p = none) : ∀ j, j < n → p j = false := fun j hj => by
  have := List.find?_eq_none.mp h j (List.mem_range.mpr hj)
  exact Bool.eq_false_iff.mpr this
structure Fm where
  ins : List Str
  was : List (Str × List Int)
  rules : List (Str × Tr)
  outs : List Str
def WaAt (H : Hp) (v : V) (p : Str × List Int) : Prop := ∃ a b, v = .ref a ∧ H a = some (.tup [.str p.1, .ref b]) ∧ H b = some (.tup (p.2.map V.int))
def RlAt (H : Hp) (v : V) (p : Str × Tr) : Prop := ∃ a x, v = .ref a ∧ H a = some (.tup [.str p.1, x]) ∧ TrAt H x p.2
theorem WaAt.keep {H H' : Hp} {v : V} {p : Str × List Int} (h : WaAt H v p) (k : TK H H') : WaAt H' v p := by
  obtain ⟨a, b, rfl, e1, e2⟩ := h
  exact ⟨a, b, rfl, k _ _ e1, k _ _ e2⟩
theorem RlAt.keep {H H' : Hp} {v : V} {p : Str × Tr} (h : RlAt H v p) (k : TK H H') : RlAt H' v p := by
  obtain ⟨a, x, rfl, e1, e2⟩ := h
  exact ⟨a, x, rfl, k _ _ e1, e2.keep k⟩
def FmAt (H : Hp) (r : Addr) (F : Fm) : Prop := ∃ (a1 a2 a3 a4 : Addr) (wv rv : List V), H r = some (.tup [.ref a1, .ref a2, .ref a3, .ref a4]) ∧ H a1 = some (.tup (F.ins.map V.str)) ∧ H a2 = some (.tup wv) ∧ All2 (WaAt H) wv F.was ∧ H a3 = some (.tup rv) ∧ All2 (RlAt H) rv F.rules ∧ H a4 = some (.tup (F.outs.map V.str))
theorem FmAt.keep {H H' : Hp} {r : Addr} {F : Fm} (h : FmAt H r F) (k : TK H H') : FmAt H' r F := by
  obtain ⟨a1, a2, a3, a4, wv, rv, e0, e1, e2, e3, e4, e5, e6⟩ := h
  exact ⟨a1, a2, a3, a4, wv, rv, k _ _ e0, k _ _ e1, k _ _ e2, e3.imp fun _ _ z => z.keep k, k _ _ e4, e5.imp fun _ _ z => z.keep k, k _ _ e6⟩
/-- formulas whose was is a tuple that has no names of its own -/
def FmAtF (H : Hp) (r : Addr) (F : Fm) : Prop := ∃ (a1 a2 a3 a4 : Addr) (ob : Obj) (wv rv : List V), ob.dict = none ∧ H r = some (.tup [.ref a1, .ref a2, .ref a3, .ref a4]) ∧ H a1 = some (.tup (F.ins.map V.str)) ∧ H a2 = some (.frz ob (.tup wv)) ∧ All2 (WaAt H) wv F.was ∧ H a3 = some (.tup rv) ∧ All2 (RlAt H) rv F.rules ∧ H a4 = some (.tup (F.outs.map V.str))
theorem FmAtF.same {H H' : Hp} {r : Addr} {F : Fm} (h : FmAtF H r F) (s : Same H H') : FmAtF H' r F := by
  obtain ⟨a1, a2, a3, a4, ob, wv, rv, d, e0, e1, e2, e3, e4, e5, e6⟩ := h
  exact ⟨a1, a2, a3, a4, ob, wv, rv, d, s _ _ e0, s _ _ e1, s _ _ e2, e3.imp fun _ _ z => z.keep (TK.same s), s _ _ e4, e5.imp fun _ _ z => z.keep (TK.same s), s _ _ e6⟩
structure FmOk (F : Fm) : Prop where
  li : F.ins.length ≤ 100
  lw : F.was.length ≤ 100
  lr : F.rules.length ≤ 100
  lo : F.outs.length ≤ 100
  tr : ∀ p ∈ F.rules, p.2.parts.length ≤ 100
def dupB (l : List Str) (i : Nat) : Bool := match l[i]? with
  | some x => decide (x ∈ l.take i)
  | none => false
def dupO (l : List Str) : Option Str := (firstN l.length (dupB l)).bind fun i => l[i]?
def onS : Option Str → V
  | some z => .str z
  | none => .non
def Fm.own (F : Fm) : List Str := F.ins ++ F.rules.map (·.1)
def Fm.kept (F : Fm) : List Str := F.was.map (·.1)
def Fm.used (F : Fm) : List Str := F.kept ++ F.rules.flatMap (fun p => p.2.leans.map (·.1)) ++ F.outs
def lostO (l own : List Str) : Option Str := l.find? fun z => decide (z ∉ own)
theorem find_at {α : Type} {p : α → Bool} : ∀ {l : List α} {i : Nat} {x : α}, l[i]? = some x → p x = true → (∀ (j : Nat) (y : α), j < i → l[j]? = some y → p y = false) → l.find? p = some x
  | [], _, _, e, _, _ => nomatch e
  | a :: r, 0, x, e, hp, _ => by
    obtain rfl := Option.some.inj e
    rw [List.find?_cons, hp]
  | a :: r, i + 1, x, e, hp, no => by
    rw [List.find?_cons, no 0 a (Nat.succ_pos _) rfl]
    exact find_at (l := r) e hp fun j y hj ey => no (j + 1) y (Nat.succ_lt_succ hj) ey
def leanN (ns : List Str) (l : List (Str × Nat)) : List Str := (l.filter fun q => decide (q.2 = 0) && decide (q.1 ∈ ns)).map (·.1)
theorem nodup_get {ns : List Str} (nd : ns.Nodup) {i j : Nat} {z : Str} (h1 : ns[i]? = some z) (h2 : ns[j]? = some z) : i = j := by
  obtain ⟨l1, e1⟩ := List.getElem?_eq_some_iff.mp h1
  obtain ⟨l2, e2⟩ := List.getElem?_eq_some_iff.mp h2
  rw [List.nodup_iff_pairwise_ne, List.pairwise_iff_getElem] at nd
  rcases Nat.lt_trichotomy i j with h | h | h
  · exact absurd (e1.trans e2.symm) (nd i j l1 l2 h)
  · exact h
  · exact absurd (e2.trans e1.symm) (nd j i l2 l1 h)
theorem few_in {α : Type} [BEq α] [LawfulBEq α] : ∀ {l m : List α}, l.Nodup → (∀ x ∈ l, x ∈ m) → l.length ≤ m.length := by
  intro l
  induction l with
  | nil => intro _ _ _; exact Nat.zero_le _
  | cons x l ih =>
    intro m nd h
    obtain ⟨n1, n2⟩ := List.nodup_cons.mp nd
    have i := ih (m := m.erase x) n2 fun y hy => (List.mem_erase_of_ne (fun e : y = x => n1 (e ▸ hy))).mpr (h y (List.mem_cons_of_mem _ hy))
    have := List.length_erase_of_mem (h x (List.mem_cons_self ..))
    have pos : 0 < m.length := List.length_pos_of_mem (h x (List.mem_cons_self ..))
    show l.length + 1 ≤ m.length
    omega
/-! ### data of known size -/
structure Neat (d : PyData) (dp wt : Nat) : Prop where
  lay : d.canLay0 = true
  dep : d.depth ≤ dp
  wei : d.weight ≤ wt
  sho : d.intsShort 13 = true
  say : d.showable = true
  nod : d.hasDict = false
structure NeatAll (ds : List PyData) (dp wt : Nat) : Prop where
  lay : PyData.canLayAll0 ds = true
  dep : PyData.depthAll ds ≤ dp
  wei : PyData.weightAll ds ≤ wt
  sho : PyData.intsShortAll 13 ds = true
  say : PyData.showableAll ds = true
  nod : PyData.hasDictAll ds = false
theorem Neat.non {dp : Nat} : Neat .none dp 0 := ⟨rfl, Nat.zero_le _, Nat.le_refl _, by simp [PyData.intsShort], by simp [PyData.showable], by simp [PyData.hasDict]⟩
theorem Neat.bool {b : Bool} {dp : Nat} : Neat (.bool b) dp 0 := ⟨rfl, Nat.zero_le _, Nat.le_refl _, by simp [PyData.intsShort], by simp [PyData.showable], by simp [PyData.hasDict]⟩
theorem Neat.int {i : Int} {dp : Nat} (h : i.natAbs < 10 ^ 12) : Neat (.int i) dp 41 := by
  have l : i.natAbs.log2 < 40 := by
    by_cases z : i.natAbs = 0
    · rw [z]; decide
    · exact (Nat.log2_lt z).mpr (Nat.lt_trans h (by decide))
  refine ⟨rfl, Nat.zero_le _, ?_, ?_, ?_, by simp [PyData.hasDict]⟩
  · simp only [PyData.weight]
    split <;> omega
  · simp only [PyData.intsShort, decide_eq_true_eq]
    exact PyData.shown_int_le h
  · simp only [PyData.showable, decide_eq_true_eq]
    omega
theorem Neat.str {x : Str} {n dp : Nat} (h : PyData.canLay0 (.str x) = true) (hn : x.cps.size ≤ n) : Neat (.str x) dp n := ⟨h, Nat.zero_le _, hn, by simp [PyData.intsShort], by simp [PyData.showable], by simp [PyData.hasDict]⟩
theorem NeatAll.nil {dp : Nat} : NeatAll [] dp 0 := ⟨rfl, Nat.zero_le _, Nat.le_refl _, by simp [PyData.intsShortAll], by simp [PyData.showableAll], by simp [PyData.hasDictAll]⟩
theorem NeatAll.cons {d : PyData} {ds : List PyData} {dp a b : Nat} (h : Neat d dp a) (t : NeatAll ds dp b) : NeatAll (d :: ds) dp (a + 1 + b) := by
  refine ⟨?_, ?_, ?_, ?_, ?_, ?_⟩
  · simp only [PyData.canLayAll0, h.lay, t.lay, Bool.and_self]
  · simp only [PyData.depthAll]
    exact Nat.max_le.mpr ⟨h.dep, t.dep⟩
  · simp only [PyData.weightAll]
    have := h.wei
    have := t.wei
    omega
  · simp only [PyData.intsShortAll, h.sho, t.sho, Bool.and_self]
  · simp only [PyData.showableAll, h.say, t.say, Bool.and_self]
  · simp only [PyData.hasDictAll, h.nod, t.nod, Bool.or_self]
theorem Neat.mono {d : PyData} {a b c e : Nat} (h : Neat d a b) (x : a ≤ c) (y : b ≤ e) : Neat d c e := ⟨h.lay, Nat.le_trans h.dep x, Nat.le_trans h.wei y, h.sho, h.say, h.nod⟩
theorem NeatAll.mono {d : List PyData} {a b c e : Nat} (h : NeatAll d a b) (x : a ≤ c) (y : b ≤ e) : NeatAll d c e := ⟨h.lay, Nat.le_trans h.dep x, Nat.le_trans h.wei y, h.sho, h.say, h.nod⟩
theorem Neat.tup {ds : List PyData} {dp n : Nat} (h : NeatAll ds dp n) : Neat (.tuple ds) (dp + 1) n := by
  refine ⟨?_, ?_, ?_, ?_, ?_, ?_⟩
  · simp only [PyData.canLay0, h.lay]
  · simp only [PyData.depth]
    have := h.dep
    omega
  · simp only [PyData.weight]
    exact h.wei
  · simp only [PyData.intsShort, h.sho]
  · simp only [PyData.showable, h.say]
  · simp only [PyData.hasDict, h.nod]
theorem Neat.lst {ds : List PyData} {dp n : Nat} (h : NeatAll ds dp n) : Neat (.list ds) (dp + 1) n := by
  refine ⟨?_, ?_, ?_, ?_, ?_, ?_⟩
  · simp only [PyData.canLay0, h.lay]
  · simp only [PyData.depth]
    have := h.dep
    omega
  · simp only [PyData.weight]
    exact h.wei
  · simp only [PyData.intsShort, h.sho]
  · simp only [PyData.showable, h.say]
  · simp only [PyData.hasDict, h.nod]
theorem NeatAll.map {α : Type} {f : α → PyData} {dp n : Nat} : ∀ {l : List α}, (∀ x ∈ l, Neat (f x) dp n) → NeatAll (l.map f) dp (l.length * (n + 1))
  | [], _ => by rw [List.length_nil, Nat.zero_mul]; exact .nil
  | x :: l, h => by
    have t : NeatAll (l.map f) dp (l.length * (n + 1)) := NeatAll.map fun y hy => h y (List.mem_cons_of_mem _ hy)
    have := NeatAll.cons (h x (List.mem_cons_self ..)) t
    refine NeatAll.mono this (Nat.le_refl _) ?_
    rw [List.length_cons, Nat.add_mul]
    omega
theorem Neat.shaped {d : PyData} {dp n : Nat} (h : Neat d dp n) (k : dp ≤ 60) : SeqAt.shaped d = true := by
  unfold SeqAt.shaped
  rw [h.lay, Bool.true_and]
  exact decide_eq_true (by have := h.dep; omega)
theorem Neat.fits {d : PyData} {dp n : Nat} (h : Neat d dp n) (k : dp ≤ 60) (m : n ≤ 1000000) : d.shown.length ≤ sizeLine := by
  refine PyData.shown_fits_of_layable0 (B := 13) (by decide) (by decide) ?_ h.sho
  have a : d.canLay0 = true := h.lay
  have b : decide (d.depth ≤ 64) = true := decide_eq_true (by have := h.dep; omega)
  have c : decide (d.weight ≤ 2 ^ 20) = true := decide_eq_true (by have := h.wei; omega)
  unfold PyData.layable0
  rw [a, b, c]
  rfl
theorem dp_ints {K : PySem.W.Frag} {H : Hp} : ∀ ns : List Int, DpAll K H (ns.map V.int) (ns.map PyData.int)
  | [] => .nil
  | n :: ns => .cons (.int n) (dp_ints ns)
theorem dp_nats {K : PySem.W.Frag} {H : Hp} : ∀ ns : List Nat, DpAll K H (ns.map nV) (ns.map fun n => PyData.int ((n : Nat) : Int))
  | [] => .nil
  | n :: ns => .cons (.int _) (dp_nats ns)
theorem eqv_nil {ds : List PyData} : PyData.eqvAll ds [] = ds.isEmpty := by cases ds <;> rfl
def Small (v : Int) : Prop := -1000000 ≤ v ∧ v ≤ 1000000
section
variable {P : Program} {w : World} {K : PySem.W.Frag} {mg : Str → Option Value} {base : Heap}
def sp_law_thing (K : PySem.W.Frag) : Sp := fun vs H Q _ => ∃ f c : Addr, vs = [.ref f] ∧ Flow H f c ∧ ∀ (v : Int) (H' : Hp), Small v → Flow H' f c → But f H H' → Q (.int v) H'
theorem ok_law_thing {f : Addr} {fd : FuncData} (F : Fun K "_law_thing" "_law_thing" s_law_thing f fd) {C : Addr} (T : Top w K mg C) : FnOk P w K mg base CX0 2 f fd ["_law_flow_here"] (sp_law_thing K) := by
  obtain ⟨f_law_pick, fd_law_pick, F_law_pick, b_law_pick, m_law_pick⟩ := T.d_law_pick
  have G_law_pick := ok_law_pick (P := P) (w := w) (base := base) F_law_pick T
  refine F.ok sc_law_thing (fun vs H Q E h => ?_) (fun cdv A outer s H vs Q E hr h => ?_)
  · obtain ⟨f, c, rfl, _⟩ := h
    rfl
  obtain ⟨f, c, rfl, hF, q⟩ := h
  refine ⟨_, (pss_cons (ps_if (pt_cmpR op_gt (pe_call G_law_pick (hr.mono (by decide)) (by rfl) m_law_pick F_law_pick.kp b_law_pick .nil pass0 (pa_cons (pv 0) (pa_cons pe_int pa_nil))) pe_int (nomark _)) (pss_one (ps_ret (pe_op op_sub (pe_call G_law_pick (hr.mono (by decide)) (by rfl) m_law_pick F_law_pick.kp b_law_pick .nil pass0 (pa_cons (pv 0) (pa_cons pe_int pa_nil))) pe_int))) pss_nil)
      (pss_one (ps_ret (pe_op op_sub (pe_call G_law_pick (hr.mono (by decide)) (by rfl) m_law_pick F_law_pick.kp b_law_pick .nil pass0 (pa_cons (pv 0) (pa_cons pe_int pa_nil))) pe_int)))), ?_⟩
  refine ⟨_, rfl, f, c, 3, rfl, by decide, by decide +kernel, hF, fun v1 H1 a1 b1 F1 B1 => ⟨_, _, rfl, rfl, _, rfl, if_bl (fun _ => ?_) (fun _ => ?_)⟩⟩
  · exact ⟨_, rfl, f, c, 7, rfl, by decide, by decide +kernel, F1, fun v2 H2 a2 b2 F2 B2 => ⟨_, _, rfl, rfl, q _ _ ⟨by omega, by omega⟩ F2 (B1.trans B2)⟩⟩
  · exact ⟨_, rfl, f, c, 2000001, rfl, by decide, by decide +kernel, F1, fun v2 H2 a2 b2 F2 B2 => ⟨_, _, rfl, rfl, q _ _ ⟨by omega, by omega⟩ F2 (B1.trans B2)⟩⟩
end
section
variable {P : Program} {w : World} {K : PySem.W.Frag} {mg : Str → Option Value} {base : Heap}
def sp_law_shuffled (K : PySem.W.Frag) : Sp := fun vs H Q _ => ∃ (f c l : Addr) (xs : List V), vs = [.ref f, .ref l] ∧ SqL K H l xs ∧ l ≠ f ∧ xs.length ≤ 500 ∧ Flow H f c ∧
  ∀ (p : Addr) (ys : List V) (H' : Hp), ys.Perm xs → H p = none → H' p = some (.lst ys) → Flow H' f c → But f H H' → Q (.ref p) H'
theorem But.seqL {K : PySem.W.Frag} {f a : Addr} {H H1 : Hp} {xs : List V} (b : But f H H1) (h : SqL K H a xs) (n : a ≠ f) : SqL K H1 a xs := by
  rcases h with h | h
  · left
    rcases h with h | ⟨o, h⟩
    · exact .inl (b _ _ h n)
    · exact .inr ⟨o, b _ _ h n⟩
  · exact .inr h
theorem same_seqL {K : PySem.W.Frag} {a : Addr} {H H1 : Hp} {xs : List V} (b : Same H H1) (h : SqL K H a xs) : SqL K H1 a xs := by
  rcases h with h | h
  · left
    rcases h with h | ⟨o, h⟩
    · exact .inl (b _ _ h)
    · exact .inr ⟨o, b _ _ h⟩
  · exact .inr h
theorem log_small {m : Nat} (h : m ≤ 500) : ((m : Int)).natAbs.log2 < 9000 := by
  rw [Int.natAbs_natCast]
  exact Nat.lt_of_le_of_lt (Nat.log2_le_self m) (by omega)
theorem perm_erase {α : Type} : ∀ {l : List α} {j : Nat} {y : α}, l[j]? = some y → (y :: l.eraseIdx j).Perm l
  | [], _, _, h => nomatch h
  | a :: l, 0, y, h => by
    cases h
    exact List.Perm.refl _
  | a :: l, j + 1, y, h => by
    have ih : (y :: l.eraseIdx j).Perm l := perm_erase h
    exact (List.Perm.swap a y _).trans (ih.cons a)
theorem ok_law_shuffled {f : Addr} {fd : FuncData} (F : Fun K "_law_shuffled" "_law_shuffled" s_law_shuffled f fd) {C : Addr} (T : Top w K mg C) : FnOk P w K mg base CX0 2 f fd ["_law_flow_here", "_law_some"] (sp_law_shuffled K) := by
  obtain ⟨f_law_pick, fd_law_pick, F_law_pick, b_law_pick, m_law_pick⟩ := T.d_law_pick
  have G_law_pick := ok_law_pick (P := P) (w := w) (base := base) F_law_pick T
  refine F.ok sc_law_shuffled (fun vs H Q E h => ?_) (fun cdv A outer s H vs Q E hr h => ?_)
  · obtain ⟨f, c, l, xs, rfl, _⟩ := h
    rfl
  obtain ⟨f, c, l, xs, rfl, hL, nl, hlen, hF, q⟩ := h
  refine ⟨_, (pss_cons (ps_set (i := 2) sc_law_shuffled.nd rfl (Or.inr rfl) (pe_callTy (call_list_ofK K rfl) (by rfl) T.m_list (by decide +kernel) (pa_cons (pv 1) pa_nil)))
      (pss_one (ps_ret (pe_lc (own := [("_law_k", 3)]) (g := gName 3) (tt := tYes) (by rfl) sc_law_shuffled.nd (pi_range1 (by rfl) T.m_range (pa_cons (pe_callB (call_len_seqK K rfl) (by rfl) T.m_len (by decide +kernel) (pa_cons (pv 1) pa_nil)) pa_nil)) (blkOk_by (own := [("_law_k", 3)]) (N := N_law_shuffled) (sc := defScope s_law_shuffled) (by decide +kernel)) (fun _ _ _ _ _ => (pg_name (i := 3) sc_law_shuffled.nd rfl (Or.inl rfl))) (fun _ _ _ _ _ => pts_nil) (fun _ _ _ _ _ => (pe_bmK K rfl PySem.F.plainAttrs_list PySem.F.slot_list_pop PySem.F.type_list_pop mt_popAt (pv 2) (pa_cons (pe_call G_law_pick (hr.mono (by decide)) (by rfl) m_law_pick F_law_pick.kp b_law_pick .nil pass0 (pa_cons (pv 0) (pa_cons (pe_callB (call_len_seqK K rfl) (by rfl) T.m_len (by decide +kernel) (pa_cons (pv 2) pa_nil)) pa_nil))) pa_nil))))))), ?_⟩
  refine ⟨_, rfl, l, _, rfl, .inl hL, fun lf nlf => ?_⟩
  refine ⟨_, rfl, l, _, rfl, .inl (same_seqL (same_new nlf) hL), _, rfl, by omega, (by omega), fun D nD => ?_⟩
  have F1 : Flow (upd H lf (.lst xs)) f c := hF.new nlf
  have dl : D ≠ lf := (ne_of_none upd_same nD).symm
  refine lc_range (lo := 0) (n := xs.length) (fun i H5 => ∃ acc rest : List V, H5 D = some (.lst acc) ∧ H5 lf = some (.lst rest) ∧ acc.length = i ∧ rest.length + i = xs.length ∧ (acc ++ rest).Perm xs ∧ Flow H5 f c ∧ But f H H5)
    ⟨[], xs, upd_same, by rw [upd_ne dl.symm]; exact upd_same, rfl, by omega, List.Perm.refl _, F1.new nD, (But.refl.new nlf).new nD⟩ ?_ ?_
  · rintro i H5 hi ⟨acc, rest, hD, hl, ha, hr2, hp, F5, B5⟩
    refine ⟨rfl, yes_in ?_⟩
    refine ⟨_, rfl, .inl ⟨rfl, _, SqL.of hl⟩, _, rfl, _, rfl, lf, _, rfl, .inl (SqL.of hl), f, c, ((rest.length : Nat) : Int), rfl, by omega, log_small (by omega), F5, fun v H6 v0 v1 F6 B6 => ?_⟩
    have hl6 := B6 _ _ hl (hF.ne nlf)
    have hv : v.toNat < rest.length := by omega
    have e1 : seqIndex? v rest.length = some v.toNat := by
      rw [seqIndex_of v0 (by omega)]
    refine ⟨lf, rest, v, v.toNat, rest[v.toNat], rfl, rfl, hl6, by omega, by omega, e1, List.getElem?_eq_getElem hv, ?_⟩
    have hD6 := B6 _ _ hD (fun e => by rw [e] at nD; rw [show upd H lf (.lst xs) f = H f from upd_ne (hF.ne nlf).symm] at nD; obtain ⟨_, _, _, _, _, e1, _⟩ := hF; rw [e1] at nD; cases nD)
    refine ⟨acc, by rw [upd_ne dl]; exact hD6, small1000 (by omega), acc ++ [rest[v.toNat]], rest.eraseIdx v.toNat, upd_same, by rw [upd_ne dl.symm]; exact upd_same, by rw [List.length_append, ha]; rfl, ?_, ?_, ?_, ?_⟩
    · rw [List.length_eraseIdx, if_pos hv]
      omega
    · refine List.Perm.trans ?_ hp
      rw [List.append_assoc]
      exact List.Perm.append_left acc (perm_erase (List.getElem?_eq_getElem hv))
    · have dc : D ≠ c := fun e => by
        rw [e] at nD
        obtain ⟨_, _, _, _, _, _, e1, _⟩ := F1
        rw [e1] at nD
        cases nD
      exact (F6.lst (hF.ne nlf) (hF.nec nlf)).lst (F1.ne nD) dc
    · exact ((B5.trans B6).own nlf).own (same_none (same_new nlf) nD)
  · rintro H5 ⟨acc, rest, hD, hl, ha, hr2, hp, F5, B5⟩
    have er : rest = [] := by
      cases rest with
      | nil => rfl
      | cons a l => simp at hr2
    subst er
    rw [List.append_nil] at hp
    exact q D acc H5 hp (same_none (same_new nlf) nD) hD F5 B5
end
/-! ### a text's signs as a list; a text several times -/
section
variable {X : Cx}
theorem call_list_strK (hc : X.calm = true) : CallR X (.type "list") (fun xs H Q => ∃ z : Str, xs = [.str z] ∧ z.cps.size ≤ sizeLine ∧ ∀ l, H l = none → Q (.ref l) (upd H l (.lst (z.cps.toList.map fun c => V.str ⟨#[c]⟩)))) := by
  intro pins st σ H xs us Q J rel asked
  obtain ⟨z, rfl, hz, now⟩ := asked
  obtain ⟨u, rfl, t, rfl⟩ := vals1 rel
  refine call_list_str (J.ok.hd hc) z t (fun h' tk acc c kp at_ items => ?_) hz
  have len : (z.cps.toList.map fun c => V.str ⟨#[c]⟩).length = acc.toList.length := by
    rw [List.length_map, Array.length_toList, Array.length_toList, items.1]
  refine ⟨.ref st.heap.objs.size, upd H st.heap.objs.size (.lst (z.cps.toList.map fun c => V.str ⟨#[c]⟩)), J.laid kp (Nat.le_refl _) (show ObjOk X.prog X.w _ _ _ (.lst (z.cps.toList.map fun c => V.str ⟨#[c]⟩)) from ⟨by rw [List.length_map, Array.length_toList]; exact hz, acc.toList, c, ?_, ?_⟩), rfl, now _ (J.hok.fresh (Nat.le_refl _))⟩
  · refine vals_of_at len fun j x v e1 e2 => ?_
    obtain ⟨cc, tt, e3, e4⟩ := items.2 j v (by rw [← Array.getElem?_toList]; exact e2)
    rw [List.getElem?_map, Array.getElem?_toList, e3] at e1
    have e1 : V.str ⟨#[cc]⟩ = x := Option.some.inj e1
    subst e1
    exact ⟨tt, e4⟩
  · rw [Array.toArray_toList]
    exact at_
theorem op_rep_str : OpR X (binaryOp .Mult) (fun x y H Q => ∃ (z : Str) (n : Int), x = .str z ∧ y = .int n ∧ MulOk z n ∧ Q (.str (Txt.mul z n)) H) := by
  intro pins st σ H x y v u Q J rx ry asked
  obtain ⟨z, n, rfl, rfl, hm, now⟩ := asked
  obtain ⟨t, rfl⟩ := rx
  obtain ⟨t2, rfl⟩ := ry
  exact PySem.SB.mul hm fun t3 k => ⟨.str (Txt.mul z n), H, J.tok _, ⟨_, rfl⟩, now⟩
end
/-! ### words and names drawn -/
abbrev cps (z : Str) : List Nat := z.cps.toList
theorem strlen (x : Str) : x.length = (cps x).length := by simp [Str.length, cps]
theorem join_cps : ∀ ys : List Str, cps (Txt.join "" ys) = ys.flatMap cps := by
  intro ys
  rw [TL.join_eq]
  induction ys with
  | nil => rfl
  | cons x r ih =>
    cases r with
    | nil => rw [List.flatMap_cons, List.flatMap_nil, List.append_nil]; rfl
    | cons y r =>
      have e : (Str.join "" (x :: y :: r)) = (x ++ ("" : Str)) ++ Str.join "" (y :: r) := rfl
      rw [e, List.flatMap_cons, ← ih]
      show ((x.cps ++ ("" : Str).cps) ++ (Str.join "" (y :: r)).cps).toList = _
      rw [Array.toList_append, Array.toList_append, show ("" : Str).cps.toList = [] from by decide +kernel, List.append_nil]
theorem join_len : ∀ ys : List Str, (Txt.join "" ys).length = (ys.map (·.length)).sum := by
  intro ys
  rw [strlen, join_cps, List.length_flatMap]
  congr 1
theorem ones_sum : ∀ {ys : List Str}, (∀ y ∈ ys, y.length = 1) → (ys.map (·.length)).sum = ys.length
  | [], _ => rfl
  | y :: r, h => by
    have a := h y (List.mem_cons_self ..)
    have b := ones_sum fun z hz => h z (List.mem_cons_of_mem _ hz)
    rw [List.map_cons, List.sum_cons, List.length_cons, a, b]
    omega
theorem ones_fit {ys : List Str} (h : ∀ y ∈ ys, y.length = 1) (l : ys.length ≤ 1000) : (ys.map (·.length)).sum + ys.length * Str.length "" ≤ 16777216 := by
  rw [ones_sum h, show Str.length ("" : Str) = 0 by decide +kernel]
  omega
theorem str_inj {a b : Str} (h : cps a = cps b) : a = b := by
  obtain ⟨⟨a⟩⟩ := a
  obtain ⟨⟨b⟩⟩ := b
  have h : a = b := h
  rw [h]
def Ltr (z : Str) : Prop := ∀ c ∈ cps z, 97 ≤ c ∧ c ≤ 122
/-- a word of one to m letters -/
structure Wd (m : Nat) (z : Str) : Prop where
  lo : 1 ≤ z.length
  hi : z.length ≤ m
  ltr : Ltr z
theorem letters_ok : ∀ c ∈ cps "abcdefghijklmnopqrstuvwxyz", 97 ≤ c ∧ c ≤ 122 := by decide +kernel
theorem sign_at {z : Str} {v : Int} (h0 : 0 ≤ v) (h1 : v < (z.length : Int)) : ∃ c, atI z.cps.toList v = some c ∧ c ∈ cps z := by
  have hl : z.cps.toList.length = z.length := Array.length_toList
  have hk : v.toNat < z.cps.toList.length := by omega
  have q : atI z.cps.toList ((v.toNat : Nat) : Int) = some z.cps.toList[v.toNat] := atI_nat (List.getElem?_eq_getElem hk)
  rw [show ((v.toNat : Nat) : Int) = v by omega] at q
  exact ⟨_, q, List.getElem_mem hk⟩
def takL : List Str := ["in", "out", "was", "if", "then", "else", "most", "least"]
section
variable {P : Program} {w : World} {K : PySem.W.Frag} {mg : Str → Option Value} {base : Heap}
def sp_law_word (K : PySem.W.Frag) : Sp := fun vs H Q _ => ∃ (f c : Addr) (m : Nat), vs = [.ref f, nV m] ∧ 1 ≤ m ∧ m ≤ 8 ∧ Flow H f c ∧ ∀ (a : Str) (H' : Hp), Wd m a → Flow H' f c → But f H H' → Q (.str a) H'
theorem ok_law_word {f : Addr} {fd : FuncData} (F : Fun K "_law_word" "_law_word" s_law_word f fd) {C : Addr} (T : Top w K mg C) : FnOk P w K mg base CX0 2 f fd ["_law_flow_here", "_law_most"] (sp_law_word K) := by
  obtain ⟨f_law_pick, fd_law_pick, F_law_pick, b_law_pick, m_law_pick⟩ := T.d_law_pick
  have G_law_pick := ok_law_pick (P := P) (w := w) (base := base) F_law_pick T
  refine F.ok sc_law_word (fun vs H Q E h => ?_) (fun cdv A outer s H vs Q E hr h => ?_)
  · obtain ⟨f, c, m, rfl, _⟩ := h
    rfl
  obtain ⟨f, c, m, rfl, m1, m8, hF, q⟩ := h
  refine ⟨_, (pss_cons (ps_set (i := 2) sc_law_word.nd rfl (Or.inr rfl) pe_str)
      (pss_one (ps_ret (pe_join pe_str (pe_lc (own := [("_law_k", 3)]) (g := gName 3) (tt := tYes) (by rfl) sc_law_word.nd (pi_range1 (by rfl) T.m_range (pa_cons (pe_op op_add pe_int (pe_call G_law_pick (hr.mono (by decide)) (by rfl) m_law_pick F_law_pick.kp b_law_pick .nil pass0 (pa_cons (pv 0) (pa_cons (pv 1) pa_nil)))) pa_nil)) (blkOk_by (own := [("_law_k", 3)]) (N := N_law_word) (sc := defScope s_law_word) (by decide +kernel)) (fun _ _ _ _ _ => (pg_name (i := 3) sc_law_word.nd rfl (Or.inl rfl))) (fun _ _ _ _ _ => pts_nil) (fun _ _ _ _ _ => (pe_ix ix_str (pv 2) (pe_call G_law_pick (hr.mono (by decide)) (by rfl) m_law_pick F_law_pick.kp b_law_pick .nil pass0 (pa_cons (pv 0) (pa_cons pe_int pa_nil))) (fun _ _ => rfl)))))))), ?_⟩
  refine ⟨⟨_, rfl⟩, ?_⟩
  refine ⟨_, rfl, _, rfl, f, c, ((m : Nat) : Int), rfl, by omega, log_small (by omega), hF, fun tv H1 t0 t1 F1 B1 => ?_⟩
  refine ⟨_, _, rfl, rfl, _, rfl, by omega, by omega, fun D nD => lc_range (lo := 0) (n := (1 + tv).toNat) (fun i H5 => ∃ ys : List Str, H5 D = some (.lst (ys.map V.str)) ∧ ys.length = i ∧ (∀ y ∈ ys, y.length = 1) ∧ (∀ y ∈ ys, Ltr y) ∧ Flow H5 f c ∧ But f H1 H5) ⟨[], upd_same, rfl, (fun _ z => nomatch z), (fun _ z => nomatch z), F1.new nD, But.refl.new nD⟩ ?_ ?_⟩
  · rintro i H5 hi ⟨ys, hD, ly, on, lt, F5, B5⟩
    have mf : D ≠ f := F1.ne nD
    have mc : D ≠ c := F1.nec nD
    refine ⟨rfl, yes_in ⟨_, rfl, _, rfl, f, c, 26, rfl, by decide, by decide +kernel, F5, fun v H6 v0 v1 F6 B6 => ?_⟩⟩
    obtain ⟨cc, ec, mc2⟩ := sign_at (z := "abcdefghijklmnopqrstuvwxyz") v0 (by rw [show Str.length "abcdefghijklmnopqrstuvwxyz" = 26 by decide +kernel]; exact v1)
    refine ⟨_, v, cc, rfl, rfl, by decide +kernel, ec, _, B6 _ _ hD mf, ?_, ys ++ [⟨#[cc]⟩], ?_, ?_, ?_, ?_, F6.lst mf mc, (B5.trans B6).own nD⟩
    · rw [List.length_map, ly]; exact small1000 (by omega)
    · rw [upd_same, List.map_append]; rfl
    · rw [List.length_append, ly]; rfl
    · intro z hz
      rcases List.mem_append.mp hz with hz | hz
      · exact on z hz
      · rw [List.mem_singleton.mp hz]; rfl
    · intro z hz
      rcases List.mem_append.mp hz with hz | hz
      · exact lt z hz
      · rw [List.mem_singleton.mp hz]
        intro d hd
        obtain rfl : d = cc := List.mem_singleton.mp hd
        exact letters_ok d mc2
  · rintro H5 ⟨ys, hD, ly, on, lt, F5, B5⟩
    refine ⟨_, D, ys, rfl, rfl, .inl (SqL.of hD), ones_fit on (by omega), ?_⟩
    refine q _ _ ⟨?_, ?_, ?_⟩ F5 (B1.trans B5)
    · rw [join_len, ones_sum on]; omega
    · rw [join_len, ones_sum on]; omega
    · intro d hd
      rw [join_cps] at hd
      obtain ⟨y, hy, hd⟩ := List.mem_flatMap.mp hd
      exact lt y hy d hd
def sp_law_taken (K : PySem.W.Frag) : Sp := fun vs H Q _ => vs = [] ∧ ∀ (p : Addr) (H' : Hp), H p = none → H' p = some (.lst (takL.map V.str)) → Same H H' → Q (.ref p) H'
theorem ok_law_taken {f : Addr} {fd : FuncData} (F : Fun K "_law_taken" "_law_taken" s_law_taken f fd) {C : Addr} (T : Top w K mg C) : FnOk P w K mg base CX0 1 f fd [] (sp_law_taken K) := by
  refine F.ok sc_law_taken (fun vs H Q E h => ?_) (fun cdv A outer s H vs Q E hr h => ?_)
  · obtain ⟨rfl, _⟩ := h
    rfl
  obtain ⟨rfl, q⟩ := h
  refine ⟨_, (pss_one (ps_ret (pe_lst (pa_cons pe_str (pa_cons pe_str (pa_cons pe_str (pa_cons pe_str (pa_cons pe_str (pa_cons pe_str (pa_cons pe_str (pa_cons pe_str pa_nil))))))))))), ?_⟩
  exact ⟨(by show 8 ≤ sizeLine; decide), fun p hp => q p _ hp upd_same (same_new hp)⟩
end
def ZA : Str := "zyxwvutsrqponmlkjihgfedcba"
def zaS (j : Nat) : Str := ⟨#[122 - j]⟩
theorem za_at : ∀ j < 26, (cps ZA)[j]? = some (122 - j) := by decide +kernel
theorem zaS_inj {i j : Nat} (hi : i < 26) (hj : j < 26) (h : zaS i = zaS j) : i = j := by
  have : cps (zaS i) = cps (zaS j) := by rw [h]
  have : [122 - i] = [122 - j] := this
  have := (List.cons.inj this).1
  omega
theorem zaS_wd {j : Nat} (h : j < 26) : Wd 6 (zaS j) := ⟨Nat.le_refl 1, (by show 1 ≤ 6; decide), fun c hc => by
  obtain rfl : c = 122 - j := List.mem_singleton.mp hc
  omega⟩
theorem za_few {s : Nat} {forb : List Str} (hs : s < 26) (h : ∀ j, j < s → zaS j ∈ forb) : s ≤ forb.length := by
  have := few_in (l := (List.range s).map zaS) (m := forb) ?_ ?_
  · rwa [List.length_map, List.length_range] at this
  · rw [List.nodup_iff_pairwise_ne, List.pairwise_map]
    exact List.Pairwise.imp_of_mem (fun {a b} ha hb n e => n (zaS_inj (by have := List.mem_range.mp ha; omega) (by have := List.mem_range.mp hb; omega) e)) (List.nodup_iff_pairwise_ne.mp List.nodup_range)
  · intro x hx
    obtain ⟨j, hj, rfl⟩ := List.mem_map.mp hx
    exact h j (List.mem_range.mp hj)
theorem cut6 {z : Str} (h : z.length ≤ 6) : cutS z none (some 6) = z := by
  refine str_inj ?_
  unfold cutS
  show (List.take _ (List.drop _ (cps z))) = cps z
  rw [show (6 : Int) = ((6 : Nat) : Int) from rfl, HT.sIx_nat, HT.sIx_none, List.drop_zero, Nat.sub_zero, Nat.min_eq_right h, List.take_of_length_le (by rw [← strlen]; exact Nat.le_refl _)]
theorem Wd.cat {a b : Nat} {x y : Str} (h : Wd a x) (g : Wd b y) : Wd (a + b) (x ++ y) := by
  have e : (x ++ y).length = x.length + y.length := Array.size_append ..
  refine ⟨by rw [e]; have := h.lo; omega, by rw [e]; exact Nat.add_le_add h.hi g.hi, fun c hc => ?_⟩
  have hc : c ∈ (x.cps ++ y.cps).toList := hc
  rw [Array.toList_append] at hc
  rcases List.mem_append.mp hc with z | z
  · exact h.ltr c z
  · exact g.ltr c z
theorem mul_one (z : Str) : Txt.mul z 1 = z := rfl
theorem mulOk_one (z : Str) : MulOk z 1 := ⟨by decide, fun _ h => by simp at h, fun _ h => by simp at h⟩
theorem flat_strs (l : List Str) : (l.map V.str).all flatV = true := List.all_eq_true.mpr fun x hx => by
  obtain ⟨y, _, rfl⟩ := List.mem_map.mp hx
  rfl
theorem or_in {K : PySem.W.Frag} {nm : Str} {ns : List Str} {p : Addr} {σ : L2.St} {H : Hp} {Q : Bool → Hp → Prop} (h5 : σ[5]? = some (some (.str nm))) (h2 : σ[2]? = some (some (.ref p))) (hp : H p = some (.lst (ns.map V.str))) (yes : ∀ Hx, Same H Hx → nm ∈ ns ++ takL → Q true Hx) (no : ∀ Hx, Same H Hx → nm ∉ ns ++ takL → Q false Hx) :
    tOr (tTest (tOp (rIn K false) (tVar 5) (tVar 2))) (tTest (tOp (rIn K false) (tVar 5) (tCall (sp_law_taken K) [] E0 tNil))) σ H Q := by
  refine ⟨_, h5, _, h2, p, _, rfl, .inl (SqL.of hp), rfl, flat_strs ns, _, rfl, if_in (zs := ns) (fun e => ?_) (fun e => ?_)⟩
  · exact yes H (Same.refl _) (List.mem_append.mpr (.inl e))
  · refine ⟨_, h5, rfl, fun p2 H1 np hp1 s1 => ⟨p2, _, rfl, .inl (SqL.of hp1), rfl, flat_strs takL, _, rfl, ?_⟩⟩
    cases c : inV (.str nm) (takL.map V.str) with
    | true => exact yes H1 s1 (List.mem_append.mpr (.inr (inV_strs.mp c)))
    | false => exact no H1 s1 fun z => (List.mem_append.mp z).elim e fun z => by rw [inV_strs.mpr z] at c; cases c
section
variable {P : Program} {w : World} {K : PySem.W.Frag} {mg : Str → Option Value} {base : Heap}
def sp_law_names (K : PySem.W.Frag) : Sp := fun vs H Q _ => ∃ (f c : Addr) (m : Nat), vs = [.ref f, nV m] ∧ 1 ≤ m ∧ m ≤ 9 ∧ Flow H f c ∧ ∀ (p : Addr) (ns : List Str) (H' : Hp), H p = none → H' p = some (.lst (ns.map V.str)) → ns.length = m → ns.Nodup → (∀ z ∈ ns, Wd 6 z ∧ z ∉ takL) → Flow H' f c → But f H H' → Q (.ref p) H'
theorem ok_law_names {f : Addr} {fd : FuncData} (F : Fun K "_law_names" "_law_names" s_law_names f fd) {C : Addr} (T : Top w K mg C) : FnOk P w K mg base CX0 3 f fd ["_law_flow_here", "_law_many"] (sp_law_names K) := by
  obtain ⟨f_law_word, fd_law_word, F_law_word, b_law_word, m_law_word⟩ := T.d_law_word
  have G_law_word := ok_law_word (P := P) (w := w) (base := base) F_law_word T
  obtain ⟨f_law_pick, fd_law_pick, F_law_pick, b_law_pick, m_law_pick⟩ := T.d_law_pick
  have G_law_pick := ok_law_pick (P := P) (w := w) (base := base) F_law_pick T
  obtain ⟨f_law_taken, fd_law_taken, F_law_taken, b_law_taken, m_law_taken⟩ := T.d_law_taken
  have G_law_taken := ok_law_taken (P := P) (w := w) (base := base) F_law_taken T
  refine F.ok sc_law_names (fun vs H Q E h => ?_) (fun cdv A outer s H vs Q E hr h => ?_)
  · obtain ⟨f, c, m, rfl, _⟩ := h
    rfl
  obtain ⟨f, c, mm, rfl, mm1, mm9, hF, q⟩ := h
  refine ⟨_, (pss_cons (ps_set (i := 2) sc_law_names.nd rfl (Or.inl rfl) (pe_lst pa_nil))
      (pss_cons (ps_set (i := 3) sc_law_names.nd rfl (Or.inl rfl) (pe_call G_law_word (hr.mono (by decide)) (by rfl) m_law_word F_law_word.kp b_law_word .nil pass0 (pa_cons (pv 0) (pa_cons pe_int pa_nil))))
      (pss_cons (ps_for PassesOwn.never rfl (pi_range1 (by rfl) T.m_range (pa_cons (pv 1) pa_nil)) (pg_name (i := 4) sc_law_names.nd rfl (Or.inl rfl))
        (pss_cons (ps_set (i := 5) sc_law_names.nd rfl (Or.inl rfl) (pe_ix (ix_listK K rfl) (pe_lst (pa_cons (pe_call G_law_word (hr.mono (by decide)) (by rfl) m_law_word F_law_word.kp b_law_word .nil pass0 (pa_cons (pv 0) (pa_cons pe_int pa_nil))) (pa_cons (pe_slice sl_str (pe_op op_add_str (pv 3) (pe_call G_law_word (hr.mono (by decide)) (by rfl) m_law_word F_law_word.kp b_law_word .nil pass0 (pa_cons (pv 0) (pa_cons pe_int pa_nil)))) po_none (po_some pe_int)) (pa_cons (pv 3) pa_nil)))) (pe_call G_law_pick (hr.mono (by decide)) (by rfl) m_law_pick F_law_pick.kp b_law_pick .nil pass0 (pa_cons (pv 0) (pa_cons pe_int pa_nil))) (fun _ _ => rfl)))
      (pss_cons (ps_set (i := 6) sc_law_names.nd rfl (Or.inl rfl) pe_int)
      (pss_cons (ps_while PassesOwn.never (PW.pt (pw_or (pt_cmpR (op_in_seqK K rfl) (pv 5) (pv 2) (by with_unfolding_all rfl)) (pw_or1 (pt_cmpR (op_in_seqK K rfl) (pv 5) (pe_call0 G_law_taken (hr.mono (by decide)) (by rfl) m_law_taken F_law_taken.kp b_law_taken .nil pass0) (by with_unfolding_all rfl)))))
        (pss_cons (ps_set (i := 5) sc_law_names.nd rfl (Or.inl rfl) (pe_op op_rep_str (pe_ix ix_str pe_str (pe_op op_mod (pv 6) pe_int) (fun _ _ => rfl)) (pe_op op_add pe_int (pe_op op_fdiv (pv 6) pe_int))))
      (pss_one (ps_set (i := 6) sc_law_names.nd rfl (Or.inl rfl) (pe_op op_add (pv 6) pe_int)))))
      (pss_one (ps_expr (pe_bmK K rfl PySem.F.plainAttrs_list PySem.F.slot_list_append PySem.F.type_list_append mt_append (pv 2) (pa_cons (pv 5) pa_nil))))))))
      (pss_one (ps_ret (pv 2)))))), ?_⟩
  refine ⟨(by show 0 ≤ sizeLine; decide), fun p np => ?_⟩
  have pf : p ≠ f := hF.ne np
  have pc : p ≠ c := hF.nec np
  have F0 := hF.new (o := .lst []) np
  have B0 : But f H (upd H p (.lst [])) := But.refl.new np
  have hp0 : (upd H p (.lst [])) p = some (.lst []) := upd_same
  generalize upd H p (.lst []) = H0 at F0 B0 hp0 ⊢
  refine ⟨_, rfl, f, c, 4, rfl, by decide, by decide, F0, fun stem H1 ws F1 B1 => ?_⟩
  have hp1 := B1 _ _ hp0 pf
  have nstem : Wd 6 stem := ⟨ws.lo, Nat.le_trans ws.hi (by decide), ws.ltr⟩
  refine ⟨_, rfl, _, rfl, by omega, by omega, for_range (lo := 0) (n := ((mm : Nat) : Int).toNat) (fun i σ H5 => ∃ (ns : List Str) (v4 v5 v6 : Option V), σ = [some (.ref f), some (nV mm), some (.ref p), some (.str stem), v4, v5, v6] ∧ H5 p = some (.lst (ns.map V.str)) ∧ ns.length = i ∧ ns.Nodup ∧ (∀ z ∈ ns, Wd 6 z ∧ z ∉ takL) ∧ Flow H5 f c ∧ But f H H5) ⟨[], none, none, none, rfl, hp1, rfl, List.nodup_nil, (fun _ z => nomatch z), F1, B0.trans B1⟩ ?_ ?_⟩
  · rintro i σ H5 hi ⟨ns, v4, v5, v6, rfl, hp5, ln, nd, gd, F5, B5⟩
    refine ⟨_, rfl, f, c, 6, rfl, by decide, by decide, F5, fun w1 H6 g1 F6 B6 => ?_⟩
    refine ⟨_, rfl, _, rfl, f, c, 2, rfl, by decide, by decide, F6, fun w2 H7 g2 F7 B7 => ?_⟩
    have ls : stem.length + w2.length ≤ 6 := by
      have := ws.hi
      have := g2.hi
      omega
    refine ⟨_, _, rfl, rfl, little (by omega), ?_⟩
    refine ⟨_, rfl, _, rfl, little (by rw [show (stem ++ w2).length = stem.length + w2.length from Array.size_append ..]; omega), ?_⟩
    refine ⟨_, rfl, (by show 3 ≤ sizeLine; decide), fun l nl => ?_⟩
    have mlf : l ≠ f := F7.ne nl
    have mlp : p ≠ l := fun z => by
      rw [← z] at nl
      rw [B7 _ _ (B6 _ _ hp5 pf) pf] at nl
      cases nl
    have F8 := F7.new (o := .lst [V.str w1, V.str (cutS (stem ++ w2) none (some 6)), V.str stem]) nl
    have B8 := ((B5.trans B6).trans B7).new (o := .lst [V.str w1, V.str (cutS (stem ++ w2) none (some 6)), V.str stem]) nl
    have hl8 : (upd H7 l (.lst [V.str w1, V.str (cutS (stem ++ w2) none (some 6)), V.str stem])) l = some (.lst [V.str w1, V.str (cutS (stem ++ w2) none (some 6)), V.str stem]) := upd_same
    have hp8 : (upd H7 l (.lst [V.str w1, V.str (cutS (stem ++ w2) none (some 6)), V.str stem])) p = some (.lst (ns.map V.str)) := by
      rw [upd_ne mlp]
      exact B7 _ _ (B6 _ _ hp5 pf) pf
    generalize upd H7 l (.lst [V.str w1, V.str (cutS (stem ++ w2) none (some 6)), V.str stem]) = H8 at F8 B8 hl8 hp8 ⊢
    refine ⟨_, rfl, f, c, 3, rfl, by decide, by decide +kernel, F8, fun v H9 v0 v1 F9 B9 => ?_⟩
    have hl9 := B9 _ _ hl8 mlf
    have hp9 := B9 _ _ hp8 pf
    have B9 := B8.trans B9
    obtain ⟨nm, en, gnm⟩ : ∃ nm, atI [V.str w1, V.str (cutS (stem ++ w2) none (some 6)), V.str stem] v = some (.str nm) ∧ Wd 6 nm := by
      have : v = 0 ∨ v = 1 ∨ v = 2 := by omega
      rcases this with rfl | rfl | rfl
      · exact ⟨w1, atI_nat (j := 0) rfl, g1⟩
      · exact ⟨_, atI_nat (j := 1) rfl, by
          rw [cut6 (by rw [show (stem ++ w2).length = stem.length + w2.length from Array.size_append ..]; exact ls)]
          exact ws.cat g2⟩
      · exact ⟨stem, atI_nat (j := 2) rfl, nstem⟩
    refine ⟨l, _, v, _, rfl, rfl, SqL.of hl9, en, ?_⟩
    let W : Nat → L2.St → Hp → Prop := fun m σ H10 => ∃ (nm : Str) (sp : Nat), σ = [some (.ref f), some (nV mm), some (.ref p), some (.str stem), some (.int (0 + (i : Int))), some (.str nm), some (nV sp)] ∧ Wd 6 nm ∧ (∀ j, j + 1 < sp → zaS j ∈ ns ++ takL) ∧ (∀ j, sp = j + 1 → nm = zaS j) ∧ sp ≤ 18 ∧ m = 20 - sp ∧ Same H9 H10
    refine ⟨W, ⟨_, nm, 0, rfl, gnm, (fun j z => absurd z (by omega)), (fun j z => absurd z (by omega)), by decide, rfl, Same.refl _⟩, ?_⟩
    rintro m σ H10 ⟨nm, sp, rfl, gn, f1, f2, l18, rfl, s10⟩
    have lnf : (ns ++ takL).length ≤ 16 := by
      rw [List.length_append, show takL.length = 8 from rfl]
      omega
    refine or_in rfl rfl (s10 _ _ hp9) (fun H11 s11 e => ?_) (fun H11 s11 e => ?_)
    · have sx := s10.trans s11
      have all : ∀ j, j < sp → zaS j ∈ ns ++ takL := fun j hj => by
        by_cases z : j + 1 = sp
        · rw [← f2 j z.symm]; exact e
        · exact f1 j (by omega)
      have l16 : sp ≤ 16 := Nat.le_trans (za_few (by omega) all) lnf
      refine if_bl (fun _ => ?_) (fun z => nomatch z)
      refine ⟨fun σ' H' => ∃ m', m' < 20 - sp ∧ W m' σ' H', fun _ _ z => z, ?_⟩
      have e1 : (nV sp, V.int 26) = (V.int (sp : Int), V.int 26) := rfl
      have m26 : ((sp : Int) % 26) = ((sp : Nat) : Int) := by omega
      have d26 : ((sp : Int) / 26) = 0 := by omega
      refine ⟨_, rfl, _, _, rfl, rfl, (by show (0 : Int) < 26; decide), _, _, 122 - sp, rfl, rfl, by decide, ?_, _, rfl, _, _, rfl, rfl, ⟨by decide, by decide⟩, _, _, rfl, rfl, _, _, rfl, rfl, ?_, ?_⟩
      · rw [m26]
        exact atI_nat (za_at sp (by omega))
      · rw [d26]
        exact mulOk_one _
      rw [d26]
      have nx : Txt.mul ⟨#[122 - sp]⟩ (1 + 0) = zaS sp := rfl
      rw [nx]
      refine ⟨_, rfl, _, _, rfl, rfl, 20 - (sp + 1), by omega, zaS sp, sp + 1, ?_, zaS_wd (by omega), fun j hj => all j (by omega), fun j hj => by rw [show j = sp by omega], by omega, rfl, sx⟩
      show [some (V.ref f), some (nV mm), some (V.ref p), some (V.str stem), some (V.int (0 + (i : Int))), some (V.str (zaS sp)), some (V.int ((sp : Int) + 1))] = _
      rw [show ((sp : Int) + 1) = (((sp + 1 : Nat)) : Int) by omega]
    · have sx := s10.trans s11
      refine if_bl (fun z => nomatch z) (fun _ => ?_)
      have hp11 := sx _ _ hp9
      refine ⟨_, rfl, .inl ⟨rfl, _, SqL.of hp11⟩, _, rfl, p, _, _, rfl, rfl, hp11, small1000 (by rw [List.length_map]; omega), ns ++ [nm], _, _, _, rfl, ?_, ?_, ?_, fun z hz => ?_, (F9.same sx).lst pf pc, (B9.same sx).own np⟩
      · rw [upd_same, List.map_append]; rfl
      · rw [List.length_append, ln]; rfl
      · rw [List.nodup_append]
        exact ⟨nd, by simp, fun a ha b hb z => e (List.mem_append.mpr (.inl (by rw [← List.mem_singleton.mp hb, ← z]; exact ha)))⟩
      · rcases List.mem_append.mp hz with z | z
        · exact gd _ z
        · rw [List.mem_singleton.mp z]
          exact ⟨gn, fun y => e (List.mem_append.mpr (.inr y))⟩
  · rintro σ H5 ⟨ns, v4, v5, v6, rfl, hp5, ln, nd, gd, F5, B5⟩
    exact ⟨_, rfl, q p ns H5 np hp5 (by omega) nd gd F5 B5⟩
end
theorem All2.perm {α β : Type} {R : α → β → Prop} : ∀ {as as' : List α} {bs : List β}, as'.Perm as → All2 R as bs → ∃ bs' : List β, bs'.Perm bs ∧ All2 R as' bs' := by
  intro as as' bs p
  induction p generalizing bs with
  | nil => intro a; exact ⟨bs, .refl _, a⟩
  | cons x _ ih =>
    intro a
    cases a with
    | cons h t => obtain ⟨b', p', a'⟩ := ih t; exact ⟨_ :: b', p'.cons _, .cons h a'⟩
  | swap x y l =>
    intro a
    cases a with
    | cons h t => cases t with
      | cons h2 t2 => exact ⟨_ :: _ :: _, .swap .., .cons h2 (.cons h t2)⟩
  | trans _ _ ih1 ih2 =>
    intro a
    obtain ⟨b1, p1, a1⟩ := ih2 a
    obtain ⟨b2, p2, a2⟩ := ih1 a1
    exact ⟨b2, p2.trans p1, a2⟩
/-! ### trees drawn -/
def Tr.small : Tr → Prop
  | .nm _ _ => True
  | .no i => Small i
  | .tm k t => (-9 ≤ k ∧ k ≤ 9) ∧ t.small
  | .o2 _ a b => a.small ∧ b.small
  | .o3 a b c => a.small ∧ b.small ∧ c.small
structure TOk (now names : List Str) (t : Tr) : Prop where
  ln : ∀ q ∈ t.leans, (q.2 = 0 ∧ q.1 ∈ now) ∨ (1 ≤ q.2 ∧ q.2 ≤ 6 ∧ q.1 ∈ names)
  sm : t.small
theorem Flow.neS {H : Hp} {f c p : Addr} {zs : List Str} (h : Flow H f c) (e : H p = some (.lst (zs.map V.str))) : p ≠ f := fun z => by
  obtain ⟨ns, i, a, q, r, e1, _⟩ := h
  rw [z, e1] at e
  cases zs with
  | nil => cases e
  | cons y zs => cases e
theorem at_strs {zs : List Str} {v : Int} (h0 : 0 ≤ v) (h1 : v < (zs.length : Int)) : ∃ z, atI (zs.map V.str) v = some (.str z) ∧ z ∈ zs := by
  have hk : v.toNat < zs.length := by omega
  have q : atI (zs.map V.str) ((v.toNat : Nat) : Int) = some (.str zs[v.toNat]) := atI_nat (by rw [List.getElem?_map, List.getElem?_eq_getElem hk]; rfl)
  rw [show ((v.toNat : Nat) : Int) = v by omega] at q
  exact ⟨_, q, List.getElem_mem hk⟩
theorem Wd.lay {m : Nat} {z : Str} (h : Wd m z) : PyData.canLay0 (.str z) = true := by
  show PyData.strOk z = true
  unfold PyData.strOk
  rw [Array.all_eq_true_iff_forall_mem]
  intro c hc
  have := (h.ltr c (Array.mem_def.mp hc)).2
  exact decide_eq_true (by omega)
theorem Wd.size {m : Nat} {z : Str} (h : Wd m z) : z.cps.size ≤ m := h.hi
theorem dp_strs {K : PySem.W.Frag} {H : Hp} : ∀ l : List Str, DpAll K H (l.map V.str) (l.map PyData.str)
  | [] => .nil
  | n :: ns => .cons (.str n) (dp_strs ns)
theorem strs_shaped {m : Nat} {l : List Str} (h : ∀ z ∈ l, Wd m z) : SeqAt.shaped (.list (l.map PyData.str)) = true :=
  (Neat.lst (NeatAll.map (f := PyData.str) (dp := 0) (n := m) fun z hz => Neat.str (h z hz).lay (h z hz).size)).shaped (by decide)
section
variable {P : Program} {w : World} {K : PySem.W.Frag} {mg : Str → Option Value} {base : Heap}
def sp_law_leaf (K : PySem.W.Frag) : Sp := fun vs H Q _ => ∃ (f c nw na : Addr) (now names : List Str), vs = [.ref f, .ref nw, .ref na] ∧ H nw = some (.lst (now.map V.str)) ∧ H na = some (.lst (names.map V.str)) ∧ now.length ≤ 100 ∧ names.length ≤ 100 ∧ (∀ z ∈ now, Wd 6 z) ∧ (∀ z ∈ names, Wd 6 z) ∧ Flow H f c ∧ ∀ (v : V) (t : Tr) (H' : Hp), TrAt H' v t → TOk now names t → t.parts.length = 1 → Flow H' f c → But f H H' → Q v H'
theorem ok_law_leaf {f : Addr} {fd : FuncData} (F : Fun K "_law_leaf" "_law_leaf" s_law_leaf f fd) {C : Addr} (T : Top w K mg C) : FnOk P w K mg base CX0 3 f fd ["_law_flow_here", "_law_now", "_law_names_here"] (sp_law_leaf K) := by
  obtain ⟨f_law_thing, fd_law_thing, F_law_thing, b_law_thing, m_law_thing⟩ := T.d_law_thing
  have G_law_thing := ok_law_thing (P := P) (w := w) (base := base) F_law_thing T
  obtain ⟨f_law_pick, fd_law_pick, F_law_pick, b_law_pick, m_law_pick⟩ := T.d_law_pick
  have G_law_pick := ok_law_pick (P := P) (w := w) (base := base) F_law_pick T
  refine F.ok sc_law_leaf (fun vs H Q E h => ?_) (fun cdv A outer s H vs Q E hr h => ?_)
  · obtain ⟨f, c, nw, na, now, names, rfl, _⟩ := h
    rfl
  obtain ⟨f, c, nw, na, now, names, rfl, hnw, hna, ln, la, gw, ga, hF, q⟩ := h
  have nwf := hF.neS hnw
  have naf := hF.neS hna
  let R1 : TS := fun D' σ' H' => D'.rt = Q ∧ σ' = [some (.ref f), some (.ref nw), some (.ref na)] ∧ Flow H' f c ∧ But f H H'
  refine ⟨_, (pss_cons (ps_if (PW.pt (pw_and (pt_cmpR (op_neDK K rfl hr.units) (pv 1) (pe_lst pa_nil) (nomark _)) (pw_and1 (pt_cmpR op_eq (pe_call G_law_pick (hr.mono (by decide)) (by rfl) m_law_pick F_law_pick.kp b_law_pick .nil pass0 (pa_cons (pv 0) (pa_cons pe_int pa_nil))) pe_int (nomark _))))) (pss_one (ps_ret (pe_tup (pa_cons pe_str (pa_cons (pe_ix (ix_listK K rfl) (pv 1) (pe_call G_law_pick (hr.mono (by decide)) (by rfl) m_law_pick F_law_pick.kp b_law_pick .nil pass0 (pa_cons (pv 0) (pa_cons (pe_callB (call_len_seqK K rfl) (by rfl) T.m_len (by decide +kernel) (pa_cons (pv 1) pa_nil)) pa_nil))) (fun _ _ => rfl)) (pa_cons pe_int pa_nil)))))) pss_nil)
      (PSs.to (pss_cons (ps_if (PW.pt (pw_and (pt_cmpR (op_neDK K rfl hr.units) (pv 2) (pe_lst pa_nil) (nomark _)) (pw_and1 (pt_cmpR op_gt (pe_call G_law_pick (hr.mono (by decide)) (by rfl) m_law_pick F_law_pick.kp b_law_pick .nil pass0 (pa_cons (pv 0) (pa_cons pe_int pa_nil))) pe_int (nomark _))))) (pss_one (ps_ret (pe_tup (pa_cons pe_str (pa_cons (pe_ix (ix_listK K rfl) (pv 2) (pe_call G_law_pick (hr.mono (by decide)) (by rfl) m_law_pick F_law_pick.kp b_law_pick .nil pass0 (pa_cons (pv 0) (pa_cons (pe_callB (call_len_seqK K rfl) (by rfl) T.m_len (by decide +kernel) (pa_cons (pv 2) pa_nil)) pa_nil))) (fun _ _ => rfl)) (pa_cons (pe_op op_add pe_int (pe_call G_law_pick (hr.mono (by decide)) (by rfl) m_law_pick F_law_pick.kp b_law_pick .nil pass0 (pa_cons (pv 0) (pa_cons pe_int pa_nil)))) pa_nil)))))) pss_nil)
      (pss_one (ps_ret (pe_tup (pa_cons pe_str (pa_cons (pe_call G_law_thing (hr.mono (by decide)) (by rfl) m_law_thing F_law_thing.kp b_law_thing .nil pass0 (pa_cons (pv 0) pa_nil)) pa_nil)))))) R1 ?tail1)), ?_⟩
  case tail1 =>
    rintro D' σ' H1 ⟨eD, rfl, F1, B1⟩
    have hna1 := B1 _ _ hna naf
    refine ⟨_, rfl, (by show 0 ≤ sizeLine; decide), fun p1 np1 => ?_⟩
    have s2 : Same H1 (upd H1 p1 (.lst [])) := same_new np1
    have hp1 : (upd H1 p1 (.lst [])) p1 = some (.lst []) := upd_same
    have F2 := F1.new (o := .lst []) np1
    generalize upd H1 p1 (.lst []) = H2 at s2 hp1 F2 ⊢
    have B2 : But f H H2 := B1.same s2
    refine ⟨_, _, .lst (SqL.of (s2 _ _ hna1)) (dp_strs _), .lst (SqL.of hp1) .nil, strs_shaped ga, rfl, _, rfl, ?_⟩
    have number : ∀ H3, Flow H3 f c → But f H H3 → tRet (tTup (tCons (tC (V.str "number")) (tCons (tCall (sp_law_thing K) [] E0 (tCons (tVar 0) tNil)) tNil))) D' [some (.ref f), some (.ref nw), some (.ref na)] H3 := fun H3 F3 B3 => by
      refine ⟨_, rfl, f, c, rfl, F3, fun v H4 sv F4 B4 => ⟨(by show 2 ≤ sizeLine; decide), fun p2 np2 => ?_⟩⟩
      rw [eD]
      exact q (.ref p2) (.no v) _ ⟨p2, rfl, upd_same⟩ ⟨(fun q hq => by cases hq), sv⟩ rfl (F4.new np2) ((B3.trans B4).new np2)
    have ee : PyData.eqv (.list (names.map PyData.str)) (.list []) = (names.map PyData.str).isEmpty := eqv_nil
    rw [ee]
    cases hn : names with
    | nil =>
      refine if_bl (fun z => nomatch z) (fun _ => if_bl (fun z => nomatch z) fun _ => ?_)
      exact number H2 F2 B2
    | cons n1 nr =>
      refine if_bl (fun _ => ?_) (fun z => nomatch z)
      refine ⟨_, rfl, f, c, 3, rfl, by decide, by decide, F2, fun v H3 v0 v1 F3 B3 => ⟨_, _, rfl, rfl, _, rfl, if_bl (fun _ => ?_) (fun _ => number H3 F3 (B2.trans B3))⟩⟩
      have hna3 := B3 _ _ (s2 _ _ hna1) naf
      have pos : 0 < names.length := by rw [hn]; exact Nat.succ_pos _
      refine ⟨_, rfl, _, rfl, _, rfl, na, _, rfl, .inl (SqL.of hna3), f, c, ((names.length : Nat) : Int), ?_, by omega, log_small (by omega), F3, fun v2 H4 v20 v21 F4 B4 => ?_⟩
      · rw [List.length_map, List.append_nil]
      have hna4 := B4 _ _ hna3 naf
      obtain ⟨z, ez, mz⟩ := at_strs v20 v21
      refine ⟨na, _, v2, _, rfl, rfl, SqL.of hna4, ez, _, rfl, f, c, 6, rfl, by decide, by decide, F4, fun v3 H5 v30 v31 F5 B5 => ⟨_, _, rfl, rfl, (by show 3 ≤ sizeLine; decide), fun p2 np2 => ?_⟩⟩
      rw [eD]
      refine q (.ref p2) (.nm z (1 + v3).toNat) _ ⟨p2, rfl, ?_⟩ ⟨fun q hq => .inr ?_, trivial⟩ rfl (F5.new np2) ((((B2.trans B3).trans B4).trans B5).new np2)
      · rw [upd_same, show nV (1 + v3).toNat = V.int (1 + v3) from by show V.int _ = _; rw [Int.toNat_of_nonneg (by omega)]]
      · rw [List.mem_singleton.mp hq]
        exact ⟨(by show 1 ≤ (1 + v3).toNat; omega), (by show (1 + v3).toNat ≤ 6; omega), mz⟩
  refine ⟨_, rfl, (by show 0 ≤ sizeLine; decide), fun p1 np1 => ?_⟩
  have s1 : Same H (upd H p1 (.lst [])) := same_new np1
  have hp1 : (upd H p1 (.lst [])) p1 = some (.lst []) := upd_same
  have F1 := hF.new (o := .lst []) np1
  generalize upd H p1 (.lst []) = H1 at s1 hp1 F1 ⊢
  have B1 : But f H H1 := But.refl.same s1
  refine ⟨_, _, .lst (SqL.of (s1 _ _ hnw)) (dp_strs _), .lst (SqL.of hp1) .nil, strs_shaped gw, rfl, _, rfl, ?_⟩
  have ee : PyData.eqv (.list (now.map PyData.str)) (.list []) = (now.map PyData.str).isEmpty := eqv_nil
  rw [ee]
  cases hn : now with
  | nil =>
    refine if_bl (fun z => nomatch z) (fun _ => if_bl (fun z => nomatch z) fun _ => ?_)
    exact ⟨rfl, rfl, F1, B1⟩
  | cons n1 nr =>
    refine if_bl (fun _ => ?_) (fun z => nomatch z)
    refine ⟨_, rfl, f, c, 2, rfl, by decide, by decide, F1, fun v H3 v0 v1 F3 B3 => ⟨rfl, _, rfl, if_bl (fun _ => ?_) (fun _ => ⟨rfl, rfl, F3, B1.trans B3⟩)⟩⟩
    have hnw3 := B3 _ _ (s1 _ _ hnw) nwf
    have pos : 0 < now.length := by rw [hn]; exact Nat.succ_pos _
    refine ⟨_, rfl, _, rfl, _, rfl, nw, _, rfl, .inl (SqL.of hnw3), f, c, ((now.length : Nat) : Int), ?_, by omega, log_small (by omega), F3, fun v2 H4 v20 v21 F4 B4 => ?_⟩
    · rw [List.length_map, List.append_nil]
    have hnw4 := B4 _ _ hnw3 nwf
    obtain ⟨z, ez, mz⟩ := at_strs v20 v21
    refine ⟨nw, _, v2, _, rfl, rfl, SqL.of hnw4, ez, (by show 3 ≤ sizeLine; decide), fun p2 np2 => ?_⟩
    refine q (.ref p2) (.nm z 0) _ ⟨p2, rfl, upd_same⟩ ⟨fun q hq => .inl ?_, trivial⟩ rfl (F4.new np2) (((B1.trans B3).trans B4).new np2)
    rw [List.mem_singleton.mp hq]
    exact ⟨rfl, mz⟩
/-- a tree of at most so many parts; n: how deep the calls may go -/
def spT (K : PySem.W.Frag) : Nat → Sp
  | 0 => fun _ _ _ _ => False
  | n + 1 => fun vs H Q _ => ∃ (f c nw na : Addr) (now names : List Str) (r : Nat), vs = [.ref f, nV r, .ref nw, .ref na] ∧ 1 ≤ r ∧ r ≤ n + 3 ∧ r ≤ 20 ∧ H nw = some (.lst (now.map V.str)) ∧ H na = some (.lst (names.map V.str)) ∧ now.length ≤ 100 ∧ names.length ≤ 100 ∧ (∀ z ∈ now, Wd 6 z) ∧ (∀ z ∈ names, Wd 6 z) ∧ Flow H f c ∧ ∀ (v : V) (t : Tr) (H' : Hp), TrAt H' v t → TOk now names t → t.parts.length ≤ r → Flow H' f c → But f H H' → Q v H'
def wsT : List Str := ["", "", "times", "sum", "gap", "below", "most", "least", "pick", "sum"]
theorem parts_one (t : Tr) : 1 ≤ t.parts.length := by rw [t.parts_eq, List.length_append]; exact Nat.le_add_left ..
theorem tree_step {C : Addr} {f : Addr} {fd : FuncData} (T : Top w K mg C) (n : Nat) (below : ∀ (f : Addr) (fd : FuncData), Fun K "_law_tree" "_law_tree" s_law_tree f fd → FnOk P w K mg base CX0 (n + 3) f fd ["_law_flow_here", "_law_room", "_law_now", "_law_names_here"] (spT K n)) (F : Fun K "_law_tree" "_law_tree" s_law_tree f fd) :
    FnOk P w K mg base CX0 (n + 4) f fd ["_law_flow_here", "_law_room", "_law_now", "_law_names_here"] (spT K (n + 1)) := by
  obtain ⟨f_law_tree, fd_law_tree, F_law_tree, b_law_tree, m_law_tree⟩ := T.d_law_tree
  have G_law_tree := below f_law_tree fd_law_tree F_law_tree
  obtain ⟨f_law_pick, fd_law_pick, F_law_pick, b_law_pick, m_law_pick⟩ := T.d_law_pick
  have G_law_pick := ok_law_pick (P := P) (w := w) (base := base) F_law_pick T
  obtain ⟨f_law_leaf, fd_law_leaf, F_law_leaf, b_law_leaf, m_law_leaf⟩ := T.d_law_leaf
  have G_law_leaf := ok_law_leaf (P := P) (w := w) (base := base) F_law_leaf T
  obtain ⟨f_law_shuffled, fd_law_shuffled, F_law_shuffled, b_law_shuffled, m_law_shuffled⟩ := T.d_law_shuffled
  have G_law_shuffled := ok_law_shuffled (P := P) (w := w) (base := base) F_law_shuffled T
  refine F.ok sc_law_tree (fun vs H Q E h => ?_) (fun cdv A outer s H vs Q E hr h => ?_)
  · obtain ⟨f, c, nw, na, now, names, r, rfl, _⟩ := h
    rfl
  obtain ⟨f, c, nw, na, now, names, r, rfl, r1, rn, r20, hnw, hna, ln, la, gw, ga, hF, q⟩ := h
  have nwf := hF.neS hnw
  have naf := hF.neS hna
  refine ⟨_, (pss_cons (ps_set (i := 4) sc_law_tree.nd rfl (Or.inl rfl) (pe_ix (ix_listK K rfl) (pe_lst (pa_cons pe_str (pa_cons pe_str (pa_cons pe_str (pa_cons pe_str (pa_cons pe_str (pa_cons pe_str (pa_cons pe_str (pa_cons pe_str (pa_cons pe_str (pa_cons pe_str pa_nil))))))))))) (pe_call G_law_pick (hr.mono (by omega)) (by rfl) m_law_pick F_law_pick.kp b_law_pick .nil pass0 (pa_cons (pv 0) (pa_cons pe_int pa_nil))) (fun _ _ => rfl)))
      (pss_cons (ps_if (PW.pt (pw_or (pt_cmpR op_eq (pv 4) pe_str (nomark _)) (pw_or1 (pt_cmpR op_lt (pv 1) pe_int (nomark _))))) (pss_one (ps_ret (pe_call G_law_leaf (hr.mono (by omega)) (by rfl) m_law_leaf F_law_leaf.kp b_law_leaf .nil pass0 (pa_cons (pv 0) (pa_cons (pv 2) (pa_cons (pv 3) pa_nil)))))) pss_nil)
      (pss_cons (ps_if (pt_cmpR op_eq (pv 4) pe_str (nomark _)) (pss_one (ps_ret (pe_tup (pa_cons (pv 4) (pa_cons (pe_op op_sub (pe_call G_law_pick (hr.mono (by omega)) (by rfl) m_law_pick F_law_pick.kp b_law_pick .nil pass0 (pa_cons (pv 0) (pa_cons pe_int pa_nil))) pe_int) (pa_cons (pe_call G_law_tree (hr.mono (Nat.le_refl _)) (by rfl) m_law_tree F_law_tree.kp b_law_tree .nil pass0 (pa_cons (pv 0) (pa_cons (pe_op op_sub (pv 1) pe_int) (pa_cons (pv 2) (pa_cons (pv 3) pa_nil))))) pa_nil)))))) pss_nil)
      (pss_cons (ps_set (i := 5) sc_law_tree.nd rfl (Or.inl rfl) (pe_op op_add pe_int (pe_call G_law_pick (hr.mono (by omega)) (by rfl) m_law_pick F_law_pick.kp b_law_pick .nil pass0 (pa_cons (pv 0) (pa_cons (pe_op op_sub (pv 1) pe_int) pa_nil)))))
      (pss_cons (ps_if (pt_cmpR op_eq (pv 4) pe_str (nomark _)) (pss_cons (ps_set (i := 6) sc_law_tree.nd rfl (Or.inl rfl) (pe_lst (pa_cons (pe_call G_law_tree (hr.mono (Nat.le_refl _)) (by rfl) m_law_tree F_law_tree.kp b_law_tree .nil pass0 (pa_cons (pv 0) (pa_cons (pv 5) (pa_cons (pv 2) (pa_cons (pv 3) pa_nil))))) (pa_cons (pe_call G_law_leaf (hr.mono (by omega)) (by rfl) m_law_leaf F_law_leaf.kp b_law_leaf .nil pass0 (pa_cons (pv 0) (pa_cons (pv 2) (pa_cons (pv 3) pa_nil)))) pa_nil))))
      (pss_one (ps_ret (pe_op (op_catAK K rfl) (pe_tup (pa_cons (pv 4) pa_nil)) (pe_callTy (call_tuple_ofK K rfl) (by rfl) T.m_tuple (by decide +kernel) (pa_cons (pe_call G_law_shuffled (hr.mono (by omega)) (by rfl) m_law_shuffled F_law_shuffled.kp b_law_shuffled .nil pass0 (pa_cons (pv 0) (pa_cons (pe_op op_cat (pv 6) (pe_lst (pa_cons (pe_call G_law_tree (hr.mono (Nat.le_refl _)) (by rfl) m_law_tree F_law_tree.kp b_law_tree .nil pass0 (pa_cons (pv 0) (pa_cons (pe_op op_sub (pe_op op_sub (pv 1) pe_int) (pv 5)) (pa_cons (pv 2) (pa_cons (pv 3) pa_nil))))) pa_nil))) pa_nil))) pa_nil)))))) pss_nil)
      (pss_one (ps_ret (pe_tup (pa_cons (pv 4) (pa_cons (pe_call G_law_tree (hr.mono (Nat.le_refl _)) (by rfl) m_law_tree F_law_tree.kp b_law_tree .nil pass0 (pa_cons (pv 0) (pa_cons (pv 5) (pa_cons (pv 2) (pa_cons (pv 3) pa_nil))))) (pa_cons (pe_call G_law_tree (hr.mono (Nat.le_refl _)) (by rfl) m_law_tree F_law_tree.kp b_law_tree .nil pass0 (pa_cons (pv 0) (pa_cons (pe_op op_sub (pe_op op_sub (pv 1) pe_int) (pv 5)) (pa_cons (pv 2) (pa_cons (pv 3) pa_nil))))) pa_nil))))))))))), ?_⟩
  refine ⟨(by show 10 ≤ sizeLine; decide), fun l nl => ?_⟩
  have lf : l ≠ f := hF.ne nl
  generalize e1 : upd H l _ = H1
  have s1 : Same H H1 := by rw [← e1]; exact same_new nl
  have hl1 : H1 l = some (.lst (wsT.map V.str)) := by rw [← e1]; exact upd_same
  have F1 : Flow H1 f c := by rw [← e1]; exact hF.new nl
  have B1 : But f H H1 := But.refl.same s1
  clear e1
  refine ⟨_, rfl, f, c, 10, rfl, by decide, by decide, F1, fun v H2 v0 v1 F2 B2 => ?_⟩
  obtain ⟨wd, ew, mw⟩ := at_strs (zs := wsT) v0 v1
  have hl2 := B2 _ _ hl1 lf
  replace B2 := B1.trans B2
  have hnw2 := B2 _ _ hnw nwf
  have hna2 := B2 _ _ hna naf
  refine ⟨l, _, v, _, rfl, rfl, SqL.of hl2, ew, ?_⟩
  have leaf : ∀ D : Ends, D.rt = Q → tRet (tCall (sp_law_leaf K) [] E0 (tCons (tVar 0) (tCons (tVar 2) (tCons (tVar 3) tNil)))) D [some (.ref f), some (nV r), some (.ref nw), some (.ref na), some (.str wd), none, none] H2 := fun D eD => by
    refine ⟨_, rfl, _, rfl, _, rfl, f, c, nw, na, now, names, rfl, hnw2, hna2, ln, la, gw, ga, F2, fun v t H3 ht ok lp F3 B3 => ?_⟩
    rw [eD]
    exact q v t H3 ht ok (by omega) F3 (B2.trans B3)
  refine ⟨_, rfl, rfl, _, rfl, if_str (fun e => ?_) (fun e => ?_)⟩
  · exact if_bl (fun _ => leaf _ rfl) (fun z => nomatch z)
  refine ⟨_, rfl, _, _, rfl, rfl, _, rfl, if_bl (fun _ => leaf _ rfl) (fun c4 => ?_)⟩
  have c4 : ¬ ((r : Nat) : Int) < 4 := of_decide_eq_false c4
  obtain ⟨m, rfl⟩ : ∃ m, n = m + 1 := ⟨n - 1, by omega⟩
  refine ⟨_, rfl, rfl, _, rfl, if_str (fun et => ?_) (fun et => ?_)⟩
  · refine ⟨_, rfl, _, rfl, f, c, 19, rfl, by decide, by decide, F2, fun v2 H3 v20 v21 F3 B3 => ⟨_, _, rfl, rfl, _, rfl, _, rfl, _, _, rfl, rfl, _, rfl, _, rfl, f, c, nw, na, now, names, r - 1, ?_, by omega, by omega, by omega, B3 _ _ hnw2 nwf, B3 _ _ hna2 naf, ln, la, gw, ga, F3, fun v3 t H4 ht ok lp F4 B4 => ⟨(by show 3 ≤ sizeLine; decide), fun p np => ?_⟩⟩⟩
    · rw [show nV (r - 1) = V.int (((r : Nat) : Int) - 1) from congrArg V.int (by omega)]
      rfl
    · have := parts_one t
      refine q (.ref p) (.tm (v2 - 9) t) _ ⟨p, v3, rfl, ?_, ht.keep (TK.new np)⟩ ⟨ok.ln, ⟨by omega, by omega⟩, ok.sm⟩ ?_ (F4.new np) (((B2.trans B3).trans B4).new np)
      · rw [upd_same, et]
      · show (t.parts ++ [_]).length ≤ r
        rw [List.length_append]
        show _ + 1 ≤ r
        omega
  refine ⟨_, rfl, _, rfl, _, _, rfl, rfl, f, c, ((r - 3 : Nat) : Int), ?_, by omega, log_small (by omega), F2, fun v2 H3 v20 v21 F3 B3 => ⟨_, _, rfl, rfl, ?_⟩⟩
  · rw [show V.int ((r - 3 : Nat) : Int) = V.int (((r : Nat) : Int) - 3) from congrArg V.int (by omega)]
    rfl
  have hnw3 := B3 _ _ hnw2 nwf
  have hna3 := B3 _ _ hna2 naf
  replace B3 := B2.trans B3
  obtain ⟨o, eo, o1, o2⟩ : ∃ o : Nat, 1 + v2 = ((o : Nat) : Int) ∧ 1 ≤ o ∧ o + 3 ≤ r := ⟨(1 + v2).toNat, by omega, by omega, by omega⟩
  have ev : V.int (1 + v2) = nV o := congrArg V.int eo
  have ea : [V.ref f, V.int (1 + v2), V.ref nw, V.ref na] = [V.ref f, nV o, V.ref nw, V.ref na] := by rw [ev]
  refine ⟨_, rfl, rfl, _, rfl, if_str (fun ep => ?_) (fun ep => ?_)⟩
  · refine ⟨_, rfl, _, rfl, _, rfl, _, rfl, f, c, nw, na, now, names, o, ea, by omega, by omega, by omega, hnw3, hna3, ln, la, gw, ga, F3, fun va ta H4 hta oka lpa F4 B4 => ?_⟩
    have hnw4 := B4 _ _ hnw3 nwf
    have hna4 := B4 _ _ hna3 naf
    refine ⟨_, rfl, _, rfl, _, rfl, f, c, nw, na, now, names, rfl, hnw4, hna4, ln, la, gw, ga, F4, fun vb tb H5 htb okb lpb F5 B5 => ?_⟩
    refine ⟨(by show 2 ≤ sizeLine; decide), fun pl npl => ?_⟩
    have plf : pl ≠ f := F5.ne npl
    have s6 : Same H5 (upd H5 pl (.lst [va, vb])) := same_new npl
    have hpl : (upd H5 pl (.lst [va, vb])) pl = some (.lst [va, vb]) := upd_same
    have F6 := F5.new (o := .lst [va, vb]) npl
    replace hta := (hta.keep (TK.but F4 B5)).keep (TK.same s6)
    replace htb := htb.keep (TK.same s6)
    have B6 := ((B3.trans B4).trans B5).same s6
    generalize upd H5 pl (.lst [va, vb]) = H6 at s6 hpl F6 hta htb B6 ⊢
    have eb : [V.ref f, V.int (((r : Nat) : Int) - 2 - (1 + v2)), V.ref nw, V.ref na] = [V.ref f, nV (r - 2 - o), V.ref nw, V.ref na] := by
      rw [show nV (r - 2 - o) = V.int (((r : Nat) : Int) - 2 - (1 + v2)) from congrArg V.int (by omega)]
    refine ⟨_, rfl, (by show 1 ≤ sizeLine; decide), fun pt npt => ?_⟩
    have st : Same H6 (upd H6 pt (.tup [.str wd])) := same_new npt
    have hpt : (upd H6 pt (.tup [.str wd])) pt = some (.tup [.str wd]) := upd_same
    have ptf : pt ≠ f := F6.ne npt
    replace F6 := F6.new (o := .tup [.str wd]) npt
    replace hta := hta.keep (TK.same st)
    replace htb := htb.keep (TK.same st)
    replace hpl := st _ _ hpl
    replace B6 := B6.same st
    generalize upd H6 pt (.tup [.str wd]) = H6 at st hpt hpl F6 hta htb B6 ⊢
    refine ⟨_, rfl, _, rfl, _, rfl, _, rfl, _, _, rfl, rfl, _, rfl, _, _, rfl, rfl, _, rfl, _, rfl, f, c, nw, na, now, names, r - 2 - o, eb, by omega, by omega, by omega, B6 _ _ hnw nwf, B6 _ _ hna naf, ln, la, gw, ga, F6, fun vc tc H7 htc okc lpc F7 B7 => ?_⟩
    have hpl7 := B7 _ _ hpl plf
    refine ⟨(by show 1 ≤ sizeLine; decide), fun p8 np8 => ?_⟩
    have hp8 : (upd H7 p8 (.lst [vc])) p8 = some (.lst [vc]) := upd_same
    have s8 : Same H7 (upd H7 p8 (.lst [vc])) := same_new np8
    have F8 := F7.new (o := .lst [vc]) np8
    replace hta := (hta.keep (TK.but F6 B7)).keep (TK.same s8)
    replace htb := (htb.keep (TK.but F6 B7)).keep (TK.same s8)
    replace htc := htc.keep (TK.same s8)
    have B8 := (B6.trans B7).same s8
    generalize upd H7 p8 (.lst [vc]) = H8 at s8 hp8 F8 hta htb htc B8 ⊢
    refine ⟨pl, p8, _, _, rfl, rfl, s8 _ _ hpl7, hp8, (by show 3 ≤ sizeLine; decide), fun p9 np9 => ?_⟩
    have p9f : p9 ≠ f := F8.ne np9
    have hp9 : (upd H8 p9 (.lst ([va, vb] ++ [vc]))) p9 = some (.lst [va, vb, vc]) := upd_same
    have s9 : Same H8 (upd H8 p9 (.lst ([va, vb] ++ [vc]))) := same_new np9
    have F9 := F8.new (o := .lst ([va, vb] ++ [vc])) np9
    generalize upd H8 p9 (.lst ([va, vb] ++ [vc])) = H9 at s9 hp9 F9 ⊢
    have al : All2 (TrAt H9) [va, vb, vc] [ta, tb, tc] := .cons (hta.keep (TK.same s9)) (.cons (htb.keep (TK.same s9)) (.cons (htc.keep (TK.same s9)) .nil))
    refine ⟨f, c, p9, [va, vb, vc], rfl, SqL.of hp9, p9f, (by show 3 ≤ 500; decide), F9, fun p10 ys H10 pm np10 hp10 F10 B10 => ?_⟩
    have al10 : All2 (TrAt H10) [va, vb, vc] [ta, tb, tc] := al.imp fun _ _ z => z.keep (TK.but F9 B10)
    obtain ⟨ts, pt2, al2⟩ := All2.perm pm al10
    have l3 : ts.length = 3 := pt2.length_eq
    obtain ⟨ka, kb, kc, rfl⟩ : ∃ a b c, ts = [a, b, c] := by
      match ts, l3 with
      | [a, b, c], _ => exact ⟨a, b, c, rfl⟩
    have okk : ∀ t ∈ [ka, kb, kc], TOk now names t := fun t ht => by
      rcases List.mem_cons.mp (pt2.mem_iff.mp ht) with rfl | ht
      · exact oka
      rcases List.mem_cons.mp ht with rfl | ht
      · exact okb
      rw [List.mem_singleton.mp ht]
      exact okc
    have sum : ka.parts.length + kb.parts.length + kc.parts.length = ta.parts.length + tb.parts.length + tc.parts.length := by
      have := (pt2.map fun t => t.parts.length).sum_nat
      simp only [List.map_cons, List.map_nil, List.sum_cons, List.sum_nil] at this
      omega
    refine ⟨p10, ys, rfl, .inl ⟨SqL.of hp10, fun p11 np11 => ?_⟩⟩
    have s11 : Same H10 (upd H10 p11 (.tup ys)) := same_new np11
    have hp11 : (upd H10 p11 (.tup ys)) p11 = some (.tup ys) := upd_same
    have F11 := F10.new (o := .tup ys) np11
    have B11 := ((B8.same s9).trans B10).same s11
    have al11 : All2 (TrAt (upd H10 p11 (.tup ys))) ys [ka, kb, kc] := al2.imp fun _ _ z => z.keep (TK.same s11)
    have hpt11 := s11 _ _ (B10 _ _ (s9 _ _ (s8 _ _ (B7 _ _ hpt ptf))) ptf)
    generalize upd H10 p11 (.tup ys) = H11 at s11 hp11 F11 B11 al11 hpt11 ⊢
    have ly : ys.length = 3 := pm.length_eq
    refine catA_of hpt11 hp11 (by rw [ly]; show 4 ≤ 1000; decide) fun p12 H12 h12 s12 => ?_
    have al12 := al11.imp fun _ _ z => TrAt.keep (TK.same s12) z
    obtain ⟨ya, yb, yc, rfl⟩ : ∃ a b c, ys = [a, b, c] := by
      match ys, ly with
      | [a, b, c], _ => exact ⟨a, b, c, rfl⟩
    have o1 := okk ka (by simp)
    have o2 := okk kb (by simp)
    have o3 := okk kc (by simp)
    refine q (.ref p12) (.o3 ka kb kc) _ (TrAt.mk ?_ al12) ⟨fun z hz => ?_, o1.sm, o2.sm, o3.sm⟩ ?_ (F11.same s12) (B11.same s12)
    · rw [h12, ep]; rfl
    · rcases List.mem_append.mp hz with hz | hz
      · rcases List.mem_append.mp hz with hz | hz
        · exact o1.ln z hz
        · exact o2.ln z hz
      · exact o3.ln z hz
    · show (ka.parts ++ kb.parts ++ kc.parts ++ [_]).length ≤ r
      rw [List.length_append, List.length_append, List.length_append]
      show _ + 1 ≤ r
      omega
  · obtain ⟨w2, rfl⟩ : ∃ w2 : W2, wd = w2.s := by
      unfold wsT at mw
      simp only [List.mem_cons, List.not_mem_nil, or_false] at mw
      rcases mw with h | h | h | h | h | h | h | h | h | h
      · exact absurd h e
      · exact absurd h e
      · exact absurd h et
      · exact ⟨.sum, h⟩
      · exact ⟨.gap, h⟩
      · exact ⟨.below, h⟩
      · exact ⟨.most, h⟩
      · exact ⟨.least, h⟩
      · exact absurd h ep
      · exact ⟨.sum, h⟩
    refine ⟨_, rfl, _, rfl, _, rfl, _, rfl, _, rfl, f, c, nw, na, now, names, o, ea, by omega, by omega, by omega, hnw3, hna3, ln, la, gw, ga, F3, fun va ta H4 hta oka lpa F4 B4 => ?_⟩
    have hnw4 := B4 _ _ hnw3 nwf
    have hna4 := B4 _ _ hna3 naf
    have eb : [V.ref f, V.int (((r : Nat) : Int) - 1 - (1 + v2)), V.ref nw, V.ref na] = [V.ref f, nV (r - 1 - o), V.ref nw, V.ref na] := by
      rw [show nV (r - 1 - o) = V.int (((r : Nat) : Int) - 1 - (1 + v2)) from congrArg V.int (by omega)]
    refine ⟨_, rfl, _, rfl, _, _, rfl, rfl, _, rfl, _, _, rfl, rfl, _, rfl, _, rfl, f, c, nw, na, now, names, r - 1 - o, eb, by omega, by omega, by omega, hnw4, hna4, ln, la, gw, ga, F4, fun vb tb H5 htb okb lpb F5 B5 => ⟨(by show 3 ≤ sizeLine; decide), fun p np => ?_⟩⟩
    have hta5 := (hta.keep (TK.but F4 B5)).keep (TK.new (o := .tup [.str w2.s, va, vb]) np)
    refine q (.ref p) (.o2 w2 ta tb) _ ⟨p, va, vb, rfl, upd_same, hta5, htb.keep (TK.new np)⟩ ⟨fun z hz => ?_, oka.sm, okb.sm⟩ ?_ (F5.new np) (((B3.trans B4).trans B5).new np)
    · rcases List.mem_append.mp hz with hz | hz
      · exact oka.ln z hz
      · exact okb.ln z hz
    · show (ta.parts ++ tb.parts ++ [_]).length ≤ r
      rw [List.length_append, List.length_append]
      show _ + 1 ≤ r
      omega
theorem tree_all {C : Addr} (T : Top w K mg C) : ∀ (n : Nat) (f : Addr) (fd : FuncData), Fun K "_law_tree" "_law_tree" s_law_tree f fd → FnOk P w K mg base CX0 (n + 3) f fd ["_law_flow_here", "_law_room", "_law_now", "_law_names_here"] (spT K n)
  | 0, f, fd, F => by
    refine F.ok sc_law_tree (fun vs H Q E h => h.elim) (fun cdv A outer s H vs Q E hr h => h.elim)
  | n + 1, f, fd, F => tree_step T n (tree_all T n) F
abbrev sp_law_tree (K : PySem.W.Frag) : Sp := spT K 8
theorem ok_law_tree {C : Addr} {f : Addr} {fd : FuncData} (F : Fun K "_law_tree" "_law_tree" s_law_tree f fd) (T : Top w K mg C) : FnOk P w K mg base CX0 11 f fd ["_law_flow_here", "_law_room", "_law_now", "_law_names_here"] (sp_law_tree K) := tree_all T 8 f fd F
end
/-! ### formulas drawn -/
abbrev stV (tf : Str → V) (ns : List Str) : List (Key × V) := ns.map fun z => (Sum.inr z, tf z)
theorem stV_val {tf : Str → V} {ns : List Str} (z : Str) : valV (stV tf ns) (Sum.inr z) = if z ∈ ns then some (tf z) else none := by
  induction ns with
  | nil => rfl
  | cons x r ih =>
    unfold valV at ih ⊢
    show Option.map _ (List.find? _ ((Sum.inr x, tf x) :: stV tf r)) = _
    rw [List.find?_cons]
    by_cases h : x = z
    · subst h
      rw [decide_eq_true rfl, if_pos (List.mem_cons_self ..)]; rfl
    · rw [decide_eq_false fun k => h (Sum.inr.inj k)]
      have : (z ∈ x :: r) ↔ z ∈ r := ⟨fun k => (List.mem_cons.mp k).resolve_left fun y => h y.symm, List.mem_cons_of_mem _⟩
      by_cases k : z ∈ r
      · rw [if_pos (this.mpr k)]
        rw [if_pos k] at ih
        exact ih
      · rw [if_neg fun y => k (this.mp y)]
        rw [if_neg k] at ih
        exact ih
theorem stV_put (tf : Str → V) {ns : List Str} {z : Str} (h : z ∉ ns) (v : V) : putK (stV tf ns) (Sum.inr z) v = stV (fun y => if y = z then v else tf y) (ns ++ [z]) := by
  rw [putK_new _ (by rw [stV_val, if_neg h])]
  unfold stV
  rw [List.map_append]
  congr 1
  · refine List.map_congr_left fun y hy => ?_
    show (_, tf y) = (_, if y = z then v else tf y)
    rw [if_neg (show ¬ y = z from fun e => h (e ▸ hy))]
  · show [_] = [(_, if z = z then v else tf z)]
    rw [if_pos rfl]
/-- what is so of formulas that the law draws -/
structure GFm (most : Nat) (F : Fm) : Prop where
  li : F.ins.length ≤ 4
  lr : F.rules.length ≤ most
  lw : F.was.length ≤ 9
  lo : F.outs.length ≤ 4
  nd : F.own.Nodup
  wd : ∀ z ∈ F.own, Wd 6 z ∧ z ∉ takL
  kn : F.kept.Nodup
  ko : ∀ z ∈ F.kept, z ∈ F.own
  th : ∀ p ∈ F.was, p.2.length ≤ 7 ∧ ∀ x ∈ p.2, Small x
  oo : ∀ z ∈ F.outs, z ∈ F.own
  tr : ∀ p ∈ F.rules, p.2.parts.length ≤ 10 ∧ p.2.small ∧ ∀ q ∈ p.2.leans, q.1 ∈ F.own ∧ q.2 ≤ 6
  rk : ∃ rk : Str → Nat, ∀ p ∈ F.rules, ∀ q ∈ p.2.leans, q.2 = 0 → rk q.1 < rk p.1
/-- the names of what comes in and of the rules, as the law draws them -/
structure Dr (most : Nat) (ins own : List Str) : Prop where
  li : ins.length ≤ 4
  lo : own.length ≤ most
  nd : (ins ++ own).Nodup
  wd : ∀ z ∈ ins ++ own, Wd 6 z ∧ z ∉ takL
theorem perm_strs {ys : List V} {own : List Str} (p : ys.Perm (own.map V.str)) : ∃ zs : List Str, ys = zs.map V.str ∧ zs.Perm own := by
  have base : ∀ l : List Str, All2 (fun v z => v = V.str z) (l.map V.str) l := by
    intro l
    induction l with
    | nil => exact .nil
    | cons x r ih => exact .cons rfl ih
  obtain ⟨zs, pz, al⟩ := All2.perm p (base own)
  refine ⟨zs, ?_, pz⟩
  clear pz p
  induction al with
  | nil => rfl
  | cons e _ ih => rw [List.map_cons, e, ih]
section
variable {P : Program} {w : World} {K : PySem.W.Frag} {mg : Str → Option Value} {base : Heap}
def sp_law_formulas (K : PySem.W.Frag) : Sp := fun vs H Q _ => ∃ (f c : Addr) (most : Nat), vs = [.ref f, nV most] ∧ most ≤ 5 ∧ Flow H f c ∧ ∀ (r : Addr) (F : Fm) (H' : Hp), FmAtF H' r F → GFm most F → Flow H' f c → But f H H' → Q (.ref r) H'
theorem ok_law_formulas {f : Addr} {fd : FuncData} (F : Fun K "_law_formulas" "_law_formulas" s_law_formulas f fd) {C : Addr} (T : Top w K mg C) : FnOk P w K mg base CX0 12 f fd ["_law_flow_here", "_law_most"] (sp_law_formulas K) := by
  obtain ⟨f_law_names, fd_law_names, F_law_names, b_law_names, m_law_names⟩ := T.d_law_names
  have G_law_names := ok_law_names (P := P) (w := w) (base := base) F_law_names T
  obtain ⟨f_law_tree, fd_law_tree, F_law_tree, b_law_tree, m_law_tree⟩ := T.d_law_tree
  have G_law_tree := ok_law_tree (P := P) (w := w) (base := base) F_law_tree T
  obtain ⟨f_law_pick, fd_law_pick, F_law_pick, b_law_pick, m_law_pick⟩ := T.d_law_pick
  have G_law_pick := ok_law_pick (P := P) (w := w) (base := base) F_law_pick T
  obtain ⟨f_law_shuffled, fd_law_shuffled, F_law_shuffled, b_law_shuffled, m_law_shuffled⟩ := T.d_law_shuffled
  have G_law_shuffled := ok_law_shuffled (P := P) (w := w) (base := base) F_law_shuffled T
  obtain ⟨f_law_thing, fd_law_thing, F_law_thing, b_law_thing, m_law_thing⟩ := T.d_law_thing
  have G_law_thing := ok_law_thing (P := P) (w := w) (base := base) F_law_thing T
  refine F.ok sc_law_formulas (fun vs H Q E h => ?_) (fun cdv A outer s H vs Q E hr h => ?_)
  · obtain ⟨f, c, most, rfl, _⟩ := h
    rfl
  obtain ⟨f, c, most, rfl, m5, hF, q⟩ := h
  let sg : Addr → Addr → Addr → Addr → Option V → Option V → Option V → Option V → Option V → Option V → L2.St := fun nl il ol el v6 v7 v8 v9 v10 v11 => [some (.ref f), some (nV most), some (.ref nl), some (.ref il), some (.ref ol), some (.ref el), v6, v7, v8, v9, v10, v11]
  let Base : Addr → Addr → List Str → List Str → Hp → Prop := fun il el ins own H' => H' il = some (.lst (ins.map V.str)) ∧ H' el = some (.lst ((ins ++ own).map V.str)) ∧ Dr most ins own ∧ Flow H' f c ∧ But f H H' ∧ H il = none ∧ H el = none
  let R1 : TS := fun D' σ' H' => D'.rt = Q ∧ ∃ (nl il ol el td : Addr) (ins own : List Str), σ' = sg nl il ol el (some (.ref td)) none none none none none ∧ Base il el ins own H' ∧ H' ol = some (.lst (own.map V.str)) ∧ H' td = some (.dK []) ∧ H td = none
  let R2 : TS := fun D' σ' H' => D'.rt = Q ∧ ∃ (nl il ol el td : Addr) (ins own : List Str) (v7 v8 : Option V) (tf : Str → V) (tt : Str → Tr), σ' = sg nl il ol el (some (.ref td)) v7 v8 none none none ∧ Base il el ins own H' ∧ H' ol = some (.lst (own.map V.str)) ∧ H' td = some (.dK (stV tf own)) ∧ ∀ (j : Nat) (z : Str), own[j]? = some z → TrAt H' (tf z) (tt z) ∧ TOk (ins ++ own.take j) (ins ++ own) (tt z) ∧ (tt z).parts.length ≤ 10
  let R3 : TS := fun D' σ' H' => D'.rt = Q ∧ ∃ (nl il ol el rl : Addr) (ins own : List Str) (v6 v7 v8 : Option V) (rv : List V) (rules : List (Str × Tr)), σ' = sg nl il ol el v6 v7 v8 (some (.ref rl)) none none ∧ Base il el ins own H' ∧ H' rl = some (.lst rv) ∧ All2 (RlAt H') rv rules ∧ (rules.map (·.1)).Perm own ∧ ∀ p ∈ rules, ∃ j : Nat, own[j]? = some p.1 ∧ TOk (ins ++ own.take j) (ins ++ own) p.2 ∧ p.2.parts.length ≤ 10
  let R4 : TS := fun D' σ' H' => D'.rt = Q ∧ ∃ (nl il ol el rl wl : Addr) (ins own : List Str) (v6 v7 v8 : Option V) (rv wv : List V) (rules : List (Str × Tr)) (was : List (Str × List Int)), σ' = sg nl il ol el v6 v7 v8 (some (.ref rl)) (some (.ref wl)) none ∧ Base il el ins own H' ∧ H' rl = some (.lst rv) ∧ All2 (RlAt H') rv rules ∧ (rules.map (·.1)).Perm own ∧ (∀ p ∈ rules, ∃ j : Nat, own[j]? = some p.1 ∧ TOk (ins ++ own.take j) (ins ++ own) p.2 ∧ p.2.parts.length ≤ 10) ∧
    H' wl = some (.lst wv) ∧ All2 (WaAt H') wv was ∧ (was.map (·.1)).Sublist (ins ++ own) ∧ (∀ p ∈ was, p.2.length ≤ 7 ∧ ∀ x ∈ p.2, Small x)
  refine ⟨_, (pss_cons (ps_set (i := 2) sc_law_formulas.nd rfl (Or.inl rfl) (pe_call G_law_names (hr.mono (by decide)) (by rfl) m_law_names F_law_names.kp b_law_names .nil pass0 (pa_cons (pv 0) (pa_cons pe_int pa_nil))))
      (pss_cons (ps_set (i := 3) sc_law_formulas.nd rfl (Or.inl rfl) (pe_slice (sl_listK K rfl) (pv 2) po_none (po_some (pe_call G_law_pick (hr.mono (by decide)) (by rfl) m_law_pick F_law_pick.kp b_law_pick .nil pass0 (pa_cons (pv 0) (pa_cons pe_int pa_nil))))))
      (pss_cons (ps_set (i := 4) sc_law_formulas.nd rfl (Or.inl rfl) (pe_slice (sl_listK K rfl) (pv 2) (po_some pe_int) (po_some (pe_op op_add pe_int (pe_call G_law_pick (hr.mono (by decide)) (by rfl) m_law_pick F_law_pick.kp b_law_pick .nil pass0 (pa_cons (pv 0) (pa_cons (pe_op op_add (pv 1) pe_int) pa_nil)))))))
      (pss_cons (ps_set (i := 5) sc_law_formulas.nd rfl (Or.inr rfl) (pe_op op_cat (pv 3) (pv 4)))
      (pss_cons (ps_set (i := 6) sc_law_formulas.nd rfl (Or.inr rfl) pe_dnewK)
      (PSs.to (pss_cons (ps_for PassesOwn.never rfl (pi_enumK K rfl (by rfl) T.m_enumerate (pa_cons (pv 4) pa_nil)) (pg_tupK K rfl rfl (pgs_cons (pg_name (i := 7) sc_law_formulas.nd rfl (Or.inl rfl)) (pgs_cons (pg_name (i := 8) sc_law_formulas.nd rfl (Or.inl rfl)) pgs_nil)))
        (pss_one (ps_dput (hu_of hr) (pv 6) (pv 8) (pe_call G_law_tree (hr.mono (by decide)) (by rfl) m_law_tree F_law_tree.kp b_law_tree .nil pass0 (pa_cons (pv 0) (pa_cons (pe_op op_add pe_int (pe_call G_law_pick (hr.mono (by decide)) (by rfl) m_law_pick F_law_pick.kp b_law_pick .nil pass0 (pa_cons (pv 0) (pa_cons pe_int pa_nil)))) (pa_cons (pe_op op_cat (pv 3) (pe_slice (sl_listK K rfl) (pv 4) po_none (po_some (pv 7)))) (pa_cons (pv 5) pa_nil))))) (by rfl))))
      (PSs.to (pss_cons (ps_setLc (i := 9) (own := [("_law_name", 8)]) (g := gName 8) (tt := tYes) (by rfl) sc_law_formulas.nd rfl rfl (sw_true rfl rfl rfl (by decide +kernel)) (pi_listK K rfl (pe_call G_law_shuffled (hr.mono (by decide)) (by rfl) m_law_shuffled F_law_shuffled.kp b_law_shuffled .nil pass0 (pa_cons (pv 0) (pa_cons (pv 4) pa_nil)))) (blkOk_by (own := [("_law_name", 8)]) (N := N_law_formulas) (sc := defScope s_law_formulas) (by decide +kernel)) (fun _ _ _ _ _ => (pg_name (i := 8) sc_law_formulas.nd rfl (Or.inl rfl))) (fun _ _ _ _ _ => pts_nil) (fun _ _ _ _ _ => (pe_tup (pa_cons (pv 8) (pa_cons (pe_dget (hu_of hr) (pv 6) (pv 8) (fun _ _ => rfl)) pa_nil)))))
      (PSs.to (pss_cons (ps_set (i := 10) sc_law_formulas.nd rfl (Or.inl rfl) (pe_lst pa_nil))
      (pss_cons (ps_for PassesOwn.never rfl (pi_listK K rfl (pv 5)) (pg_name (i := 8) sc_law_formulas.nd rfl (Or.inl rfl))
        (pss_one (ps_if (pt_cmpR op_eq (pe_call G_law_pick (hr.mono (by decide)) (by rfl) m_law_pick F_law_pick.kp b_law_pick .nil pass0 (pa_cons (pv 0) (pa_cons pe_int pa_nil))) pe_int (nomark _)) (pss_one (ps_expr (pe_bmK K rfl PySem.F.plainAttrs_list PySem.F.slot_list_append PySem.F.type_list_append mt_append (pv 10) (pa_cons (pe_tup (pa_cons (pv 8) (pa_cons (pe_callTy (call_tuple_ofK K rfl) (by rfl) T.m_tuple (by decide +kernel) (pa_cons (pe_lc (own := [("_law_k", 7)]) (g := gName 7) (tt := tYes) (by rfl) sc_law_formulas.nd (pi_range1 (by rfl) T.m_range (pa_cons (pe_call G_law_pick (hr.mono (by decide)) (by rfl) m_law_pick F_law_pick.kp b_law_pick .nil pass0 (pa_cons (pv 0) (pa_cons pe_int pa_nil))) pa_nil)) (blkOk_by (own := [("_law_k", 7)]) (N := N_law_formulas) (sc := defScope s_law_formulas) (by decide +kernel)) (fun _ _ _ _ _ => (pg_name (i := 7) sc_law_formulas.nd rfl (Or.inl rfl))) (fun _ _ _ _ _ => pts_nil) (fun _ _ _ _ _ => (pe_call G_law_thing (hr.mono (by decide)) (by rfl) m_law_thing F_law_thing.kp b_law_thing .nil pass0 (pa_cons (pv 0) pa_nil)))) pa_nil)) pa_nil))) pa_nil)))) pss_nil)))
      (PSs.to (pss_cons (ps_setLc (i := 11) (own := [("_law_k", 7)]) (g := gName 7) (by rfl) sc_law_formulas.nd rfl rfl (sw_true rfl rfl rfl (by decide +kernel)) (pi_range1 (by rfl) T.m_range (pa_cons (pe_call G_law_pick (hr.mono (by decide)) (by rfl) m_law_pick F_law_pick.kp b_law_pick .nil pass0 (pa_cons (pv 0) (pa_cons pe_int pa_nil))) pa_nil)) (blkOk_by (own := [("_law_k", 7)]) (N := N_law_formulas) (sc := defScope s_law_formulas) (by decide +kernel)) (fun _ _ _ _ _ => (pg_name (i := 7) sc_law_formulas.nd rfl (Or.inl rfl))) (fun _ _ _ _ _ => pts_one (pt_cmpR (op_neDK K rfl hr.units) (pv 5) (pe_lst pa_nil) (nomark _))) (fun _ _ _ _ _ => (pe_ix (ix_listK K rfl) (pv 5) (pe_call G_law_pick (hr.mono (by decide)) (by rfl) m_law_pick F_law_pick.kp b_law_pick .nil pass0 (pa_cons (pv 0) (pa_cons (pe_callB (call_len_seqK K rfl) (by rfl) T.m_len (by decide +kernel) (pa_cons (pv 5) pa_nil)) pa_nil))) (fun _ _ => rfl))))
      (pss_one (ps_ret (pe_tup (pa_cons (pe_callTy (call_tuple_ofK K rfl) (by rfl) T.m_tuple (by decide +kernel) (pa_cons (pv 3) pa_nil)) (pa_cons (pe_callTy (call_tuple_ofF K rfl) (by rfl) T.m_tuple (by decide +kernel) (pa_cons (pe_call G_law_shuffled (hr.mono (by decide)) (by rfl) m_law_shuffled F_law_shuffled.kp b_law_shuffled .nil pass0 (pa_cons (pv 0) (pa_cons (pv 10) pa_nil))) pa_nil)) (pa_cons (pe_callTy (call_tuple_ofK K rfl) (by rfl) T.m_tuple (by decide +kernel) (pa_cons (pv 9) pa_nil)) (pa_cons (pe_callTy (call_tuple_ofK K rfl) (by rfl) T.m_tuple (by decide +kernel) (pa_cons (pv 11) pa_nil)) pa_nil)))))))) R4 ?tail4))) R3 ?tail3)) R2 ?tail2)) R1 ?tail1)))))), ?_⟩
  case tail4 =>
    rintro D' σ' H1 ⟨eD, nl, il, ol, el, rl, wl, ins, own, v6, v7, v8, rv, wv, rules, was, rfl, ⟨hil, hel, dr, F1, B1, nil0, nel0⟩, hrl, alr, pmr, ru, hwl, alw, sub, wth⟩
    have elf := F1.neS hel
    have ilf := F1.neS hil
    have lins := dr.li
    have lown := dr.lo
    have lrules : rules.length = own.length := by
      have := pmr.length_eq
      rwa [List.length_map] at this
    have notf : ∀ {p : Addr} {xs : List V}, H1 p = some (.lst xs) → (∀ x ∈ xs, ∃ (a : Addr) (ys : List V), x = .ref a ∧ H1 a = some (.tup ys)) → p ≠ f := fun {p xs} e all z => by
      obtain ⟨ns, i, a, q, r, e1, e2, _⟩ := F1
      rw [z, e1] at e
      obtain rfl := HO.lst.inj (Option.some.inj e)
      obtain ⟨b, ys, eb, e3⟩ := all _ (List.mem_cons_self ..)
      cases eb
      rw [e2] at e3
      cases e3
    have rlf : rl ≠ f := notf hrl fun x hx => by
      obtain ⟨j, ej⟩ := List.getElem?_of_mem hx
      obtain ⟨p, _, t, y, rfl, e, _⟩ := alr.getL ej
      exact ⟨t, _, rfl, e⟩
    have wlf : wl ≠ f := notf hwl fun x hx => by
      obtain ⟨j, ej⟩ := List.getElem?_of_mem hx
      obtain ⟨p, _, t, y, rfl, e, _⟩ := alw.getL ej
      exact ⟨t, _, rfl, e⟩
    refine ⟨_, rfl, f, c, 5, rfl, by decide, by decide, F1, fun u H2 u0 u1 F2 B2 => ⟨_, rfl, by omega, by omega, fun D nD => ?_⟩⟩
    have Df : D ≠ f := F2.ne nD
    have Dc : D ≠ c := F2.nec nD
    have hel2 := B2 _ _ hel elf
    refine lc_range (lo := 0) (n := u.toNat) (fun k H9 => ∃ os : List Str, H9 D = some (.lst (os.map V.str)) ∧ os.length ≤ k ∧ (∀ x ∈ os, x ∈ ins ++ own) ∧ Flow H9 f c ∧ But f H2 H9) ⟨[], upd_same, Nat.le_refl _, (fun _ y => by cases y), F2.new nD, But.refl.new nD⟩ ?_ ?_
    · rintro k H9 hk ⟨os, hD, lo, oin, F9, B9⟩
      have hel9 := B9 _ _ hel2 elf
      refine ⟨rfl, ?_⟩
      refine ⟨_, rfl, (by show 0 ≤ sizeLine; decide), fun p1 np1 => ?_⟩
      have s10 : Same H9 (upd H9 p1 (.lst [])) := same_new np1
      have hp1 : (upd H9 p1 (.lst [])) p1 = some (.lst []) := upd_same
      have F10 := F9.new (o := .lst []) np1
      have hD10 := s10 _ _ hD
      have hel10 := s10 _ _ hel9
      generalize upd H9 p1 (.lst []) = H10 at s10 hp1 F10 hD10 hel10 ⊢
      have B10 := B9.same s10
      refine ⟨_, _, .lst (SqL.of hel10) (dp_strs _), .lst (SqL.of hp1) .nil, strs_shaped (m := 6) (fun z hz => (dr.wd z hz).1), rfl, _, rfl, ?_⟩
      have ee : PyData.eqv (.list ((ins ++ own).map PyData.str)) (.list []) = ((ins ++ own).map PyData.str).isEmpty := eqv_nil
      rw [ee]
      by_cases emp : ins ++ own = []
      · have en : (!((ins ++ own).map PyData.str).isEmpty) = false := by rw [emp]; rfl
        rw [en]
        refine if_bl (fun z => nomatch z) (fun _ => ?_)
        exact ⟨os, hD10, by omega, oin, F10, B10⟩
      · have pos : 0 < (ins ++ own).length := List.length_pos_iff.mpr emp
        have ne : (!((ins ++ own).map PyData.str).isEmpty) = true := by
          cases hl : ins ++ own with
          | nil => exact absurd hl emp
          | cons a b => rfl
        rw [ne]
        refine if_bl (fun _ => ?_) (fun z => nomatch z)
        refine ⟨_, rfl, _, rfl, _, rfl, el, _, rfl, .inl (SqL.of hel10), f, c, (((ins ++ own).length : Nat) : Int), ?_, by omega, log_small (by rw [List.length_append]; omega), F10, fun v2 H11 v20 v21 F11 B11 => ?_⟩
        · rw [List.length_map, List.append_nil]
        have hel11 := B11 _ _ hel10 elf
        obtain ⟨z, ez, mz⟩ := at_strs v20 v21
        refine ⟨el, _, v2, _, rfl, rfl, SqL.of hel11, ez, _, B11 _ _ hD10 Df, by rw [List.length_map]; exact small1000 (by omega), os ++ [z], by rw [upd_same, List.map_append]; rfl, by rw [List.length_append]; show _ + 1 ≤ _; omega, fun y hy => ?_, F11.lst Df Dc, (B10.trans B11).own nD⟩
        rcases List.mem_append.mp hy with h | h
        · exact oin y h
        · rw [List.mem_singleton.mp h]; exact mz
    · rintro H3 ⟨os, hD, lo, oin, F3, B3⟩
      have B13 := B2.trans B3
      have hil3 := B13 _ _ hil ilf
      refine ⟨_, rfl, il, _, rfl, .inl ⟨SqL.of hil3, fun a1 na1 => ?_⟩⟩
      have s4 : Same H3 (upd H3 a1 (.tup (ins.map V.str))) := same_new na1
      have ha1 : (upd H3 a1 (.tup (ins.map V.str))) a1 = some (.tup (ins.map V.str)) := upd_same
      have F4 := F3.new (o := .tup (ins.map V.str)) na1
      have B14 := B13.same s4
      have a1f : a1 ≠ f := F3.ne na1
      have hD4 := s4 _ _ hD
      generalize upd H3 a1 (.tup (ins.map V.str)) = H4 at s4 ha1 F4 B14 hD4 ⊢
      have lw := alw.length
      have lw2 := sub.length_le
      rw [List.length_map, List.length_append] at lw2
      refine ⟨_, rfl, _, rfl, f, c, wl, wv, rfl, SqL.of (B14 _ _ hwl wlf), wlf, by omega, F4, fun p ys H5 pm np hp F5 B5 => ?_⟩
      have alw5 : All2 (WaAt H5) wv was := alw.imp fun _ _ y => (y.keep (TK.but F1 B14)).keep (TK.but F4 B5)
      obtain ⟨was2, pw, alw6⟩ := All2.perm pm alw5
      have B15 := B14.trans B5
      refine ⟨p, ys, rfl, SqL.of hp, fun a2 ob nod na2 => ?_⟩
      have s6 : Same H5 (upd H5 a2 (.frz ob (.tup ys))) := same_new na2
      have ha2 : (upd H5 a2 (.frz ob (.tup ys))) a2 = some (.frz ob (.tup ys)) := upd_same
      have F6 := F5.new (o := .frz ob (.tup ys)) na2
      have B16 := B15.same s6
      have hrl6 := B16 _ _ hrl rlf
      have hD6 := s6 _ _ (B5 _ _ hD4 Df)
      have ha16 := s6 _ _ (B5 _ _ ha1 a1f)
      generalize upd H5 a2 (.frz ob (.tup ys)) = H6 at s6 ha2 F6 B16 hrl6 hD6 ha16 ⊢
      refine ⟨_, rfl, rl, rv, rfl, .inl ⟨SqL.of hrl6, fun a3 na3 => ?_⟩⟩
      have s7 : Same H6 (upd H6 a3 (.tup rv)) := same_new na3
      have ha3 : (upd H6 a3 (.tup rv)) a3 = some (.tup rv) := upd_same
      have hD7 := s7 _ _ hD6
      generalize upd H6 a3 (.tup rv) = H7 at s7 ha3 hD7 ⊢
      refine ⟨_, rfl, D, _, rfl, .inl ⟨SqL.of hD7, fun a4 na4 => ⟨(by show 4 ≤ sizeLine; decide), fun r nr => ?_⟩⟩⟩
      have s8 : Same H7 (upd H7 a4 (.tup (os.map V.str))) := same_new na4
      have ha4 : (upd H7 a4 (.tup (os.map V.str))) a4 = some (.tup (os.map V.str)) := upd_same
      generalize upd H7 a4 (.tup (os.map V.str)) = H8 at s8 ha4 nr ⊢
      have s9 : Same H8 (upd H8 r (.tup [.ref a1, .ref a2, .ref a3, .ref a4])) := same_new nr
      have s69 := s7.trans (s8.trans s9)
      rw [eD]
      have ow : (ins ++ rules.map (·.1)).Perm (ins ++ own) := List.Perm.append_left ins pmr
      have mo : ∀ z, z ∈ ins ++ rules.map (·.1) ↔ z ∈ ins ++ own := fun z => ow.mem_iff
      refine q r ⟨ins, was2, rules, os⟩ _ ⟨a1, a2, a3, a4, ob, ys, rv, nod, upd_same, s69 _ _ ha16, s69 _ _ ha2, alw6.imp fun _ _ y => (y.keep (TK.same s6)).keep (TK.same s69), s9 _ _ (s8 _ _ ha3), alr.imp fun _ _ y => (y.keep (TK.but F1 B16)).keep (TK.same s69), s9 _ _ ha4⟩ ?_ (F6.same s69) ((B1.trans B16).same s69)
      have u5 : u.toNat ≤ 4 := by omega
      have m5' := m5
      have pk : (was2.map (·.1)).Perm (was.map (·.1)) := pw.map _
      refine ⟨dr.li, by show rules.length ≤ most; omega, by show was2.length ≤ 9; rw [pw.length_eq]; have := List.length_map (as := was) (·.1); omega, by show os.length ≤ 4; omega, ow.nodup_iff.mpr dr.nd, fun z hz => dr.wd z ((mo z).mp hz), pk.nodup_iff.mpr (List.Nodup.sublist sub dr.nd), fun z hz => (mo z).mpr (sub.subset (pk.mem_iff.mp hz)), fun p hp => wth p (pw.mem_iff.mp hp), fun z hz => (mo z).mpr (oin z hz), fun p hp => ?_, ?_⟩
      · obtain ⟨j, ej, tok, lp⟩ := ru p hp
        refine ⟨lp, tok.sm, fun q hq => ?_⟩
        rcases tok.ln q hq with ⟨e0, m⟩ | ⟨e0, e6, m⟩
        · refine ⟨(mo _).mpr ?_, by omega⟩
          rcases List.mem_append.mp m with m | m
          · exact List.mem_append.mpr (.inl m)
          · exact List.mem_append.mpr (.inr (List.mem_of_mem_take m))
        · exact ⟨(mo _).mpr m, e6⟩
      · have ndo : own.Nodup := (List.nodup_append.mp dr.nd).2.1
        have key : ∃ rk : Str → Nat, (∀ (j : Nat) (z : Str), own[j]? = some z → rk z = j + 1) ∧ ∀ z, z ∉ own → rk z = 0 := by
          classical
          refine ⟨fun z => if h : ∃ j, own[j]? = some z then Classical.choose h + 1 else 0, fun j z e => ?_, fun z hz => dif_neg fun ⟨j, e⟩ => hz (List.mem_of_getElem? e)⟩
          have h : ∃ j, own[j]? = some z := ⟨j, e⟩
          show (if h : ∃ j, own[j]? = some z then Classical.choose h + 1 else 0) = j + 1
          rw [dif_pos h, nodup_get ndo (Classical.choose_spec h) e]
        obtain ⟨rk, k1, k2⟩ := key
        refine ⟨rk, fun p hp q hq q0 => ?_⟩
        obtain ⟨j, ej, tok, lp⟩ := ru p hp
        rw [k1 j _ ej]
        rcases tok.ln q hq with ⟨_, m⟩ | ⟨e0, _, _⟩
        · rcases List.mem_append.mp m with m | m
          · have : q.1 ∉ own := fun y => (List.nodup_append.mp dr.nd).2.2 _ m _ y rfl
            rw [k2 _ this]
            omega
          · obtain ⟨i, hi, ei⟩ := List.mem_take_iff_getElem.mp m
            have := k1 i q.1 (List.getElem?_eq_some_iff.mpr ⟨by omega, ei⟩)
            omega
        · omega
  case tail3 =>
    rintro D' σ' H1 ⟨eD, nl, il, ol, el, rl, ins, own, v6, v7, v8, rv, rules, rfl, ⟨hil, hel, dr, F1, B1, nil0, nel0⟩, hrl, alr, pmr, ru⟩
    have elf := F1.neS hel
    have ilf := F1.neS hil
    have rlf : rl ≠ f := fun z => by
      obtain ⟨_, _, _, _, _, e1, _⟩ := F1
      rw [z, e1] at hrl
      obtain rfl := HO.lst.inj (Option.some.inj hrl)
      cases alr with
      | cons a b => cases b with
        | cons a2 b =>
          obtain ⟨_, _, e, _⟩ := a2
          cases e
    have lins := dr.li
    have lown := dr.lo
    refine ⟨(by show 0 ≤ sizeLine; decide), fun wl nwl => ?_⟩
    have wf : wl ≠ f := F1.ne nwl
    have wc : wl ≠ c := F1.nec nwl
    have nw0 : H wl = none := But.none B1 nwl wf
    have F2 := F1.new (o := .lst []) nwl
    have B2 := B1.new (o := .lst []) nwl
    have hwl2 : (upd H1 wl (.lst [])) wl = some (.lst []) := upd_same
    have hil2 := same_new (o := .lst []) nwl _ _ hil
    have hel2 := same_new (o := .lst []) nwl _ _ hel
    have hrl2 := same_new (o := .lst []) nwl _ _ hrl
    have nil2 : il ≠ wl := ne_of_none hil nwl
    have nel2 : el ≠ wl := ne_of_none hel nwl
    have nrl2 : rl ≠ wl := ne_of_none hrl nwl
    replace alr := alr.imp fun _ _ z => z.keep (TK.new (o := .lst []) nwl)
    generalize upd H1 wl (.lst []) = H2 at F2 B2 hwl2 hil2 hel2 hrl2 alr ⊢
    refine ⟨_, rfl, el, rfl, ⟨_, SqL.of hel2⟩, for_list (K := K) (a := el) (xs := (ins ++ own).map V.str) (fun i σ H5 => ∃ (v7 v8 : Option V) (wv : List V) (was : List (Str × List Int)), σ = sg nl il ol el v6 v7 v8 (some (.ref rl)) (some (.ref wl)) none ∧ Base il el ins own H5 ∧ H5 rl = some (.lst rv) ∧ All2 (RlAt H5) rv rules ∧ H5 wl = some (.lst wv) ∧ All2 (WaAt H5) wv was ∧ (was.map (·.1)).Sublist ((ins ++ own).take i) ∧ (∀ p ∈ was, p.2.length ≤ 7 ∧ ∀ x ∈ p.2, Small x)) ⟨v7, v8, [], [], rfl, ⟨hil2, hel2, dr, F2, B2, nil0, nel0⟩, hrl2, alr, hwl2, .nil, List.nil_sublist _, fun _ z => by cases z⟩ (fun i σ H5 _ ⟨_, _, _, _, _, b, _⟩ => SqL.of b.2.1) ?_ ?_⟩
    · rintro i v σ H5 hx ⟨v7, v8, wv, was, rfl, ⟨hil5, hel5, _, F5, B5, _, _⟩, hrl5, alr5, hwl5, alw5, sub, wth⟩
      rw [List.getElem?_map] at hx
      cases ez : (ins ++ own)[i]? with
      | none => rw [ez] at hx; cases hx
      | some z =>
      rw [ez] at hx
      obtain rfl : V.str z = v := Option.some.inj hx
      have tk : (ins ++ own).take (i + 1) = (ins ++ own).take i ++ [z] := by rw [List.take_add_one, ez]; rfl
      refine ⟨_, rfl, f, c, 2, rfl, by decide, by decide, F5, fun v H6 v0 v1 F6 B6 => ⟨rfl, _, rfl, if_bl (fun _ => ?_) (fun _ => ?_)⟩⟩
      · have hwl6 := B6 _ _ hwl5 wf
        refine ⟨_, rfl, .inl ⟨rfl, _, SqL.of hwl6⟩, _, rfl, _, rfl, f, c, 8, rfl, by decide, by decide, F6, fun u H7 u0 u1 F7 B7 => ⟨_, rfl, by omega, by omega, fun D nD => ?_⟩⟩
        have Df : D ≠ f := F7.ne nD
        have Dc : D ≠ c := F7.nec nD
        have hwl7 := B7 _ _ hwl6 wf
        have Dw : D ≠ wl := fun y => by rw [y, hwl7] at nD; cases nD
        refine lc_range (lo := 0) (n := u.toNat) (fun k H9 => ∃ ts : List Int, H9 D = some (.lst (ts.map V.int)) ∧ ts.length = k ∧ (∀ x ∈ ts, Small x) ∧ Flow H9 f c ∧ But f H7 H9) ⟨[], upd_same, rfl, (fun _ y => by cases y), F7.new nD, But.refl.new nD⟩ ?_ ?_
        · rintro k H9 hk ⟨ts, hD, lt, sm, F9, B9⟩
          refine ⟨rfl, yes_in ⟨_, rfl, f, c, rfl, F9, fun x H10 sx F10 B10 => ⟨ts.map V.int, B10 _ _ hD Df, by rw [List.length_map]; exact small1000 (by omega), ts ++ [x], by rw [upd_same, List.map_append]; rfl, by rw [List.length_append, lt]; rfl, fun y hy => ?_, F10.lst Df Dc, (B9.trans B10).own nD⟩⟩⟩
          rcases List.mem_append.mp hy with h | h
          · exact sm y h
          · rw [List.mem_singleton.mp h]; exact sx
        · rintro H9 ⟨ts, hD, lt, sm, F9, B9⟩
          refine ⟨D, _, rfl, .inl ⟨SqL.of hD, fun pt npt => ⟨(by show 2 ≤ sizeLine; decide), fun pu npu => ?_⟩⟩⟩
          have s10 : Same H9 (upd (upd H9 pt (.tup (ts.map V.int))) pu (.tup [V.str z, V.ref pt])) := (same_new npt).trans (same_new npu)
          have h1 : (upd (upd H9 pt (.tup (ts.map V.int))) pu (.tup [V.str z, V.ref pt])) pt = some (.tup (ts.map V.int)) := same_new npu _ _ upd_same
          have h2 : (upd (upd H9 pt (.tup (ts.map V.int))) pu (.tup [V.str z, V.ref pt])) pu = some (.tup [V.str z, V.ref pt]) := upd_same
          generalize upd (upd H9 pt (.tup (ts.map V.int))) pu (.tup [V.str z, V.ref pt]) = H10 at s10 h1 h2 ⊢
          have B510 : But f H5 H10 := ((B6.trans B7).trans B9).same s10
          have hwl10 := B510 _ _ hwl5 wf
          have k10 : TK H5 (upd H10 wl (.lst (wv ++ [.ref pu]))) := (TK.but F5 B510).trans (TK.lst hwl10)
          have lw := alw5.length
          have lw2 := sub.length_le
          rw [List.length_map, List.length_take, List.length_append] at lw2
          refine ⟨wl, _, _, rfl, rfl, hwl10, small1000 (by omega), _, _, wv ++ [.ref pu], was ++ [(z, ts)], rfl, ⟨by rw [upd_ne nil2]; exact B510 _ _ hil5 ilf, by rw [upd_ne nel2]; exact B510 _ _ hel5 elf, dr, (F9.same s10).lst wf wc, (B5.trans B510).own nw0, nil0, nel0⟩, by rw [upd_ne nrl2]; exact B510 _ _ hrl5 rlf, alr5.imp fun _ _ y => y.keep k10, upd_same, ?_, ?_, ?_⟩
          · refine (alw5.imp fun _ _ y => y.keep k10).snoc ⟨pu, pt, rfl, TK.lst hwl10 _ _ h2, TK.lst hwl10 _ _ h1⟩
          · rw [tk, List.map_append]
            exact sub.append (List.Sublist.refl _)
          · intro p hp
            rcases List.mem_append.mp hp with y | y
            · exact wth p y
            · rw [List.mem_singleton.mp y]
              exact ⟨by show ts.length ≤ 7; omega, sm⟩
      · refine ⟨_, _, wv, was, rfl, ⟨B6 _ _ hil5 ilf, B6 _ _ hel5 elf, dr, F6, B5.trans B6, nil0, nel0⟩, B6 _ _ hrl5 rlf, alr5.imp fun _ _ y => y.keep (TK.but F5 B6), B6 _ _ hwl5 wf, alw5.imp fun _ _ y => y.keep (TK.but F5 B6), ?_, wth⟩
        rw [tk]
        exact sub.trans (List.sublist_append_left _ _)
    · rintro σ H5 ⟨v7, v8, wv, was, rfl, b5, hrl5, alr5, hwl5, alw5, sub, wth⟩
      rw [List.length_map, List.take_of_length_le (Nat.le_refl _)] at sub
      exact ⟨eD, nl, il, ol, el, rl, wl, ins, own, v6, v7, v8, rv, wv, rules, was, rfl, b5, hrl5, alr5, pmr, ru, hwl5, alw5, sub, wth⟩
  case tail2 =>
    rintro D' σ' H1 ⟨eD, nl, il, ol, el, td, ins, own, v7, v8, tf, tt, rfl, ⟨hil, hel, dr, F1, B1, nil0, nel0⟩, hol, htd, hT⟩
    have olf := F1.neS hol
    have elf := F1.neS hel
    have ilf := F1.neS hil
    have tdf : td ≠ f := fun z => by
      obtain ⟨_, _, _, _, _, e1, _⟩ := F1
      rw [z, e1] at htd
      cases htd
    have ndo : own.Nodup := (List.nodup_append.mp dr.nd).2.1
    have lo5 : own.length ≤ 5 := Nat.le_trans dr.lo m5
    refine ⟨_, rfl, _, rfl, f, c, ol, _, rfl, SqL.of hol, olf, by rw [List.length_map]; omega, F1, fun p1 ys H2 pm np1 hp1 F2 B2 => ?_⟩
    obtain ⟨zs, rfl, pz⟩ := perm_strs pm
    refine ⟨p1, rfl, ⟨_, SqL.of hp1⟩, fun D nD => ?_⟩
    have Df : D ≠ f := F2.ne nD
    have Dc : D ≠ c := F2.nec nD
    have pf : p1 ≠ f := F2.neS hp1
    have htd2 := B2 _ _ htd tdf
    refine lc_list (K := K) (a := p1) (xs := zs.map V.str) (fun i H9 => ∃ (rv : List V) (rules : List (Str × Tr)), H9 D = some (.lst rv) ∧ All2 (RlAt H9) rv rules ∧ rules.map (·.1) = zs.take i ∧ (∀ p ∈ rules, ∃ j : Nat, own[j]? = some p.1 ∧ TOk (ins ++ own.take j) (ins ++ own) p.2 ∧ p.2.parts.length ≤ 10) ∧ Same H2 H9) ⟨[], [], upd_same, .nil, rfl, (fun _ z => by cases z), same_new nD⟩ (fun i H9 _ ⟨_, _, _, _, _, _, s9⟩ => SqL.of (s9 _ _ hp1)) ?_ ?_
    · rintro i v H9 hx ⟨rv, rules, hD, al, em, ru, s9⟩
      rw [List.getElem?_map] at hx
      cases ez : zs[i]? with
      | none => rw [ez] at hx; cases hx
      | some z =>
      rw [ez] at hx
      obtain rfl : V.str z = v := Option.some.inj hx
      obtain ⟨j, ej⟩ := List.getElem?_of_mem (pz.mem_iff.mp (List.mem_of_getElem? ez))
      obtain ⟨g1, g2, g3⟩ := hT j z ej
      have gt := DGet.k (k := Sum.inr z) (s9 _ _ htd2)
      rw [stV_val, if_pos (List.mem_of_getElem? ej)] at gt
      refine ⟨rfl, yes_in ⟨_, rfl, _, rfl, _, rfl, td, _, rfl, gt, (by show 2 ≤ sizeLine; decide), fun pt npt => ?_⟩⟩
      have s10 : Same H9 (upd H9 pt (.tup [V.str z, tf z])) := same_new npt
      have nDp : D ≠ pt := fun y => by rw [← y, hD] at npt; cases npt
      have hpt : (upd H9 pt (.tup [V.str z, tf z])) pt = some (.tup [V.str z, tf z]) := upd_same
      have hD10 := s10 _ _ hD
      generalize upd H9 pt (.tup [V.str z, tf z]) = H10 at s10 hpt hD10 ⊢
      have kd : TK H10 (upd H10 D (.lst (rv ++ [.ref pt]))) := TK.lst hD10
      have lr := al.length
      have lr2 : rules.length ≤ own.length := by
        have := congrArg List.length em
        rw [List.length_map, List.length_take] at this
        have := pz.length_eq
        omega
      refine ⟨rv, hD10, small1000 (by omega), rv ++ [.ref pt], rules ++ [(z, tt z)], upd_same, ?_, ?_, ?_, Same.own (s9.trans s10) nD⟩
      · refine ((al.imp fun _ _ y => y.keep ((TK.same s10).trans kd))).snoc ⟨pt, tf z, rfl, kd _ _ hpt, ?_⟩
        exact ((((g1.keep (TK.but F1 B2)).keep (TK.same s9)).keep (TK.same s10)).keep kd)
      · rw [List.map_append, em, List.take_add_one, ez]; rfl
      · intro p hp
        rcases List.mem_append.mp hp with y | y
        · exact ru p y
        · rw [List.mem_singleton.mp y]
          exact ⟨j, ej, g2, g3⟩
    · rintro H9 ⟨rv, rules, hD, al, em, ru, s9⟩
      rw [List.length_map, List.take_of_length_le (Nat.le_refl _)] at em
      refine ⟨eD, nl, il, ol, el, D, ins, own, _, v7, v8, rv, rules, rfl, ⟨s9 _ _ (B2 _ _ hil ilf), s9 _ _ (B2 _ _ hel elf), dr, F2.same s9, (B1.trans B2).same s9, nil0, nel0⟩, hD, al, by rw [em]; exact pz, ru⟩
  case tail1 =>
    rintro D' σ' H1 ⟨eD, nl, il, ol, el, td, ins, own, rfl, ⟨hil, hel, dr, F1, B1, nil0, nel0⟩, hol, htd, ntd⟩
    have olf := F1.neS hol
    have elf := F1.neS hel
    have ilf := F1.neS hil
    have tdf : td ≠ f := fun z => by
      obtain ⟨_, _, _, _, _, e1, _⟩ := F1
      rw [z, e1] at htd
      cases htd
    have ndo : own.Nodup := (List.nodup_append.mp dr.nd).2.1
    refine ⟨_, rfl, ol, _, rfl, SqL.of hol, for_it (n := own.length) (fun i σ H5 => ∃ (v7 v8 : Option V) (tf : Str → V) (tt : Str → Tr), σ = sg nl il ol el (some (.ref td)) v7 v8 none none none ∧ Base il el ins own H5 ∧ H5 ol = some (.lst (own.map V.str)) ∧ H5 td = some (.dK (stV tf (own.take i))) ∧ ∀ (j : Nat) (z : Str), j < i → own[j]? = some z → TrAt H5 (tf z) (tt z) ∧ TOk (ins ++ own.take j) (ins ++ own) (tt z) ∧ (tt z).parts.length ≤ 10) ⟨none, none, fun _ => .non, fun _ => .no 0, rfl, ⟨hil, hel, dr, F1, B1, nil0, nel0⟩, hol, htd, fun j z hj => absurd hj (Nat.not_lt_zero _)⟩ ?_ ?_ ?_ ?_⟩
    · rintro i σ H5 hi ⟨_, _, _, _, rfl, _, h, _⟩
      exact ⟨_, _, SqL.of h, by rw [List.getElem?_map, List.getElem?_eq_getElem hi]; rfl⟩
    · rintro σ H5 ⟨_, _, _, _, rfl, _, h, _⟩
      exact ⟨_, SqL.of h, by rw [List.length_map]; exact Nat.le_refl _⟩
    · rintro i x σ H5 H6 hi ⟨v7, v8, tf, tt, rfl, ⟨hil5, hel5, _, F5, B5, _, _⟩, hol5, htd5, hT⟩ ⟨t, y, rfl, nt, rfl, fy⟩
      have eri : own[i]? = some own[i] := List.getElem?_eq_getElem hi
      obtain ⟨nm, hnm⟩ : ∃ r, r = own[i] := ⟨_, rfl⟩
      rw [← hnm] at eri
      obtain rfl : y = V.str nm := by
        have := fy _ (SqL.of hol5)
        rw [List.getElem?_map, eri] at this
        exact (Option.some.inj this).symm
      have s6 : Same H5 (upd H5 t (.tup [V.int ((i : Nat) : Int), V.str nm])) := same_new nt
      have ht6 : (upd H5 t (.tup [V.int ((i : Nat) : Int), V.str nm])) t = some (.tup [V.int ((i : Nat) : Int), V.str nm]) := upd_same
      have F6 := F5.same s6
      have B6 := B5.same s6
      have hil6 := s6 _ _ hil5
      have hel6 := s6 _ _ hel5
      have hol6 := s6 _ _ hol5
      have htd6 := s6 _ _ htd5
      replace hT : ∀ (j : Nat) (z : Str), j < i → own[j]? = some z → TrAt (upd H5 t (.tup [V.int ((i : Nat) : Int), V.str nm])) (tf z) (tt z) ∧ TOk (ins ++ own.take j) (ins ++ own) (tt z) ∧ (tt z).parts.length ≤ 10 := fun j z hj ez => by
        obtain ⟨g1, g2⟩ := hT j z hj ez
        exact ⟨g1.keep (TK.same s6), g2⟩
      generalize upd H5 t (.tup [V.int ((i : Nat) : Int), V.str nm]) = H6 at ht6 F6 B6 hil6 hel6 hol6 htd6 hT ⊢
      refine ⟨t, _, rfl, SqT.of ht6, rfl, _, _, rfl, _, _, rfl, rfl, ?_⟩
      refine ⟨_, rfl, _, rfl, f, c, 10, rfl, by decide, by decide, F6, fun v H7 v0 v1 F7 B7 => ⟨_, _, rfl, rfl, _, rfl, _, rfl, ?_⟩⟩
      dsimp only [tNoPart]
      refine ⟨_, rfl, _, rfl, ol, _, rfl, SqL.of (B7 _ _ hol6 olf), fun sl nsl => ?_⟩
      have hil7 := B7 _ _ hil6 ilf
      have hel7 := B7 _ _ hel6 elf
      have hol7 := B7 _ _ hol6 olf
      have htd7 := B7 _ _ htd6 tdf
      generalize e8 : upd H7 sl _ = H8
      have s8 : Same H7 H8 := by rw [← e8]; exact same_new nsl
      have hsl : H8 sl = some (.lst ((own.take i).map V.str)) := by rw [← e8, upd_same, cut_take, List.map_take]
      clear e8
      have lo5 : own.length ≤ 5 := Nat.le_trans dr.lo m5
      refine ⟨il, sl, _, _, rfl, rfl, s8 _ _ hil7, hsl, by rw [List.length_map, List.length_map, List.length_take]; have := dr.li; exact little (by omega), fun nw nnw => ?_⟩
      generalize e9 : upd H8 nw _ = H9
      have s9 : Same H8 H9 := by rw [← e9]; exact same_new nnw
      have hnw : H9 nw = some (.lst ((ins ++ own.take i).map V.str)) := by rw [← e9, upd_same, List.map_append]
      clear e9
      have s79 := s8.trans s9
      obtain ⟨r, er, r1, r10⟩ : ∃ r : Nat, 1 + v = ((r : Nat) : Int) ∧ 1 ≤ r ∧ r ≤ 10 := ⟨(1 + v).toNat, by omega, by omega, by omega⟩
      have ea : [V.ref f, V.int (1 + v), V.ref nw, V.ref el] = [V.ref f, nV r, V.ref nw, V.ref el] := by rw [er]
      have subs : ∀ z ∈ ins ++ own.take i, z ∈ ins ++ own := fun z hz => (List.mem_append.mp hz).elim (fun y => List.mem_append.mpr (.inl y)) fun y => List.mem_append.mpr (.inr (List.mem_of_mem_take y))
      have lins := dr.li
      refine ⟨_, rfl, f, c, nw, el, ins ++ own.take i, ins ++ own, r, ea, r1, by omega, by omega, hnw, s79 _ _ hel7, by rw [List.length_append, List.length_take]; omega, by rw [List.length_append]; omega, fun z hz => (dr.wd z (subs z hz)).1, fun z hz => (dr.wd z hz).1, F7.same s79, fun tv tr H10 htr tok lp F10 B10 => ?_⟩
      have htd10 := B10 _ _ (s79 _ _ htd7) tdf
      have nin : nm ∉ own.take i := fun z => by
        obtain ⟨j, hj, ej⟩ := List.mem_take_iff_getElem.mp z
        have := nodup_get ndo eri (List.getElem?_eq_some_iff.mpr ⟨by omega, ej⟩)
        omega
      have tk : own.take (i + 1) = own.take i ++ [nm] := by rw [List.take_add_one, eri]; rfl
      refine ⟨_, rfl, _, rfl, td, _, rfl, DPut.k (k := Sum.inr nm) htd10 ?_, ?_⟩
      · unfold stV
        rw [List.length_map, List.length_take]
        exact small1000 (by omega)
      rw [stV_put tf nin]
      have kd : TK H10 (upd H10 td (.dK (stV (fun y => if y = nm then tv else tf y) (own.take i ++ [nm])))) := fun b xs e => by rw [upd_ne (ne_of e htd10 (fun z => nomatch z))]; exact e
      have ned : ∀ {b : Addr} {xs : List V}, H10 b = some (.lst xs) → (upd H10 td (.dK (stV (fun y => if y = nm then tv else tf y) (own.take i ++ [nm])))) b = some (.lst xs) := fun {b xs} e => by rw [upd_ne (ne_of e htd10 (fun z => nomatch z))]; exact e
      have F11 : Flow (upd H10 td (.dK (stV (fun y => if y = nm then tv else tf y) (own.take i ++ [nm])))) f c := by
        obtain ⟨ns, i, p, q, r, e1, e2, e3⟩ := F10
        exact ⟨ns, i, p, q, r, ned e1, ned e2, e3⟩
      have B11 : But f H (upd H10 td (.dK (stV (fun y => if y = nm then tv else tf y) (own.take i ++ [nm])))) := (((B6.trans B7).same s79).trans B10).own ntd
      refine ⟨_, _, _, fun y => if y = nm then tr else tt y, rfl, ⟨ned (B10 _ _ (s79 _ _ hil7) ilf), ned (B10 _ _ (s79 _ _ hel7) elf), dr, F11, B11, nil0, nel0⟩, ned (B10 _ _ (s79 _ _ hol7) olf), by rw [tk]; exact upd_same, fun j z hj ez => ?_⟩
      by_cases hji : j = i
      · subst hji
        rw [eri] at ez
        obtain rfl := Option.some.inj ez
        show TrAt _ (if nm = nm then tv else tf nm) (if nm = nm then tr else tt nm) ∧ TOk _ _ (if nm = nm then tr else tt nm) ∧ (if nm = nm then tr else tt nm).parts.length ≤ 10
        rw [if_pos rfl, if_pos rfl]
        exact ⟨htr.keep kd, tok, by omega⟩
      · have zn : z ≠ nm := fun e => hji (nodup_get ndo (by rw [← e]; exact ez) eri)
        show TrAt _ (if z = nm then tv else tf z) (if z = nm then tr else tt z) ∧ TOk _ _ (if z = nm then tr else tt z) ∧ (if z = nm then tr else tt z).parts.length ≤ 10
        rw [if_neg zn, if_neg zn]
        obtain ⟨g1, g2⟩ := hT j z (by omega) ez
        exact ⟨(((g1.keep (TK.but F6 B7)).keep (TK.same s79)).keep (TK.but (F7.same s79) B10)).keep kd, g2⟩
    · rintro σ H5 ⟨v7, v8, tf, tt, rfl, b5, hol5, htd5, hT⟩
      rw [List.take_of_length_le (Nat.le_refl _)] at htd5
      exact ⟨eD, nl, il, ol, el, td, ins, own, v7, v8, tf, tt, rfl, b5, hol5, htd5, fun j z e => hT j z (List.getElem?_eq_some_iff.mp e).1 e⟩
  refine ⟨_, rfl, f, c, 9, rfl, by decide, by decide, hF, fun nl ns H1 n1 h1 l9 nd wd F1 B1 => ?_⟩
  have nlf := F1.neS h1
  refine ⟨_, rfl, ?_⟩
  dsimp only [tNoPart]
  refine ⟨_, rfl, f, c, 5, rfl, by decide, by decide, F1, fun v H2 v0 v5 F2 B2 => ⟨v, rfl, nl, _, rfl, SqL.of (B2 _ _ h1 nlf), fun il nil2 => ?_⟩⟩
  obtain ⟨a, rfl⟩ : ∃ a : Nat, v = ((a : Nat) : Int) := ⟨v.toNat, by omega⟩
  generalize e3 : upd H2 il _ = H3
  have hil : H3 il = some (.lst ((ns.take a).map V.str)) := by rw [← e3, upd_same, cut_take, List.map_take]
  have F3 : Flow H3 f c := by rw [← e3]; exact F2.new nil2
  have B3 : But f H H3 := by rw [← e3]; exact (B1.trans B2).new nil2
  have hnl3 : H3 nl = some (.lst (ns.map V.str)) := by rw [← e3]; exact same_new nil2 _ _ (B2 _ _ h1 nlf)
  have ilf := F3.neS hil
  have nil0 : H il = none := But.none (B1.trans B2) nil2 ilf
  clear e3
  have em : [V.ref f, V.int (((most : Nat) : Int) + 1)] = [V.ref f, nV (most + 1)] := by
    rw [show nV (most + 1) = V.int (((most : Nat) : Int) + 1) from congrArg V.int (by omega)]
  refine ⟨_, rfl, _, rfl, _, rfl, _, rfl, _, _, rfl, rfl, f, c, ((most + 1 : Nat) : Int), em, by omega, log_small (by omega), F3, fun v2 H4 v20 v21 F4 B4 => ⟨_, _, rfl, rfl, _, rfl, nl, _, rfl, SqL.of (B4 _ _ hnl3 nlf), fun ol nol => ?_⟩⟩
  obtain ⟨b, eb⟩ : ∃ b : Nat, 4 + v2 = ((4 + b : Nat) : Int) := ⟨v2.toNat, by omega⟩
  generalize e5 : upd H4 ol _ = H5
  have hol : H5 ol = some (.lst (((ns.drop 4).take b).map V.str)) := by
    rw [← e5, upd_same, eb]
    congr 2
    unfold cutV
    rw [show (4 : Int) = ((4 : Nat) : Int) from rfl, HT.sIx_nat, HT.sIx_nat, List.length_map, l9, ← List.map_drop, ← List.map_take]
    congr 1
    rw [show min 4 9 = 4 from rfl]
    rcases Nat.le_total b 5 with h | h
    · rw [Nat.min_eq_left (by omega), show 4 + b - 4 = b by omega]
    · rw [Nat.min_eq_right (by omega), show 9 - 4 = 5 from rfl, List.take_of_length_le (by rw [List.length_drop]; omega), List.take_of_length_le (by rw [List.length_drop]; omega)]
  have F5 : Flow H5 f c := by rw [← e5]; exact F4.new nol
  have B5 : But f H H5 := by rw [← e5]; exact (B3.trans B4).new nol
  have hil5 : H5 il = some (.lst ((ns.take a).map V.str)) := by rw [← e5]; exact same_new nol _ _ (B4 _ _ hil ilf)
  have olf := F5.neS hol
  clear e5
  obtain ⟨ins, hins⟩ : ∃ l, l = ns.take a := ⟨_, rfl⟩
  obtain ⟨own, hown⟩ : ∃ l, l = (ns.drop 4).take b := ⟨_, rfl⟩
  rw [← hins] at hil5
  rw [← hown] at hol
  have li : ins.length ≤ 4 := by rw [hins, List.length_take]; omega
  have lo : own.length ≤ most := by rw [hown, List.length_take]; omega
  have dr : Dr most ins own := by
    have e : (ins ++ own).Sublist ns := by
      rw [hins, hown]
      have h1 : (ns.take a).Sublist (ns.take 4) := by
        rw [show ns.take a = (ns.take 4).take a by rw [List.take_take, Nat.min_eq_left (by omega)]]
        exact List.take_sublist ..
      have h2 : ((ns.drop 4).take b).Sublist (ns.drop 4) := List.take_sublist ..
      have h3 := h1.append h2
      rwa [List.take_append_drop] at h3
    exact ⟨li, lo, List.Nodup.sublist e nd, fun z hz => wd z (e.subset hz)⟩
  refine ⟨_, rfl, _, rfl, il, ol, _, _, rfl, rfl, hil5, hol, by rw [List.length_map, List.length_map]; exact little (by omega), fun el nel => ?_⟩
  generalize e6 : upd H5 el _ = H6
  have hel : H6 el = some (.lst ((ins ++ own).map V.str)) := by rw [← e6, upd_same, List.map_append]
  have s6 : Same H5 H6 := by rw [← e6]; exact same_new nel
  clear e6
  have F6 := F5.same s6
  have B6 := B5.same s6
  have elf := F6.neS hel
  have nel0 : H el = none := But.none B5 nel elf
  intro td ntd
  have tdf : td ≠ f := F6.ne ntd
  refine ⟨rfl, nl, il, ol, el, td, ins, own, rfl, ⟨same_new ntd _ _ (s6 _ _ hil5), same_new ntd _ _ hel, dr, F6.new ntd, B6.new ntd, nil0, nel0⟩, same_new ntd _ _ (s6 _ _ hol), upd_same, But.none B6 ntd tdf⟩
end
/-! ### what the law sees in trees -/
def Tr.dep : Tr → Nat
  | .nm _ _ => 1
  | .no _ => 1
  | .tm _ t => t.dep + 1
  | .o2 _ a b => max a.dep b.dep + 1
  | .o3 a b c => max a.dep (max b.dep c.dep) + 1
theorem Tr.dep_parts (t : Tr) : t.dep ≤ t.parts.length := by
  induction t with
  | nm n k => exact Nat.le_refl _
  | no i => exact Nat.le_refl _
  | tm k t ih => simp only [Tr.dep, Tr.parts, List.length_append]; show _ ≤ _ + 1; omega
  | o2 w a b i1 i2 => simp only [Tr.dep, Tr.parts, List.length_append]; show _ ≤ _ + 1; omega
  | o3 a b c i1 i2 i3 => simp only [Tr.dep, Tr.parts, List.length_append]; show _ ≤ _ + 1; omega
theorem Tr.dep_kid {t u : Tr} (h : u ∈ t.kids) : u.dep + 1 ≤ t.dep := by
  cases t with
  | nm n k => cases h
  | no i => cases h
  | tm k t => rw [List.mem_singleton.mp h]; exact Nat.le_refl _
  | o2 w a b =>
    simp only [Tr.kids, List.mem_cons, List.not_mem_nil, or_false] at h
    simp only [Tr.dep]
    rcases h with rfl | rfl <;> omega
  | o3 a b c =>
    simp only [Tr.kids, List.mem_cons, List.not_mem_nil, or_false] at h
    simp only [Tr.dep]
    rcases h with rfl | rfl | rfl <;> omega
theorem Tr.leans_kids {t : Tr} (h : t.isNm = false) : t.leans = t.kids.flatMap Tr.leans := by
  cases t with
  | nm n k => cases h
  | no i => rfl
  | tm k t => simp [Tr.leans, Tr.kids]
  | o2 w a b => simp [Tr.leans, Tr.kids]
  | o3 a b c => simp [Tr.leans, Tr.kids]
def Tr.isNo : Tr → Bool
  | .no _ => true
  | _ => false
theorem Tr.wd_no (t : Tr) : t.isNo = decide (t.wd = "number") := by
  cases t with
  | o2 w a b => cases w <;> rfl
  | _ => rfl
section
variable {P : Program} {w : World} {K : PySem.W.Frag} {mg : Str → Option Value} {base : Heap}
def sp_law_parts (K : PySem.W.Frag) : Sp := fun vs H Q _ => ∃ (v : V) (t : Tr), vs = [v] ∧ TrAt H v t ∧ ∀ (p : Addr) (l : List V) (H' : Hp), H p = none → H' p = some (.lst l) → All2 (TrAt H') l t.kids → Same H H' → Q (.ref p) H'
theorem ok_law_parts {f : Addr} {fd : FuncData} (F : Fun K "_law_parts" "_law_parts" s_law_parts f fd) {C : Addr} (T : Top w K mg C) : FnOk P w K mg base CX0 1 f fd ["_law_tree_here"] (sp_law_parts K) := by
  refine F.ok sc_law_parts (fun vs H Q E h => ?_) (fun cdv A outer s H vs Q E hr h => ?_)
  · obtain ⟨v, t, rfl, _⟩ := h
    rfl
  obtain ⟨v, t, rfl, ht, q⟩ := h
  obtain ⟨a, ks, rfl, ha, ak⟩ := ht.op
  obtain ⟨r, er, sort⟩ := t.hd_wd
  have ha0 := ha
  rw [er, List.cons_append] at ha
  refine ⟨_, (pss_cons (ps_if (PW.pt (pw_or (pt_cmpR op_eq (pe_ix (ix_tupK K rfl) (pv 0) pe_int (fun _ _ => rfl)) pe_str (nomark _)) (pw_or1 (pt_cmpR op_eq (pe_ix (ix_tupK K rfl) (pv 0) pe_int (fun _ _ => rfl)) pe_str (nomark _))))) (pss_one (ps_ret (pe_lst pa_nil))) pss_nil)
      (pss_one (ps_ret (pe_lc (own := [("_law_part", 1)]) (g := gName 1) (by rfl) sc_law_parts.nd (pi_tupK K rfl (pe_slice (sl_tupAK K rfl) (pv 0) (po_some pe_int) po_none)) (blkOk_by (own := [("_law_part", 1)]) (N := N_law_parts) (sc := defScope s_law_parts) (by decide +kernel)) (fun _ _ _ _ _ => (pg_name (i := 1) sc_law_parts.nd rfl (Or.inl rfl))) (fun _ _ _ _ _ => pts_one (pt_val (pe_callB (call_isiKK K rfl) (by rfl) T.m_isinstance (by decide +kernel) (pa_cons (pv 1) (pa_cons (pe_bltn (v := .ty "tuple") (by rfl) T.m_tuple (by decide +kernel) rfl) pa_nil))))) (fun _ _ _ _ _ => (pv 1)))))), ?_⟩
  have leaf : t.kids = [] → ∀ D : Ends, D.rt = Q → tRet (tLst tNil) D [some (.ref a), none] H := fun e D eD => by
    refine ⟨(by show 0 ≤ sizeLine; decide), fun p np => ?_⟩
    rw [eD]
    exact q p [] _ np upd_same (by rw [e]; exact .nil) (same_new np)
  refine ⟨_, rfl, a, _, _, _, rfl, rfl, SqT.of ha, atI_nat (j := 0) rfl, rfl, _, rfl, ?_⟩
  by_cases w1 : t.wd = "name"
  · rw [decide_eq_true (show V.str t.wd = V.str "name" by rw [w1])]
    refine if_bl (fun _ => if_bl (fun _ => leaf ?_ _ rfl) (fun z => nomatch z)) (fun z => nomatch z)
    have : t.isNm = true := by rw [t.wd_nm, decide_eq_true w1]
    cases t <;> first | rfl | cases this
  rw [decide_eq_false (show ¬ V.str t.wd = V.str "name" from fun z => w1 (V.str.inj z))]
  refine if_bl (fun z => nomatch z) (fun _ => ?_)
  refine ⟨_, rfl, a, _, _, _, rfl, rfl, SqT.of ha, atI_nat (j := 0) rfl, rfl, _, rfl, ?_⟩
  by_cases w2 : t.wd = "number"
  · rw [decide_eq_true (show V.str t.wd = V.str "number" by rw [w2])]
    refine if_bl (fun _ => leaf ?_ _ rfl) (fun z => nomatch z)
    have : t.isNo = true := by rw [t.wd_no, decide_eq_true w2]
    cases t <;> first | rfl | cases this
  rw [decide_eq_false (show ¬ V.str t.wd = V.str "number" from fun z => w2 (V.str.inj z))]
  refine if_bl (fun z => nomatch z) (fun _ => ?_)
  refine ⟨_, rfl, ?_⟩
  dsimp only [tNoPart]
  refine ⟨_, rfl, slA_of ha0 fun p8 H8 h8 s8 => ?_⟩
  rw [show (1 : Int) = ((1 : Nat) : Int) from rfl, cut_drop, er, List.cons_append, List.drop_succ_cons, List.drop_zero] at h8
  refine ⟨p8, rfl, ⟨_, SqT.of h8⟩, fun D nD => ?_⟩
  refine lc_tup (K := K) (a := p8) (xs := r ++ ks) (fun i H9 => H9 D = some (.lst (((r ++ ks).take i).filter refB)) ∧ Same H8 H9) ⟨upd_same, same_new nD⟩ (fun i H9 _ ⟨_, s9⟩ => SqT.of (s9 _ _ h8)) ?_ ?_
  · rintro i z H9 hz ⟨hD, s9⟩
    refine ⟨rfl, ?_⟩
    have zm : (∃ y, z = V.str y) ∨ (∃ y, z = V.int y) ∨ ∃ b u, z = V.ref b ∧ TrAt H9 (.ref b) u := by
      rcases List.mem_append.mp (List.mem_of_getElem? hz) with m | m
      · rcases sort z m with y | y
        · exact .inl y
        · exact .inr (.inl y)
      · obtain ⟨j, hj⟩ := List.getElem?_of_mem m
        obtain ⟨u, _, hu⟩ := ak.getL hj
        obtain ⟨b, _, rfl, _⟩ := hu.op
        exact .inr (.inr ⟨b, u, rfl, hu.keep (TK.same (s8.trans s9))⟩)
    have tk : (r ++ ks).take (i + 1) = (r ++ ks).take i ++ [z] := by rw [List.take_add_one, hz]; rfl
    rcases zm with ⟨y, rfl⟩ | ⟨y, rfl⟩ | ⟨b, u, rfl, hu⟩
    · refine ⟨_, rfl, _, _, _, _, _, rfl, .ty "tuple", .base (.str _), kit_tupS, _, rfl, ?_⟩
      refine ⟨?_, s9⟩
      rw [hD, tk, List.filter_append]
      rw [show [V.str y].filter refB = [] from rfl, List.append_nil]
    · refine ⟨_, rfl, _, _, _, _, _, rfl, .ty "tuple", .base (.int _), kit_tupI, _, rfl, ?_⟩
      refine ⟨?_, s9⟩
      rw [hD, tk, List.filter_append]
      rw [show [V.int y].filter refB = [] from rfl, List.append_nil]
    · obtain ⟨_, k2, e2, hb, _⟩ := hu.op
      cases e2
      refine ⟨_, rfl, _, _, _, _, _, rfl, .ty "tuple", .base (.tup hb), kit_tupT, _, rfl, ?_⟩
      refine ⟨_, rfl, _, hD, ?_, ?_⟩
      · have : ((((r ++ ks).take i).filter refB)).length ≤ (r ++ ks).length := Nat.le_trans (List.length_filter_le ..) (by rw [List.length_take]; omega)
        rw [List.length_append] at this
        have l1 : r.length ≤ 3 := by
          have := congrArg List.length er
          have h3 : t.hd.length ≤ 3 := by cases t <;> simp [Tr.hd]
          rw [this, List.length_cons] at h3
          omega
        have l2 := ak.length
        have l3 := t.kids_len
        exact Nat.lt_of_le_of_lt this (small1000 (by omega))
      · refine ⟨?_, Same.own s9 nD⟩
        rw [upd_same, tk, List.filter_append]
        rfl
  rintro H9 ⟨hD, s9⟩
  rw [List.take_length, List.filter_append, refB_hd sort, List.nil_append, refB_kids ak] at hD
  exact q D ks H9 (same_none s8 nD) hD (ak.imp fun _ _ z => z.keep (TK.same (s8.trans s9))) (s8.trans s9)
end
/-! ### formulas as data, and what is told -/
def trD : Tr → PyData
  | .nm n k => .tuple [.str "name", .str n, .int ((k : Nat) : Int)]
  | .no i => .tuple [.str "number", .int i]
  | .tm k t => .tuple [.str "times", .int k, trD t]
  | .o2 w a b => .tuple [.str w.s, trD a, trD b]
  | .o3 a b c => .tuple [.str "pick", trD a, trD b, trD c]
abbrev waD (p : Str × List Int) : PyData := .tuple [.str p.1, .tuple (p.2.map PyData.int)]
abbrev rlD (p : Str × Tr) : PyData := .tuple [.str p.1, trD p.2]
abbrev fmD (F : Fm) : PyData := .tuple [.tuple (F.ins.map PyData.str), .tuple (F.was.map waD), .tuple (F.rules.map rlD), .tuple (F.outs.map PyData.str)]
theorem TrAt.dp {K : PySem.W.Frag} {H : Hp} : ∀ {t : Tr} {v : V}, TrAt H v t → Dp K H v (trD t) := by
  intro t
  induction t with
  | nm n i => intro v h; obtain ⟨a, rfl, e⟩ := h; exact .tup (SqT.of e) (.cons (.str _) (.cons (.str _) (.cons (.int _) .nil)))
  | no i => intro v h; obtain ⟨a, rfl, e⟩ := h; exact .tup (SqT.of e) (.cons (.str _) (.cons (.int _) .nil))
  | tm i t ih => intro v h; obtain ⟨a, x, rfl, e, h⟩ := h; exact .tup (SqT.of e) (.cons (.str _) (.cons (.int _) (.cons (ih h) .nil)))
  | o2 w s t i1 i2 => intro v h; obtain ⟨a, x, y, rfl, e, h, g⟩ := h; exact .tup (SqT.of e) (.cons (.str _) (.cons (i1 h) (.cons (i2 g) .nil)))
  | o3 s t u i1 i2 i3 => intro v h; obtain ⟨a, x, y, z, rfl, e, h, g, i⟩ := h; exact .tup (SqT.of e) (.cons (.str _) (.cons (i1 h) (.cons (i2 g) (.cons (i3 i) .nil))))
theorem was_dp {K : PySem.W.Frag} {H : Hp} {vs : List V} {l : List (Str × List Int)} (a : All2 (WaAt H) vs l) : DpAll K H vs (l.map waD) := by
  induction a with
  | nil => exact .nil
  | cons h t ih =>
    obtain ⟨p, b, rfl, e1, e2⟩ := h
    exact .cons (.tup (SqT.of e1) (.cons (.str _) (.cons (.tup (SqT.of e2) (dp_ints _)) .nil))) ih
theorem rls_dp {K : PySem.W.Frag} {H : Hp} {vs : List V} {l : List (Str × Tr)} (a : All2 (RlAt H) vs l) : DpAll K H vs (l.map rlD) := by
  induction a with
  | nil => exact .nil
  | cons h t ih =>
    obtain ⟨p, b, rfl, e1, e2⟩ := h
    exact .cons (.tup (SqT.of e1) (.cons (.str _) (.cons e2.dp .nil))) ih
theorem FmAt.dp {K : PySem.W.Frag} {H : Hp} {r : Addr} {F : Fm} (h : FmAt H r F) : Dp K H (.ref r) (fmD F) := by
  obtain ⟨a1, a2, a3, a4, wv, rv, e0, e1, e2, e3, e4, e5, e6⟩ := h
  exact .tup (SqT.of e0) (.cons (.tup (SqT.of e1) (dp_strs _)) (.cons (.tup (SqT.of e2) (was_dp e3)) (.cons (.tup (SqT.of e4) (rls_dp e5)) (.cons (.tup (SqT.of e6) (dp_strs _)) .nil))))
/-- a name that can be shown -/
structure Nm (z : Str) : Prop where
  lay : PyData.canLay0 (.str z) = true
  few : z.cps.size ≤ 9
theorem Wd.nm {m : Nat} {z : Str} (h : Wd m z) (l : m ≤ 9) : Nm z := ⟨h.lay, Nat.le_trans h.size l⟩
theorem W2.nm (w : W2) : Nm w.s := by cases w <;> exact ⟨by decide +kernel, by decide +kernel⟩
theorem tr_neat : ∀ {t : Tr}, t.small → (∀ q ∈ t.leans, Nm q.1 ∧ q.2 ≤ 1000) → Neat (trD t) t.dep (100 * t.parts.length) := by
  intro t
  induction t with
  | nm n k =>
    intro _ h
    obtain ⟨g1, g2⟩ := h (n, k) (List.mem_singleton.mpr rfl)
    exact (Neat.tup (.cons (Neat.str (x := "name") (n := 4) (dp := 0) (by decide +kernel) (by decide +kernel)) (.cons (Neat.str g1.lay g1.few) (.cons (Neat.int (i := ((k : Nat) : Int)) (by have : k ≤ 1000 := g2; omega)) .nil)))).mono (Nat.le_refl _) (by show _ ≤ 100 * 1; decide)
  | no i =>
    intro h _
    have h : Small i := h
    exact (Neat.tup (.cons (Neat.str (x := "number") (n := 6) (dp := 0) (by decide +kernel) (by decide +kernel)) (.cons (Neat.int (i := i) (by unfold Small at h; omega)) .nil))).mono (Nat.le_refl _) (by show _ ≤ 100 * 1; decide)
  | tm k t ih =>
    intro h g
    have i1 := ih h.2 g
    have h1 : (-9 : Int) ≤ k ∧ k ≤ 9 := h.1
    refine (Neat.tup (.cons (Neat.str (x := "times") (n := 5) (dp := t.dep) (by decide +kernel) (by decide +kernel)) (.cons (Neat.int (i := k) (by omega)) (.cons i1 .nil)))).mono (Nat.le_refl _) ?_
    rw [Tr.parts, List.length_append]
    show _ ≤ 100 * (_ + 1)
    omega
  | o2 w a b iha ihb =>
    intro h g
    have i1 := (iha h.1 fun q hq => g q (List.mem_append.mpr (.inl hq))).mono (Nat.le_max_left a.dep b.dep) (Nat.le_refl _)
    have i2 := (ihb h.2 fun q hq => g q (List.mem_append.mpr (.inr hq))).mono (Nat.le_max_right a.dep b.dep) (Nat.le_refl _)
    refine (Neat.tup (.cons (Neat.str (x := w.s) (n := 9) (dp := max a.dep b.dep) w.nm.lay w.nm.few) (.cons i1 (.cons i2 .nil)))).mono (Nat.le_refl _) ?_
    rw [Tr.parts, List.length_append, List.length_append]
    show _ ≤ 100 * (_ + 1)
    omega
  | o3 a b c iha ihb ihc =>
    intro h g
    have i1 := (iha h.1 fun q hq => g q (List.mem_append.mpr (.inl (List.mem_append.mpr (.inl hq))))).mono (Nat.le_max_left a.dep (max b.dep c.dep)) (Nat.le_refl _)
    have i2 := (ihb h.2.1 fun q hq => g q (List.mem_append.mpr (.inl (List.mem_append.mpr (.inr hq))))).mono (Nat.le_trans (Nat.le_max_left b.dep c.dep) (Nat.le_max_right a.dep (max b.dep c.dep))) (Nat.le_refl _)
    have i3 := (ihc h.2.2 fun q hq => g q (List.mem_append.mpr (.inr hq))).mono (Nat.le_trans (Nat.le_max_right b.dep c.dep) (Nat.le_max_right a.dep (max b.dep c.dep))) (Nat.le_refl _)
    refine (Neat.tup (.cons (Neat.str (x := "pick") (n := 9) (dp := max a.dep (max b.dep c.dep)) (by decide +kernel) (by decide +kernel)) (.cons i1 (.cons i2 (.cons i3 .nil))))).mono (Nat.le_refl _) ?_
    rw [Tr.parts, List.length_append, List.length_append, List.length_append]
    show _ ≤ 100 * (_ + 1)
    omega
/-- formulas that can be shown -/
structure SmF (F : Fm) : Prop where
  i : ∀ z ∈ F.ins, Nm z
  o : ∀ z ∈ F.outs, Nm z
  w : ∀ p ∈ F.was, Nm p.1 ∧ p.2.length ≤ 8 ∧ ∀ x ∈ p.2, Small x
  r : ∀ p ∈ F.rules, Nm p.1 ∧ p.2.small ∧ (∀ q ∈ p.2.leans, Nm q.1 ∧ q.2 ≤ 1000) ∧ p.2.parts.length ≤ 10
def SayD (d : PyData) : Prop := d.showable = true ∧ d.hasDict = false ∧ d.depth ≤ 60 ∧ d.shown.length ≤ sizeLine
theorem Neat.sayD {d : PyData} {dp n : Nat} (h : Neat d dp n) (k : dp ≤ 60) (m : n ≤ 1000000) : SayD d := ⟨h.say, h.nod, Nat.le_trans h.dep k, h.fits k m⟩
theorem fm_neat {F : Fm} (ok : FmOk F) (sm : SmF F) : Neat (fmD F) 15 250000 := by
  have s1 : ∀ l : List Str, (∀ z ∈ l, Nm z) → l.length ≤ 100 → Neat (.tuple (l.map PyData.str)) 14 1000 := fun l h ll =>
    (Neat.tup (NeatAll.map (f := PyData.str) (dp := 13) (n := 9) fun z hz => Neat.str (h z hz).lay (h z hz).few)).mono (Nat.le_refl _) (by omega)
  have s2 : Neat (.tuple (F.was.map waD)) 14 40000 := by
    refine (Neat.tup (NeatAll.map (f := waD) (dp := 13) (n := 399) fun p hp => ?_)).mono (Nat.le_refl _) (by have := ok.lw; omega)
    obtain ⟨g1, g2, g3⟩ := sm.w p hp
    have t1 := Neat.tup (NeatAll.map (f := PyData.int) (dp := 11) (n := 41) (l := p.2) fun x hx => Neat.int (by have := g3 x hx; unfold Small at this; omega))
    exact (Neat.tup (.cons (Neat.str (dp := 12) g1.lay g1.few) (.cons t1 .nil))).mono (Nat.le_refl _) (by omega)
  have s3 : Neat (.tuple (F.rules.map rlD)) 14 150000 := by
    refine (Neat.tup (NeatAll.map (f := rlD) (dp := 13) (n := 1100) fun p hp => ?_)).mono (Nat.le_refl _) (by have := ok.lr; omega)
    obtain ⟨g1, g2, g3, g4⟩ := sm.r p hp
    have t1 := (tr_neat g2 g3).mono (c := 12) (e := 1000) (by have := p.2.dep_parts; omega) (by omega)
    exact (Neat.tup (.cons (Neat.str (dp := 12) g1.lay g1.few) (.cons t1 .nil))).mono (Nat.le_refl _) (by omega)
  exact (Neat.tup (.cons (s1 _ sm.i ok.li) (.cons s2 (.cons s3 (.cons (s1 _ sm.o ok.lo) .nil))))).mono (Nat.le_refl _) (by decide)
theorem fm_say {F : Fm} (ok : FmOk F) (sm : SmF F) : SayD (fmD F) := (fm_neat ok sm).sayD (by decide) (by decide)
/-! ### the rule of a part -/
def Tr.rl : Tr → List V
  | .nm _ _ => [.str "same"]
  | .no i => [.str "always", .int i]
  | .tm k _ => [.str "times", .int k]
  | .o2 w _ _ => [.str w.s]
  | .o3 _ _ _ => [.str "pick"]
section
variable {P : Program} {w : World} {K : PySem.W.Frag} {mg : Str → Option Value} {base : Heap}
def sp_part_rule (K : PySem.W.Frag) : Sp := fun vs H Q _ => ∃ (v : V) (t : Tr), vs = [v] ∧ TrAt H v t ∧ ∀ (p : Addr) (H' : Hp), H' p = some (.tup t.rl) → Same H H' → Q (.ref p) H'
theorem ok_part_rule {f : Addr} {fd : FuncData} (F : Fun K "part_rule" "part_rule" s_part_rule f fd) {C : Addr} (T : Top w K mg C) : FnOk P w K mg base CX0 1 f fd ["part"] (sp_part_rule K) := by
  refine F.ok sc_part_rule (fun vs H Q E h => ?_) (fun cdv A outer s H vs Q E hr h => ?_)
  · obtain ⟨v, t, rfl, _⟩ := h
    rfl
  obtain ⟨v, t, rfl, ht, q⟩ := h
  obtain ⟨a, ks, rfl, ha, ak⟩ := ht.op
  obtain ⟨r, er, sort⟩ := t.hd_wd
  have ha0 := ha
  rw [er, List.cons_append] at ha
  refine ⟨_, (pss_cons (ps_set (i := 1) sc_part_rule.nd rfl (Or.inl rfl) (pe_ix (ix_tupK K rfl) (pv 0) pe_int (fun _ _ => rfl)))
      (pss_cons (ps_if (pt_cmpR op_eq (pv 1) pe_str (nomark _)) (pss_one (ps_ret (pe_tup (pa_cons pe_str pa_nil)))) pss_nil)
      (pss_cons (ps_if (pt_cmpR op_eq (pv 1) pe_str (nomark _)) (pss_one (ps_ret (pe_tup (pa_cons pe_str (pa_cons (pe_ix (ix_tupK K rfl) (pv 0) pe_int (fun _ _ => rfl)) pa_nil))))) pss_nil)
      (pss_cons (ps_if (pt_cmpR op_eq (pv 1) pe_str (nomark _)) (pss_one (ps_ret (pe_tup (pa_cons pe_str (pa_cons (pe_ix (ix_tupK K rfl) (pv 0) pe_int (fun _ _ => rfl)) pa_nil))))) pss_nil)
      (pss_one (ps_ret (pe_tup (pa_cons (pv 1) pa_nil)))))))), ?_⟩
  refine ⟨_, rfl, a, _, _, _, rfl, rfl, SqT.of ha, atI_nat (j := 0) rfl, ?_⟩
  refine ⟨_, rfl, rfl, _, rfl, if_str (fun e1 => ?_) (fun e1 => ?_)⟩
  · have un : t.isNm = true := by rw [t.wd_nm, decide_eq_true e1]
    cases t with
    | nm n k => exact ⟨(by show 1 ≤ sizeLine; decide), fun p np => q p _ upd_same (same_new np)⟩
    | _ => cases un
  refine ⟨_, rfl, rfl, _, rfl, if_str (fun e2 => ?_) (fun e2 => ?_)⟩
  · have un : t.isNo = true := by rw [t.wd_no, decide_eq_true e2]
    cases t with
    | no i =>
      have ha0 : H a = some (.tup ([.str "number", .int i] ++ ks)) := ha0
      exact ⟨_, rfl, a, _, _, _, rfl, rfl, SqT.of ha0, atI_nat (j := 1) rfl, (by show 2 ≤ sizeLine; decide), fun p np => q p _ upd_same (same_new np)⟩
    | _ => cases un
  refine ⟨_, rfl, rfl, _, rfl, if_str (fun e3 => ?_) (fun e3 => ?_)⟩
  · cases t with
    | tm k u =>
      have ha0 : H a = some (.tup ([.str "times", .int k] ++ ks)) := ha0
      exact ⟨_, rfl, a, _, _, _, rfl, rfl, SqT.of ha0, atI_nat (j := 1) rfl, (by show 2 ≤ sizeLine; decide), fun p np => q p _ upd_same (same_new np)⟩
    | nm n k => exact absurd rfl e1
    | no i => exact absurd rfl e2
    | o2 w x y => exact absurd (show w.s = ("times" : Str) from e3) (by cases w <;> decide +kernel)
    | o3 x y z => exact absurd (show ("pick" : Str) = "times" from e3) (by decide +kernel)
  · cases t with
    | nm n k => exact absurd rfl e1
    | no i => exact absurd rfl e2
    | tm k u => exact absurd rfl e3
    | o2 w x y => exact ⟨_, rfl, (by show 1 ≤ sizeLine; decide), fun p np => q p _ upd_same (same_new np)⟩
    | o3 x y z => exact ⟨_, rfl, (by show 1 ≤ sizeLine; decide), fun p np => q p _ upd_same (same_new np)⟩
end
/-! ### rooms: what they are -/
/-- a hand: its rule's word, its number if it has one, its moments -/
structure HR where
  wd : Str
  no : Option Int
  mom : Int
/-- a belt -/
structure BR where
  one : Nat
  to : Nat
  th : List Int
abbrev ruleL (h : HR) : List V := .str h.wd :: (match h.no with | none => [] | some n => [.int n])
/-- a rule: in a tuple, or a constant -/
def RuAt (K : PySem.W.Frag) (H : Hp) (r : Addr) (l : List V) : Prop := H r = some (.tup l) ∨ ∀ H' : Hp, SqT K H' r l
theorem RuAt.sq {K : PySem.W.Frag} {H : Hp} {r : Addr} {l : List V} (h : RuAt K H r l) : SqT K H r l := h.elim SqT.of fun h => h H
theorem RuAt.keep {K : PySem.W.Frag} {H H' : Hp} {r : Addr} {l : List V} (h : RuAt K H r l) (k : TK H H') : RuAt K H' r l := h.imp (k _ _) id
theorem SqT.ty {K : PySem.W.Frag} {H : Hp} {r : Addr} {l : List V} (h : SqT K H r l) : TyX K H (.ref r) (.type "tuple") := by
  rcases h with (h | ⟨o, h⟩) | ⟨o, its, n, h1, h2, _⟩
  · exact .base (.tup h)
  · exact .fTuple h
  · exact .kTuple h1 h2
def HandAt (K : PySem.W.Frag) (H : Hp) (v : V) (h : HR) : Prop := ∃ t r : Addr, v = .ref t ∧ H t = some (.tup [.ref r, .int h.mom]) ∧ RuAt K H r (ruleL h)
def BeltAt (H : Hp) (v : V) (b : BR) : Prop := ∃ t g : Addr, v = .ref t ∧ H t = some (.tup [.int (b.one : Nat), .int (b.to : Nat), .ref g]) ∧ H g = some (.tup (b.th.map V.int))
theorem HandAt.keep {K : PySem.W.Frag} {H H' : Hp} {v : V} {h : HR} (a : HandAt K H v h) (k : TK H H') : HandAt K H' v h := by
  obtain ⟨t, r, e, e1, e2⟩ := a
  exact ⟨t, r, e, k _ _ e1, e2.keep k⟩
theorem BeltAt.keep {H H' : Hp} {v : V} {b : BR} (a : BeltAt H v b) (k : TK H H') : BeltAt H' v b := by
  obtain ⟨t, r, e, e1, e2⟩ := a
  exact ⟨t, r, e, k _ _ e1, k _ _ e2⟩
def nine : List Str := ["always", "same", "times", "sum", "gap", "below", "most", "least", "pick"]
def needs (wd : Str) : Int := if wd ∈ (["in", "always"] : List Str) then 0 else if wd ∈ (["out", "same", "times"] : List Str) then 1 else 2 + (if wd = "pick" then 1 else 0)
/-- a rule of one of the nine words -/
structure GoodRule (h : HR) : Prop where
  wd : h.wd ∈ nine
  no : h.no.isSome = true ↔ h.wd = "times" ∨ h.wd = "always"
  big : ∀ n, h.no = some n → -1000000 ≤ n ∧ n ≤ 1000000
def GoodHand (h : HR) : Prop := (GoodRule h ∨ ((h.wd = "in" ∨ h.wd = "out") ∧ h.no = none ∧ h.mom = 0)) ∧ 0 ≤ h.mom ∧ h.mom ≤ 30
/-! ### rules as data -/
abbrev ruleD (h : HR) : List PyData := .str h.wd :: (match h.no with | none => [] | some n => [.int n])
theorem rule_dp {K : PySem.W.Frag} {H : Hp} {r : Addr} {h : HR} (e : SqT K H r (ruleL h)) : Dp K H (.ref r) (.tuple (ruleD h)) := by
  obtain ⟨wd, no, mom⟩ := h
  cases no with
  | none => exact .tup e (.cons (.str _) .nil)
  | some n => exact .tup e (.cons (.str _) (.cons (.int _) .nil))
theorem rule_shaped {h : HR} (k : PyData.canLay0 (.str h.wd) = true) : SeqAt.shaped (.tuple (ruleD h)) = true := by
  obtain ⟨wd, no, mom⟩ := h
  have k : PyData.canLay0 (.str wd) = true := k
  cases no <;> simp [SeqAt.shaped, PyData.canLay0, PyData.canLayAll0, PyData.depth, PyData.depthAll] <;> simpa [PyData.canLay0] using k
theorem GoodHand.lay {h : HR} (g : GoodHand h) : PyData.canLay0 (.str h.wd) = true := by
  have : h.wd ∈ nine ∨ h.wd = "in" ∨ h.wd = "out" := g.1.elim (fun k => .inl k.wd) (fun k => .inr k.1)
  rcases this with k | k | k
  · unfold nine at k
    simp only [List.mem_cons, List.not_mem_nil, or_false] at k
    rcases k with k | k | k | k | k | k | k | k | k <;> rw [k] <;> decide +kernel
  · rw [k]; decide +kernel
  · rw [k]; decide +kernel
theorem one_shaped {z : Str} (k : PyData.canLay0 (.str z) = true) : SeqAt.shaped (.tuple [.str z]) = true := rule_shaped (h := ⟨z, none, 0⟩) k
theorem rule_eqv (h : HR) (z : Str) : PyData.eqv (.tuple (ruleD h)) (.tuple [.str z]) = (decide (h.wd = z) && h.no.isNone) := by
  obtain ⟨wd, no, mom⟩ := h
  have e : (wd == z) = decide (wd = z) := by
    by_cases k : wd = z
    · rw [k, decide_eq_true rfl]; exact beq_self_eq_true z
    · rw [decide_eq_false k]; exact beq_eq_false_iff_ne.mpr k
  cases no with
  | none =>
    show (wd == z && true) = (decide (wd = z) && true)
    rw [e]
  | some n =>
    show (wd == z && false) = (decide (wd = z) && false)
    rw [Bool.and_false, Bool.and_false]
theorem GoodHand.door {h : HR} (g : GoodHand h) (z : Str) (hz : z = "in" ∨ z = "out") : (decide (h.wd = z) && h.no.isNone) = decide (h.wd = z) := by
  by_cases k : h.wd = z
  · rw [decide_eq_true k, Bool.true_and]
    rcases g.1 with g | g
    · have := g.wd
      rw [k] at this
      rcases hz with rfl | rfl <;> exact absurd this (by decide +kernel)
    · rw [g.2.1]; rfl
  · rw [decide_eq_false k]; rfl
theorem GoodHand.mom0 {h : HR} (g : GoodHand h) (z : h.wd = "in" ∨ h.wd = "out") : h.mom = 0 := by
  rcases g.1 with k | k
  · have := k.wd
    rcases z with z | z <;> rw [z] at this <;> exact absurd this (by decide +kernel)
  · exact k.2.2
def ThOk (l : List Int) : Prop := l.length ≤ 6 ∧ ∀ x ∈ l, Small x
/-- a room that is let by -/
structure RoomL (hs : List HR) (bs : List BR) : Prop where
  hands : hs.length ≤ 400
  good : ∀ h ∈ hs, GoodHand h
  ends : ∀ b ∈ bs, b.one < hs.length ∧ b.to < hs.length
  out : ∀ b ∈ bs, ∀ h, hs[b.one]? = some h → h.wd ≠ "out"
  rank : ∃ rk : Nat → Int, ∀ b ∈ bs, b.th = [] → rk b.one < rk b.to
  count : ∀ k h, hs[k]? = some h → (((bs.map BR.to).count k : Nat) : Int) = needs h.wd
  many : bs.length ≤ 400
  th : ∀ b ∈ bs, ThOk b.th
structure RoomAt (K : PySem.W.Frag) (H : Hp) (r : Addr) (hs : List HR) (bs : List BR) : Prop where
  ex : ∃ (ha ba : Addr) (hv bv : List V), H r = some (.tup [.ref ha, .ref ba]) ∧ H ha = some (.tup hv) ∧ H ba = some (.tup bv) ∧ All2 (HandAt K H) hv hs ∧ All2 (BeltAt H) bv bs
theorem RoomAt.keep {K : PySem.W.Frag} {H H' : Hp} {r : Addr} {hs : List HR} {bs : List BR} (a : RoomAt K H r hs bs) (k : TK H H') : RoomAt K H' r hs bs := by
  obtain ⟨ha, ba, hv, bv, e1, e2, e3, a1, a2⟩ := a.ex
  exact ⟨ha, ba, hv, bv, k _ _ e1, k _ _ e2, k _ _ e3, a1.imp fun _ _ z => z.keep k, a2.imp fun _ _ z => z.keep k⟩
/-! ### a room as data -/
abbrev handD (h : HR) : PyData := .tuple [.tuple (ruleD h), .int h.mom]
abbrev beltD (b : BR) : PyData := .tuple [.int ((b.one : Nat) : Int), .int ((b.to : Nat) : Int), .tuple (b.th.map PyData.int)]
abbrev roomD (hs : List HR) (bs : List BR) : PyData := .tuple [.tuple (hs.map handD), .tuple (bs.map beltD)]
theorem hands_dp {K : PySem.W.Frag} {H : Hp} {vs : List V} {hs : List HR} (a : All2 (HandAt K H) vs hs) : DpAll K H vs (hs.map handD) := by
  induction a with
  | nil => exact .nil
  | cons h t ih =>
    obtain ⟨t, r, rfl, e1, e2⟩ := h
    exact .cons (.tup (SqT.of e1) (.cons (rule_dp e2.sq) (.cons (.int _) .nil))) ih
theorem belts_dp {K : PySem.W.Frag} {H : Hp} {vs : List V} {bs : List BR} (a : All2 (BeltAt H) vs bs) : DpAll K H vs (bs.map beltD) := by
  induction a with
  | nil => exact .nil
  | cons h t ih =>
    obtain ⟨t, r, rfl, e1, e2⟩ := h
    exact .cons (.tup (SqT.of e1) (.cons (.int _) (.cons (.int _) (.cons (.tup (SqT.of e2) (dp_ints _)) .nil)))) ih
theorem RoomAt.dp {K : PySem.W.Frag} {H : Hp} {r : Addr} {hs : List HR} {bs : List BR} (a : RoomAt K H r hs bs) : Dp K H (.ref r) (roomD hs bs) := by
  obtain ⟨ha, ba, hv, bv, e1, e2, e3, a1, a2⟩ := a.ex
  exact .tup (SqT.of e1) (.cons (.tup (SqT.of e2) (hands_dp a1)) (.cons (.tup (SqT.of e3) (belts_dp a2)) .nil))
theorem GoodHand.size {h : HR} (g : GoodHand h) : h.wd.cps.size ≤ 10 := by
  have : h.wd ∈ nine ∨ h.wd = "in" ∨ h.wd = "out" := g.1.elim (fun k => .inl k.wd) (fun k => .inr k.1)
  rcases this with k | k | k
  · unfold nine at k
    simp only [List.mem_cons, List.not_mem_nil, or_false] at k
    rcases k with k | k | k | k | k | k | k | k | k <;> rw [k] <;> decide +kernel
  · rw [k]; decide +kernel
  · rw [k]; decide +kernel
theorem GoodHand.neat {h : HR} (g : GoodHand h) : Neat (handD h) 2 200 := by
  obtain ⟨wd, no, mom⟩ := h
  have r : NeatAll (ruleD ⟨wd, no, mom⟩) 0 60 := by
    cases no with
    | none => exact (NeatAll.cons (Neat.str g.lay g.size) .nil).mono (Nat.le_refl _) (by decide)
    | some n =>
      have : -1000000 ≤ n ∧ n ≤ 1000000 := by
        rcases g.1 with k | k
        · exact k.big n rfl
        · exact nomatch k.2.1
      exact (NeatAll.cons (Neat.str g.lay g.size) (.cons (Neat.int (by omega)) .nil)).mono (Nat.le_refl _) (by decide)
  have m : Neat (.int mom) 1 41 := Neat.int (by have := g.2.1; have := g.2.2; simp only at *; omega)
  exact (Neat.tup (.cons (Neat.tup r) (.cons m .nil))).mono (Nat.le_refl _) (by decide)
def comingN (bs : List BR) (k : Nat) : List Nat := (List.range bs.length).filter fun i => decide (bs[i]?.map BR.to = some k)
theorem one_eqv (h : HR) (z : Str) : PyData.eqv (.tuple [.str z]) (.tuple (ruleD h)) = (decide (h.wd = z) && h.no.isNone) := by
  obtain ⟨wd, no, mom⟩ := h
  have e : (z == wd) = decide (wd = z) := by
    by_cases k : wd = z
    · rw [k, decide_eq_true rfl]; exact beq_self_eq_true z
    · rw [decide_eq_false k]; exact beq_eq_false_iff_ne.mpr fun y => k y.symm
  cases no with
  | none => show (z == wd && true) = (decide (wd = z) && true); rw [e]
  | some n => show (z == wd && false) = (decide (wd = z) && false); rw [Bool.and_false, Bool.and_false]
section
variable {P : Program} {w : World} {K : PySem.W.Frag} {mg : Str → Option Value} {base : Heap}
theorem filt_succ {p : Nat → Bool} (i : Nat) : (List.range (i + 1)).filter p = (List.range i).filter p ++ (if p i = true then [i] else []) := by
  rw [List.range_succ, List.filter_append]
  cases h : p i <;> simp [h]
theorem filt_len {p : Nat → Bool} (i : Nat) : ((List.range i).filter p).length ≤ i := by
  refine Nat.le_trans (List.length_filter_le ..) ?_
  rw [List.length_range]
  exact Nat.le_refl _
def sp_comings (K : PySem.W.Frag) : Sp := fun vs H Q _ => ∃ (r : Addr) (hs : List HR) (bs : List BR) (k : Nat), vs = [.ref r, nV k] ∧ RoomAt K H r hs bs ∧ bs.length ≤ 400 ∧ ∀ (p : Addr) (H' : Hp), H p = none → H' p = some (.lst ((comingN bs k).map nV)) → Same H H' → Q (.ref p) H'
theorem ok_comings {f : Addr} {fd : FuncData} (F : Fun K "comings" "comings" s_comings f fd) {C : Addr} (T : Top w K mg C) : FnOk P w K mg base CX0 1 f fd ["room", "hand"] (sp_comings K) := by
  refine F.ok sc_comings (fun vs H Q E h => ?_) (fun cdv A outer s H vs Q E hr h => ?_)
  · obtain ⟨r, hs, bs, k, rfl, _⟩ := h
    rfl
  obtain ⟨r, hs, bs, k, rfl, hR, lb, q⟩ := h
  obtain ⟨ha, ba, hv, bv, er, eh, eb, alh, alb⟩ := hR.ex
  have lbv := alb.length
  refine ⟨_, (pss_one (ps_ret (pe_lc (own := [("number", 2), ("belt", 3)]) (g := gTup K 2 (gCons (gName 2) (gCons (gName 3) gNil))) (by rfl) sc_comings.nd (pi_enumT K rfl (by rfl) T.m_enumerate (pa_cons (pe_ix (ix_tupK K rfl) (pv 0) pe_int (fun _ _ => rfl)) pa_nil)) (blkOk_by (own := [("number", 2), ("belt", 3)]) (N := N_comings) (sc := defScope s_comings) (by decide +kernel)) (fun _ _ _ _ _ => (pg_tupK K rfl rfl (pgs_cons (pg_name (i := 2) sc_comings.nd rfl (Or.inl rfl)) (pgs_cons (pg_name (i := 3) sc_comings.nd rfl (Or.inl rfl)) pgs_nil)))) (fun _ _ _ _ _ => pts_one (pt_cmpR op_eq (pe_ix (ix_tupK K rfl) (pv 3) pe_int (fun _ _ => rfl)) (pv 1) (nomark _))) (fun _ _ _ _ _ => (pv 2))))), ?_⟩
  refine ⟨_, rfl, r, _, _, _, rfl, rfl, SqT.of er, atI_nat (j := 1) rfl, ba, bv, rfl, SqT.of eb, fun D nD => lc_it (J := IteT K ba bv) (n := bv.length) (fun i H5 => H5 D = some (.lst (((List.range i).filter fun j => decide (bs[j]?.map BR.to = some k)).map nV)) ∧ Same H H5) ⟨upd_same, same_new nD⟩ ?_ ?_ ?_ ?_⟩
  · rintro i H5 hi ⟨hD, s5⟩
    exact ⟨SqT.of (s5 _ _ eb), hi⟩
  · rintro H5 ⟨hD, s5⟩
    exact ⟨SqT.of (s5 _ _ eb), rfl⟩
  · rintro i x H5 H6 hi ⟨hD, s5⟩ ⟨t, y, rfl, nt, rfl, ey⟩
    obtain ⟨b, eb2, ⟨t2, g, rfl, e1, e2⟩⟩ := alb.getL ey
    have s6 := s5.trans (same_new (o := .tup [V.int ((i : Nat) : Int), V.ref t2]) nt)
    have hD6 := same_new (o := .tup [V.int ((i : Nat) : Int), V.ref t2]) nt _ _ hD
    have few := filt_len (p := fun j => decide (bs[j]?.map BR.to = some k)) i
    refine ⟨t, _, rfl, SqT.of upd_same, rfl, _, _, rfl, _, _, rfl, rfl, rfl, _, rfl, t2, _, _, _, rfl, rfl, SqT.of (s6 _ _ e1), atI_nat (j := 1) rfl, _, rfl, rfl, _, rfl, if_bl (fun c => ?_) (fun c => ?_)⟩
    · have c : b.to = k := by have := V.int.inj (of_decide_eq_true c); omega
      refine ⟨_, rfl, _, hD6, by rw [List.length_map]; exact small1000 (by omega), ?_, Same.own s6 nD⟩
      rw [upd_same, filt_succ, if_pos (decide_eq_true (by rw [eb2, ← c]; rfl)), List.map_append]
      rfl
    · have c : ¬ b.to = k := fun z => of_decide_eq_false c (by rw [z])
      refine ⟨?_, s6⟩
      rw [filt_succ, if_neg fun z => c (by have := of_decide_eq_true z; rw [eb2] at this; exact Option.some.inj this), List.append_nil]
      exact hD6
  · rintro H5 ⟨hD, s5⟩
    refine q D H5 nD ?_ s5
    rw [hD, lbv]
    rfl
end
/-! ### places that steps lead back to -/
/-- one or more steps from p -/
inductive OnW (st : Nat → List Nat) (p : Nat) : Nat → Prop
  | one {x : Nat} : x ∈ st p → OnW st p x
  | more {x y : Nat} : OnW st p x → y ∈ st x → OnW st p y
theorem OnW.lt {st : Nat → List Nat} {n p x : Nat} (hp : p < n) (hs : ∀ i, i < n → ∀ y ∈ st i, y < n) (h : OnW st p x) : x < n := by
  induction h with
  | one m => exact hs _ hp _ m
  | more _ m ih => exact hs _ ih _ m
theorem OnW.inside {st : Nat → List Nat} {p y : Nat} {S : List Nat} (h0 : ∀ x ∈ st p, x ∈ S) (h1 : ∀ x ∈ S, ∀ y ∈ st x, y ∈ S) (h : OnW st p y) : y ∈ S := by
  induction h with
  | one m => exact h0 _ m
  | more _ m ih => exact h1 _ ih _ m
theorem OnW.rank {st : Nat → List Nat} {rk : Nat → Int} (h : ∀ x, ∀ y ∈ st x, rk x < rk y) {p y : Nat} (w : OnW st p y) : rk p < rk y := by
  induction w with
  | one m => exact h _ _ m
  | more _ m ih => exact Int.lt_trans ih (h _ _ m)
/-- the dict of the steps -/
abbrev stK (adr : Nat → Addr) (n : Nat) : List (Key × V) := (List.range n).map fun i => (Sum.inl ((i : Nat) : Int), V.ref (adr i))
theorem stK_at {adr : Nat → Addr} {n p : Nat} (h : p < n) : valV (stK adr n) (Sum.inl ((p : Nat) : Int)) = some (V.ref (adr p)) := by
  unfold valV
  rw [List.find?_map]
  have : (List.range n).find? ((fun kv : Key × V => decide (kv.1 = Sum.inl ((p : Nat) : Int))) ∘ fun i => (Sum.inl ((i : Nat) : Int), V.ref (adr i))) = some p := by
    rw [List.find?_range_eq_some]
    refine ⟨decide_eq_true rfl, List.mem_range.mpr h, fun j hj => ?_⟩
    show (!decide ((Sum.inl ((j : Nat) : Int) : Key) = Sum.inl ((p : Nat) : Int))) = true
    rw [decide_eq_false fun e => by have := Sum.inl.inj e; omega]
    rfl
  rw [this]
  rfl
structure StAt (H : Hp) (d : Addr) (n : Nat) (st : Nat → List Nat) : Prop where
  ex : ∃ adr : Nat → Addr, H d = some (.dK (stK adr n)) ∧ ∀ i, i < n → H (adr i) = some (.lst ((st i).map nV))
theorem StAt.same {H H' : Hp} {d : Addr} {n : Nat} {st : Nat → List Nat} (a : StAt H d n st) (s : Same H H') : StAt H' d n st := by
  obtain ⟨adr, e1, e2⟩ := a.ex
  exact ⟨adr, s _ _ e1, fun i hi => s _ _ (e2 i hi)⟩
theorem StAt.get {H : Hp} {d : Addr} {n : Nat} {st : Nat → List Nat} (a : StAt H d n st) {p : Nat} (h : p < n) : ∃ l, DGet H d (nV p) (some (.ref l)) ∧ H l = some (.lst ((st p).map nV)) := by
  obtain ⟨adr, e1, e2⟩ := a.ex
  refine ⟨adr p, ?_, e2 p h⟩
  have := DGet.k (k := Sum.inl ((p : Nat) : Int)) e1
  rwa [stK_at h] at this
theorem few_below : ∀ {n : Nat} {l : List Nat}, l.Nodup → (∀ x ∈ l, x < n) → l.length ≤ n := by
  intro n l nd h
  have : ∀ {l m : List Nat}, l.Nodup → (∀ x ∈ l, x ∈ m) → l.length ≤ m.length := by
    intro l
    induction l with
    | nil => intro _ _ _; exact Nat.zero_le _
    | cons x l ih =>
      intro m nd h
      obtain ⟨n1, n2⟩ := List.nodup_cons.mp nd
      have i := ih (m := m.erase x) n2 fun y hy => (List.mem_erase_of_ne (fun e : y = x => n1 (e ▸ hy))).mpr (h y (List.mem_cons_of_mem _ hy))
      have := List.length_erase_of_mem (h x (List.mem_cons_self ..))
      have pos : 0 < m.length := List.length_pos_of_mem (h x (List.mem_cons_self ..))
      show l.length + 1 ≤ m.length
      omega
  have := this (m := List.range n) nd fun x hx => List.mem_range.mpr (h x hx)
  rwa [List.length_range] at this
section
variable {P : Program} {w : World} {K : PySem.W.Frag} {mg : Str → Option Value} {base : Heap}
def sp_comes_back (K : PySem.W.Frag) : Sp := fun vs H Q _ => ∃ (d : Addr) (n p : Nat) (st : Nat → List Nat), vs = [nV p, .ref d] ∧ StAt H d n st ∧ p < n ∧ n ≤ 400 ∧ (∀ i, i < n → (st i).length ≤ 400 ∧ ∀ y ∈ st i, y < n) ∧
  ∀ (b : Bool) (H' : Hp), (b = true ↔ OnW st p p) → Same H H' → Q (.bl b) H'
theorem ok_comes_back {f : Addr} {fd : FuncData} (F : Fun K "comes_back" "comes_back" s_comes_back f fd) {C : Addr} (T : Top w K mg C) : FnOk P w K mg base CX0 1 f fd ["place", "steps"] (sp_comes_back K) := by
  refine F.ok sc_comes_back (fun vs H Q E h => ?_) (fun cdv A outer s H vs Q E hr h => ?_)
  · obtain ⟨d, n, p, st, rfl, _⟩ := h
    rfl
  obtain ⟨d, n, p, st, rfl, hd, hp, hn, hs, q⟩ := h
  have hlt : ∀ i, i < n → ∀ y ∈ st i, y < n := fun i hi => (hs i hi).2
  refine ⟨_, (pss_cons (ps_set (i := 2) sc_comes_back.nd rfl (Or.inl rfl) (pe_callTy0 cr_set0 (by rfl) T.m_set (by decide +kernel)))
      (pss_cons (ps_set (i := 3) sc_comes_back.nd rfl (Or.inl rfl) (pe_callTy (call_list_ofK K rfl) (by rfl) T.m_list (by decide +kernel) (pa_cons (pe_dget (hu_of hr) (pv 1) (pv 0) (fun _ _ => rfl)) pa_nil)))
      (pss_cons (ps_while PassesOwn.never (pt_truthK K rfl (pv 3) (by intro _; rfl))
        (pss_cons (ps_set (i := 4) sc_comes_back.nd rfl (Or.inl rfl) (pe_bm0K K rfl PySem.F.plainAttrs_list PySem.F.slot_list_pop PySem.F.type_list_pop mt_pop (pv 3)))
      (pss_cons (ps_if (pt_cmpR op_eq (pv 4) (pv 0) (nomark _)) (pss_one (ps_ret pe_bl)) pss_nil)
      (pss_one (ps_if (pt_cmpR or_snotin (pv 4) (pv 2) (by with_unfolding_all rfl)) (pss_cons (ps_expr (pe_sadd (pv 2) (pa_cons (pv 4) pa_nil)))
      (pss_one (ps_expr (pe_bmK K rfl PySem.F.plainAttrs_list PySem.F.slot_list_extend PySem.F.type_list_extend mt_extend (pv 3) (pa_cons (pe_dget (hu_of hr) (pv 1) (pv 4) (fun _ _ => rfl)) pa_nil))))) pss_nil)))))
      (pss_one (ps_ret pe_bl))))), ?_⟩
  refine ⟨rfl, fun sp nsp => ?_⟩
  have s1 : Same H (upd H sp (SetO w sp (fun _ => false) 0)) := same_new nsp
  obtain ⟨l0, g0, hl0⟩ := (hd.same s1).get hp
  refine ⟨_, rfl, _, rfl, d, _, rfl, g0, l0, _, rfl, .inl (SqL.of hl0), fun ll nll => ?_⟩
  have s2 := s1.trans (same_new (o := .lst ((st p).map nV)) nll)
  have nel : sp ≠ ll := fun z => by rw [← z, upd_same] at nll; cases nll
  have nll0 : H ll = none := same_none s1 nll
  let W : Nat → L2.St → Hp → Prop := fun m σ H5 => ∃ (S L : List Nat) (Sf : Int → Bool) (v4 : Option V), σ = [some (nV p), some (.ref d), some (.ref sp), some (.ref ll), v4] ∧ H5 sp = some (SetO w sp Sf S.length) ∧ H5 ll = some (.lst (L.map nV)) ∧ Same H H5 ∧ S.Nodup ∧ (∀ x : Nat, Sf ((x : Nat) : Int) = true ↔ x ∈ S) ∧
    (∀ x ∈ S, x < n ∧ x ≠ p ∧ OnW st p x) ∧ (∀ x ∈ L, x < n ∧ OnW st p x) ∧ (∀ y ∈ st p, y ∈ S ∨ y ∈ L) ∧ (∀ x ∈ S, ∀ y ∈ st x, y ∈ S ∨ y ∈ L) ∧ m = 401 * (n - S.length) + L.length ∧ m ≤ 401 * n + 400
  refine ⟨W, ⟨_, [], st p, fun _ => false, _, rfl, by rw [upd_ne nel]; exact upd_same, upd_same, s2, List.nodup_nil, fun x => ⟨(fun z => nomatch z), fun z => (by cases z)⟩, (fun x z => by cases z), fun x hx => ⟨hlt p hp x hx, .one hx⟩, fun y hy => .inr hy, (fun x z => by cases z), rfl, ?_⟩, ?_⟩
  · have := (hs p hp).1
    show 401 * (n - 0) + _ ≤ _
    omega
  rintro m σ H5 ⟨S, L, Sf, v4, rfl, hsp, hll, s5, nd, sf, hS, hL, c0, c1, em, mb⟩
  refine ⟨_, rfl, !(L.map nV).isEmpty, .inl ⟨_, SqL.of hll, rfl⟩, ?_⟩
  have sl := few_below nd fun x hx => (hS x hx).1
  rcases List.eq_nil_or_concat L with rfl | ⟨L', x, rfl⟩
  · show (if (false : Bool) = true then _ else _)
    rw [if_neg Bool.false_ne_true]
    refine q false H5 ⟨(fun z => nomatch z), fun z => ?_⟩ s5
    exact absurd rfl (hS p (z.inside (fun y hy => (c0 y hy).resolve_right fun z => by cases z) (fun x hx y hy => (c1 x hx y hy).resolve_right fun z => by cases z))).2.1
  have tr : (!((L'.concat x).map nV).isEmpty) = true := by
    rw [List.concat_eq_append, List.map_append]
    cases L'.map nV <;> rfl
  rw [List.concat_eq_append] at *
  rw [tr]
  refine if_bl (fun _ => ?_) (fun z => nomatch z)
  refine ⟨fun σ' H' => ∃ m', m' < m ∧ W m' σ' H', fun _ _ z => z, ?_⟩
  have lL : (L' ++ [x]).length = L'.length + 1 := by rw [List.length_append]; rfl
  obtain ⟨xn, xw⟩ := hL x (List.mem_append.mpr (.inr (List.mem_singleton.mpr rfl)))
  refine ⟨_, rfl, .inl ⟨rfl, _, SqL.of hll⟩, ll, _, nV x, rfl, rfl, hll, by rw [List.map_append, List.length_append, List.getElem?_append_right (by rw [List.length_map]; exact Nat.le_refl _)]; simp, ?_⟩
  have dl : ((L' ++ [x]).map nV).dropLast = L'.map nV := by rw [List.map_append]; exact List.dropLast_concat
  rw [dl]
  have s6 : Same H (upd H5 ll (.lst (L'.map nV))) := Same.own s5 nll0
  have hsp6 : upd H5 ll (.lst (L'.map nV)) sp = some (SetO w sp Sf S.length) := by rw [upd_ne nel]; exact hsp
  have hll6 : upd H5 ll (.lst (L'.map nV)) ll = some (.lst (L'.map nV)) := upd_same
  generalize upd H5 ll (.lst (L'.map nV)) = H6 at *
  refine ⟨_, rfl, _, rfl, rfl, _, rfl, if_bl (fun e => ?_) (fun e => ?_)⟩
  · have e : x = p := by have := V.int.inj (of_decide_eq_true e); omega
    rw [e] at xw
    exact q true H6 ⟨fun _ => xw, fun _ => rfl⟩ s6
  have xp : x ≠ p := fun z => of_decide_eq_false e (by rw [z])
  refine ⟨_, rfl, _, rfl, _, sp, Sf, _, rfl, rfl, hsp6, _, rfl, if_bl (fun e => ?_) (fun e => ?_)⟩
  · have xS : x ∉ S := fun z => by
      rw [(sf x).mpr z] at e
      cases e
    have xf : Sf ((x : Nat) : Int) = false := by
      cases h : Sf ((x : Nat) : Int) with
      | false => rfl
      | true => exact absurd ((sf x).mp h) xS
    have nd2 : (x :: S).Nodup := List.nodup_cons.mpr ⟨xS, nd⟩
    have sl2 := few_below (n := n) nd2 fun y hy => by
      rcases List.mem_cons.mp hy with rfl | hy
      · exact xn
      · exact (hS y hy).1
    rw [List.length_cons] at sl2
    refine ⟨_, rfl, ⟨sp, _, _, rfl, hsp6⟩, _, rfl, sp, _, Sf, _, rfl, rfl, hsp6, by unfold scanBound; omega, ?_⟩
    rw [xf, if_neg Bool.false_ne_true]
    generalize e7 : upd H6 sp _ = H7
    have s7 : Same H H7 := by rw [← e7]; exact Same.own s6 nsp
    have hsp7 : H7 sp = some (SetO w sp (fun j => Sf j || decide (j = ((x : Nat) : Int))) (x :: S).length) := by rw [← e7]; exact upd_same
    have hll7 : H7 ll = some (.lst (L'.map nV)) := by rw [← e7, upd_ne (Ne.symm nel)]; exact hll6
    clear e7
    obtain ⟨lx, gx, hlx⟩ := (hd.same s7).get xn
    have sx := (hs x xn).1
    refine ⟨_, rfl, .inl ⟨rfl, _, SqL.of hll7⟩, _, rfl, _, rfl, d, _, rfl, gx, ll, lx, _, _, rfl, rfl, hll7, hlx, by rw [List.length_map, List.length_map]; rw [sizeLine_eq]; omega, ?_⟩
    refine ⟨401 * (n - (S.length + 1)) + (L' ++ st x).length, by rw [List.length_append]; omega, x :: S, L' ++ st x, _, _, rfl, by rw [upd_ne nel]; exact hsp7, by rw [upd_same, List.map_append], Same.own s7 nll0, nd2, fun y => ?_, fun y hy => ?_, fun y hy => ?_, fun y hy => ?_, fun z hz y hy => ?_, rfl, by rw [List.length_append]; omega⟩
    · rw [List.mem_cons]
      by_cases z : y = x
      · subst z; simp
      · have : (decide (((y : Nat) : Int) = ((x : Nat) : Int))) = false := decide_eq_false fun e => z (by omega)
        show (Sf _ || decide _) = true ↔ _
        rw [this, Bool.or_false, sf y]
        exact ⟨.inr, fun h => h.resolve_left z⟩
    · rcases List.mem_cons.mp hy with rfl | hy
      · exact ⟨xn, xp, xw⟩
      · exact hS y hy
    · rcases List.mem_append.mp hy with hy | hy
      · exact hL y (List.mem_append.mpr (.inl hy))
      · exact ⟨hlt x xn y hy, .more xw hy⟩
    · rcases c0 y hy with z | z
      · exact .inl (List.mem_cons_of_mem _ z)
      · rcases List.mem_append.mp z with z | z
        · exact .inr (List.mem_append.mpr (.inl z))
        · rw [List.mem_singleton.mp z]; exact .inl (List.mem_cons_self ..)
    · rcases List.mem_cons.mp hz with rfl | hz
      · exact .inr (List.mem_append.mpr (.inr hy))
      · rcases c1 z hz y hy with z | z
        · exact .inl (List.mem_cons_of_mem _ z)
        · rcases List.mem_append.mp z with z | z
          · exact .inr (List.mem_append.mpr (.inl z))
          · rw [List.mem_singleton.mp z]; exact .inl (List.mem_cons_self ..)
  · have xS : x ∈ S := (sf x).mp (by
      cases h : Sf ((x : Nat) : Int) with
      | true => rfl
      | false => rw [h] at e; cases e)
    have out : ∀ y, y ∈ S ∨ y ∈ L' ++ [x] → y ∈ S ∨ y ∈ L' := fun y z => by
      rcases z with z | z
      · exact .inl z
      · rcases List.mem_append.mp z with z | z
        · exact .inr z
        · rw [List.mem_singleton.mp z]; exact .inl xS
    exact ⟨401 * (n - S.length) + L'.length, by omega, S, L', Sf, _, rfl, hsp6, hll6, s6, nd, sf, hS, fun y hy => hL y (List.mem_append.mpr (.inl hy)), fun y hy => out y (c0 y hy), fun z hz y hy => out y (c1 z hz y hy), rfl, by omega⟩
def FirstW (st : Nat → List Nat) (ps : List Nat) (v : V) : Prop := (v = .non ∧ ∀ x ∈ ps, ¬ OnW st x x) ∨ ∃ i x : Nat, ps[i]? = some x ∧ v = nV x ∧ OnW st x x ∧ ∀ j y : Nat, j < i → ps[j]? = some y → ¬ OnW st y y
def sp_first_on_ring (K : PySem.W.Frag) : Sp := fun vs H Q _ => ∃ (pl d : Addr) (n : Nat) (ps : List Nat) (st : Nat → List Nat), vs = [.ref pl, .ref d] ∧ H pl = some (.lst (ps.map nV)) ∧ (∀ x ∈ ps, x < n) ∧ StAt H d n st ∧ n ≤ 400 ∧ (∀ i, i < n → (st i).length ≤ 400 ∧ ∀ y ∈ st i, y < n) ∧
  ∀ (v : V) (H' : Hp), FirstW st ps v → Same H H' → Q v H'
theorem ok_first_on_ring {f : Addr} {fd : FuncData} (F : Fun K "first_on_ring" "first_on_ring" s_first_on_ring f fd) {C : Addr} (T : Top w K mg C) : FnOk P w K mg base CX0 2 f fd ["places", "steps"] (sp_first_on_ring K) := by
  obtain ⟨f_comes_back, fd_comes_back, F_comes_back, b_comes_back, m_comes_back⟩ := T.d_comes_back
  have G_comes_back := ok_comes_back (P := P) (w := w) (base := base) F_comes_back T
  refine F.ok sc_first_on_ring (fun vs H Q E h => ?_) (fun cdv A outer s H vs Q E hr h => ?_)
  · obtain ⟨pl, d, n, ps, st, rfl, _⟩ := h
    rfl
  obtain ⟨pl, d, n, ps, st, rfl, hpl, hps, hd, hn, hs, q⟩ := h
  refine ⟨_, (pss_cons (ps_for PassesOwn.never rfl (pi_listK K rfl (pv 0)) (pg_name (i := 2) sc_first_on_ring.nd rfl (Or.inl rfl))
        (pss_one (ps_if (pt_val (pe_call G_comes_back (hr.mono (by decide)) (by rfl) m_comes_back F_comes_back.kp b_comes_back .nil pass0 (pa_cons (pv 2) (pa_cons (pv 1) pa_nil)))) (pss_one (ps_ret (pv 2))) pss_nil)))
      (pss_one (ps_ret pe_non))), ?_⟩
  refine ⟨_, rfl, pl, rfl, ⟨_, SqL.of hpl⟩, for_list (K := K) (a := pl) (xs := ps.map nV) (fun i σ H5 => ∃ v2 : Option V, σ = [some (.ref pl), some (.ref d), v2] ∧ Same H H5 ∧ ∀ j y : Nat, j < i → ps[j]? = some y → ¬ OnW st y y) ⟨_, rfl, fun _ _ e => e, fun j y h => absurd h (Nat.not_lt_zero _)⟩ (fun i σ H5 _ ⟨_, _, s5, _⟩ => SqL.of (s5 _ _ hpl)) ?_ ?_⟩
  · rintro i v σ H5 hx ⟨v2, rfl, s5, no⟩
    rw [List.getElem?_map] at hx
    cases hk : ps[i]? with
    | none => rw [hk] at hx; cases hx
    | some x =>
      rw [hk] at hx
      obtain rfl : nV x = v := Option.some.inj hx
      refine ⟨_, rfl, _, rfl, d, n, x, st, rfl, hd.same s5, hps x (List.mem_of_getElem? hk), hn, hs, fun b H6 hb s6 => ?_⟩
      refine ⟨_, rfl, if_bl (fun e => ?_) (fun e => ?_)⟩
      · exact ⟨_, rfl, q _ H6 (.inr ⟨i, x, hk, rfl, hb.mp e, no⟩) (s5.trans s6)⟩
      · refine ⟨_, rfl, s5.trans s6, fun j y hj ey => ?_⟩
        by_cases h : j = i
        · subst h
          rw [hk] at ey
          rw [← Option.some.inj ey]
          exact fun w => by rw [hb.mpr w] at e; cases e
        · exact no j y (by omega) ey
  · rintro σ H5 ⟨v2, rfl, s5, no⟩
    refine q _ H5 (.inl ⟨rfl, fun x hx => ?_⟩) s5
    obtain ⟨j, ej⟩ := List.getElem?_of_mem hx
    exact no j x (by have := (List.getElem?_eq_some_iff.mp ej).1; rw [List.length_map]; exact this) ej
end
theorem snoc_ind {α : Type} {Pr : List α → Prop} (h0 : Pr []) (h1 : ∀ l x, Pr l → Pr (l ++ [x])) : ∀ l, Pr l := by
  have : ∀ r : List α, Pr r.reverse := by
    intro r
    induction r with
    | nil => exact h0
    | cons x r ih => rw [List.reverse_cons]; exact h1 _ _ ih
  intro l
  have := this l.reverse
  rwa [List.reverse_reverse] at this
def comeB (bs : List BR) (k : Nat) : List BR := bs.filter fun b => decide (b.to = k)
theorem come_list (bs : List BR) (k : Nat) : All2 (fun i b => bs[i]? = some b) (comingN bs k) (comeB bs k) := by
  induction bs using snoc_ind with
  | h0 => exact .nil
  | h1 l b ih =>
    have e1 : comingN (l ++ [b]) k = comingN l k ++ (if b.to = k then [l.length] else []) := by
      unfold comingN
      rw [List.length_append, show l.length + [b].length = l.length + 1 from rfl, filt_succ]
      congr 1
      · refine List.filter_congr fun i hi => ?_
        rw [List.getElem?_append_left (List.mem_range.mp hi)]
      · rw [List.getElem?_append_right (Nat.le_refl _), Nat.sub_self]
        by_cases h : b.to = k
        · rw [if_pos h, if_pos (decide_eq_true (by rw [← h]; rfl))]
        · rw [if_neg h, if_neg]
          intro z
          exact h (Option.some.inj (of_decide_eq_true z))
    have e2 : comeB (l ++ [b]) k = comeB l k ++ (if b.to = k then [b] else []) := by
      unfold comeB
      rw [List.filter_append]
      congr 1
      by_cases h : b.to = k
      · rw [if_pos h]; simp [h]
      · rw [if_neg h]; simp [h]
    have ih2 : All2 (fun i c => (l ++ [b])[i]? = some c) (comingN l k) (comeB l k) := ih.imp fun i c e => by
      rw [List.getElem?_append_left (List.getElem?_eq_some_iff.mp e).1]; exact e
    rw [e1, e2]
    by_cases h : b.to = k
    · rw [if_pos h, if_pos h]
      refine ih2.snoc ?_
      rw [List.getElem?_append_right (Nat.le_refl _), Nat.sub_self]
      rfl
    · rw [if_neg h, if_neg h, List.append_nil, List.append_nil]
      exact ih2
theorem count_filter (bs : List BR) (k : Nat) : (bs.map BR.to).count k = (bs.filter fun b => decide (b.to = k)).length := by
  induction bs with
  | nil => rfl
  | cons b bs ih =>
    rw [List.map_cons, List.count_cons, List.filter_cons, ih]
    by_cases e : b.to = k
    · rw [if_pos (by simp [e]), if_pos (by simp [e])]; rfl
    · rw [if_neg (by simp [e]), if_neg (by simp [e])]; rfl
/-! ### a room looked at -/
def Tb2 (PT : Addr × Addr) (H : Hp) : Prop := GxR.TabG H PT.1 ∧ GxR.TabG H PT.2
theorem Tb2.same {PT : Addr × Addr} {H H' : Hp} (t : Tb2 PT H) (s : Same H H') : Tb2 PT H' := by
  obtain ⟨⟨p1, e1, t1⟩, p2, e2, t2⟩ := t
  exact ⟨⟨p1, s _ _ e1, t1⟩, p2, s _ _ e2, t2⟩
theorem Tb2.but {PT : Addr × Addr} {f c : Addr} {H H' : Hp} (t : Tb2 PT H) (F : Flow H f c) (b : But f H H') : Tb2 PT H' := by
  obtain ⟨⟨p1, e1, t1⟩, p2, e2, t2⟩ := t
  obtain ⟨_, _, _, _, _, ef, _⟩ := F
  exact ⟨⟨p1, b _ _ e1 (fun z => by rw [z, ef] at e1; cases e1), t1⟩, p2, b _ _ e2 (fun z => by rw [z, ef] at e2; cases e2), t2⟩
theorem tabbed_ext {P : Addr} {H H' : Hp} (h : GxR.TabG H P) (t : GxR.Tabbed P H H') : LamX.ExtN H H' := fun b o e n => by
  obtain ⟨ps, ep, _⟩ := h
  rw [t.2 b (fun z => by rw [z, ep] at e; exact n ps (Option.some.inj e).symm)]
  exact e
theorem Tb2.tab1 {PT : Addr × Addr} {H H' : Hp} (g : Tb2 PT H) (t : GxR.Tabbed PT.1 H H') : Tb2 PT H' := by
  refine ⟨t.1, ?_⟩
  by_cases h : PT.2 = PT.1
  · rw [h]; exact t.1
  · obtain ⟨_, p2, e2, t2⟩ := g
    exact ⟨p2, by rw [t.2 _ h]; exact e2, t2⟩
theorem Tb2.tab2 {PT : Addr × Addr} {H H' : Hp} (g : Tb2 PT H) (t : GxR.Tabbed PT.2 H H') : Tb2 PT H' := by
  refine ⟨?_, t.1⟩
  by_cases h : PT.1 = PT.2
  · rw [h]; exact t.1
  · obtain ⟨⟨p1, e1, t1⟩, _⟩ := g
    exact ⟨p1, by rw [t.2 _ h]; exact e1, t1⟩
theorem tk_ext {H H' : Hp} (e : LamX.ExtN H H') : TK H H' := fun a xs h => e a _ h (fun ps z => nomatch z)
theorem ext_same {H H' : Hp} (s : Same H H') : LamX.ExtN H H' := fun a o h _ => s a o h
/-- the code objects of has_form and is_belt_triple -/
class TabF (K : PySem.W.Frag) (mg : Str → Option Value) (base : Heap) (cF : outParam Addr) (PT : outParam (Addr × Addr)) : Prop where
  tb : GxR.TabB base mg cF PT.1
  cd : ∀ (f : Addr) (fd : FuncData), Fun K "has_form" "has_form" s_has_form f fd → mg "has_form" = some (.ref f) → fd.code = .ref cF
class TabC (K : PySem.W.Frag) (mg : Str → Option Value) (base : Heap) (cB : outParam Addr) (PT : outParam (Addr × Addr)) : Prop where
  tb : GxR.TabB base mg cB PT.2
  cd : ∀ (f : Addr) (fd : FuncData), Fun K "is_belt_triple" "is_belt_triple" s_is_belt_triple f fd → mg "is_belt_triple" = some (.ref f) → fd.code = .ref cB
/-- a def of which the code object is known -/
theorem ok_code {P : Program} {w : World} {K : PySem.W.Frag} {mg : Str → Option Value} {base : Heap} {x qual : Str} {st : Stmt} {f c : Addr} {fd : FuncData} {N ps : List Str} {k : Nat} {sp : Sp} (F : Fun K x qual st f fd) (hc : fd.code = .ref c) (S : FnScope N ps (defScope st)) (len : ∀ vs H Q E, sp vs H Q E → vs.length = ps.length)
    (hbody : ∀ (A : Around) (outer : List Env) (s : Shared) (H : Hp) (vs : List V) (Q : VK) (E : XK), Room k (A.deeper (envOfC qual (defScope st) s.heap.objs.size f (.ref c))) → sp vs H Q E →
      ∃ t, PSs (cxOf CX0 P w K mg base N qual (defScope st) f (.ref c) A outer s H E).nox (defBody st) t ∧ t { nx := fun _ H' => Q .non H', rt := Q } (L2.start N vs) H) : FnOk P w K mg base CX0 (k + 1) f fd ps sp := by
  obtain ⟨kl, kd, kV, dc, pm, an, cv, ct, ks, rfl, look, cin⟩ := F.ex
  obtain rfl : cv = .ref c := hc
  refine fn_of look cin S len fun A outer s H vs Q E hr now => ?_
  obtain ⟨t, h, q⟩ := hbody A outer s H vs Q E hr now
  exact ⟨t, h.nox, q⟩
/-- a statement that is never come to -/
theorem ps_dead {X : Cx} {st : Stmt} : PS X st (fun _ _ _ => False) := ⟨fun _ _ _ _ _ _ h => h.elim⟩
/-- all, any: over a tuple that the elements leave as it is -/
theorem qt_tup {K : PySem.W.Frag} {a : Addr} {xs : List V} {g : TG} {te : TE} {vs : List Nat} {sgσ : L2.St} {kp : Bool} {H2 : Hp} {Q : VK} (Pv : Nat → Hp → Prop) (h0 : Pv 0 H2) (hl : ∀ i H, i ≤ xs.length → Pv i H → SqT K H a xs)
    (hs : ∀ i x H, xs[i]? = some x → Pv i H → g x sgσ H fun σ2 H3 => wipe σ2 vs = sgσ ∧ te σ2 H3 fun y H4 => ∃ b, y = .bl b ∧ (b ≠ kp → Q (.bl b) H4) ∧ (b = kp → Pv (i + 1) H4)) (hd : ∀ H, Pv xs.length H → Q (.bl kp) H) :
    ∃ W : Nat → Nat → Hp → Prop, (∃ m, W 0 m H2) ∧ ∀ i m H, W i m H →
      ((Itt K a).stop i H ∧ Q (.bl kp) H) ∨ ((Itt K a).go i H ∧ ∃ Nx : Hp → Prop, (∀ H', Nx H' → ∃ m', m' < m ∧ W (i + 1) m' H') ∧ ∀ x H', (Itt K a).yld i H x H' → g x sgσ H' fun σ2 H3 => wipe σ2 vs = sgσ ∧ te σ2 H3 fun y H4 => ∃ b, y = .bl b ∧ (b ≠ kp → Q (.bl b) H4) ∧ (b = kp → Nx H4)) := by
  refine ⟨fun i m H => i + m = xs.length ∧ Pv i H, ⟨xs.length, Nat.zero_add _, h0⟩, fun i m H ⟨total, here⟩ => ?_⟩
  have seen := hl i H (by omega) here
  cases m with
  | zero =>
    have : i = xs.length := by omega
    subst this
    exact .inl ⟨⟨xs, seen, Nat.le_refl _⟩, hd H here⟩
  | succ m =>
    have lt : i < xs.length := by omega
    refine .inr ⟨⟨xs, xs[i], seen, List.getElem?_eq_getElem lt⟩, Pv (i + 1), fun H' p' => ⟨m, Nat.lt_succ_self m, by omega, p'⟩, fun x H' y => ?_⟩
    obtain ⟨rfl, y⟩ := y
    exact hs i x _ (y xs seen) here
section
variable {P : Program} {w : World} {K : PySem.W.Frag} {mg : Str → Option Value} {base : Heap}
def sp_is_whole (K : PySem.W.Frag) : Sp := fun vs H Q _ => ∃ n : Int, vs = [.int n] ∧ Q (.bl true) H
theorem ok_is_whole {f : Addr} {fd : FuncData} (F : Fun K "is_whole" "is_whole" s_is_whole f fd) {C : Addr} (T : Top w K mg C) : FnOk P w K mg base CX0 1 f fd ["thing"] (sp_is_whole K) := by
  refine F.ok sc_is_whole (fun vs H Q E h => ?_) (fun cdv A outer s H vs Q E hr h => ?_)
  · obtain ⟨n, rfl, _⟩ := h
    rfl
  obtain ⟨n, rfl, q⟩ := h
  refine ⟨_, (pss_one (ps_ret (pe_and (pe_callB (call_isiKK K rfl) (by rfl) T.m_isinstance (by decide +kernel) (pa_cons (pv 0) (pa_cons (pe_bltn (v := .ty "int") (by rfl) T.m_int (by decide +kernel) rfl) pa_nil))) (pe_one (pe_not (pe_callB (call_isiKK K rfl) (by rfl) T.m_isinstance (by decide +kernel) (pa_cons (pv 0) (pa_cons (pe_bltn (v := .ty "bool") (by rfl) T.m_bool (by decide +kernel) rfl) pa_nil)))))))), ?_⟩
  refine ⟨_, rfl, _, _, _, _, true, rfl, .ty "int", .base (.int _), kit_ty (by decide +kernel), _, rfl, if_bl (fun _ => ?_) (fun z => nomatch z)⟩
  exact ⟨_, rfl, _, _, _, _, false, rfl, .ty "bool", .base (.int _), kit_ty (by decide +kernel), _, rfl, q⟩
def sp_is_tuple_of (K : PySem.W.Frag) : Sp := fun vs H Q _ => ∃ (a : Addr) (xs : List V) (k : Nat), vs = [.ref a, nV k] ∧ H a = some (.tup xs) ∧ xs.length = k ∧ Q (.bl true) H
theorem ok_is_tuple_of {f : Addr} {fd : FuncData} (F : Fun K "is_tuple_of" "is_tuple_of" s_is_tuple_of f fd) {C : Addr} (T : Top w K mg C) : FnOk P w K mg base CX0 1 f fd ["thing", "many"] (sp_is_tuple_of K) := by
  refine F.ok sc_is_tuple_of (fun vs H Q E h => ?_) (fun cdv A outer s H vs Q E hr h => ?_)
  · obtain ⟨a, xs, k, rfl, _⟩ := h
    rfl
  obtain ⟨a, xs, k, rfl, ha, lk, q⟩ := h
  refine ⟨_, (pss_one (ps_ret (pe_and (pe_callB (call_isiKK K rfl) (by rfl) T.m_isinstance (by decide +kernel) (pa_cons (pv 0) (pa_cons (pe_bltn (v := .ty "tuple") (by rfl) T.m_tuple (by decide +kernel) rfl) pa_nil))) (pe_one (pe_cmpR op_eq (pe_callB (call_len_seqK K rfl) (by rfl) T.m_len (by decide +kernel) (pa_cons (pv 0) pa_nil)) (pv 1) (nomark _)))))), ?_⟩
  refine ⟨_, rfl, _, _, _, _, true, rfl, .ty "tuple", .base (.tup ha), kit_ty (by decide +kernel), _, rfl, if_bl (fun _ => ?_) (fun z => nomatch z)⟩
  refine ⟨_, rfl, a, _, rfl, .inr (SqT.of ha), _, rfl, rfl, ?_⟩
  rw [lk, decide_eq_true (show V.int ((k : Nat) : Int) = nV k from rfl)]
  exact q
def sp_is_hand_pair (K : PySem.W.Frag) : Sp := fun vs H Q _ => ∃ (t : Addr) (x : V) (n : Int), vs = [.ref t] ∧ H t = some (.tup [x, .int n]) ∧ Q (.bl true) H
theorem ok_is_hand_pair {f : Addr} {fd : FuncData} (F : Fun K "is_hand_pair" "is_hand_pair" s_is_hand_pair f fd) {C : Addr} (T : Top w K mg C) : FnOk P w K mg base CX0 2 f fd ["hand"] (sp_is_hand_pair K) := by
  obtain ⟨f_is_tuple_of, fd_is_tuple_of, F_is_tuple_of, b_is_tuple_of, m_is_tuple_of⟩ := T.d_is_tuple_of
  have G_is_tuple_of := ok_is_tuple_of (P := P) (w := w) (base := base) F_is_tuple_of T
  obtain ⟨f_is_whole, fd_is_whole, F_is_whole, b_is_whole, m_is_whole⟩ := T.d_is_whole
  have G_is_whole := ok_is_whole (P := P) (w := w) (base := base) F_is_whole T
  refine F.ok sc_is_hand_pair (fun vs H Q E h => ?_) (fun cdv A outer s H vs Q E hr h => ?_)
  · obtain ⟨t, x, n, rfl, _⟩ := h
    rfl
  obtain ⟨t, x, n, rfl, ht, q⟩ := h
  refine ⟨_, (pss_one (ps_ret (pe_and (pe_call G_is_tuple_of (hr.mono (by decide)) (by rfl) m_is_tuple_of F_is_tuple_of.kp b_is_tuple_of .nil pass0 (pa_cons (pv 0) (pa_cons pe_int pa_nil))) (pe_one (pe_call G_is_whole (hr.mono (by decide)) (by rfl) m_is_whole F_is_whole.kp b_is_whole .nil pass0 (pa_cons (pe_ix (ix_tupK K rfl) (pv 0) pe_int (fun _ _ => rfl)) pa_nil)))))), ?_⟩
  refine ⟨_, rfl, t, _, 2, rfl, ht, rfl, _, rfl, if_bl (fun _ => ?_) (fun z => nomatch z)⟩
  exact ⟨_, rfl, t, _, _, _, rfl, rfl, SqT.of ht, atI_nat (j := 1) rfl, n, rfl, q⟩
variable {cF cB : Addr} {PT : Addr × Addr} [TF : TabF K mg base cF PT] [TC : TabC K mg base cB PT]
section
omit TF
include TC
def sp_is_belt_triple (K : PySem.W.Frag) (PT : Addr × Addr) : Sp := fun vs H Q _ => ∃ (t g : Addr) (a b : Int) (ns : List Int), vs = [.ref t] ∧ H t = some (.tup [.int a, .int b, .ref g]) ∧ H g = some (.tup (ns.map V.int)) ∧ Tb2 PT H ∧ ∀ H', LamX.ExtN H H' → Tb2 PT H' → Q (.bl true) H'
theorem ok_is_belt_triple {f : Addr} {fd : FuncData} (F : Fun K "is_belt_triple" "is_belt_triple" s_is_belt_triple f fd) {C : Addr} (hcd : fd.code = .ref cB) (T : Top w K mg C) : FnOk P w K mg base CX0 3 f fd ["belt"] (sp_is_belt_triple K PT) := by
  obtain ⟨f_is_whole, fd_is_whole, F_is_whole, b_is_whole, m_is_whole⟩ := T.d_is_whole
  have G_is_whole := ok_is_whole (P := P) (w := w) (base := base) F_is_whole T
  obtain ⟨f_is_tuple_of, fd_is_tuple_of, F_is_tuple_of, b_is_tuple_of, m_is_tuple_of⟩ := T.d_is_tuple_of
  have G_is_tuple_of := ok_is_tuple_of (P := P) (w := w) (base := base) F_is_tuple_of T
  refine ok_code F hcd sc_is_belt_triple (fun vs H Q E h => ?_) (fun A outer s H vs Q E hr h => ?_)
  · obtain ⟨t, g, a, b, ns, rfl, _⟩ := h
    rfl
  obtain ⟨t, g, a, b, ns, rfl, ht, hg, tb, q⟩ := h
  refine ⟨_, (pss_cons (ps_if (PW.pt (pw_or (pt_not (pt_val (pe_call G_is_tuple_of (hr.mono (by decide)) (by rfl) m_is_tuple_of F_is_tuple_of.kp b_is_tuple_of .nil pass0 (pa_cons (pv 0) (pa_cons pe_int pa_nil))))) (pw_or1 (pt_not (pt_val (pe_callB (call_isiKK K rfl) (by rfl) T.m_isinstance (by decide +kernel) (pa_cons (pe_ix (ix_tupK K rfl) (pv 0) pe_int (fun _ _ => rfl)) (pa_cons (pe_bltn (v := .ty "tuple") (by rfl) T.m_tuple (by decide +kernel) rfl) pa_nil)))))))) (pss_one (ps_ret pe_bl)) pss_nil)
      (pss_one (ps_ret (pe_and (pe_call G_is_whole (hr.mono (by decide)) (by rfl) m_is_whole F_is_whole.kp b_is_whole .nil pass0 (pa_cons (pe_ix (ix_tupK K rfl) (pv 0) pe_int (fun _ _ => rfl)) pa_nil)) (pe_and (pe_call G_is_whole (hr.mono (by decide)) (by rfl) m_is_whole F_is_whole.kp b_is_whole .nil pass0 (pa_cons (pe_ix (ix_tupK K rfl) (pv 0) pe_int (fun _ _ => rfl)) pa_nil)) (pe_one (pe_allG (k := 1) (N' := ["thing"]) (sg := (fun _ => List.replicate 1 none)) (vs := [0]) (g := gName 0) (hr.mono (by decide)) rfl (by rfl) T.m_all (by decide +kernel) TC.tb rfl (genN_none rfl rfl (by decide +kernel) rfl (by decide +kernel)) (pi_tupK K rfl (pe_ix (ix_tupK K rfl) (pv 0) pe_int (fun _ _ => rfl))) (fun _ => rfl) (fun _ _ _ _ _ _ _ _ _ hr => (pg_name (i := 0) (show List.Nodup (["thing"] : List Str) from by decide +kernel) rfl (Or.inl rfl))) (fun _ _ _ _ _ _ _ _ _ hr => (pe_call G_is_whole (hr.mono (by decide)) (by rfl) m_is_whole F_is_whole.kp b_is_whole .nil pass0 (pa_cons (pv 0) pa_nil)))))))))), ?_⟩
  refine ⟨_, rfl, t, _, 3, rfl, ht, rfl, _, rfl, if_bl (fun z => nomatch z) (fun _ => ?_)⟩
  refine ⟨_, rfl, t, _, _, _, rfl, rfl, SqT.of ht, atI_nat (j := 2) rfl, _, _, _, _, true, rfl, .ty "tuple", .base (.tup hg), kit_ty (by decide +kernel), _, rfl, if_bl (fun z => nomatch z) (fun _ => ?_)⟩
  refine ⟨_, rfl, t, _, _, _, rfl, rfl, SqT.of ht, atI_nat (j := 0) rfl, a, rfl, _, rfl, if_bl (fun _ => ?_) (fun z => nomatch z)⟩
  refine ⟨_, rfl, t, _, _, _, rfl, rfl, SqT.of ht, atI_nat (j := 1) rfl, b, rfl, _, rfl, if_bl (fun _ => ?_) (fun z => nomatch z)⟩
  refine ⟨_, rfl, t, _, _, _, rfl, rfl, SqT.of ht, atI_nat (j := 2) rfl, g, rfl, ⟨_, SqT.of hg⟩, tb.2, fun H2 t2 => ?_⟩
  have e2 := tabbed_ext tb.2 t2
  have g2 := tk_ext e2 _ _ hg
  refine qt_tup (K := K) (a := g) (xs := ns.map V.int) (fun i H5 => H5 = H2) rfl (fun i H5 _ e => by subst e; exact SqT.of g2) (fun i x H5 hx e => ?_) fun H5 e => ?_
  · subst e
    rw [List.getElem?_map] at hx
    cases hn : ns[i]? with
    | none => rw [hn] at hx; cases hx
    | some n =>
      rw [hn] at hx
      obtain rfl : V.int n = x := Option.some.inj hx
      exact ⟨rfl, _, rfl, n, rfl, true, rfl, (fun z => absurd rfl z), fun _ => rfl⟩
  · subst e
    exact q _ e2 (tb.tab2 t2)
end
include TF TC
def sp_has_form (K : PySem.W.Frag) (PT : Addr × Addr) : Sp := fun vs H Q _ => ∃ (r : Addr) (hs : List HR) (bs : List BR), vs = [.ref r] ∧ RoomAt K H r hs bs ∧ Tb2 PT H ∧ ∀ H', LamX.ExtN H H' → Tb2 PT H' → Q (.bl true) H'
theorem ok_has_form {f : Addr} {fd : FuncData} (F : Fun K "has_form" "has_form" s_has_form f fd) {C : Addr} (hcd : fd.code = .ref cF) (T : Top w K mg C) : FnOk P w K mg base CX0 5 f fd ["room"] (sp_has_form K PT) := by
  obtain ⟨f_is_tuple_of, fd_is_tuple_of, F_is_tuple_of, b_is_tuple_of, m_is_tuple_of⟩ := T.d_is_tuple_of
  have G_is_tuple_of := ok_is_tuple_of (P := P) (w := w) (base := base) F_is_tuple_of T
  obtain ⟨f_is_hand_pair, fd_is_hand_pair, F_is_hand_pair, b_is_hand_pair, m_is_hand_pair⟩ := T.d_is_hand_pair
  have G_is_hand_pair := ok_is_hand_pair (P := P) (w := w) (base := base) F_is_hand_pair T
  obtain ⟨f_is_belt_triple, fd_is_belt_triple, F_is_belt_triple, b_is_belt_triple, m_is_belt_triple⟩ := T.d_is_belt_triple
  have G_is_belt_triple := ok_is_belt_triple (P := P) (w := w) (base := base) F_is_belt_triple (TC.cd _ _ F_is_belt_triple m_is_belt_triple) T
  refine ok_code F hcd sc_has_form (fun vs H Q E h => ?_) (fun A outer s H vs Q E hr h => ?_)
  · obtain ⟨r, hs, bs, rfl, _⟩ := h
    rfl
  obtain ⟨r, hs, bs, rfl, hR, tb, q⟩ := h
  obtain ⟨ha, ba, hv, bv, er, eh, eb, alh, alb⟩ := hR.ex
  refine ⟨_, (pss_cons (ps_if (pt_not (pt_val (pe_call G_is_tuple_of (hr.mono (by decide)) (by rfl) m_is_tuple_of F_is_tuple_of.kp b_is_tuple_of .nil pass0 (pa_cons (pv 0) (pa_cons pe_int pa_nil))))) (pss_one (ps_ret pe_bl)) pss_nil)
      (pss_cons (ps_asg (pv 0) (pg_tupK K rfl rfl (pgs_cons (pg_name (i := 1) sc_has_form.nd rfl (Or.inl rfl)) (pgs_cons (pg_name (i := 2) sc_has_form.nd rfl (Or.inl rfl)) pgs_nil))))
      (pss_cons (ps_if (PW.pt (pw_or (pt_not (pt_val (pe_callB (call_isiKK K rfl) (by rfl) T.m_isinstance (by decide +kernel) (pa_cons (pv 1) (pa_cons (pe_bltn (v := .ty "tuple") (by rfl) T.m_tuple (by decide +kernel) rfl) pa_nil))))) (pw_or1 (pt_not (pt_val (pe_callB (call_isiKK K rfl) (by rfl) T.m_isinstance (by decide +kernel) (pa_cons (pv 2) (pa_cons (pe_bltn (v := .ty "tuple") (by rfl) T.m_tuple (by decide +kernel) rfl) pa_nil)))))))) (pss_one (ps_ret pe_bl)) pss_nil)
      (pss_one (ps_ret (pe_and (pe_allG (k := 2) (N' := ["hand"]) (sg := (fun _ => List.replicate 1 none)) (vs := [0]) (g := gName 0) (hr.mono (by decide)) rfl (by rfl) T.m_all (by decide +kernel) TF.tb rfl (genN_none rfl rfl (by decide +kernel) rfl (by decide +kernel)) (pi_tupK K rfl (pv 1)) (fun _ => rfl) (fun _ _ _ _ _ _ _ _ _ hr => (pg_name (i := 0) (show List.Nodup (["hand"] : List Str) from by decide +kernel) rfl (Or.inl rfl))) (fun _ _ _ _ _ _ _ _ _ hr => (pe_call G_is_hand_pair (hr.mono (by decide)) (by rfl) m_is_hand_pair F_is_hand_pair.kp b_is_hand_pair .nil pass0 (pa_cons (pv 0) pa_nil)))) (pe_one (pe_allG (k := 3) (N' := ["belt"]) (sg := (fun _ => List.replicate 1 none)) (vs := [0]) (g := gName 0) (hr.mono (by decide)) rfl (by rfl) T.m_all (by decide +kernel) TF.tb rfl (genN_none rfl rfl (by decide +kernel) rfl (by decide +kernel)) (pi_tupK K rfl (pv 2)) (fun _ => rfl) (fun _ _ _ _ _ _ _ _ _ hr => (pg_name (i := 0) (show List.Nodup (["belt"] : List Str) from by decide +kernel) rfl (Or.inl rfl))) (fun _ _ _ _ _ _ _ _ _ hr => (pe_call G_is_belt_triple (hr.mono (by decide)) (by rfl) m_is_belt_triple F_is_belt_triple.kp b_is_belt_triple .nil pass0 (pa_cons (pv 0) pa_nil))))))))))), ?_⟩
  refine ⟨_, rfl, r, _, 2, rfl, er, rfl, _, rfl, if_bl (fun z => nomatch z) (fun _ => ?_)⟩
  refine ⟨_, rfl, r, _, rfl, SqT.of er, rfl, _, _, rfl, _, _, rfl, rfl, ?_⟩
  refine ⟨_, rfl, _, _, _, _, true, rfl, .ty "tuple", .base (.tup eh), kit_ty (by decide +kernel), _, rfl, if_bl (fun z => nomatch z) (fun _ => ?_)⟩
  refine ⟨_, rfl, _, _, _, _, true, rfl, .ty "tuple", .base (.tup eb), kit_ty (by decide +kernel), _, rfl, if_bl (fun z => nomatch z) (fun _ => ?_)⟩
  refine ⟨_, rfl, ha, rfl, ⟨_, SqT.of eh⟩, tb.1, fun H2 t2 => ?_⟩
  have e2 := tabbed_ext tb.1 t2
  have tb2 := tb.tab1 t2
  refine qt_tup (K := K) (a := ha) (xs := hv) (kp := true) (Q := fun x H1 => ∃ c, x = V.bl c ∧ if c = true then tQuant true PT.1 (iTup K (tVar 2)) (fun _ => List.replicate 1 none) (gName 0) (tCall (sp_is_belt_triple K PT) [] E0 (tCons (tVar 0) tNil)) [0] ((List.set (L2.start N_has_form [V.ref r]) 1 (some (V.ref ha))).set 2 (some (V.ref ba))) H1 Q else Q (.bl false) H1) (fun i H5 => H5 = H2) rfl (fun i H5 _ e => e ▸ SqT.of (tk_ext e2 _ _ eh)) (fun i x H5 hx e => ?_) fun H5 e => ?_
  · subst e
    obtain ⟨h, _, t, rr, rfl, e3, e4⟩ := alh.getL hx
    exact ⟨rfl, _, rfl, t, _, _, rfl, tk_ext e2 _ _ e3, true, rfl, (fun z => absurd rfl z), fun _ => rfl⟩
  subst e
  refine ⟨_, rfl, if_bl (fun _ => ?_) (fun z => nomatch z)⟩
  refine ⟨_, rfl, ba, rfl, ⟨_, SqT.of (tk_ext e2 _ _ eb)⟩, tb2.1, fun H3 t3 => ?_⟩
  have e3 := e2.trans (tabbed_ext tb2.1 t3)
  have tb3 := tb2.tab1 t3
  refine qt_tup (K := K) (a := ba) (xs := bv) (fun i H6 => LamX.ExtN H H6 ∧ Tb2 PT H6) ⟨e3, tb3⟩ (fun i H6 _ ⟨e, _⟩ => SqT.of (tk_ext e _ _ eb)) (fun i x H6 hx ⟨e6, tb6⟩ => ?_) fun H6 ⟨e6, tb6⟩ => q _ e6 tb6
  obtain ⟨b, _, t, g, rfl, e4, e5⟩ := alb.getL hx
  exact ⟨rfl, _, rfl, t, g, _, _, _, rfl, tk_ext e6 _ _ e4, tk_ext e6 _ _ e5, tb6, fun H7 e7 tb7 => ⟨true, rfl, (fun z => absurd rfl z), fun _ => ⟨e6.trans e7, tb7⟩⟩⟩
end
theorem nine_eleven {z : Str} (h : z ∈ nine) : z ∈ eleven := by
  unfold nine at h
  simp only [List.mem_cons, List.not_mem_nil, or_false] at h
  rcases h with h | h | h | h | h | h | h | h | h <;> rw [h] <;> decide +kernel
theorem GoodHand.eleven {h : HR} (g : GoodHand h) : h.wd ∈ Mine.eleven := by
  rcases g.1 with k | k
  · exact nine_eleven k.wd
  · rcases k.1 with z | z <;> rw [z] <;> decide +kernel
theorem needs_needN {z : Str} (h : z ∈ eleven) : needs z = needN z := by
  unfold eleven at h
  simp only [List.mem_cons, List.not_mem_nil, or_false] at h
  rcases h with h | h | h | h | h | h | h | h | h | h | h <;> rw [h] <;> decide +kernel
theorem GoodHand.lone {h : HR} (g : GoodHand h) : (h.no.isSome = true ↔ h.wd = "times" ∨ h.wd = "always") := by
  rcases g.1 with k | k
  · exact k.no
  · rw [k.2.1]
    refine ⟨(fun z => nomatch z), fun z => ?_⟩
    rcases k.1 with y | y <;> rw [y] at z <;> rcases z with z | z <;> exact absurd z (by decide +kernel)
section
variable {P : Program} {w : World} {K : PySem.W.Frag} {mg : Str → Option Value} {base : Heap}
def sp_is_rule (K : PySem.W.Frag) : Sp := fun vs H Q _ => ∃ (rr : Addr) (h : HR), vs = [.ref rr] ∧ RuAt K H rr (ruleL h) ∧ GoodHand h ∧ Q (.bl true) H
theorem ok_is_rule {f : Addr} {fd : FuncData} (F : Fun K "is_rule" "is_rule" s_is_rule f fd) {C : Addr} (T : Top w K mg C) : FnOk P w K mg base CX0 2 f fd ["thing"] (sp_is_rule K) := by
  obtain ⟨f_is_whole, fd_is_whole, F_is_whole, b_is_whole, m_is_whole⟩ := T.d_is_whole
  have G_is_whole := ok_is_whole (P := P) (w := w) (base := base) F_is_whole T
  refine F.ok sc_is_rule (fun vs H Q E h => ?_) (fun cdv A outer s H vs Q E hr h => ?_)
  · obtain ⟨rr, h, rfl, _⟩ := h
    rfl
  obtain ⟨rr, h, rfl, hr0, g, q⟩ := h
  obtain ⟨aN, mN, hN⟩ := T.x_needs
  obtain ⟨aW, mW, hW⟩ := T.x_with
  obtain ⟨es, nn, hKD⟩ := hN.dict
  refine ⟨_, (pss_cons (ps_if (PW.pt (pw_or (pt_not (pt_val (pe_callB (call_isiKK K rfl) (by rfl) T.m_isinstance (by decide +kernel) (pa_cons (pv 0) (pa_cons (pe_bltn (v := .ty "tuple") (by rfl) T.m_tuple (by decide +kernel) rfl) pa_nil))))) (pw_or1 (pt_cmpR op_lt (pe_callB (call_len_seqK K rfl) (by rfl) T.m_len (by decide +kernel) (pa_cons (pv 0) pa_nil)) pe_int (nomark _))))) (pss_one (ps_ret pe_bl)) pss_nil)
      (pss_cons (ps_set (i := 1) sc_is_rule.nd rfl (Or.inl rfl) (pe_ix (ix_tupK K rfl) (pv 0) pe_int (fun _ _ => rfl)))
      (pss_cons (ps_if (PW.pt (pw_or (pt_not (pt_val (pe_callB (call_isiKK K rfl) (by rfl) T.m_isinstance (by decide +kernel) (pa_cons (pv 1) (pa_cons (pe_bltn (v := .ty "str") (by rfl) T.m_str (by decide +kernel) rfl) pa_nil))))) (pw_or1 (pt_cmpR (op_notIn_kd hKD) (pv 1) (pe_glob (v := .ref aN) (by rfl) mN rfl) (by with_unfolding_all rfl))))) (pss_one (ps_ret pe_bl)) pss_nil)
      (pss_cons (ps_if (pt_cmpR (op_in_seqK K rfl) (pv 1) (pe_glob (v := .ref aW) (by rfl) mW rfl) (by with_unfolding_all rfl)) (pss_one (ps_ret (pe_and (pe_cmpR op_eq (pe_callB (call_len_seqK K rfl) (by rfl) T.m_len (by decide +kernel) (pa_cons (pv 0) pa_nil)) pe_int (nomark _)) (pe_one (pe_call G_is_whole (hr.mono (by decide)) (by rfl) m_is_whole F_is_whole.kp b_is_whole .nil pass0 (pa_cons (pe_ix (ix_tupK K rfl) (pv 0) pe_int (fun _ _ => rfl)) pa_nil)))))) pss_nil)
      (pss_one (ps_ret (pe_cmpR op_eq (pe_callB (call_len_seqK K rfl) (by rfl) T.m_len (by decide +kernel) (pa_cons (pv 0) pa_nil)) pe_int (nomark _)))))))), ?_⟩
  refine ⟨_, rfl, _, _, _, _, true, rfl, .ty "tuple", SqT.ty hr0.sq, kit_ty (by decide +kernel), _, rfl, if_bl (fun z => nomatch z) (fun _ => ?_)⟩
  refine ⟨_, rfl, rr, _, rfl, .inr (hr0.sq), _, _, rfl, rfl, _, rfl, if_bl (fun z => ?_) (fun _ => ?_)⟩
  · have z := of_decide_eq_true z
    rw [List.length_cons] at z
    omega
  refine ⟨_, rfl, rr, _, _, _, rfl, rfl, hr0.sq, atI_nat (j := 0) rfl, ?_⟩
  refine ⟨_, rfl, _, _, _, _, true, rfl, .ty "str", .base (.str _), kit_ty (by decide +kernel), _, rfl, if_bl (fun z => nomatch z) (fun _ => ?_)⟩
  obtain ⟨t, hy⟩ := hN.yes h.wd g.eleven
  refine ⟨_, rfl, h.wd, _, rfl, rfl, hy, _, rfl, if_bl (fun y => nomatch y) (fun _ => ?_)⟩
  have lone := g.lone
  refine ⟨_, rfl, aW, _, rfl, .inr (hW _), rfl, rfl, _, rfl, if_in (zs := ["times", "always"]) (fun e => ?_) (fun e => ?_)⟩
  · have e2 : h.wd = "times" ∨ h.wd = "always" := by simpa using e
    have so := lone.mpr e2
    obtain ⟨wd, no, mom⟩ := h
    cases no with
    | none => cases so
    | some n =>
      refine ⟨_, rfl, rr, _, rfl, .inr (hr0.sq), rfl, _, rfl, if_bl (fun _ => ?_) (fun z => nomatch z)⟩
      exact ⟨_, rfl, rr, _, _, _, rfl, rfl, hr0.sq, atI_nat (j := 1) rfl, n, rfl, q⟩
  · have e2 : ¬ (h.wd = "times" ∨ h.wd = "always") := by simpa using e
    obtain ⟨wd, no, mom⟩ := h
    cases no with
    | some n => exact absurd (lone.mp rfl) e2
    | none => exact ⟨_, rfl, rr, _, rfl, .inr (hr0.sq), rfl, q⟩
def sp_needs (K : PySem.W.Frag) : Sp := fun vs H Q _ => ∃ (r : Addr) (z : Str) (l : List V), vs = [.ref r] ∧ RuAt K H r (.str z :: l) ∧ z ∈ eleven ∧ Q (.int (needN z)) H
theorem ok_needs {f : Addr} {fd : FuncData} (F : Fun K "needs" "needs" s_needs f fd) {C : Addr} (T : Top w K mg C) : FnOk P w K mg base CX0 1 f fd ["rule"] (sp_needs K) := by
  refine F.ok sc_needs (fun vs H Q E h => ?_) (fun cdv A outer s H vs Q E hr h => ?_)
  · obtain ⟨r, z, l, rfl, _⟩ := h
    rfl
  obtain ⟨r, z, l, rfl, hr0, hz, q⟩ := h
  obtain ⟨aN, mN, hN⟩ := T.x_needs
  obtain ⟨es, nn, hKD⟩ := hN.dict
  obtain ⟨t, hy⟩ := hN.yes z hz
  refine ⟨_, (pss_one (ps_ret (pe_ix ix_kdict (pe_glob (v := .ref aN) (by rfl) mN rfl) (pe_ix (ix_tupK K rfl) (pv 0) pe_int (fun _ _ => rfl)) (fun _ _ => rfl)))), ?_⟩
  exact ⟨_, rfl, r, _, _, _, rfl, rfl, hr0.sq, atI_nat (j := 0) rfl, aN, z, .int (needN z), rfl, rfl, ⟨es, nn, _, hKD.at_, hKD.lit, hy, ⟨t, rfl⟩⟩, q⟩
def sp_wrong_hand (K : PySem.W.Frag) : Sp := fun vs H Q _ => ∃ (r : Addr) (hs : List HR) (bs : List BR), vs = [.ref r] ∧ RoomAt K H r hs bs ∧ RoomL hs bs ∧ ∀ H', Same H H' → Q .non H'
theorem ok_wrong_hand {f : Addr} {fd : FuncData} (F : Fun K "wrong_hand" "wrong_hand" s_wrong_hand f fd) {C : Addr} (T : Top w K mg C) : FnOk P w K mg base CX0 3 f fd ["room"] (sp_wrong_hand K) := by
  obtain ⟨f_is_rule, fd_is_rule, F_is_rule, b_is_rule, m_is_rule⟩ := T.d_is_rule
  have G_is_rule := ok_is_rule (P := P) (w := w) (base := base) F_is_rule T
  refine F.ok sc_wrong_hand (fun vs H Q E h => ?_) (fun cdv A outer s H vs Q E hr h => ?_)
  · obtain ⟨r, hs, bs, rfl, _⟩ := h
    rfl
  obtain ⟨r, hs, bs, rfl, hR, ok, q⟩ := h
  obtain ⟨ha, ba, hv, bv, er, eh, eb, alh, alb⟩ := hR.ex
  obtain ⟨aI, mI, hI⟩ := T.x_in
  obtain ⟨aO, mO, hO⟩ := T.x_out
  refine ⟨_, (pss_cons (ps_for PassesOwn.never rfl (pi_enumT K rfl (by rfl) T.m_enumerate (pa_cons (pe_ix (ix_tupK K rfl) (pv 0) pe_int (fun _ _ => rfl)) pa_nil)) (pg_tupK K rfl rfl (pgs_cons (pg_name (i := 1) sc_wrong_hand.nd rfl (Or.inl rfl)) (pgs_cons (pg_tupK K rfl rfl (pgs_cons (pg_name (i := 2) sc_wrong_hand.nd rfl (Or.inl rfl)) (pgs_cons (pg_name (i := 3) sc_wrong_hand.nd rfl (Or.inl rfl)) pgs_nil))) pgs_nil)))
        (pss_cons (ps_if (PW.pt (pw_or (pt_not (pt_val (pe_call G_is_rule (hr.mono (by decide)) (by rfl) m_is_rule F_is_rule.kp b_is_rule .nil pass0 (pa_cons (pv 2) pa_nil)))) (pw_or1 (pt_cmpR op_lt (pv 3) pe_int (nomark _))))) (pss_one (ps_ret (pv 1))) pss_nil)
      (pss_one (ps_if (PW.pt (pw_and (pt_cmpR op_ne (pv 3) pe_int (nomark _)) (pw_and1 (pt_cmpR (op_inDTK K rfl (hu65 hr)) (pv 2) (pe_tup (pa_cons (pe_glob (v := .ref aI) (by rfl) mI rfl) (pa_cons (pe_glob (v := .ref aO) (by rfl) mO rfl) pa_nil))) (by with_unfolding_all rfl))))) (pss_one (ps_ret (pv 1))) pss_nil))))
      (pss_one (ps_ret pe_non))), ?_⟩
  refine ⟨_, rfl, r, _, _, _, rfl, rfl, SqT.of er, atI_nat (j := 0) rfl, ha, hv, rfl, SqT.of eh, for_it (J := IteT K ha hv) (n := hv.length) (fun i σ H5 => ∃ v1 v2 v3 : Option V, σ = [some (.ref r), v1, v2, v3] ∧ Same H H5) ⟨_, _, _, rfl, fun _ _ e => e⟩ ?_ ?_ ?_ ?_⟩
  · rintro i σ H5 hi ⟨v1, v2, v3, rfl, s5⟩
    exact ⟨SqT.of (s5 _ _ eh), hi⟩
  · rintro σ H5 ⟨v1, v2, v3, rfl, s5⟩
    exact ⟨SqT.of (s5 _ _ eh), rfl⟩
  · rintro i x σ H5 H6 hi ⟨v1, v2, v3, rfl, s5⟩ ⟨t, y, rfl, nt, rfl, ey⟩
    obtain ⟨h, eh2, t2, rr, rfl, e1, e2⟩ := alh.getL ey
    have gh := ok.good h (List.mem_of_getElem? eh2)
    have s6 := s5.trans (same_new (o := .tup [V.int ((i : Nat) : Int), V.ref t2]) nt)
    refine ⟨t, _, rfl, SqT.of upd_same, rfl, _, _, rfl, _, _, rfl, t2, _, rfl, SqT.of (s6 _ _ e1), rfl, _, _, rfl, _, _, rfl, rfl, rfl, ?_⟩
    refine ⟨_, rfl, rr, h, rfl, e2.keep (TK.same s6), gh, _, rfl, if_bl (fun z => nomatch z) (fun _ => ?_)⟩
    refine ⟨_, rfl, _, _, rfl, rfl, _, rfl, if_bl (fun z => ?_) (fun _ => ?_)⟩
    · have := of_decide_eq_true z
      have := gh.2.1
      omega
    refine ⟨_, rfl, rfl, _, rfl, if_bl (fun e => ?_) (fun _ => ⟨_, _, _, rfl, s6⟩)⟩
    have m0 : h.mom ≠ 0 := fun z => by
      rw [z] at e
      exact absurd e (by decide)
    refine ⟨_, rfl, (by show 2 ≤ sizeLine; decide), fun p np => ?_⟩
    have s7 := same_new (o := .tup [V.ref aI, V.ref aO]) np
    refine ⟨.tuple (ruleD h), [.tuple [.str "in"], .tuple [.str "out"]], rule_dp (e2.keep (TK.same (s6.trans s7))).sq, .tup (SqT.of upd_same) (.cons (.tup (hI _) (.cons (.str _) .nil)) (.cons (.tup (hO _) (.cons (.str _) .nil)) .nil)), rule_shaped gh.lay, by decide +kernel, _, rfl, ?_⟩
    have val : ([PyData.tuple [.str "in"], .tuple [.str "out"]].any fun z => PyData.eqv z (.tuple (ruleD h))) = false := by
      rw [List.any_cons, List.any_cons, List.any_nil, Bool.or_false, one_eqv, one_eqv, gh.door "in" (.inl rfl), gh.door "out" (.inr rfl)]
      rw [decide_eq_false fun z => m0 (gh.mom0 (.inl z)), decide_eq_false fun z => m0 (gh.mom0 (.inr z))]
      rfl
    rw [val]
    exact if_bl (fun z => nomatch z) (fun _ => ⟨_, _, _, rfl, s6.trans s7⟩)
  · rintro σ H5 ⟨v1, v2, v3, rfl, s5⟩
    exact q _ s5
def sp_wrong_belt (K : PySem.W.Frag) : Sp := fun vs H Q _ => ∃ (r : Addr) (hs : List HR) (bs : List BR), vs = [.ref r] ∧ RoomAt K H r hs bs ∧ RoomL hs bs ∧ ∀ H', Same H H' → Q .non H'
theorem ok_wrong_belt {f : Addr} {fd : FuncData} (F : Fun K "wrong_belt" "wrong_belt" s_wrong_belt f fd) {C : Addr} (T : Top w K mg C) : FnOk P w K mg base CX0 1 f fd ["room"] (sp_wrong_belt K) := by
  refine F.ok sc_wrong_belt (fun vs H Q E h => ?_) (fun cdv A outer s H vs Q E hr h => ?_)
  · obtain ⟨r, hs, bs, rfl, _⟩ := h
    rfl
  obtain ⟨r, hs, bs, rfl, hR, ok, q⟩ := h
  obtain ⟨ha, ba, hv, bv, er, eh, eb, alh, alb⟩ := hR.ex
  have lhv := alh.length
  obtain ⟨aO, mO, hO⟩ := T.x_out
  refine ⟨_, (pss_cons (ps_asg (pv 0) (pg_tupK K rfl rfl (pgs_cons (pg_name (i := 1) sc_wrong_belt.nd rfl (Or.inl rfl)) (pgs_cons (pg_name (i := 2) sc_wrong_belt.nd rfl (Or.inl rfl)) pgs_nil))))
      (pss_cons (ps_for PassesOwn.never rfl (pi_enumT K rfl (by rfl) T.m_enumerate (pa_cons (pv 2) pa_nil)) (pg_tupK K rfl rfl (pgs_cons (pg_name (i := 3) sc_wrong_belt.nd rfl (Or.inl rfl)) (pgs_cons (pg_tupK K rfl rfl (pgs_cons (pg_name (i := 4) sc_wrong_belt.nd rfl (Or.inl rfl)) (pgs_cons (pg_name (i := 5) sc_wrong_belt.nd rfl (Or.inl rfl)) (pgs_cons (pg_name (i := 6) sc_wrong_belt.nd rfl (Or.inl rfl)) pgs_nil)))) pgs_nil)))
        (pss_cons (ps_if (PW.pt (pw_or (pt_not (pt_chain op_le op_lt pe_int (pv 4) (pe_callB (call_len_seqK K rfl) (by rfl) T.m_len (by decide +kernel) (pa_cons (pv 1) pa_nil)))) (pw_or1 (pt_not (pt_chain op_le op_lt pe_int (pv 5) (pe_callB (call_len_seqK K rfl) (by rfl) T.m_len (by decide +kernel) (pa_cons (pv 1) pa_nil))))))) (pss_one (ps_ret (pv 3))) pss_nil)
      (pss_one (ps_if (pt_cmpR (op_eqDK K rfl hr.units) (pe_ix (ix_tupK K rfl) (pe_ix (ix_tupK K rfl) (pv 1) (pv 4) (fun _ _ => rfl)) pe_int (fun _ _ => rfl)) (pe_glob (v := .ref aO) (by rfl) mO rfl) (nomark _)) (pss_one (ps_ret (pv 3))) pss_nil))))
      (pss_one (ps_ret pe_non)))), ?_⟩
  refine ⟨_, rfl, r, _, rfl, SqT.of er, rfl, _, _, rfl, _, _, rfl, rfl, ?_⟩
  refine ⟨_, rfl, ba, bv, rfl, SqT.of eb, for_it (J := IteT K ba bv) (n := bv.length) (fun i σ H5 => ∃ v3 v4 v5 v6 : Option V, σ = [some (.ref r), some (.ref ha), some (.ref ba), v3, v4, v5, v6] ∧ Same H H5) ⟨_, _, _, _, rfl, fun _ _ e => e⟩ ?_ ?_ ?_ ?_⟩
  · rintro i σ H5 hi ⟨v3, v4, v5, v6, rfl, s5⟩
    exact ⟨SqT.of (s5 _ _ eb), hi⟩
  · rintro σ H5 ⟨v3, v4, v5, v6, rfl, s5⟩
    exact ⟨SqT.of (s5 _ _ eb), rfl⟩
  · rintro i x σ H5 H6 hi ⟨v3, v4, v5, v6, rfl, s5⟩ ⟨t, y, rfl, nt, rfl, ey⟩
    obtain ⟨b, eb2, t2, g, rfl, e1, e2⟩ := alb.getL ey
    have mb := List.mem_of_getElem? eb2
    obtain ⟨n1, n2⟩ := ok.ends b mb
    have s6 := s5.trans (same_new (o := .tup [V.int ((i : Nat) : Int), V.ref t2]) nt)
    refine ⟨t, _, rfl, SqT.of upd_same, rfl, _, _, rfl, _, _, rfl, t2, _, rfl, SqT.of (s6 _ _ e1), rfl, _, _, rfl, _, _, rfl, _, _, rfl, rfl, rfl, ?_⟩
    have in0 : ∀ n : Nat, n < hs.length → (decide ((0 : Int) ≤ ((n : Nat) : Int)) = true) ∧ decide (((n : Nat) : Int) < ((hv.length : Nat) : Int)) = true := fun n hn => ⟨decide_eq_true (Int.natCast_nonneg _), decide_eq_true (by omega)⟩
    obtain ⟨c1, c2⟩ := in0 _ n1
    obtain ⟨c3, c4⟩ := in0 _ n2
    have e6 := SqT.of (K := K) (s6 _ _ eh)
    refine ⟨_, rfl, _, _, rfl, rfl, _, rfl, if_bl (fun _ => ?_) (fun z => absurd (z.symm.trans c1) (by decide))⟩
    refine ⟨_, rfl, ha, hv, rfl, .inr e6, _, _, rfl, rfl, _, rfl, if_bl (fun z => ?_) (fun _ => ?_)⟩
    · rw [c2] at z; cases z
    refine ⟨_, rfl, _, _, rfl, rfl, _, rfl, if_bl (fun _ => ?_) (fun z => absurd (z.symm.trans c3) (by decide))⟩
    refine ⟨_, rfl, ha, hv, rfl, .inr e6, _, _, rfl, rfl, _, rfl, if_bl (fun z => ?_) (fun _ => ?_)⟩
    · rw [c4] at z; cases z
    obtain ⟨h, eh3⟩ : ∃ h, hs[b.one]? = some h := ⟨_, List.getElem?_eq_getElem n1⟩
    have gh := ok.good h (List.mem_of_getElem? eh3)
    obtain ⟨x, ex, t3, rr, rfl, e3, e4⟩ := alh.get eh3
    refine ⟨_, rfl, _, rfl, ha, _, _, _, rfl, rfl, e6, atI_nat ex, t3, _, _, _, rfl, rfl, SqT.of (s6 _ _ e3), atI_nat (j := 0) rfl, ?_⟩
    refine ⟨_, _, rule_dp (e4.keep (TK.same s6)).sq, .tup (hO _) (.cons (.str _) .nil), rule_shaped gh.lay, one_shaped (by decide +kernel), _, rfl, ?_⟩
    rw [rule_eqv, gh.door "out" (.inr rfl), decide_eq_false (ok.out b mb h eh3)]
    exact if_bl (fun z => nomatch z) (fun _ => ⟨_, _, _, _, rfl, s6⟩)
  · rintro σ H5 ⟨v3, v4, v5, v6, rfl, s5⟩
    exact q _ s5
def sp_wrong_count (K : PySem.W.Frag) : Sp := fun vs H Q _ => ∃ (r : Addr) (hs : List HR) (bs : List BR), vs = [.ref r] ∧ RoomAt K H r hs bs ∧ RoomL hs bs ∧ ∀ H', Same H H' → Q .non H'
theorem ok_wrong_count {f : Addr} {fd : FuncData} (F : Fun K "wrong_count" "wrong_count" s_wrong_count f fd) {C : Addr} (T : Top w K mg C) : FnOk P w K mg base CX0 2 f fd ["room"] (sp_wrong_count K) := by
  obtain ⟨f_needs, fd_needs, F_needs, b_needs, m_needs⟩ := T.d_needs
  have G_needs := ok_needs (P := P) (w := w) (base := base) F_needs T
  obtain ⟨f_comings, fd_comings, F_comings, b_comings, m_comings⟩ := T.d_comings
  have G_comings := ok_comings (P := P) (w := w) (base := base) F_comings T
  refine F.ok sc_wrong_count (fun vs H Q E h => ?_) (fun cdv A outer s H vs Q E hr h => ?_)
  · obtain ⟨r, hs, bs, rfl, _⟩ := h
    rfl
  obtain ⟨r, hs, bs, rfl, hR, ok, q⟩ := h
  obtain ⟨ha, ba, hv, bv, er, eh, eb, alh, alb⟩ := hR.ex
  have lb := ok.many
  refine ⟨_, (pss_cons (ps_for PassesOwn.never rfl (pi_enumT K rfl (by rfl) T.m_enumerate (pa_cons (pe_ix (ix_tupK K rfl) (pv 0) pe_int (fun _ _ => rfl)) pa_nil)) (pg_tupK K rfl rfl (pgs_cons (pg_name (i := 1) sc_wrong_count.nd rfl (Or.inl rfl)) (pgs_cons (pg_tupK K rfl rfl (pgs_cons (pg_name (i := 2) sc_wrong_count.nd rfl (Or.inl rfl)) (pgs_cons (pg_name (i := 3) sc_wrong_count.nd rfl (Or.inl rfl)) pgs_nil))) pgs_nil)))
        (pss_one (ps_if (pt_cmpR op_ne (pe_callB (call_len_seqK K rfl) (by rfl) T.m_len (by decide +kernel) (pa_cons (pe_call G_comings (hr.mono (by decide)) (by rfl) m_comings F_comings.kp b_comings .nil pass0 (pa_cons (pv 0) (pa_cons (pv 1) pa_nil))) pa_nil)) (pe_call G_needs (hr.mono (by decide)) (by rfl) m_needs F_needs.kp b_needs .nil pass0 (pa_cons (pv 2) pa_nil)) (nomark _)) (pss_one (ps_ret (pv 1))) pss_nil)))
      (pss_one (ps_ret pe_non))), ?_⟩
  refine ⟨_, rfl, r, _, _, _, rfl, rfl, SqT.of er, atI_nat (j := 0) rfl, ha, hv, rfl, SqT.of eh, for_it (J := IteT K ha hv) (n := hv.length) (fun i σ H5 => ∃ v1 v2 v3 : Option V, σ = [some (.ref r), v1, v2, v3] ∧ Same H H5) ⟨_, _, _, rfl, fun _ _ e => e⟩ ?_ ?_ ?_ ?_⟩
  · rintro i σ H5 hi ⟨v1, v2, v3, rfl, s5⟩
    exact ⟨SqT.of (s5 _ _ eh), hi⟩
  · rintro σ H5 ⟨v1, v2, v3, rfl, s5⟩
    exact ⟨SqT.of (s5 _ _ eh), rfl⟩
  · rintro i x σ H5 H6 hi ⟨v1, v2, v3, rfl, s5⟩ ⟨t, y, rfl, nt, rfl, ey⟩
    obtain ⟨h, eh2, t2, rr, rfl, e1, e2⟩ := alh.getL ey
    have gh := ok.good h (List.mem_of_getElem? eh2)
    have s6 := s5.trans (same_new (o := .tup [V.int ((i : Nat) : Int), V.ref t2]) nt)
    refine ⟨t, _, rfl, SqT.of upd_same, rfl, _, _, rfl, _, _, rfl, t2, _, rfl, SqT.of (s6 _ _ e1), rfl, _, _, rfl, _, _, rfl, rfl, rfl, ?_⟩
    refine ⟨_, rfl, _, rfl, r, hs, bs, i, rfl, hR.keep (TK.same s6), by omega, fun c H7 nc hc s7 => ?_⟩
    refine ⟨c, _, rfl, .inl (SqL.of hc), _, rfl, rr, h.wd, _, rfl, e2.keep (TK.same (s6.trans s7)), gh.eleven, rfl, _, rfl, if_bl (fun e => ?_) (fun _ => ⟨_, _, _, rfl, s6.trans s7⟩)⟩
    have cnt := ok.count i h eh2
    rw [needs_needN gh.eleven, count_filter] at cnt
    have lc : ((comingN bs i).map nV).length = (comeB bs i).length := by rw [List.length_map]; exact (come_list bs i).length
    rw [lc] at e
    unfold comeB at e
    rw [cnt] at e
    simp at e
  · rintro σ H5 ⟨v1, v2, v3, rfl, s5⟩
    exact q _ s5
end
/-! ### belts without things -/
abbrev DSt (g : TG) (tt : TT) (tk tv : TE) (vs : List Nat) (σ : L2.St) (D : Addr) (x : V) (H' : Hp) (N : Hp → Prop) : Prop := g x (wipe σ vs) H' fun σ2 H2 => wipe σ2 vs = wipe σ vs ∧ tt σ2 H2 fun b H3 => if b = true then (tk σ2 H3 fun y H4 => tv σ2 H4 fun z H5 => ∃ kvs k, y = kV k ∧ H5 D = some (.dK kvs) ∧ kvs.length < sizeLine ∧ N (upd H5 D (.dK (putK kvs k z)))) else N H3
theorem dc_range {lo : Int} {n : Nat} {g : TG} {tt : TT} {tk tv : TE} {vs : List Nat} {σ : L2.St} {H1 : Hp} {D : Addr} {Qd : Hp → Prop} (Pv : Nat → Hp → Prop) (h0 : Pv 0 (upd H1 D (.dK []))) (hs : ∀ i H, i < n → Pv i H → DSt g tt tk tv vs σ D (.int (lo + i)) H (Pv (i + 1))) (hd : ∀ H, Pv n H → Qd H) :
    ∃ W : Nat → Nat → Hp → Prop, (∃ m, W 0 m (upd H1 D (.dK []))) ∧ ∀ i m H, W i m H → ((Itr lo n).stop i H ∧ Qd H) ∨ ((Itr lo n).go i H ∧ ∃ Nx : Hp → Prop, (∀ H', Nx H' → ∃ m', m' < m ∧ W (i + 1) m' H') ∧ ∀ x H', (Itr lo n).yld i H x H' → DSt g tt tk tv vs σ D x H' Nx) := by
  refine ⟨fun i m H => m = n - i ∧ i ≤ n ∧ Pv i H, ⟨n, by simp, Nat.zero_le _, h0⟩, ?_⟩
  rintro i m H ⟨rfl, hi, p⟩
  by_cases hlt : i < n
  · refine .inr ⟨hlt, Pv (i + 1), fun H' p' => ⟨n - (i + 1), by omega, rfl, hlt, p'⟩, fun x H' y => ?_⟩
    obtain ⟨e, y⟩ := y
    subst e y
    exact hs i _ hlt p
  · have e : i = n := by omega
    subst e
    exact .inl ⟨Nat.le_refl _, hd H p⟩
/-- the hands that the belts without things lead to -/
def bareSt (bs : List BR) (i : Nat) : List Nat := (bs.filter fun b => decide (b.one = i) && b.th.isEmpty).map BR.to
theorem bare_snoc (bs : List BR) (b : BR) (i : Nat) : bareSt (bs ++ [b]) i = if b.one = i ∧ b.th = [] then bareSt bs i ++ [b.to] else bareSt bs i := by
  unfold bareSt
  rw [List.filter_append, List.map_append]
  by_cases h : b.one = i ∧ b.th = []
  · rw [if_pos h, List.filter_cons, if_pos (by rw [h.1, h.2, decide_eq_true rfl]; rfl)]
    rfl
  · rw [if_neg h, List.filter_cons, if_neg (fun z => h ?_)]
    · exact List.append_nil _
    · rw [Bool.and_eq_true, decide_eq_true_eq, List.isEmpty_iff] at z
      exact z
theorem bare_mem {bs : List BR} {i y : Nat} (h : y ∈ bareSt bs i) : ∃ b ∈ bs, b.one = i ∧ b.th = [] ∧ b.to = y := by
  unfold bareSt at h
  obtain ⟨b, hb, e⟩ := List.mem_map.mp h
  obtain ⟨m, z⟩ := List.mem_filter.mp hb
  rw [Bool.and_eq_true, decide_eq_true_eq, List.isEmpty_iff] at z
  exact ⟨b, m, z.1, z.2, e⟩
theorem bare_len (bs : List BR) (i : Nat) : (bareSt bs i).length ≤ bs.length := by
  unfold bareSt
  rw [List.length_map]
  exact List.length_filter_le ..
theorem bare_none {hs : List HR} {bs : List BR} (ok : RoomL hs bs) (x : Nat) : ¬ OnW (bareSt bs) x x := fun h => by
  obtain ⟨rk, hr⟩ := ok.rank
  have := h.rank (rk := rk) fun x y hy => (by
    obtain ⟨b, hb, e1, e2, e3⟩ := bare_mem hy
    rw [← e1, ← e3]
    exact hr b hb e2)
  omega
theorem stK_none (adr : Nat → Addr) (n : Nat) : valV (stK adr n) (Sum.inl ((n : Nat) : Int)) = none := by
  unfold valV
  rw [Option.map_eq_none_iff, List.find?_eq_none]
  intro kv hk
  obtain ⟨i, hi, rfl⟩ := List.mem_map.mp hk
  have := List.mem_range.mp hi
  intro z
  have := Sum.inl.inj (of_decide_eq_true z)
  omega
theorem stK_put (adr : Nat → Addr) (n : Nat) (p : Addr) : putK (stK adr n) (Sum.inl ((n : Nat) : Int)) (.ref p) = stK (fun j => if j = n then p else adr j) (n + 1) := by
  rw [putK_new _ (stK_none adr n)]
  unfold stK
  rw [List.range_succ, List.map_append]
  congr 1
  · refine List.map_congr_left fun i hi => ?_
    have := List.mem_range.mp hi
    show (_, V.ref (adr i)) = (_, V.ref (if i = n then p else adr i))
    rw [if_neg (by omega)]
  · show [_] = [(_, V.ref (if n = n then p else adr n))]
    rw [if_pos rfl]
/-- the steps under way -/
structure StU (H0 H : Hp) (d : Addr) (n : Nat) (st : Nat → List Nat) : Prop where
  ex : ∃ adr : Nat → Addr, H d = some (.dK (stK adr n)) ∧ (∀ i, i < n → H (adr i) = some (.lst ((st i).map nV)) ∧ H0 (adr i) = none) ∧ (∀ i j, i < n → j < n → adr i = adr j → i = j) ∧ Same H0 H
section
variable {P : Program} {w : World} {K : PySem.W.Frag} {mg : Str → Option Value} {base : Heap}
def sp_hand_on_ring (K : PySem.W.Frag) : Sp := fun vs H Q _ => ∃ (r : Addr) (hs : List HR) (bs : List BR), vs = [.ref r] ∧ RoomAt K H r hs bs ∧ RoomL hs bs ∧ ∀ H', Same H H' → Q .non H'
theorem ok_hand_on_ring {f : Addr} {fd : FuncData} (F : Fun K "hand_on_ring" "hand_on_ring" s_hand_on_ring f fd) {C : Addr} (T : Top w K mg C) : FnOk P w K mg base CX0 3 f fd ["room"] (sp_hand_on_ring K) := by
  obtain ⟨f_first_on_ring, fd_first_on_ring, F_first_on_ring, b_first_on_ring, m_first_on_ring⟩ := T.d_first_on_ring
  have G_first_on_ring := ok_first_on_ring (P := P) (w := w) (base := base) F_first_on_ring T
  refine F.ok sc_hand_on_ring (fun vs H Q E h => ?_) (fun cdv A outer s H vs Q E hr h => ?_)
  · obtain ⟨r, hs, bs, rfl, _⟩ := h
    rfl
  obtain ⟨r, hs, bs, rfl, hR, ok, q⟩ := h
  obtain ⟨ha, ba, hv, bv, er, eh, eb, alh, alb⟩ := hR.ex
  have lhv := alh.length
  have lbv := alb.length
  have lh := ok.hands
  have lb := ok.many
  refine ⟨_, (pss_cons (ps_asg (pv 0) (pg_tupK K rfl rfl (pgs_cons (pg_name (i := 1) sc_hand_on_ring.nd rfl (Or.inl rfl)) (pgs_cons (pg_name (i := 2) sc_hand_on_ring.nd rfl (Or.inl rfl)) pgs_nil))))
      (pss_cons (ps_setDc (i := 3) (own := [("number", 4)]) (g := gName 4) (tt := tYes) (by rfl) sc_hand_on_ring.nd rfl rfl (sw_dc rfl rfl rfl (by decide +kernel)) (pi_range1 (by rfl) T.m_range (pa_cons (pe_callB (call_len_seqK K rfl) (by rfl) T.m_len (by decide +kernel) (pa_cons (pv 1) pa_nil)) pa_nil)) (blkOk_by (own := [("number", 4)]) (N := N_hand_on_ring) (sc := defScope s_hand_on_ring) (by decide +kernel)) (fun _ _ _ _ _ => (pg_name (i := 4) sc_hand_on_ring.nd rfl (Or.inl rfl))) (fun _ _ _ _ _ => pts_nil) (fun _ _ _ _ _ => (pv 4)) (fun _ _ _ _ _ => (pe_lst pa_nil)))
      (pss_cons (ps_for PassesOwn.never rfl (pi_tupK K rfl (pv 2)) (pg_tupK K rfl rfl (pgs_cons (pg_name (i := 5) sc_hand_on_ring.nd rfl (Or.inl rfl)) (pgs_cons (pg_name (i := 6) sc_hand_on_ring.nd rfl (Or.inl rfl)) (pgs_cons (pg_name (i := 7) sc_hand_on_ring.nd rfl (Or.inl rfl)) pgs_nil))))
        (pss_one (ps_if (pt_not (pt_truthK K rfl (pv 7) (by intro _; rfl))) (pss_one (ps_expr (pe_bmK K rfl PySem.F.plainAttrs_list PySem.F.slot_list_append PySem.F.type_list_append mt_append (pe_dget (hu_of hr) (pv 3) (pv 5) (fun _ _ => rfl)) (pa_cons (pv 6) pa_nil)))) pss_nil)))
      (pss_one (ps_ret (pe_call G_first_on_ring (hr.mono (by decide)) (by rfl) m_first_on_ring F_first_on_ring.kp b_first_on_ring .nil pass0 (pa_cons (pe_callTy (call_list_dK rfl) (by rfl) T.m_list (by decide +kernel) (pa_cons (pv 3) pa_nil)) (pa_cons (pv 3) pa_nil)))))))), ?_⟩
  refine ⟨_, rfl, r, _, rfl, SqT.of er, rfl, _, _, rfl, _, _, rfl, rfl, ?_⟩
  refine ⟨_, rfl, ha, _, rfl, .inr (SqT.of eh), _, rfl, by omega, by omega, fun D nD => dc_range (fun i H5 => StU H H5 D i (fun _ => [])) ⟨fun _ => D, upd_same, (fun i z => absurd z (Nat.not_lt_zero _)), (fun i j z => absurd z (Nat.not_lt_zero _)), same_new nD⟩ ?_ ?_⟩
  · rintro i H5 hi ⟨adr, hD, had, inj, s5⟩
    refine ⟨rfl, _, rfl, (by show 0 ≤ sizeLine; decide), fun p np => ?_⟩
    have pD : p ≠ D := fun z => by rw [z, hD] at np; cases np
    have u := same_new (o := .lst []) np
    have lK : (stK adr i).length = i := by unfold stK; rw [List.length_map, List.length_range]
    refine ⟨stK adr i, Sum.inl ((i : Nat) : Int), by rw [Int.zero_add]; rfl, u _ _ hD, by rw [lK]; exact small1000 (by omega), ?_⟩
    rw [stK_put]
    refine ⟨_, upd_same, fun j hj => ?_, fun j k hj hk e => ?_, Same.own (s5.trans u) nD⟩
    · by_cases z : j = i
      · rw [if_pos z]
        refine ⟨by rw [upd_ne pD, upd_same]; rfl, ?_⟩
        cases h0 : H p with
        | none => rfl
        | some o => rw [s5 _ _ h0] at np; cases np
      · rw [if_neg z]
        obtain ⟨a1, a2⟩ := had j (by omega)
        have aD : adr j ≠ D := fun y => by rw [y, hD] at a1; cases a1
        exact ⟨by rw [upd_ne aD]; exact u _ _ a1, a2⟩
    · by_cases z : j = i
      · by_cases y : k = i
        · omega
        · simp only [if_pos z, if_neg y] at e
          rw [e, (had k (by omega)).1] at np
          cases np
      · by_cases y : k = i
        · simp only [if_neg z, if_pos y] at e
          rw [← e, (had j (by omega)).1] at np
          cases np
        · simp only [if_neg z, if_neg y] at e
          exact inj j k (by omega) (by omega) e
  intro H2 su0
  rw [lhv] at su0
  have same0 : ∀ {H5 : Hp} {n : Nat} {st : Nat → List Nat}, StU H H5 D n st → Same H H5 := fun su => by
    obtain ⟨adr, _, _, _, s⟩ := su.ex
    exact s
  refine ⟨_, rfl, ba, rfl, ⟨_, SqT.of (same0 su0 _ _ eb)⟩, for_tup (K := K) (a := ba) (xs := bv) (fun i σ H5 => ∃ v4 v5 v6 v7 : Option V, σ = [some (.ref r), some (.ref ha), some (.ref ba), some (.ref D), v4, v5, v6, v7] ∧ StU H H5 D hs.length (bareSt (bs.take i))) ⟨_, _, _, _, rfl, su0⟩ (fun i σ H5 _ ⟨_, _, _, _, _, su⟩ => SqT.of (same0 su _ _ eb)) ?_ ?_⟩
  · rintro i x σ H5 hx ⟨v4, v5, v6, v7, rfl, su⟩
    obtain ⟨adr, hD, had, inj, s5⟩ := su.ex
    obtain ⟨b, eb2, t, g, rfl, e4, e5⟩ := alb.getL hx
    have tk : bs.take (i + 1) = bs.take i ++ [b] := by rw [List.take_add_one, eb2]; rfl
    obtain ⟨n1, n2⟩ := ok.ends b (List.mem_of_getElem? eb2)
    have bq : ∀ j, bareSt (bs.take (i + 1)) j = if b.one = j ∧ b.th = [] then bareSt (bs.take i) j ++ [b.to] else bareSt (bs.take i) j := fun j => by rw [tk, bare_snoc]
    refine ⟨t, _, rfl, SqT.of (s5 _ _ e4), rfl, _, _, rfl, _, _, rfl, _, _, rfl, rfl, ?_⟩
    refine ⟨_, rfl, _, .inr (.inl ⟨_, SqT.of (s5 _ _ e5), rfl⟩), if_bl (fun z => ?_) (fun z => ?_)⟩
    · have bare : b.th = [] := by
        cases hb : b.th with
        | nil => rfl
        | cons y l => rw [hb] at z; cases z
      obtain ⟨a1, a2⟩ := had b.one n1
      have st5 : StAt H5 D hs.length (bareSt (bs.take i)) := ⟨adr, hD, fun j hj => (had j hj).1⟩
      have gt : DGet H5 D (nV b.one) (some (.ref (adr b.one))) := by
        have := DGet.k (k := Sum.inl ((b.one : Nat) : Int)) hD
        rwa [stK_at n1] at this
      have few := bare_len (bs.take i) b.one
      have few2 : (bs.take i).length ≤ bs.length := by rw [List.length_take]; exact Nat.min_le_right ..
      have aD : D ≠ adr b.one := fun y => by rw [← y, hD] at a1; cases a1
      refine ⟨_, rfl, _, rfl, D, _, rfl, gt, .inl ⟨rfl, _, SqL.of a1⟩, _, rfl, adr b.one, _, _, rfl, rfl, a1, by rw [List.length_map]; exact small1000 (by omega), _, _, _, _, rfl, ⟨adr, by rw [upd_ne aD]; exact hD, fun j hj => ⟨?_, (had j hj).2⟩, inj, Same.own s5 a2⟩⟩
      rw [bq]
      by_cases y : b.one = j
      · subst y
        rw [if_pos ⟨rfl, bare⟩, upd_same, List.map_append]
        rfl
      · rw [if_neg (fun c => y c.1), upd_ne (fun c => y (inj _ _ hj n1 c).symm)]
        exact (had j hj).1
    · have bare : b.th ≠ [] := fun y => by rw [y] at z; cases z
      refine ⟨_, _, _, _, rfl, ⟨adr, hD, fun j hj => ⟨?_, (had j hj).2⟩, inj, s5⟩⟩
      rw [bq, if_neg (fun c => bare c.2)]
      exact (had j hj).1
  · rintro σ H5 ⟨v4, v5, v6, v7, rfl, su⟩
    rw [lbv, List.take_length] at su
    obtain ⟨adr, hD, had, inj, s5⟩ := su.ex
    refine ⟨_, rfl, D, _, rfl, hD, fun pl npl => ?_⟩
    have s6 := same_new (o := .lst ((stK adr hs.length).map fun kv => kV kv.1)) npl
    refine ⟨_, rfl, pl, D, hs.length, List.range hs.length, bareSt bs, rfl, ?_, fun x hx => List.mem_range.mp hx, ⟨adr, s6 _ _ hD, fun j hj => s6 _ _ (had j hj).1⟩, by omega, fun j hj => ⟨by have := bare_len bs j; omega, fun y hy => ?_⟩, fun v H7 fw s7 => ?_⟩
    · rw [upd_same]
      unfold stK
      rw [List.map_map]
      rfl
    · obtain ⟨b, hb, _, _, e⟩ := bare_mem hy
      rw [← e]
      exact (ok.ends b hb).2
    · rcases fw with ⟨rfl, _⟩ | ⟨_, x, _, _, hw, _⟩
      · exact q _ (s5.trans (s6.trans s7))
      · exact absurd hw (bare_none ok x)
def sp_refuse_room (K : PySem.W.Frag) : Sp := fun vs H Q _ => ∃ z : Str, vs = [.str z, .non] ∧ Q .non H
theorem ok_refuse_room {f : Addr} {fd : FuncData} (F : Fun K "refuse_room" "refuse_room" s_refuse_room f fd) {C : Addr} (T : Top w K mg C) : FnOk P w K mg base CX0 1 f fd ["word", "at"] (sp_refuse_room K) := by
  refine F.ok sc_refuse_room (fun vs H Q E h => ?_) (fun cdv A outer s H vs Q E hr h => ?_)
  · obtain ⟨z, rfl, _⟩ := h
    rfl
  obtain ⟨z, rfl, q⟩ := h
  refine ⟨_, (pss_one (ps_if (pt_cmpR op_notN (pv 1) pe_non (nomark _)) (pss_one ps_dead) pss_nil)), ?_⟩
  exact ⟨_, rfl, rfl, _, rfl, if_bl (fun z => nomatch z) (fun _ => q)⟩
variable {cF cB : Addr} {PT : Addr × Addr} [TF : TabF K mg base cF PT] [TC : TabC K mg base cB PT]
include TF TC
def sp_look_room (K : PySem.W.Frag) (PT : Addr × Addr) : Sp := fun vs H Q _ => ∃ (r : Addr) (hs : List HR) (bs : List BR), vs = [.ref r] ∧ RoomAt K H r hs bs ∧ RoomL hs bs ∧ Tb2 PT H ∧ ∀ H', LamX.ExtN H H' → Tb2 PT H' → Q (.bl true) H'
theorem ok_look_room {f : Addr} {fd : FuncData} (F : Fun K "look_room" "look_room" s_look_room f fd) {C : Addr} (T : Top w K mg C) : FnOk P w K mg base CX0 6 f fd ["room"] (sp_look_room K PT) := by
  obtain ⟨f_refuse_room, fd_refuse_room, F_refuse_room, b_refuse_room, m_refuse_room⟩ := T.d_refuse_room
  have G_refuse_room := ok_refuse_room (P := P) (w := w) (base := base) F_refuse_room T
  obtain ⟨f_has_form, fd_has_form, F_has_form, b_has_form, m_has_form⟩ := T.d_has_form
  have G_has_form := ok_has_form (P := P) (w := w) (base := base) F_has_form (TF.cd _ _ F_has_form m_has_form) T
  obtain ⟨f_wrong_hand, fd_wrong_hand, F_wrong_hand, b_wrong_hand, m_wrong_hand⟩ := T.d_wrong_hand
  have G_wrong_hand := ok_wrong_hand (P := P) (w := w) (base := base) F_wrong_hand T
  obtain ⟨f_wrong_belt, fd_wrong_belt, F_wrong_belt, b_wrong_belt, m_wrong_belt⟩ := T.d_wrong_belt
  have G_wrong_belt := ok_wrong_belt (P := P) (w := w) (base := base) F_wrong_belt T
  obtain ⟨f_wrong_count, fd_wrong_count, F_wrong_count, b_wrong_count, m_wrong_count⟩ := T.d_wrong_count
  have G_wrong_count := ok_wrong_count (P := P) (w := w) (base := base) F_wrong_count T
  obtain ⟨f_hand_on_ring, fd_hand_on_ring, F_hand_on_ring, b_hand_on_ring, m_hand_on_ring⟩ := T.d_hand_on_ring
  have G_hand_on_ring := ok_hand_on_ring (P := P) (w := w) (base := base) F_hand_on_ring T
  refine F.ok sc_look_room (fun vs H Q E h => ?_) (fun cdv A outer s H vs Q E hr h => ?_)
  · obtain ⟨r, hs, bs, rfl, _⟩ := h
    rfl
  obtain ⟨r, hs, bs, rfl, hR, ok, tb, q⟩ := h
  refine ⟨_, (pss_cons (ps_if (pt_not (pt_val (pe_call G_has_form (hr.mono (by decide)) (by rfl) m_has_form F_has_form.kp b_has_form .nil pass0 (pa_cons (pv 0) pa_nil)))) (pss_one ps_dead) pss_nil)
      (pss_cons (ps_expr (pe_call G_refuse_room (hr.mono (by decide)) (by rfl) m_refuse_room F_refuse_room.kp b_refuse_room .nil pass0 (pa_cons pe_str (pa_cons (pe_call G_wrong_hand (hr.mono (by decide)) (by rfl) m_wrong_hand F_wrong_hand.kp b_wrong_hand .nil pass0 (pa_cons (pv 0) pa_nil)) pa_nil))))
      (pss_cons (ps_expr (pe_call G_refuse_room (hr.mono (by decide)) (by rfl) m_refuse_room F_refuse_room.kp b_refuse_room .nil pass0 (pa_cons pe_str (pa_cons (pe_call G_wrong_belt (hr.mono (by decide)) (by rfl) m_wrong_belt F_wrong_belt.kp b_wrong_belt .nil pass0 (pa_cons (pv 0) pa_nil)) pa_nil))))
      (pss_cons (ps_expr (pe_call G_refuse_room (hr.mono (by decide)) (by rfl) m_refuse_room F_refuse_room.kp b_refuse_room .nil pass0 (pa_cons pe_str (pa_cons (pe_call G_wrong_count (hr.mono (by decide)) (by rfl) m_wrong_count F_wrong_count.kp b_wrong_count .nil pass0 (pa_cons (pv 0) pa_nil)) pa_nil))))
      (pss_cons (ps_expr (pe_call G_refuse_room (hr.mono (by decide)) (by rfl) m_refuse_room F_refuse_room.kp b_refuse_room .nil pass0 (pa_cons pe_str (pa_cons (pe_call G_hand_on_ring (hr.mono (by decide)) (by rfl) m_hand_on_ring F_hand_on_ring.kp b_hand_on_ring .nil pass0 (pa_cons (pv 0) pa_nil)) pa_nil))))
      (pss_one (ps_ret pe_bl))))))), ?_⟩
  refine ⟨_, rfl, r, hs, bs, rfl, hR, tb, fun H1 e1 tb1 => ⟨_, rfl, if_bl (fun z => nomatch z) (fun _ => ?_)⟩⟩
  have hR1 := hR.keep (tk_ext e1)
  refine ⟨_, rfl, r, hs, bs, rfl, hR1, ok, fun H2 s2 => ⟨_, rfl, ?_⟩⟩
  have hR2 := hR1.keep (TK.same s2)
  refine ⟨_, rfl, r, hs, bs, rfl, hR2, ok, fun H3 s3 => ⟨_, rfl, ?_⟩⟩
  have hR3 := hR2.keep (TK.same s3)
  refine ⟨_, rfl, r, hs, bs, rfl, hR3, ok, fun H4 s4 => ⟨_, rfl, ?_⟩⟩
  have hR4 := hR3.keep (TK.same s4)
  refine ⟨_, rfl, r, hs, bs, rfl, hR4, ok, fun H5 s5 => ⟨_, rfl, ?_⟩⟩
  have ss := s2.trans (s3.trans (s4.trans s5))
  exact q _ (e1.trans (ext_same ss)) (tb1.same ss)
end
/-! ### rooms made of formulas, as data -/
/-- the things of a name ahead of bell 0, the latest first -/
def bfr (F : Fm) (n : Str) : List Int := match F.was.find? fun p => decide (p.1 = n) with
  | some p => p.2
  | none => []
theorem Tr.kidInd {Pr : Tr → Prop} (h : ∀ t, (∀ u ∈ t.kids, Pr u) → Pr t) : ∀ t, Pr t := by
  intro t
  induction t with
  | nm n k =>
    refine h _ fun u m => ?_
    cases m
  | no i =>
    refine h _ fun u m => ?_
    cases m
  | tm k t ih =>
    refine h _ fun u m => ?_
    have m : u ∈ [t] := m
    rw [List.mem_singleton.mp m]
    exact ih
  | o2 w a b i1 i2 =>
    refine h _ fun u m => ?_
    have m : u ∈ [a, b] := m
    simp only [List.mem_cons, List.not_mem_nil, or_false] at m
    rcases m with rfl | rfl
    · exact i1
    · exact i2
  | o3 a b c i1 i2 i3 =>
    refine h _ fun u m => ?_
    have m : u ∈ [a, b, c] := m
    simp only [List.mem_cons, List.not_mem_nil, or_false] at m
    rcases m with rfl | rfl | rfl
    · exact i1
    · exact i2
    · exact i3
/-- a source: whence a belt comes, what lies on it -/
abbrev Src := Nat × List Int
def Tr.hr (mo : Str → Int) : Tr → HR
  | .nm _ _ => ⟨"same", none, mo "same"⟩
  | .no i => ⟨"always", some i, mo "always"⟩
  | .tm k _ => ⟨"times", some k, mo "times"⟩
  | .o2 w _ _ => ⟨w.s, none, mo w.s⟩
  | .o3 _ _ _ => ⟨"pick", none, mo "pick"⟩
theorem Tr.hr_rl (mo : Str → Int) (t : Tr) : ruleL (t.hr mo) = t.rl := by cases t <;> rfl
theorem Tr.hr_mom (mo : Str → Int) (t : Tr) : (t.hr mo).mom = mo (t.hr mo).wd := by cases t <;> rfl
theorem good_none {z : Str} {m : Int} (h : z ∈ nine) (n1 : z ≠ "times") (n2 : z ≠ "always") : GoodRule ⟨z, none, m⟩ := ⟨h, ⟨(fun z => nomatch z), fun z => z.elim (fun e => absurd e n1) fun e => absurd e n2⟩, fun n e => nomatch e⟩
theorem W2.nine (w : W2) : w.s ∈ Mine.nine ∧ w.s ≠ "times" ∧ w.s ≠ "always" := by cases w <;> decide +kernel
theorem Tr.hr_good {mo : Str → Int} {t : Tr} (h : t.small) : GoodRule (t.hr mo) := by
  cases t with
  | nm n k => exact good_none (z := "same") (by decide +kernel) (by decide +kernel) (by decide +kernel)
  | no i => exact ⟨(by show ("always" : Str) ∈ nine; decide +kernel), ⟨fun _ => .inr rfl, fun _ => rfl⟩, fun n e => by cases e; exact h⟩
  | tm k t =>
    have h1 : (-9 : Int) ≤ k ∧ k ≤ 9 := h.1
    exact ⟨(by show ("times" : Str) ∈ nine; decide +kernel), ⟨fun _ => .inl rfl, fun _ => rfl⟩, fun n e => by cases e; omega⟩
  | o2 w a b => exact good_none w.nine.1 w.nine.2.1 w.nine.2.2
  | o3 a b c => exact good_none (z := "pick") (by decide +kernel) (by decide +kernel) (by decide +kernel)
/-- how many sources a hand of this tree takes -/
def Tr.ar (t : Tr) : Nat := if t.isNm = true then 1 else t.kids.length
theorem Tr.hr_needs (mo : Str → Int) (t : Tr) : needs (t.hr mo).wd = ((t.ar : Nat) : Int) := by
  cases t with
  | nm n k => show needs "same" = ((1 : Nat) : Int); decide +kernel
  | no i => show needs "always" = ((0 : Nat) : Int); decide +kernel
  | tm k t => show needs "times" = ((1 : Nat) : Int); decide +kernel
  | o2 w a b => show needs w.s = ((2 : Nat) : Int); cases w <;> decide +kernel
  | o3 a b c => show needs "pick" = ((3 : Nat) : Int); decide +kernel
def Fm.n0 (F : Fm) : Nat := F.own.length
def home (F : Fm) (n : Str) : Nat := F.own.idxOf n
def ahead (F : Fm) (n : Str) (k : Nat) : List Int := (List.range k).map fun j => (bfr F n).getD (k - 1 - j) 0
theorem ahead_len (F : Fm) (n : Str) (k : Nat) : (ahead F n k).length = k := by unfold ahead; rw [List.length_map, List.length_range]
theorem home_lt {F : Fm} {n : Str} (h : n ∈ F.own) : home F n < F.n0 := List.idxOf_lt_length_of_mem h
def srcOf (F : Fm) (q : Str × Nat) : Src := (home F q.1, ahead F q.1 q.2)
def toB (g : Nat) (l : List Src) : List BR := l.map fun s => ⟨s.1, g, s.2⟩
structure Ms where
  inn : List HR
  bs : List BR
  st : List Src
def stp (F : Fm) (mo : Str → Int) (p : Tr) (s : Ms) : Option Ms :=
  if p.isNm = true then some ⟨s.inn, s.bs, s.st ++ [srcOf F p.ofNm]⟩
  else if p.kids.length ≤ s.st.length then some ⟨s.inn ++ [p.hr mo], s.bs ++ toB (F.n0 + s.inn.length) (s.st.drop (s.st.length - p.kids.length)), s.st.take (s.st.length - p.kids.length) ++ [(F.n0 + s.inn.length, [])]⟩
  else none
def runP (F : Fm) (mo : Str → Int) : List Tr → Ms → Option Ms
  | [], s => some s
  | p :: r, s => (stp F mo p s).bind (runP F mo r)
theorem stp_op {F : Fm} {mo : Str → Int} {p : Tr} (un : p.isNm = false) {inn : List HR} {bs : List BR} {st xs : List Src} (h : xs.length = p.kids.length) : stp F mo p ⟨inn, bs, st ++ xs⟩ = some ⟨inn ++ [p.hr mo], bs ++ toB (F.n0 + inn.length) xs, st ++ [(F.n0 + inn.length, [])]⟩ := by
  have e : (st ++ xs).length - p.kids.length = st.length := by rw [List.length_append, h]; omega
  unfold stp
  rw [un, if_neg Bool.false_ne_true, if_pos (by show p.kids.length ≤ (st ++ xs).length; rw [List.length_append]; omega)]
  show some (Ms.mk _ (bs ++ toB _ ((st ++ xs).drop ((st ++ xs).length - p.kids.length))) ((st ++ xs).take ((st ++ xs).length - p.kids.length) ++ _)) = _
  rw [e, List.drop_left' rfl, List.take_left' rfl]
theorem run_app {F : Fm} {mo : Str → Int} : ∀ {l : List Tr} {r : List Tr} {s : Ms}, runP F mo (l ++ r) s = (runP F mo l s).bind (runP F mo r)
  | [], r, s => rfl
  | p :: l, r, s => by
    show (stp F mo p s).bind (runP F mo (l ++ r)) = ((stp F mo p s).bind (runP F mo l)).bind (runP F mo r)
    cases stp F mo p s with
    | none => rfl
    | some s1 => exact run_app (l := l)
theorem run_subs {F : Fm} {mo : Str → Int} : ∀ {ts : List Tr}, (∀ u ∈ ts, ∀ s : Ms, ∃ s1 x, runP F mo u.parts s = some s1 ∧ s1.st = s.st ++ [x]) → ∀ s : Ms, ∃ s1 xs, runP F mo (ts.flatMap Tr.parts) s = some s1 ∧ s1.st = s.st ++ xs ∧ xs.length = ts.length
  | [], _, s => ⟨s, [], rfl, (List.append_nil _).symm, rfl⟩
  | u :: ts, h, s => by
    obtain ⟨s1, x, e1, g1⟩ := h u (List.mem_cons_self ..) s
    obtain ⟨s2, xs, e2, g2, g3⟩ := run_subs (ts := ts) (fun v m => h v (List.mem_cons_of_mem _ m)) s1
    refine ⟨s2, x :: xs, ?_, ?_, by rw [List.length_cons, List.length_cons, g3]⟩
    · rw [List.flatMap_cons, run_app, e1]; exact e2
    · rw [g2, g1, List.append_assoc]; rfl
theorem run_parts {F : Fm} {mo : Str → Int} : ∀ (t : Tr) (s : Ms), ∃ s1 x, runP F mo t.parts s = some s1 ∧ s1.st = s.st ++ [x] := by
  refine Tr.kidInd fun t ih s => ?_
  obtain ⟨s1, xs, e1, g1, g2⟩ := run_subs ih s
  rw [t.parts_eq, run_app, e1]
  show ∃ s2 x, (stp F mo t s1).bind (runP F mo []) = some s2 ∧ _
  cases h : t.isNm with
  | true =>
    have k0 : t.kids = [] := by cases t <;> first | rfl | cases h
    rw [k0] at g2
    have : xs = [] := List.length_eq_zero_iff.mp g2
    refine ⟨⟨s1.inn, s1.bs, s1.st ++ [srcOf F t.ofNm]⟩, srcOf F t.ofNm, ?_, ?_⟩
    · unfold stp; rw [if_pos h]; rfl
    · show s1.st ++ _ = _; rw [g1, this, List.append_nil]
  | false =>
    obtain ⟨inn, bs, st⟩ := s1
    have g1 : st = s.st ++ xs := g1
    rw [g1, stp_op h g2]
    exact ⟨_, _, rfl, rfl⟩
/-- all parts but the tree itself -/
def Tr.sub (t : Tr) : List Tr := t.kids.flatMap Tr.parts
theorem Tr.parts_sub (t : Tr) : t.parts = t.sub ++ [t] := t.parts_eq
theorem run_sub {F : Fm} {mo : Str → Int} (t : Tr) (inn : List HR) (bs : List BR) : ∃ s1, runP F mo t.sub ⟨inn, bs, []⟩ = some s1 ∧ s1.st.length = t.kids.length := by
  obtain ⟨s1, xs, e1, g1, g2⟩ := run_subs (F := F) (mo := mo) (ts := t.kids) (fun u _ => run_parts u) ⟨inn, bs, []⟩
  exact ⟨s1, e1, by rw [g1]; exact g2⟩
/-- what is so of a part that is put there for a rule of rank b -/
def Pok (F : Fm) (R : Str → Nat) (b : Nat) (p : Tr) : Prop := p.small ∧ (p.isNm = true → p.ofNm.1 ∈ F.own ∧ (p.ofNm.2 = 0 → R p.ofNm.1 < b) ∧ ThOk (srcOf F p.ofNm).2)
structure Mkr (F : Fm) (mo : Str → Int) (R : Str → Nat) (ho : List HR) (b m : Nat) (s : Ms) (rk : Nat → Nat) : Prop where
  inn : ∀ h ∈ s.inn, GoodRule h ∧ h.mom = mo h.wd
  ends : ∀ e ∈ s.bs, e.one < F.n0 + s.inn.length ∧ e.to < F.n0 + s.inn.length
  rank : ∀ e ∈ s.bs, e.th = [] → rk e.one < rk e.to
  home : ∀ n ∈ F.own, rk (home F n) = 1000 * R n + 999
  count : ∀ k h, (ho ++ s.inn)[k]? = some h → (((s.bs.map BR.to).count k : Nat) : Int) = needs h.wd
  st : ∀ c ∈ s.st, c.1 < F.n0 + s.inn.length ∧ (c.2 = [] → rk c.1 < 1000 * b + (F.n0 + s.inn.length))
  len : s.inn.length ≤ m ∧ s.bs.length + s.st.length ≤ m
  tst : ∀ c ∈ s.st, ThOk c.2
  tbs : ∀ e ∈ s.bs, ThOk e.th
theorem toB_to (g : Nat) (l : List Src) : (toB g l).map BR.to = List.replicate l.length g := by
  unfold toB
  rw [List.map_map]
  induction l with
  | nil => rfl
  | cons x l ih => rw [List.map_cons, ih]; rfl
theorem toB_mem {g : Nat} {l : List Src} {e : BR} (h : e ∈ toB g l) : ∃ c ∈ l, e = ⟨c.1, g, c.2⟩ := by
  unfold toB at h
  obtain ⟨c, m, rfl⟩ := List.mem_map.mp h
  exact ⟨c, m, rfl⟩
theorem count_none {l : List BR} {k : Nat} (h : ∀ e ∈ l, e.to < k) : (l.map BR.to).count k = 0 := by
  rw [List.count_eq_zero]
  intro z
  obtain ⟨e, m, q⟩ := List.mem_map.mp z
  have := h e m
  omega
theorem src_ok {F : Fm} {mo : Str → Int} {R : Str → Nat} {ho : List HR} {b m : Nat} {s : Ms} {rk : Nat → Nat} (a : Mkr F mo R ho b m s rk) {p : Tr} (hp : Pok F R b p) (h : p.isNm = true) : (srcOf F p.ofNm).1 < F.n0 + s.inn.length ∧ ((srcOf F p.ofNm).2 = [] → rk (srcOf F p.ofNm).1 < 1000 * b + (F.n0 + s.inn.length)) := by
  obtain ⟨g1, g2, _⟩ := hp.2 h
  refine ⟨Nat.lt_of_lt_of_le (home_lt g1) (Nat.le_add_right ..), fun z => ?_⟩
  have z0 : p.ofNm.2 = 0 := by
    have := ahead_len F p.ofNm.1 p.ofNm.2
    have z : ahead F p.ofNm.1 p.ofNm.2 = [] := z
    rw [z] at this
    exact this.symm
  have := g2 z0
  show rk (Mine.home F p.ofNm.1) < _
  rw [a.home _ g1]
  omega
theorem Mkr.step {F : Fm} {mo : Str → Int} {R : Str → Nat} {ho : List HR} {b m : Nat} {s s' : Ms} {rk : Nat → Nat} (a : Mkr F mo R ho b m s rk) (lho : ho.length = F.n0) {p : Tr} (hp : Pok F R b p) (e : stp F mo p s = some s') : ∃ rk', Mkr F mo R ho b (m + 1) s' rk' := by
  obtain ⟨l1, l2⟩ := a.len
  unfold stp at e
  cases h : p.isNm with
  | true =>
    rw [if_pos h] at e
    obtain rfl := Option.some.inj e
    refine ⟨rk, a.inn, a.ends, a.rank, a.home, a.count, fun c hc => ?_, ⟨Nat.le_succ_of_le l1, ?_⟩, fun c hc => ?_, a.tbs⟩
    · rcases List.mem_append.mp hc with hc | hc
      · exact a.st c hc
      · rw [List.mem_singleton.mp hc]; exact src_ok a hp h
    · show s.bs.length + (s.st ++ [_]).length ≤ _
      rw [List.length_append]
      show _ + (_ + 1) ≤ _
      omega
    · rcases List.mem_append.mp hc with hc | hc
      · exact a.tst c hc
      · rw [List.mem_singleton.mp hc]; exact (hp.2 h).2.2
  | false =>
    rw [h, if_neg Bool.false_ne_true] at e
    by_cases kl : p.kids.length ≤ s.st.length
    · rw [if_pos kl] at e
      obtain rfl := Option.some.inj e
      obtain ⟨g, hg⟩ : ∃ g, g = F.n0 + s.inn.length := ⟨_, rfl⟩
      rw [← hg]
      obtain ⟨xs, hxs⟩ : ∃ xs, xs = s.st.drop (s.st.length - p.kids.length) := ⟨_, rfl⟩
      obtain ⟨st0, hst0⟩ : ∃ x, x = s.st.take (s.st.length - p.kids.length) := ⟨_, rfl⟩
      rw [← hxs, ← hst0]
      have lxs : xs.length = p.kids.length := by rw [hxs, List.length_drop]; omega
      have lst : st0.length = s.st.length - p.kids.length := by rw [hst0, List.length_take]; omega
      have mx : ∀ c ∈ xs, c ∈ s.st := fun c hc => by rw [hxs] at hc; exact List.mem_of_mem_drop hc
      have m0 : ∀ c ∈ st0, c ∈ s.st := fun c hc => by rw [hst0] at hc; exact List.mem_of_mem_take hc
      have l9 : (s.inn ++ [p.hr mo]).length = s.inn.length + 1 := by rw [List.length_append]; rfl
      have ne : ∀ {j : Nat}, j < g → (if j = g then 1000 * b + g else rk j) = rk j := fun hj => if_neg (Nat.ne_of_lt hj)
      refine ⟨fun j => if j = g then 1000 * b + g else rk j, fun h9 hh => ?_, fun e9 he => ?_, fun e9 he th => ?_, fun n hn => ?_, fun k h9 hk => ?_, fun c hc => ?_, ⟨?_, ?_⟩, fun c hc => ?_, fun e9 he => ?_⟩
      · rcases List.mem_append.mp hh with hh | hh
        · exact a.inn h9 hh
        · rw [List.mem_singleton.mp hh]
          exact ⟨Tr.hr_good hp.1, p.hr_mom mo⟩
      · show e9.one < F.n0 + (s.inn ++ [p.hr mo]).length ∧ e9.to < F.n0 + (s.inn ++ [p.hr mo]).length
        rw [l9]
        rcases List.mem_append.mp he with he | he
        · have := a.ends e9 he; omega
        · obtain ⟨c, mc, rfl⟩ := toB_mem he
          have := (a.st c (mx c mc)).1
          exact ⟨by show c.1 < _; omega, by show g < _; omega⟩
      · rcases List.mem_append.mp he with he | he
        · have := a.ends e9 he
          show (if e9.one = g then _ else _) < (if e9.to = g then _ else _)
          rw [ne (by omega), ne (by omega)]
          exact a.rank e9 he th
        · obtain ⟨c, mc, rfl⟩ := toB_mem he
          have q := a.st c (mx c mc)
          show (if c.1 = g then _ else _) < (if g = g then _ else _)
          rw [ne (by omega), if_pos rfl, hg]
          exact q.2 th
      · have := home_lt hn
        show (if Mine.home F n = g then _ else _) = _
        rw [ne (by omega)]
        exact a.home n hn
      · have hk : (ho ++ (s.inn ++ [p.hr mo]))[k]? = some h9 := hk
        rw [← List.append_assoc] at hk
        have lg : (ho ++ s.inn).length = g := by rw [List.length_append, lho, hg]
        show ((((s.bs ++ toB g xs).map BR.to).count k : Nat) : Int) = _
        rw [List.map_append, List.count_append, toB_to, List.count_replicate]
        by_cases kg : k < g
        · rw [List.getElem?_append_left (by omega)] at hk
          rw [if_neg (by simp; omega), Nat.add_zero]
          exact a.count k h9 hk
        · rw [List.getElem?_append_right (by omega), lg] at hk
          have k0 : k - g = 0 := by
            cases z : k - g with
            | zero => rfl
            | succ j => rw [z] at hk; cases hk
          rw [k0] at hk
          obtain rfl : p.hr mo = h9 := Option.some.inj hk
          have kg2 : k = g := by omega
          subst kg2
          rw [if_pos (beq_self_eq_true k), count_none fun e9 he => by have := a.ends e9 he; omega, Nat.zero_add, p.hr_needs mo]
          unfold Tr.ar
          rw [h, if_neg Bool.false_ne_true, lxs]
      · show c.1 < F.n0 + (s.inn ++ [p.hr mo]).length ∧ (c.2 = [] → (if c.1 = g then 1000 * b + g else rk c.1) < 1000 * b + (F.n0 + (s.inn ++ [p.hr mo]).length))
        rw [l9]
        have hc : c ∈ st0 ++ [(g, [])] := hc
        rcases List.mem_append.mp hc with hc | hc
        · have q := a.st c (m0 c hc)
          refine ⟨by omega, fun z => ?_⟩
          rw [ne (by omega)]
          have := q.2 z
          omega
        · rw [List.mem_singleton.mp hc]
          refine ⟨by show g < _; omega, fun _ => ?_⟩
          show (if g = g then 1000 * b + g else rk g) < _
          rw [if_pos rfl]
          omega
      · rw [l9]; omega
      · show (s.bs ++ toB g xs).length + (st0 ++ [(g, ([] : List Int))]).length ≤ _
        have lt : (toB g xs).length = xs.length := by unfold toB; rw [List.length_map]
        rw [List.length_append, List.length_append, lt, lxs, lst]
        show _ + (_ + 1) ≤ _
        omega
      · have hc : c ∈ st0 ++ [(g, [])] := hc
        rcases List.mem_append.mp hc with hc | hc
        · exact a.tst c (m0 c hc)
        · rw [List.mem_singleton.mp hc]; exact ⟨Nat.zero_le _, fun x m => by cases m⟩
      · rcases List.mem_append.mp he with he | he
        · exact a.tbs e9 he
        · obtain ⟨c, mc, rfl⟩ := toB_mem he
          exact a.tst c (mx c mc)
    · rw [if_neg kl] at e
      cases e
theorem Mkr.run {F : Fm} {mo : Str → Int} {R : Str → Nat} {ho : List HR} {b : Nat} (lho : ho.length = F.n0) : ∀ {l : List Tr} {m : Nat} {s s' : Ms} {rk : Nat → Nat}, Mkr F mo R ho b m s rk → (∀ p ∈ l, Pok F R b p) → runP F mo l s = some s' → ∃ rk', Mkr F mo R ho b (m + l.length) s' rk'
  | [], m, s, s', rk, a, _, e => by
    obtain rfl := Option.some.inj e
    exact ⟨rk, a⟩
  | p :: l, m, s, s', rk, a, hl, e => by
    have e : (stp F mo p s).bind (runP F mo l) = some s' := e
    cases h : stp F mo p s with
    | none => rw [h] at e; cases e
    | some s1 =>
      rw [h] at e
      obtain ⟨rk1, a1⟩ := a.step lho (hl p (List.mem_cons_self ..)) h
      obtain ⟨rk2, a2⟩ := Mkr.run lho a1 (fun q m => hl q (List.mem_cons_of_mem _ m)) e
      exact ⟨rk2, by rw [List.length_cons, show m + (l.length + 1) = m + 1 + l.length by omega]; exact a2⟩
/-! ### rules put there, one behind the other -/
structure Rm where
  ho : List HR
  inn : List HR
  bs : List BR
abbrev inH : HR := ⟨"in", none, 0⟩
abbrev outH : HR := ⟨"out", none, 0⟩
/-- the sources of a rule's own hand -/
def rootS (F : Fm) (t : Tr) (st : List Src) : List Src := st ++ (if t.isNm = true then [srcOf F t.ofNm] else [])
def putR (F : Fm) (mo : Str → Int) (p : Str × Tr) (s : Rm) : Option Rm := (runP F mo p.2.sub ⟨s.inn, s.bs, []⟩).map fun s1 => ⟨s.ho.set (home F p.1) (p.2.hr mo), s1.inn, s1.bs ++ toB (home F p.1) (rootS F p.2 s1.st)⟩
def putAll (F : Fm) (mo : Str → Int) : List (Str × Tr) → Rm → Option Rm
  | [], s => some s
  | p :: r, s => (putR F mo p s).bind (putAll F mo r)
def rm0 (F : Fm) : Rm := ⟨List.replicate F.n0 inH, [], []⟩
def outB (F : Fm) (g : Nat) : List Str → List BR
  | [] => []
  | n :: r => ⟨home F n, g, []⟩ :: outB F (g + 1) r
theorem outB_snoc (F : Fm) (n : Str) : ∀ (l : List Str) (g : Nat), outB F g (l ++ [n]) = outB F g l ++ [⟨home F n, g + l.length, []⟩]
  | [], g => rfl
  | x :: l, g => by
    show _ :: outB F (g + 1) (l ++ [n]) = _ :: outB F (g + 1) l ++ _
    rw [outB_snoc F n l (g + 1), List.length_cons, show g + 1 + l.length = g + (l.length + 1) by omega]
    rfl
theorem outB_len (F : Fm) : ∀ (l : List Str) (g : Nat), (outB F g l).length = l.length
  | [], _ => rfl
  | x :: l, g => by show (outB F (g + 1) l).length + 1 = _; rw [outB_len F l]; rfl
theorem outB_mem {F : Fm} : ∀ {l : List Str} {g : Nat} {e : BR}, e ∈ outB F g l → ∃ i n, l[i]? = some n ∧ e = ⟨home F n, g + i, []⟩
  | [], _, _, h => by cases h
  | x :: l, g, e, h => by
    rcases List.mem_cons.mp h with rfl | h
    · exact ⟨0, x, rfl, rfl⟩
    · obtain ⟨i, n, e1, e2⟩ := outB_mem h
      exact ⟨i + 1, n, e1, by rw [e2, show g + 1 + i = g + (i + 1) by omega]⟩
theorem outB_count (F : Fm) : ∀ (l : List Str) (g k : Nat), ((outB F g l).map BR.to).count k = if g ≤ k ∧ k < g + l.length then 1 else 0
  | [], g, k => by rw [if_neg (fun z => by have : k < g + 0 := z.2; omega)]; rfl
  | x :: l, g, k => by
    show ((⟨home F x, g, []⟩ :: outB F (g + 1) l : List BR).map BR.to).count k = _
    rw [List.map_cons, List.count_cons, outB_count F l (g + 1) k, List.length_cons]
    by_cases h : g = k
    · subst h
      rw [if_neg (by omega), if_pos (by simp), if_pos (by omega)]
    · rw [if_neg (show ¬ ((g == k) = true) by simpa using h), Nat.add_zero]
      by_cases h2 : g + 1 ≤ k ∧ k < g + 1 + l.length
      · rw [if_pos h2, if_pos (by omega)]
      · rw [if_neg h2, if_neg (by omega)]
/-- the room that is made -/
def roomHs (F : Fm) (s : Rm) : List HR := s.ho ++ s.inn ++ List.replicate F.outs.length outH
def roomBs (F : Fm) (s : Rm) : List BR := s.bs ++ outB F (F.n0 + s.inn.length) F.outs
/-- what stands when so many rules are put there -/
structure Rk (F : Fm) (mo : Str → Int) (R : Str → Nat) (i m : Nat) (s : Rm) (rk : Nat → Nat) : Prop where
  ho : s.ho = List.replicate F.ins.length inH ++ (F.rules.take i).map (fun p => p.2.hr mo) ++ List.replicate (F.rules.length - i) inH
  ks : ∀ b, Mkr F mo R s.ho b m ⟨s.inn, s.bs, []⟩ rk
theorem own_len (F : Fm) : F.n0 = F.ins.length + F.rules.length := by unfold Fm.n0 Fm.own; rw [List.length_append, List.length_map]
theorem home_rule {F : Fm} (nd : F.own.Nodup) {i : Nat} {p : Str × Tr} (e : F.rules[i]? = some p) : home F p.1 = F.ins.length + i := by
  have hi := (List.getElem?_eq_some_iff.mp e).1
  have e2 : F.own[F.ins.length + i]? = some p.1 := by
    unfold Fm.own
    rw [List.getElem?_append_right (by omega), show F.ins.length + i - F.ins.length = i by omega, List.getElem?_map, e]
    rfl
  have hm : p.1 ∈ F.own := List.mem_of_getElem? e2
  have e3 : F.own[home F p.1]? = some p.1 := by
    unfold home
    rw [List.getElem?_eq_getElem (List.idxOf_lt_length_of_mem hm), List.getElem_idxOf]
  exact nodup_get nd e3 e2
theorem Rk.zero {F : Fm} {mo : Str → Int} {R : Str → Nat} (nd : F.own.Nodup) : ∃ rk, Rk F mo R 0 0 (rm0 F) rk := by
  refine ⟨fun j => match F.own[j]? with | some n => 1000 * R n + 999 | none => 0, ?_, fun b => ⟨(fun h m => by cases m), (fun e m => by cases m), (fun e m => by cases m), fun n hn => ?_, fun k h hk => ?_, (fun c m => by cases m), ⟨Nat.le_refl _, Nat.le_refl _⟩, (fun c m => by cases m), fun e m => by cases m⟩⟩
  · show List.replicate F.n0 inH = _
    rw [List.take_zero, List.map_nil, List.append_nil, List.replicate_append_replicate, own_len]
    rfl
  · show (match F.own[home F n]? with | some n => 1000 * R n + 999 | none => 0) = _
    unfold home
    rw [List.getElem?_eq_getElem (List.idxOf_lt_length_of_mem hn), List.getElem_idxOf]
  · have hk : (List.replicate F.n0 inH ++ [])[k]? = some h := hk
    rw [List.append_nil, List.getElem?_replicate] at hk
    split at hk
    · obtain rfl := Option.some.inj hk
      show ((([] : List Nat).count k : Nat) : Int) = needs "in"
      rw [List.count_nil]
      decide +kernel
    · cases hk
theorem Rk.lho {F : Fm} {mo : Str → Int} {R : Str → Nat} {i m : Nat} {s : Rm} {rk : Nat → Nat} (a : Rk F mo R i m s rk) (hi : i ≤ F.rules.length) : s.ho.length = F.n0 := by
  rw [a.ho, own_len, List.length_append, List.length_append, List.length_replicate, List.length_replicate, List.length_map, List.length_take]
  omega
theorem Rk.step {F : Fm} {mo : Str → Int} {R : Str → Nat} {i m : Nat} {s : Rm} {rk : Nat → Nat} (nd : F.own.Nodup) (a : Rk F mo R i m s rk) {p : Str × Tr} (e : F.rules[i]? = some p) (hp : ∀ u ∈ p.2.parts, Pok F R (R p.1) u) (few : F.n0 + (m + p.2.parts.length) ≤ 900) :
    ∃ s' rk', putR F mo p s = some s' ∧ Rk F mo R (i + 1) (m + p.2.parts.length) s' rk' := by
  obtain ⟨name, t⟩ := p
  have e : F.rules[i]? = some (name, t) := e
  have hp : ∀ u ∈ t.parts, Pok F R (R name) u := hp
  have few : F.n0 + (m + t.parts.length) ≤ 900 := few
  have hi := (List.getElem?_eq_some_iff.mp e).1
  have lho := a.lho (by omega)
  have hh : home F name = F.ins.length + i := home_rule nd e
  have nO : name ∈ F.own := by
    unfold Fm.own
    exact List.mem_append.mpr (.inr (List.mem_map.mpr ⟨_, List.mem_of_getElem? e, rfl⟩))
  obtain ⟨s1, e1, ls1⟩ := run_sub (F := F) (mo := mo) t s.inn s.bs
  have ps : t.parts = t.sub ++ [t] := t.parts_sub
  have lps : t.parts.length = t.sub.length + 1 := by rw [ps, List.length_append]; rfl
  obtain ⟨rk1, a1⟩ := Mkr.run lho (a.ks (R name)) (fun u m => hp u (by rw [ps]; exact List.mem_append.mpr (.inl m))) e1
  have tp := hp t (by rw [ps]; exact List.mem_append.mpr (.inr (List.mem_singleton.mpr rfl)))
  obtain ⟨l1, l2⟩ := a1.len
  have lr : (rootS F t s1.st).length = t.ar := by
    unfold rootS Tr.ar
    rw [List.length_append, ls1]
    cases h : t.isNm with
    | true =>
      have k0 : t.kids = [] := by cases t <;> first | rfl | cases h
      rw [k0]; rfl
    | false => rfl
  have ar1 : t.ar ≤ t.kids.length + 1 := by unfold Tr.ar; split <;> omega
  have rs : ∀ c ∈ rootS F t s1.st, c.1 < F.n0 + s1.inn.length ∧ (c.2 = [] → rk1 c.1 < 1000 * R name + (F.n0 + s1.inn.length)) := fun c hc => by
    unfold rootS at hc
    rcases List.mem_append.mp hc with hc | hc
    · exact a1.st c hc
    · by_cases h : t.isNm = true
      · rw [if_pos h] at hc
        rw [List.mem_singleton.mp hc]
        exact src_ok a1 tp h
      · rw [if_neg h] at hc; cases hc
  have hn : F.ins.length + i < F.n0 := by rw [own_len]; omega
  have hoi : s.ho[F.ins.length + i]? = some inH := by
    rw [a.ho, List.getElem?_append_right (by rw [List.length_append, List.length_replicate, List.length_map, List.length_take]; omega), List.length_append, List.length_replicate, List.length_map, List.length_take, Nat.min_eq_left (by omega), Nat.sub_self, List.getElem?_replicate, if_pos (by omega)]
  refine ⟨_, rk1, by unfold putR; rw [e1]; rfl, ?_, fun b => ⟨a1.inn, fun e9 he => ?_, fun e9 he th => ?_, a1.home, fun k h9 hk => ?_, (fun c m => by cases m), ⟨?_, ?_⟩, (fun c m => by cases m), fun e9 he => ?_⟩⟩
  · show s.ho.set (home F name) (t.hr mo) = _
    rw [hh, a.ho, List.set_append_right _ _ (by rw [List.length_append, List.length_replicate, List.length_map, List.length_take]; omega)]
    rw [List.length_append, List.length_replicate, List.length_map, List.length_take, Nat.min_eq_left (by omega), Nat.sub_self]
    have : F.rules.length - i = F.rules.length - (i + 1) + 1 := by omega
    rw [this, List.replicate_succ, List.set_cons_zero, List.take_add_one, e, List.map_append]
    simp
  · have he : e9 ∈ s1.bs ++ toB (home F name) (rootS F t s1.st) := he
    show e9.one < F.n0 + s1.inn.length ∧ e9.to < F.n0 + s1.inn.length
    rcases List.mem_append.mp he with he | he
    · exact a1.ends e9 he
    · obtain ⟨c, mc, rfl⟩ := toB_mem he
      exact ⟨(rs c mc).1, by show home F name < _; omega⟩
  · have he : e9 ∈ s1.bs ++ toB (home F name) (rootS F t s1.st) := he
    rcases List.mem_append.mp he with he | he
    · exact a1.rank e9 he th
    · obtain ⟨c, mc, rfl⟩ := toB_mem he
      have q := (rs c mc).2 th
      show rk1 c.1 < rk1 (home F name)
      rw [a1.home _ nO]
      omega
  · have hk : (s.ho.set (home F name) (t.hr mo) ++ s1.inn)[k]? = some h9 := hk
    show ((((s1.bs ++ toB (home F name) (rootS F t s1.st)).map BR.to).count k : Nat) : Int) = _
    rw [List.map_append, List.count_append, toB_to, List.count_replicate, hh]
    rw [hh] at hk
    by_cases kh : F.ins.length + i = k
    · subst kh
      rw [List.getElem?_append_left (by rw [List.length_set]; omega), List.getElem?_set_self (by omega)] at hk
      obtain rfl := Option.some.inj hk
      have c0 := a1.count (F.ins.length + i) inH (by rw [List.getElem?_append_left (by omega)]; exact hoi)
      have n0 : needs inH.wd = 0 := by decide +kernel
      rw [n0] at c0
      rw [if_pos (beq_self_eq_true _), t.hr_needs mo, lr, Int.natCast_add, c0]
      omega
    · rw [if_neg (show ¬ ((F.ins.length + i == k) = true) by simpa using kh), Nat.add_zero]
      refine a1.count k h9 ?_
      by_cases kl : k < s.ho.length
      · rw [List.getElem?_append_left (by rw [List.length_set]; exact kl), List.getElem?_set_ne kh] at hk
        rw [List.getElem?_append_left kl]; exact hk
      · rw [List.getElem?_append_right (by rw [List.length_set]; omega), List.length_set] at hk
        rw [List.getElem?_append_right (by omega)]; exact hk
  · show s1.inn.length ≤ m + t.parts.length; omega
  · show (s1.bs ++ toB (home F name) (rootS F t s1.st)).length + 0 ≤ m + t.parts.length
    have lt : (toB (home F name) (rootS F t s1.st)).length = t.ar := by unfold toB; rw [List.length_map, lr]
    rw [List.length_append, lt]
    omega
  · have he : e9 ∈ s1.bs ++ toB (home F name) (rootS F t s1.st) := he
    rcases List.mem_append.mp he with he | he
    · exact a1.tbs e9 he
    · obtain ⟨c, mc, rfl⟩ := toB_mem he
      show ThOk c.2
      unfold rootS at mc
      rcases List.mem_append.mp mc with mc | mc
      · exact a1.tst c mc
      · by_cases h : t.isNm = true
        · rw [if_pos h] at mc
          rw [List.mem_singleton.mp mc]
          exact (tp.2 h).2.2
        · rw [if_neg h] at mc; cases mc
def sumP (l : List (Str × Tr)) : Nat := (l.map fun p => p.2.parts.length).sum
theorem sumP_snoc (l : List (Str × Tr)) (p : Str × Tr) : sumP (l ++ [p]) = sumP l + p.2.parts.length := by
  unfold sumP
  rw [List.map_append, List.sum_append]
  simp
theorem putAll_snoc {F : Fm} {mo : Str → Int} (p : Str × Tr) : ∀ (l : List (Str × Tr)) (s : Rm), putAll F mo (l ++ [p]) s = (putAll F mo l s).bind (putR F mo p)
  | [], s => by
    show (putR F mo p s).bind (putAll F mo []) = putR F mo p s
    cases putR F mo p s <;> rfl
  | q :: l, s => by
    show (putR F mo q s).bind (putAll F mo (l ++ [p])) = ((putR F mo q s).bind (putAll F mo l)).bind _
    cases putR F mo q s with
    | none => rfl
    | some s1 => exact putAll_snoc p l s1
theorem sumP_le {l : List (Str × Tr)} (i : Nat) : sumP (l.take i) ≤ sumP l := by
  have : sumP l = sumP (l.take i) + sumP (l.drop i) := by
    unfold sumP
    rw [← List.sum_append, ← List.map_append, List.take_append_drop]
  omega
theorem Rk.all {F : Fm} {mo : Str → Int} {R : Str → Nat} (nd : F.own.Nodup) (hp : ∀ p ∈ F.rules, ∀ u ∈ p.2.parts, Pok F R (R p.1) u) (few : F.n0 + sumP F.rules ≤ 900) : ∀ i, i ≤ F.rules.length → ∃ s rk, putAll F mo (F.rules.take i) (rm0 F) = some s ∧ Rk F mo R i (sumP (F.rules.take i)) s rk
  | 0, _ => by
    obtain ⟨rk, h⟩ := Rk.zero (mo := mo) (R := R) nd
    exact ⟨_, rk, by rw [List.take_zero]; rfl, by rw [List.take_zero]; exact h⟩
  | i + 1, hi => by
    obtain ⟨s, rk, e, a⟩ := Rk.all nd hp few i (by omega)
    have eg : F.rules[i]? = some F.rules[i] := List.getElem?_eq_getElem (by omega)
    have tk : F.rules.take (i + 1) = F.rules.take i ++ [F.rules[i]] := by rw [List.take_add_one, eg]; rfl
    have le := sumP_le (l := F.rules) (i + 1)
    rw [tk, sumP_snoc] at le
    obtain ⟨s2, rk2, e2, a2⟩ := a.step nd eg (hp _ (List.getElem_mem _)) (by omega)
    refine ⟨s2, rk2, ?_, ?_⟩
    · rw [tk, putAll_snoc, e]; exact e2
    · rw [tk, sumP_snoc]; exact a2
/-- the made room's hands and belts -/
structure MadeIs (F : Fm) (mo : Str → Int) (s : Rm) : Prop where
  run : putAll F mo F.rules (rm0 F) = some s
  ho : s.ho = List.replicate F.ins.length inH ++ F.rules.map (fun p => p.2.hr mo)
  inn : ∀ h ∈ s.inn, GoodRule h ∧ h.mom = mo h.wd
  few : s.inn.length ≤ sumP F.rules
  ok : RoomL (roomHs F s) (roomBs F s)
  lho : s.ho.length = F.n0
  chain : ∀ i, i ≤ F.rules.length → ∃ r, putAll F mo (F.rules.take i) (rm0 F) = some r ∧ r.ho.length = F.n0 ∧ F.n0 + r.inn.length ≤ 300 ∧ r.bs.length ≤ 300
theorem bound_all {α : Type} (f : α → Nat) : ∀ l : List α, ∃ M, ∀ x ∈ l, f x < M
  | [] => ⟨0, fun x m => by cases m⟩
  | y :: l => by
    obtain ⟨M, h⟩ := bound_all f l
    refine ⟨max M (f y + 1), fun x m => ?_⟩
    rcases List.mem_cons.mp m with rfl | m
    · exact Nat.lt_of_lt_of_le (Nat.lt_succ_self _) (Nat.le_max_right ..)
    · exact Nat.lt_of_lt_of_le (h x m) (Nat.le_max_left ..)
theorem made_is {F : Fm} {mo : Str → Int} (R : Str → Nat) (nd : F.own.Nodup) (hp : ∀ p ∈ F.rules, ∀ u ∈ p.2.parts, Pok F R (R p.1) u) (few : F.n0 + sumP F.rules ≤ 300) (oo : ∀ z ∈ F.outs, z ∈ F.own) (lo : F.outs.length ≤ 50) (hmo : ∀ z, 0 ≤ mo z ∧ mo z ≤ 30) : ∃ s, MadeIs F mo s := by
  obtain ⟨s, rk, e, a⟩ := Rk.all (mo := mo) nd hp (by omega) F.rules.length (Nat.le_refl _)
  rw [List.take_length] at e a
  have ho := a.ho
  rw [List.take_length, Nat.sub_self, List.replicate_zero, List.append_nil] at ho
  have lho := a.lho (Nat.le_refl _)
  have k := a.ks 0
  obtain ⟨l1, l2⟩ := k.len
  have l2 : s.bs.length + 0 ≤ _ := l2
  have l1 : s.inn.length ≤ _ := l1
  have gd : ∀ h ∈ s.ho ++ s.inn, GoodHand h ∧ h.wd ≠ "out" := fun h hh => by
    have gr : ∀ {h : HR}, GoodRule h → h.mom = mo h.wd → GoodHand h ∧ h.wd ≠ "out" := fun g m => ⟨⟨.inl g, by rw [m]; exact hmo _⟩, fun z => by have := g.wd; rw [z] at this; exact absurd this (by decide +kernel)⟩
    rcases List.mem_append.mp hh with hh | hh
    · rw [ho] at hh
      rcases List.mem_append.mp hh with hh | hh
      · rw [(List.mem_replicate.mp hh).2]
        exact ⟨⟨.inr ⟨.inl rfl, rfl, rfl⟩, by decide, by decide⟩, by decide +kernel⟩
      · obtain ⟨p, mp, rfl⟩ := List.mem_map.mp hh
        refine gr (Tr.hr_good (hp p mp p.2 ?_).1) (Tr.hr_mom mo p.2)
        rw [p.2.parts_sub]
        exact List.mem_append.mpr (.inr (List.mem_singleton.mpr rfl))
    · exact gr (k.inn h hh).1 (k.inn h hh).2
  have lhi : (s.ho ++ s.inn).length = F.n0 + s.inn.length := by rw [List.length_append, lho]
  obtain ⟨M, hM⟩ := bound_all (fun z => rk (home F z)) F.outs
  obtain ⟨g, hg⟩ : ∃ g, g = F.n0 + s.inn.length := ⟨_, rfl⟩
  rw [← hg] at lhi
  have lr : (roomHs F s).length = g + F.outs.length := by unfold roomHs; rw [List.length_append, lhi, List.length_replicate]
  have outm : ∀ e ∈ outB F g F.outs, e.one < F.n0 ∧ g ≤ e.to ∧ e.to < g + F.outs.length ∧ ∃ z ∈ F.outs, e.one = home F z := fun e he => by
    obtain ⟨i, n, e1, rfl⟩ := outB_mem he
    have hi := (List.getElem?_eq_some_iff.mp e1).1
    exact ⟨home_lt (oo n (List.mem_of_getElem? e1)), Nat.le_add_right .., by show g + i < _; omega, n, List.mem_of_getElem? e1, rfl⟩
  have ends : ∀ e ∈ s.bs, e.one < g ∧ e.to < g := fun e he => by have := k.ends e he; rw [hg]; exact this
  refine ⟨s, e, ho, k.inn, l1, ⟨?_, fun h hh => ?_, fun b hb => ?_, fun b hb h hh => ?_, ⟨fun j => if j < g then ((rk j : Nat) : Int) else ((M : Nat) : Int), fun b hb th => ?_⟩, fun j h hj => ?_, ?_, fun b hb => ?_⟩, lho, fun i hi => ?_⟩
  · rw [lr]; omega
  · unfold roomHs at hh
    rcases List.mem_append.mp hh with hh | hh
    · exact (gd h hh).1
    · rw [(List.mem_replicate.mp hh).2]
      exact ⟨.inr ⟨.inr rfl, rfl, rfl⟩, by decide, by decide⟩
  · rw [lr]
    unfold roomBs at hb
    rw [← hg] at hb
    rcases List.mem_append.mp hb with hb | hb
    · have := ends b hb; omega
    · have := outm b hb; omega
  · unfold roomBs at hb
    rw [← hg] at hb
    have lt : b.one < g := by
      rcases List.mem_append.mp hb with hb | hb
      · exact (ends b hb).1
      · have := outm b hb; omega
    unfold roomHs at hh
    rw [List.getElem?_append_left (by omega)] at hh
    exact (gd h (List.mem_of_getElem? hh)).2
  · unfold roomBs at hb
    rw [← hg] at hb
    rcases List.mem_append.mp hb with hb | hb
    · obtain ⟨e1, e2⟩ := ends b hb
      show (if b.one < g then _ else _) < (if b.to < g then _ else _)
      rw [if_pos e1, if_pos e2]
      have := k.rank b hb th
      omega
    · obtain ⟨e1, e2, e3, z, mz, ez⟩ := outm b hb
      show (if b.one < g then _ else _) < (if b.to < g then _ else _)
      rw [if_pos (by omega), if_neg (by omega)]
      have q : rk (home F z) < M := hM z mz
      rw [ez]
      omega
  · unfold roomBs
    rw [← hg, List.map_append, List.count_append, outB_count]
    unfold roomHs at hj
    by_cases jg : j < g
    · rw [List.getElem?_append_left (by omega)] at hj
      rw [if_neg (by omega), Nat.add_zero]
      exact k.count j h hj
    · rw [List.getElem?_append_right (by omega), List.getElem?_replicate] at hj
      split at hj
      · rename_i lt
        obtain rfl := Option.some.inj hj
        rw [if_pos (by omega), count_none fun e he => by have := ends e he; omega]
        show ((0 + 1 : Nat) : Int) = needs "out"
        decide +kernel
      · cases hj
  · unfold roomBs
    rw [List.length_append, outB_len]
    omega
  · unfold roomBs at hb
    rcases List.mem_append.mp hb with hb | hb
    · exact k.tbs b hb
    · obtain ⟨i, n, _, rfl⟩ := outB_mem hb
      exact ⟨Nat.zero_le _, fun x m => by cases m⟩
  · obtain ⟨r, rk2, e2, a2⟩ := Rk.all (mo := mo) nd hp (by omega) i hi
    have l3 := ((a2.ks 0).len).1
    have l4 := ((a2.ks 0).len).2
    have l3 : r.inn.length ≤ _ := l3
    have l4 : r.bs.length + 0 ≤ _ := l4
    have := sumP_le (l := F.rules) i
    exact ⟨r, e2, a2.lho hi, by omega, by omega⟩
/-! ### a Making -/
theorem at_getD {ns : List Int} {i : Nat} (h : i < ns.length) : atI (ns.map V.int) ((i : Nat) : Int) = some (.int (ns.getD i 0)) := by
  refine atI_nat ?_
  rw [List.getElem?_map, List.getElem?_eq_getElem h, List.getD_eq_getElem?_getD, List.getElem?_eq_getElem h]
  rfl
/-- what was ahead of bell 0 -/
def BfAt (H : Hp) (wk : List (Key × V)) (F : Fm) : Prop := ∀ n : Str, (valV wk (Sum.inr n) = none ∧ bfr F n = []) ∨ ∃ p, valV wk (Sum.inr n) = some (.ref p) ∧ H p = some (.tup ((bfr F n).map V.int))
theorem BfAt.keep {H H' : Hp} {wk : List (Key × V)} {F : Fm} (h : BfAt H wk F) (k : TK H H') : BfAt H' wk F := fun n => (h n).imp id fun ⟨p, e1, e2⟩ => ⟨p, e1, k _ _ e2⟩
def SrAt (H : Hp) (v : V) (s : Src) : Prop := ∃ t g : Addr, v = .ref t ∧ H t = some (.tup [nV s.1, .ref g]) ∧ H g = some (.tup (s.2.map V.int))
theorem SrAt.keep {H H' : Hp} {v : V} {s : Src} (h : SrAt H v s) (k : TK H H') : SrAt H' v s := by
  obtain ⟨t, g, rfl, e1, e2⟩ := h
  exact ⟨t, g, rfl, k _ _ e1, k _ _ e2⟩
structure Mp where
  M : Addr
  dx : Addr
  md : Addr
  bd : Addr
  hd : Addr
  hl : Addr
  bl : Addr
  mks : List (Key × V)
  bk : List (Key × V)
  hk : List (Key × V)
abbrev Mp.fs (p : Mp) : List (Str × V) := [("moments", .ref p.md), ("before", .ref p.bd), ("homes", .ref p.hd), ("hands", .ref p.hl), ("belts", .ref p.bl)]
/-- a Making: hv on its list of hands, bv on that of belts -/
structure MgA (C : Addr) (H : Hp) (F : Fm) (mo : Str → Int) (p : Mp) (hv bv : List V) : Prop where
  hM : H p.M = some (.ins C p.dx p.fs)
  hmd : H p.md = some (.dK p.mks)
  mom : ∀ z, (valV p.mks (Sum.inr z)).getD (.int 0) = .int (mo z)
  hbd : H p.bd = some (.dK p.bk)
  bf : BfAt H p.bk F
  hhd : H p.hd = some (.dK p.hk)
  hom : ∀ n ∈ F.own, valV p.hk (Sum.inr n) = some (nV (home F n))
  hhl : H p.hl = some (.lst hv)
  hbl : H p.bl = some (.lst bv)
  ne : p.hl ≠ p.bl
/-- all stands but the lists of hands and belts -/
def Bm (p : Mp) (H H' : Hp) : Prop := ∀ b o, H b = some o → b ≠ p.hl → b ≠ p.bl → H' b = some o
theorem Bm.refl {p : Mp} {H : Hp} : Bm p H H := fun _ _ e _ _ => e
theorem Bm.trans {p : Mp} {H H1 H2 : Hp} (a : Bm p H H1) (b : Bm p H1 H2) : Bm p H H2 := fun x o e n1 n2 => b x o (a x o e n1 n2) n1 n2
theorem Bm.same {p : Mp} {H H1 H2 : Hp} (a : Bm p H H1) (s : Same H1 H2) : Bm p H H2 := fun x o e n1 n2 => s x o (a x o e n1 n2)
theorem Bm.of {p : Mp} {H H1 : Hp} (s : Same H H1) : Bm p H H1 := fun x o e _ _ => s x o e
theorem Bm.hl {p : Mp} {H H1 : Hp} {o : HO} (a : Bm p H H1) : Bm p H (upd H1 p.hl o) := fun x u e n1 n2 => by rw [upd_ne n1]; exact a x u e n1 n2
theorem Bm.bl {p : Mp} {H H1 : Hp} {o : HO} (a : Bm p H H1) : Bm p H (upd H1 p.bl o) := fun x u e n1 n2 => by rw [upd_ne n2]; exact a x u e n1 n2
theorem Bm.own {p : Mp} {H H1 : Hp} {x : Addr} {o : HO} (a : Bm p H H1) (n : H x = none) : Bm p H (upd H1 x o) := fun y u e n1 n2 => by rw [upd_ne fun z => by rw [z, n] at e; cases e]; exact a y u e n1 n2
section
variable {C : Addr} {H H' : Hp} {F : Fm} {mo : Str → Int} {p : Mp} {hv bv hv' bv' : List V}
theorem MgA.off {x : Addr} {o : HO} (a : MgA C H F mo p hv bv) (e : H x = some o) (n : ∀ xs, o ≠ .lst xs) : x ≠ p.hl ∧ x ≠ p.bl := by
  refine ⟨fun z => ?_, fun z => ?_⟩
  · rw [z, a.hhl] at e; exact n _ (Option.some.inj e).symm
  · rw [z, a.hbl] at e; exact n _ (Option.some.inj e).symm
theorem MgA.tk (a : MgA C H F mo p hv bv) (b : Bm p H H') : TK H H' := fun x xs e => by
  obtain ⟨n1, n2⟩ := a.off e fun _ z => nomatch z
  exact b _ _ e n1 n2
theorem MgA.go (a : MgA C H F mo p hv bv) (b : Bm p H H') (h1 : H' p.hl = some (.lst hv')) (h2 : H' p.bl = some (.lst bv')) : MgA C H' F mo p hv' bv' := by
  have k : ∀ {x : Addr} {o : HO}, H x = some o → (∀ xs, o ≠ .lst xs) → H' x = some o := fun e n => by
    obtain ⟨n1, n2⟩ := a.off e n
    exact b _ _ e n1 n2
  exact ⟨k a.hM (fun _ z => nomatch z), k a.hmd (fun _ z => nomatch z), a.mom, k a.hbd (fun _ z => nomatch z), a.bf.keep (a.tk b), k a.hhd (fun _ z => nomatch z), a.hom, h1, h2, a.ne⟩
theorem MgA.same (a : MgA C H F mo p hv bv) (s : Same H H') : MgA C H' F mo p hv bv := a.go (.of s) (s _ _ a.hhl) (s _ _ a.hbl)
end
theorem cut_last (xs : List V) (x : V) : cutV (xs ++ [x]) none (some (-1)) = xs := by
  unfold cutV
  have e1 : HT.sIx (xs ++ [x]).length 0 none = 0 := rfl
  have e2 : HT.sIx (xs ++ [x]).length (xs ++ [x]).length (some (-1)) = xs.length := by
    rw [List.length_append]
    show HT.sIx (xs.length + 1) (xs.length + 1) (some (-1)) = xs.length
    unfold HT.sIx
    simp
    try omega
  rw [e1, e2, List.drop_zero, Nat.sub_zero, List.take_left' rfl]
theorem at_last (xs : List V) (x : V) : atI (xs ++ [x]) (-1) = some x := by
  unfold atI ixN
  rw [if_neg (by decide), if_pos (by rw [List.length_append]; show -((xs.length + 1 : Nat) : Int) ≤ -1; omega)]
  show (xs ++ [x])[(-1 + (((xs ++ [x]).length : Nat) : Int)).toNat]? = some x
  rw [List.length_append, show (-1 + ((xs.length + [x].length : Nat) : Int)).toNat = xs.length by show (-1 + ((xs.length + 1 : Nat) : Int)).toNat = _; omega]
  rw [List.getElem?_append_right (Nat.le_refl _), Nat.sub_self]
  rfl
section
variable {P : Program} {w : World} {K : PySem.W.Frag} {mg : Str → Option Value} {base : Heap}
def sp_thing_at (K : PySem.W.Frag) : Sp := fun vs H Q _ => ∃ (l p : Addr) (ps : List Int) (b : Int), vs = [.ref l, .ref p, .int b] ∧ SqT K H p (ps.map V.int) ∧ b < 0 ∧ Q (.int (ps.getD (-1 - b).toNat 0)) H
theorem ok_thing_at {f : Addr} {fd : FuncData} (F : Fun K "thing_at" "thing_at" s_thing_at f fd) {C : Addr} (T : Top w K mg C) : FnOk P w K mg base CX0 1 f fd ["since", "before", "bell"] (sp_thing_at K) := by
  refine F.ok sc_thing_at (fun vs H Q E h => ?_) (fun cdv A outer s H vs Q E hr h => ?_)
  · obtain ⟨l, p, ps, b, rfl, _⟩ := h
    rfl
  obtain ⟨l, p, ps, b, rfl, hp, lt, q⟩ := h
  refine ⟨_, (pss_cons (ps_if (pt_cmpR op_ge (pv 2) pe_int (nomark _)) (pss_one (ps_ret (pe_ix (ix_listK K rfl) (pv 0) (pv 2) (fun _ _ => rfl)))) pss_nil)
      (pss_cons (ps_set (i := 3) sc_thing_at.nd rfl (Or.inl rfl) (pe_op op_sub (pe_un un_neg pe_int) (pv 2)))
      (pss_one (ps_ret (pe_ifExp (pt_cmpR op_lt (pv 3) (pe_callB (call_len_seqK K rfl) (by rfl) T.m_len (by decide +kernel) (pa_cons (pv 1) pa_nil)) (nomark _)) (pe_ix (ix_tupK K rfl) (pv 1) (pv 3) (fun _ _ => rfl)) pe_int))))), ?_⟩
  refine ⟨_, rfl, _, _, rfl, rfl, _, rfl, if_bl (fun c => ?_) (fun c => ?_)⟩
  · have c0 : 0 ≤ b := of_decide_eq_true c
    omega
  · refine ⟨_, rfl, _, rfl, _, _, rfl, rfl, ?_⟩
    have e : -1 - b = (((-1 - b).toNat : Nat) : Int) := by omega
    refine ⟨_, rfl, _, rfl, p, _, rfl, .inr hp, _, _, rfl, rfl, _, rfl, if_bl (fun d => ?_) (fun d => ?_)⟩
    · have d0 : -1 - b < (((ps.map V.int).length : Nat) : Int) := of_decide_eq_true d
      rw [List.length_map] at d0
      exact ⟨_, rfl, _, rfl, p, _, -1 - b, _, rfl, rfl, hp, by rw [e]; exact at_getD (by omega), q⟩
    · have d0 : ¬ -1 - b < (((ps.map V.int).length : Nat) : Int) := of_decide_eq_false d
      rw [List.length_map] at d0
      rw [List.getD_eq_getElem?_getD, List.getElem?_eq_none (by omega)] at q
      exact q
def sp_Making_settle (K : PySem.W.Frag) (C : Addr) : Sp := fun vs H Q _ => ∃ (F : Fm) (mo : Str → Int) (p : Mp) (hv bv : List V) (n : Nat) (rr sl : Addr) (h : HR) (sv : List V) (ss : List Src), vs = [.ref p.M, nV n, .ref rr, .ref sl] ∧ MgA C H F mo p hv bv ∧ n < hv.length ∧ RuAt K H rr (ruleL h) ∧ h.mom = mo h.wd ∧ H sl = some (.lst sv) ∧ All2 (SrAt H) sv ss ∧ sl ≠ p.hl ∧ bv.length + ss.length ≤ 1000 ∧
  ∀ (v : V) (ws : List V) (H' : Hp), HandAt K H' v h → All2 (BeltAt H') ws (toB n ss) → H' p.hl = some (.lst (hv.set n v)) → H' p.bl = some (.lst (bv ++ ws)) → Bm p H H' → Q .non H'
theorem ok_Making_settle {f : Addr} {fd : FuncData} (F : Fun K "settle" "Making.settle" s_Making_settle f fd) {C : Addr} (T : Top w K mg C) : FnOk P w K mg base CX0 1 f fd ["self", "number", "rule", "sources"] (sp_Making_settle K C) := by
  refine F.ok sc_Making_settle (fun vs H Q E h => ?_) (fun cdv A outer s H vs Q E hr h => ?_)
  · obtain ⟨F, mo, p, hv, bv, n, rr, sl, h, sv, ss, rfl, _⟩ := h
    rfl
  obtain ⟨F, mo, p, hv, bv, n, rr, sl, h, sv, ss, rfl, a, hn, hrr, hm, hsl, al, nsl, few, q⟩ := h
  refine ⟨_, (pss_cons (ps_asg (pe_tup (pa_cons (pv 2) (pa_cons (pe_dget2 (hu_of hr) (pe_fldK K rfl (pv 0) rfl) (pe_ix (ix_tupK K rfl) (pv 2) pe_int (fun _ _ => rfl)) pe_int ⟨by rfl, by rfl, by rfl, by rfl⟩) pa_nil))) (pg_sub (pe_fldK K rfl (pv 0) rfl) (pv 1) set_list))
      (pss_one (ps_expr (pe_bmK K rfl PySem.F.plainAttrs_list PySem.F.slot_list_extend PySem.F.type_list_extend mt_extend (pe_fldK K rfl (pv 0) rfl) (pa_cons (pe_lc (own := [("giver", 4), ("things", 5)]) (g := gTup K 2 (gCons (gName 4) (gCons (gName 5) gNil))) (tt := tYes) (by rfl) sc_Making_settle.nd (pi_listK K rfl (pv 3)) (blkOk_by (own := [("giver", 4), ("things", 5)]) (N := N_Making_settle) (sc := defScope s_Making_settle) (by decide +kernel)) (fun _ _ _ _ _ => (pg_tupK K rfl rfl (pgs_cons (pg_name (i := 4) sc_Making_settle.nd rfl (Or.inl rfl)) (pgs_cons (pg_name (i := 5) sc_Making_settle.nd rfl (Or.inl rfl)) pgs_nil)))) (fun _ _ _ _ _ => pts_nil) (fun _ _ _ _ _ => (pe_tup (pa_cons (pv 4) (pa_cons (pv 1) (pa_cons (pv 5) pa_nil)))))) pa_nil))))), ?_⟩
  have g1 : DGet H p.md (.str h.wd) (valV p.mks (Sum.inr h.wd)) := DGet.k (k := Sum.inr h.wd) a.hmd
  refine ⟨_, rfl, _, rfl, p.M, C, p.dx, _, _, rfl, a.hM, T.cl, T.n_moments, rfl, p.md, rfl, .inl ⟨_, .inl a.hmd⟩, _, rfl, rr, _, _, _, rfl, rfl, hrr.sq, atI_nat (j := 0) rfl, valV p.mks (Sum.inr h.wd), g1, ?_⟩
  rw [a.mom h.wd]
  refine ⟨(by show 2 ≤ sizeLine; decide), fun t nt => ?_⟩
  have s1 : Same H (upd H t (.tup [.ref rr, .int (mo h.wd)])) := same_new nt
  have ht : (upd H t (.tup [.ref rr, .int (mo h.wd)])) t = some (.tup [.ref rr, .int (mo h.wd)]) := upd_same
  generalize upd H t (.tup [.ref rr, .int (mo h.wd)]) = H1 at s1 ht ⊢
  have a1 := a.same s1
  refine ⟨_, rfl, p.M, C, p.dx, _, _, rfl, a1.hM, T.cl, T.n_hands, rfl, _, rfl, p.hl, hv, ((n : Nat) : Int), n, rfl, rfl, a1.hhl, ?_, ?_⟩
  · unfold ixN
    rw [if_pos (Int.natCast_nonneg _), if_pos (by omega), Int.toNat_natCast]
  have k2 : TK H1 (upd H1 p.hl (.lst (hv.set n (.ref t)))) := TK.lst a1.hhl
  have b2 : Bm p H (upd H1 p.hl (.lst (hv.set n (.ref t)))) := (Bm.of s1).hl
  have hhl2 : (upd H1 p.hl (.lst (hv.set n (.ref t)))) p.hl = some (.lst (hv.set n (.ref t))) := upd_same
  have hbl2 : (upd H1 p.hl (.lst (hv.set n (.ref t)))) p.bl = some (.lst bv) := by rw [upd_ne a.ne.symm]; exact a1.hbl
  have hsl2 : (upd H1 p.hl (.lst (hv.set n (.ref t)))) sl = some (.lst sv) := by rw [upd_ne nsl]; exact s1 _ _ hsl
  generalize upd H1 p.hl (.lst (hv.set n (.ref t))) = H2 at k2 b2 hhl2 hbl2 hsl2 ⊢
  have a2 := a.go b2 hhl2 hbl2
  have al2 := al.imp fun _ _ z => z.keep ((TK.same s1).trans k2)
  have lsv := al.length
  refine ⟨_, rfl, p.M, C, p.dx, _, _, rfl, a2.hM, T.cl, T.n_belts, rfl, .inl ⟨rfl, _, SqL.of hbl2⟩, _, rfl, sl, rfl, ⟨_, SqL.of hsl2⟩, fun D nD => ?_⟩
  refine lc_list (K := K) (a := sl) (xs := sv) (fun i H9 => ∃ ws, H9 D = some (.lst ws) ∧ All2 (BeltAt H9) ws ((toB n ss).take i) ∧ Same H2 H9) ⟨[], upd_same, .nil, same_new nD⟩ (fun i H9 _ ⟨_, _, _, s9⟩ => SqL.of (s9 _ _ hsl2)) ?_ ?_
  · rintro i z H9 hz ⟨ws, hD, al9, s9⟩
    obtain ⟨c, hc, ⟨tc, gc, rfl, e1, e2⟩⟩ := al2.getL hz
    have ic := (List.getElem?_eq_some_iff.mp hc).1
    have lw := al9.length
    rw [List.length_take] at lw
    refine ⟨tc, _, rfl, SqT.of (s9 _ _ e1), rfl, _, _, rfl, _, _, rfl, rfl, rfl, yes_in ?_⟩
    refine ⟨_, rfl, _, rfl, _, rfl, (by show 3 ≤ sizeLine; decide), fun t3 nt3 => ?_⟩
    have s10 : Same H9 (upd H9 t3 (.tup [nV c.1, nV n, .ref gc])) := same_new nt3
    have nDp : t3 ≠ D := fun z => by rw [z, hD] at nt3; cases nt3
    refine ⟨ws, s10 _ _ hD, small1000 (by omega), ws ++ [.ref t3], upd_same, ?_, Same.own (s9.trans s10) nD⟩
    have kk : TK H9 (upd (upd H9 t3 (.tup [nV c.1, nV n, .ref gc])) D (.lst (ws ++ [.ref t3]))) := (TK.same s10).trans (TK.lst (s10 _ _ hD))
    have tk : (toB n ss).take (i + 1) = (toB n ss).take i ++ [⟨c.1, n, c.2⟩] := by
      rw [List.take_add_one]
      congr 1
      unfold toB
      rw [List.getElem?_map, hc]
      rfl
    rw [tk]
    refine (al9.imp fun _ _ z => z.keep kk).snoc ⟨t3, gc, rfl, by rw [upd_ne nDp]; exact upd_same, kk _ _ (s9 _ _ e2)⟩
  rintro H9 ⟨ws, hD, al9, s9⟩
  have lt : (toB n ss).length = ss.length := by unfold toB; rw [List.length_map]
  rw [lsv, ← lt, List.take_length] at al9
  have lw := al9.length
  have hbl9 := s9 _ _ hbl2
  refine ⟨p.bl, D, bv, ws, rfl, rfl, hbl9, hD, by rw [sizeLine_eq]; omega, ?_⟩
  have k9 : TK H9 (upd H9 p.bl (.lst (bv ++ ws))) := TK.lst hbl9
  refine q (.ref t) ws _ ⟨t, rr, rfl, k9 _ _ (s9 _ _ (k2 _ _ (by rw [hm]; exact ht))), (hrr.keep (TK.same s1)).keep (k2.trans ((TK.same s9).trans k9))⟩ (al9.imp fun _ _ z => z.keep k9) (by rw [upd_ne a.ne]; exact s9 _ _ hhl2) upd_same (b2.same s9).bl
def sp_Making_put_hand (K : PySem.W.Frag) (C : Addr) : Sp := fun vs H Q _ => ∃ (F : Fm) (mo : Str → Int) (p : Mp) (hv bv : List V) (rr sl : Addr) (h : HR) (sv : List V) (ss : List Src), vs = [.ref p.M, .ref rr, .ref sl] ∧ MgA C H F mo p hv bv ∧ RuAt K H rr (ruleL h) ∧ h.mom = mo h.wd ∧ H sl = some (.lst sv) ∧ All2 (SrAt H) sv ss ∧ sl ≠ p.hl ∧ sl ≠ p.bl ∧ hv.length ≤ 900 ∧ bv.length + ss.length ≤ 1000 ∧
  ∀ (v : V) (ws : List V) (H' : Hp), HandAt K H' v h → All2 (BeltAt H') ws (toB hv.length ss) → H' p.hl = some (.lst (hv ++ [v])) → H' p.bl = some (.lst (bv ++ ws)) → Bm p H H' → Q (nV hv.length) H'
theorem ok_Making_put_hand {f : Addr} {fd : FuncData} (F : Fun K "put_hand" "Making.put_hand" s_Making_put_hand f fd) {C : Addr} (T : Top w K mg C) : FnOk P w K mg base CX0 2 f fd ["self", "rule", "sources"] (sp_Making_put_hand K C) := by
  obtain ⟨f_Making_settle, fd_Making_settle, F_Making_settle, b_Making_settle, m_Making_settle⟩ := T.d_Making_settle
  have G_Making_settle := ok_Making_settle (P := P) (w := w) (base := base) F_Making_settle T
  refine F.ok sc_Making_put_hand (fun vs H Q E h => ?_) (fun cdv A outer s H vs Q E hr h => ?_)
  · obtain ⟨F, mo, p, hv, bv, rr, sl, h, sv, ss, rfl, _⟩ := h
    rfl
  obtain ⟨F, mo, p, hv, bv, rr, sl, h, sv, ss, rfl, a, hrr, hm, hsl, al, nsl, nsl2, lh, few, q⟩ := h
  refine ⟨_, (pss_cons (ps_set (i := 3) sc_Making_put_hand.nd rfl (Or.inl rfl) (pe_callB (call_len_seqK K rfl) (by rfl) T.m_len (by decide +kernel) (pa_cons (pe_fldK K rfl (pv 0) rfl) pa_nil)))
      (pss_cons (ps_expr (pe_bmK K rfl PySem.F.plainAttrs_list PySem.F.slot_list_append PySem.F.type_list_append mt_append (pe_fldK K rfl (pv 0) rfl) (pa_cons pe_non pa_nil)))
      (pss_cons (ps_expr (pe_meth (pv 0) T.cl m_Making_settle G_Making_settle (hr.mono (by decide)) b_Making_settle .nil pass0 (pa_cons (pv 3) (pa_cons (pv 1) (pa_cons (pv 2) pa_nil)))))
      (pss_one (ps_ret (pv 3)))))), ?_⟩
  refine ⟨_, rfl, p.M, C, p.dx, _, _, rfl, a.hM, T.cl, T.n_hands, rfl, p.hl, hv, rfl, .inl (SqL.of a.hhl), ?_⟩
  refine ⟨_, rfl, p.M, C, p.dx, _, _, rfl, a.hM, T.cl, T.n_hands, rfl, .inl ⟨rfl, _, SqL.of a.hhl⟩, p.hl, hv, .non, rfl, rfl, a.hhl, small1000 (by omega), ?_⟩
  have k1 : TK H (upd H p.hl (.lst (hv ++ [.non]))) := TK.lst a.hhl
  have b1 : Bm p H (upd H p.hl (.lst (hv ++ [.non]))) := Bm.refl.hl
  have h1 : (upd H p.hl (.lst (hv ++ [.non]))) p.hl = some (.lst (hv ++ [.non])) := upd_same
  have h2 : (upd H p.hl (.lst (hv ++ [.non]))) p.bl = some (.lst bv) := by rw [upd_ne a.ne.symm]; exact a.hbl
  have h3 : (upd H p.hl (.lst (hv ++ [.non]))) sl = some (.lst sv) := by rw [upd_ne nsl]; exact hsl
  generalize upd H p.hl (.lst (hv ++ [.non])) = H1 at k1 b1 h1 h2 h3 ⊢
  have a1 := a.go b1 h1 h2
  refine ⟨_, rfl, p.M, p.dx, _, rfl, a1.hM, rfl, _, rfl, _, rfl, _, rfl, F, mo, p, hv ++ [.non], bv, hv.length, rr, sl, h, sv, ss, rfl, a1, by rw [List.length_append]; exact Nat.lt_succ_self _, hrr.keep k1, hm, h3, al.imp fun _ _ z => z.keep k1, nsl, few, fun v ws H2 hv2 hw2 e1 e2 b2 => ?_⟩
  rw [show (hv ++ [V.non]).set hv.length v = hv ++ [v] by rw [List.set_append_right _ _ (Nat.le_refl _), Nat.sub_self]; rfl] at e1
  exact ⟨_, rfl, q v ws H2 hv2 hw2 e1 e2 (b1.trans b2)⟩
def sp_Making_source_of (K : PySem.W.Frag) (C : Addr) : Sp := fun vs H Q _ => ∃ (F : Fm) (mo : Str → Int) (p : Mp) (hv bv : List V) (pa : Addr) (n : Str) (k : Nat), vs = [.ref p.M, .ref pa] ∧ MgA C H F mo p hv bv ∧ H pa = some (.tup [.str "name", .str n, nV k]) ∧ n ∈ F.own ∧ k ≤ 100 ∧
  ∀ (t : Addr) (H' : Hp), SrAt H' (.ref t) (srcOf F (n, k)) → Same H H' → Q (.ref t) H'
theorem ok_Making_source_of {f : Addr} {fd : FuncData} (F : Fun K "source_of" "Making.source_of" s_Making_source_of f fd) {C : Addr} (T : Top w K mg C) : FnOk P w K mg base CX0 2 f fd ["self", "part"] (sp_Making_source_of K C) := by
  obtain ⟨f_thing_at, fd_thing_at, F_thing_at, b_thing_at, m_thing_at⟩ := T.d_thing_at
  have G_thing_at := ok_thing_at (P := P) (w := w) (base := base) F_thing_at T
  refine F.ok sc_Making_source_of (fun vs H Q E h => ?_) (fun cdv A outer s H vs Q E hr h => ?_)
  · obtain ⟨F, mo, p, hv, bv, pa, n, k, rfl, _⟩ := h
    rfl
  obtain ⟨F, mo, p, hv, bv, pa, n, k, rfl, a, hpa, hn, hk, q⟩ := h
  refine ⟨_, (pss_cons (ps_asg (pv 1) (pg_tupK K rfl rfl (pgs_cons (pg_name (i := 2) sc_Making_source_of.nd rfl (Or.inl rfl)) (pgs_cons (pg_name (i := 3) sc_Making_source_of.nd rfl (Or.inl rfl)) (pgs_cons (pg_name (i := 4) sc_Making_source_of.nd rfl (Or.inl rfl)) pgs_nil)))))
      (pss_cons (ps_set (i := 5) sc_Making_source_of.nd rfl (Or.inr rfl) (pe_dget2 (hu_of hr) (pe_fldK K rfl (pv 0) rfl) (pv 3) (pe_tup pa_nil) ⟨by rfl, by rfl, by rfl, by rfl⟩))
      (pss_one (ps_ret (pe_tup (pa_cons (pe_dget (hu_of hr) (pe_fldK K rfl (pv 0) rfl) (pv 3) (fun _ _ => rfl)) (pa_cons (pe_callTy (call_tuple_ofK K rfl) (by rfl) T.m_tuple (by decide +kernel) (pa_cons (pe_lc (own := [("bell", 6)]) (g := gName 6) (tt := tYes) (by rfl) sc_Making_source_of.nd (pi_range2 (by rfl) T.m_range (pa_cons (pe_un un_neg (pv 4)) (pa_cons pe_int pa_nil))) (blkOk_by (own := [("bell", 6)]) (N := N_Making_source_of) (sc := defScope s_Making_source_of) (by decide +kernel)) (fun _ _ _ _ _ => (pg_name (i := 6) sc_Making_source_of.nd rfl (Or.inl rfl))) (fun _ _ _ _ _ => pts_nil) (fun _ _ _ _ _ => (pe_call G_thing_at (hr.mono (by decide)) (by rfl) m_thing_at F_thing_at.kp b_thing_at .nil pass0 (pa_cons (pe_tup pa_nil) (pa_cons (pv 5) (pa_cons (pv 6) pa_nil)))))) pa_nil)) pa_nil))))))), ?_⟩
  refine ⟨_, rfl, pa, _, rfl, SqT.of hpa, rfl, _, _, rfl, _, _, rfl, _, _, rfl, rfl, ?_⟩
  refine ⟨_, rfl, p.M, C, p.dx, _, _, rfl, a.hM, T.cl, T.n_before, rfl, p.bd, rfl, .inl ⟨_, .inl a.hbd⟩, _, rfl, (by show 0 ≤ sizeLine; decide), fun ep nep => ⟨valV p.bk (Sum.inr n), DGet.k (k := Sum.inr n) ((same_new nep) _ _ a.hbd), ?_⟩⟩
  have s6 : Same H (upd H ep (.tup [])) := same_new nep
  obtain ⟨p2, ep1, hp1⟩ : ∃ q, ((valV p.bk (Sum.inr n)).getD (.ref ep)) = .ref q ∧ (upd H ep (.tup [])) q = some (.tup ((bfr F n).map V.int)) := by
    rcases a.bf.keep (TK.same s6) n with ⟨z1, z2⟩ | ⟨q, z1, z2⟩
    · rw [z1, z2]
      exact ⟨ep, rfl, upd_same⟩
    · rw [z1]
      exact ⟨q, rfl, z2⟩
  rw [ep1]
  generalize upd H ep (.tup []) = H1 at s6 hp1 ⊢
  have a1 := a.same s6
  refine ⟨_, rfl, p.M, C, p.dx, _, _, rfl, a1.hM, T.cl, T.n_homes, rfl, _, rfl, p.hd, nV (home F n), rfl, ?_, ?_⟩
  · have := DGet.k (k := Sum.inr n) a1.hhd
    rw [a1.hom n hn] at this
    exact this
  have kn : (0 - -((k : Nat) : Int)).toNat = k := by omega
  refine ⟨_, rfl, _, rfl, _, _, rfl, ⟨by omega, by omega, by decide, by decide⟩, fun D nD => ?_⟩
  refine lc_range (lo := -((k : Nat) : Int)) (n := (0 - -((k : Nat) : Int)).toNat) (fun i H9 => H9 D = some (.lst (((ahead F n k).take i).map V.int)) ∧ Same H1 H9) ⟨upd_same, same_new nD⟩ ?_ ?_
  · rintro i H9 hi ⟨hD, s9⟩
    rw [kn] at hi
    refine ⟨rfl, yes_in ?_⟩
    refine ⟨(by show 0 ≤ sizeLine; decide), fun ep2 nep2 => ?_⟩
    have s10 : Same H9 (upd H9 ep2 (.tup [])) := same_new nep2
    refine ⟨_, rfl, _, rfl, ep2, p2, bfr F n, -((k : Nat) : Int) + ((i : Nat) : Int), rfl, SqT.of (s10 _ _ (s9 _ _ hp1)), by omega, ?_⟩
    refine ⟨_, s10 _ _ hD, ?_, ?_⟩
    · rw [List.length_map, List.length_take]
      exact small1000 (by omega)
    · refine ⟨?_, Same.own (s9.trans s10) nD⟩
      rw [upd_same, List.take_add_one, List.map_append]
      congr 3
      unfold ahead
      rw [List.getElem?_map, List.getElem?_range hi]
      show [V.int _] = [V.int _]
      rw [show (-1 - (-((k : Nat) : Int) + ((i : Nat) : Int))).toNat = k - 1 - i by omega]
  · rintro H9 ⟨hD, s9⟩
    have e9 : (ahead F n k).take (0 - -((k : Nat) : Int)).toNat = ahead F n k := by
      rw [kn]
      exact List.take_of_length_le (by rw [ahead_len]; exact Nat.le_refl _)
    rw [e9] at hD
    refine ⟨D, _, rfl, .inl ⟨SqL.of hD, fun g ng => ⟨(by show 2 ≤ sizeLine; decide), fun t nt => ?_⟩⟩⟩
    have s10 : Same H9 (upd H9 g (.tup ((ahead F n k).map V.int))) := same_new ng
    have hg : (upd H9 g (.tup ((ahead F n k).map V.int))) g = some (.tup ((ahead F n k).map V.int)) := upd_same
    generalize upd H9 g (.tup ((ahead F n k).map V.int)) = H10 at s10 hg nt ⊢
    exact q t _ ⟨t, g, rfl, upd_same, same_new nt _ _ hg⟩ (s6.trans (s9.trans (s10.trans (same_new nt))))
theorem Tr.hr_nine (mo : Str → Int) (t : Tr) : (t.hr mo).wd ∈ nine := by
  cases t with
  | o2 w a b => exact w.nine.1
  | nm n k => show ("same" : Str) ∈ nine; decide +kernel
  | no i => show ("always" : Str) ∈ nine; decide +kernel
  | tm k t => show ("times" : Str) ∈ nine; decide +kernel
  | o3 a b c => show ("pick" : Str) ∈ nine; decide +kernel
def sp_taken_sources (K : PySem.W.Frag) : Sp := fun vs H Q _ => ∃ (sl : Addr) (v : V) (t : Tr) (sv : List V), vs = [.ref sl, v] ∧ TrAt H v t ∧ t.isNm = false ∧ H sl = some (.lst sv) ∧ sv.length ≤ 900 ∧ t.kids.length ≤ sv.length ∧
  ∀ (tl : Addr) (H' : Hp), H tl = none → H' tl = some (.lst (sv.drop (sv.length - t.kids.length))) → H' sl = some (.lst (sv.take (sv.length - t.kids.length))) → But sl H H' → Q (.ref tl) H'
theorem ok_taken_sources {f : Addr} {fd : FuncData} (F : Fun K "taken_sources" "taken_sources" s_taken_sources f fd) {C : Addr} (T : Top w K mg C) : FnOk P w K mg base CX0 2 f fd ["sources", "part"] (sp_taken_sources K) := by
  obtain ⟨f_needs, fd_needs, F_needs, b_needs, m_needs⟩ := T.d_needs
  have G_needs := ok_needs (P := P) (w := w) (base := base) F_needs T
  obtain ⟨f_part_rule, fd_part_rule, F_part_rule, b_part_rule, m_part_rule⟩ := T.d_part_rule
  have G_part_rule := ok_part_rule (P := P) (w := w) (base := base) F_part_rule T
  refine F.ok sc_taken_sources (fun vs H Q E h => ?_) (fun cdv A outer s H vs Q E hr h => ?_)
  · obtain ⟨sl, v, t, sv, rfl, _⟩ := h
    rfl
  obtain ⟨sl, v, t, sv, rfl, ht, un, hsl, lsv, lk, q⟩ := h
  refine ⟨_, (pss_cons (ps_set (i := 2) sc_taken_sources.nd rfl (Or.inl rfl) (pe_op op_sub (pe_callB (call_len_seqK K rfl) (by rfl) T.m_len (by decide +kernel) (pa_cons (pv 0) pa_nil)) (pe_call G_needs (hr.mono (by decide)) (by rfl) m_needs F_needs.kp b_needs .nil pass0 (pa_cons (pe_call G_part_rule (hr.mono (by decide)) (by rfl) m_part_rule F_part_rule.kp b_part_rule .nil pass0 (pa_cons (pv 1) pa_nil)) pa_nil))))
      (pss_cons (ps_set (i := 3) sc_taken_sources.nd rfl (Or.inl rfl) (pe_slice (sl_listK K rfl) (pv 0) (po_some (pv 2)) po_none))
      (pss_cons (ps_delT (pv 0) (po_some (pv 2)))
      (pss_one (ps_ret (pv 3)))))), ?_⟩
  refine ⟨_, rfl, sl, _, rfl, .inl (SqL.of hsl), _, rfl, v, t, rfl, ht, fun rp H1 hrp s1 => ?_⟩
  have nn := Tr.hr_needs (fun _ => 0) t
  have ga : t.ar = t.kids.length := by unfold Tr.ar; rw [un, if_neg Bool.false_ne_true]
  have rlE : t.rl = ruleL (t.hr fun _ => 0) := (t.hr_rl _).symm
  obtain ⟨rest, erl⟩ : ∃ l, t.rl = .str (t.hr fun _ => 0).wd :: l := ⟨_, rlE⟩
  have el : (t.hr fun _ => 0).wd ∈ eleven := nine_eleven (t.hr_nine _)
  have nd : needN (t.hr fun _ => 0).wd = ((t.kids.length : Nat) : Int) := by rw [← needs_needN el, nn, ga]
  refine ⟨rp, (t.hr fun _ => 0).wd, rest, rfl, .inl (by rw [← erl]; exact hrp), el, _, _, rfl, rfl, ?_⟩
  rw [nd]
  have lE : (((sv.length : Nat) : Int) - ((t.kids.length : Nat) : Int)) = ((sv.length - t.kids.length : Nat) : Int) := by omega
  dsimp only
  rw [lE]
  have hsl1 := s1 _ _ hsl
  refine ⟨_, rfl, _, rfl, _, rfl, ?_⟩
  dsimp only [tNoPart]
  refine ⟨sl, _, rfl, SqL.of hsl1, fun tl ntl => ?_⟩
  rw [cut_drop]
  have s2 : Same H1 (upd H1 tl (.lst (sv.drop (sv.length - t.kids.length)))) := same_new ntl
  have htl : (upd H1 tl (.lst (sv.drop (sv.length - t.kids.length)))) tl = some (.lst (sv.drop (sv.length - t.kids.length))) := upd_same
  have ne : tl ≠ sl := fun z => by rw [z, hsl1] at ntl; cases ntl
  have ntl0 : H tl = none := same_none s1 ntl
  generalize upd H1 tl (.lst (sv.drop (sv.length - t.kids.length))) = H2 at s2 htl ⊢
  have hsl2 := s2 _ _ hsl1
  refine ⟨_, rfl, _, rfl, _, rfl, sl, sv, _, rfl, rfl, hsl2, Int.natCast_nonneg _, by omega, ?_⟩
  rw [Int.toNat_natCast]
  refine ⟨_, rfl, q tl _ ntl0 (by rw [upd_ne ne]; exact htl) upd_same (((But.refl.same s1).same s2).upd)⟩
end
/-! ### a rule put there -/
theorem All2.set2 {α β : Type} {R : α → β → Prop} {x : α} {y : β} (r : R x y) : ∀ {as : List α} {bs : List β} (n : Nat), All2 R as bs → All2 R (as.set n x) (bs.set n y)
  | _, _, _, .nil => .nil
  | _, _, 0, .cons _ t => .cons r t
  | _, _, n + 1, .cons h t => .cons h (All2.set2 r n t)
theorem All2.take2 {α β : Type} {R : α → β → Prop} : ∀ {as : List α} {bs : List β} (n : Nat), All2 R as bs → All2 R (as.take n) (bs.take n)
  | _, _, _, .nil => by simp only [List.take_nil]; exact .nil
  | _, _, 0, .cons _ _ => .nil
  | _, _, n + 1, .cons h t => .cons h (All2.take2 n t)
theorem All2.drop2 {α β : Type} {R : α → β → Prop} : ∀ {as : List α} {bs : List β} (n : Nat), All2 R as bs → All2 R (as.drop n) (bs.drop n)
  | _, _, _, .nil => by simp only [List.drop_nil]; exact .nil
  | _, _, 0, .cons h t => .cons h t
  | _, _, n + 1, .cons _ t => All2.drop2 n t
theorem stp_len {F : Fm} {mo : Str → Int} {p : Tr} {s s' : Ms} (e : stp F mo p s = some s') : s'.inn.length ≤ s.inn.length + 1 ∧ s'.bs.length + s'.st.length ≤ s.bs.length + s.st.length + 1 := by
  unfold stp at e
  cases h : p.isNm with
  | true =>
    rw [if_pos h] at e
    obtain rfl := Option.some.inj e
    refine ⟨Nat.le_succ _, ?_⟩
    show s.bs.length + (s.st ++ [_]).length ≤ _
    rw [List.length_append]
    show _ + (_ + 1) ≤ _
    omega
  | false =>
    rw [h, if_neg Bool.false_ne_true] at e
    by_cases kl : p.kids.length ≤ s.st.length
    · rw [if_pos kl] at e
      obtain rfl := Option.some.inj e
      refine ⟨by show (s.inn ++ [_]).length ≤ _; rw [List.length_append]; exact Nat.le_refl _, ?_⟩
      show (s.bs ++ toB _ _).length + (_ ++ [_]).length ≤ _
      unfold toB
      rw [List.length_append, List.length_map, List.length_append, List.length_drop, List.length_take]
      show _ + _ + (_ + 1) ≤ _
      omega
    · rw [if_neg kl] at e
      cases e
section
variable {P : Program} {w : World} {K : PySem.W.Frag} {mg : Str → Option Value} {base : Heap}
/-- what stands of hands and belts -/
structure RmAt (K : PySem.W.Frag) (C : Addr) (H : Hp) (F : Fm) (mo : Str → Int) (p : Mp) (hs : List HR) (bs : List BR) (hv bv : List V) : Prop where
  a : MgA C H F mo p hv bv
  h : All2 (HandAt K H) hv hs
  b : All2 (BeltAt H) bv bs
theorem RmAt.same {C : Addr} {H H' : Hp} {F : Fm} {mo : Str → Int} {p : Mp} {hs : List HR} {bs : List BR} {hv bv : List V} (r : RmAt K C H F mo p hs bs hv bv) (s : Same H H') : RmAt K C H' F mo p hs bs hv bv :=
  ⟨r.a.same s, r.h.imp fun _ _ z => z.keep (TK.same s), r.b.imp fun _ _ z => z.keep (TK.same s)⟩
/-- all stands but lists -/
def Fnl (H H' : Hp) : Prop := ∀ x o, H x = some o → (∀ xs, o ≠ .lst xs) → H' x = some o
theorem Fnl.refl {H : Hp} : Fnl H H := fun _ _ e _ => e
theorem Fnl.trans {H H1 H2 : Hp} (a : Fnl H H1) (b : Fnl H1 H2) : Fnl H H2 := fun x o e n => b x o (a x o e n) n
theorem Fnl.tk {H H' : Hp} (a : Fnl H H') : TK H H' := fun x xs e => a x _ e fun _ z => nomatch z
theorem Fnl.same {H H' : Hp} (a : Same H H') : Fnl H H' := fun x o e _ => a x o e
theorem Fnl.but {H H' : Hp} {sl : Addr} {sv : List V} (e : H sl = some (.lst sv)) (b : But sl H H') : Fnl H H' := fun x o ex n => b x o ex fun z => by
  rw [z, e] at ex
  exact n _ (Option.some.inj ex).symm
theorem MgA.fnl {C : Addr} {H H' : Hp} {F : Fm} {mo : Str → Int} {p : Mp} {hv bv : List V} (a : MgA C H F mo p hv bv) (b : Bm p H H') : Fnl H H' := fun x o e n => by
  obtain ⟨n1, n2⟩ := a.off e n
  exact b _ _ e n1 n2
theorem MgA.gof {C : Addr} {H H' : Hp} {F : Fm} {mo : Str → Int} {p : Mp} {hv bv hv' bv' : List V} (a : MgA C H F mo p hv bv) (k : Fnl H H') (h1 : H' p.hl = some (.lst hv')) (h2 : H' p.bl = some (.lst bv')) : MgA C H' F mo p hv' bv' :=
  ⟨k _ _ a.hM (fun _ z => nomatch z), k _ _ a.hmd (fun _ z => nomatch z), a.mom, k _ _ a.hbd (fun _ z => nomatch z), a.bf.keep k.tk, k _ _ a.hhd (fun _ z => nomatch z), a.hom, h1, h2, a.ne⟩
theorem RmAt.but {C : Addr} {H H' : Hp} {F : Fm} {mo : Str → Int} {p : Mp} {hs : List HR} {bs : List BR} {hv bv : List V} {sl : Addr} {sv : List V} (r : RmAt K C H F mo p hs bs hv bv) (e : H sl = some (.lst sv)) (b : But sl H H') (n1 : sl ≠ p.hl) (n2 : sl ≠ p.bl) : RmAt K C H' F mo p hs bs hv bv :=
  ⟨r.a.gof (.but e b) (b _ _ r.a.hhl n1.symm) (b _ _ r.a.hbl n2.symm), r.h.imp fun _ _ z => z.keep (Fnl.but e b).tk, r.b.imp fun _ _ z => z.keep (Fnl.but e b).tk⟩
theorem Bm.but {p : Mp} {H H1 H2 : Hp} {sl : Addr} (a : Bm p H H1) (n : H sl = none) (b : But sl H1 H2) : Bm p H H2 := fun x o e n1 n2 => b x o (a x o e n1 n2) fun z => by rw [z, n] at e; cases e
theorem But.upd1 {H : Hp} {f : Addr} {o : HO} : But f H (L2.upd H f o) := But.refl.upd
def sp_Making_put_rule (K : PySem.W.Frag) (C : Addr) : Sp := fun vs H Q _ => ∃ (F : Fm) (mo : Str → Int) (p : Mp) (hv bv : List V) (s s' : Rm) (name : Str) (v : V) (t : Tr), vs = [.ref p.M, .str name, v] ∧ RmAt K C H F mo p (s.ho ++ s.inn) s.bs hv bv ∧ TrAt H v t ∧ putR F mo (name, t) s = some s' ∧ name ∈ F.own ∧ s.ho.length = F.n0 ∧ t.parts.length ≤ 100 ∧ F.n0 + s.inn.length ≤ 300 ∧ s.bs.length ≤ 300 ∧ (∀ q ∈ t.leans, q.1 ∈ F.own ∧ q.2 ≤ 100) ∧
  ∀ (hv' bv' : List V) (H' : Hp), RmAt K C H' F mo p (s'.ho ++ s'.inn) s'.bs hv' bv' → Bm p H H' → Q .non H'
theorem ok_Making_put_rule {f : Addr} {fd : FuncData} (F : Fun K "put_rule" "Making.put_rule" s_Making_put_rule f fd) {C : Addr} (T : Top w K mg C) : FnOk P w K mg base CX0 3 f fd ["self", "name", "tree"] (sp_Making_put_rule K C) := by
  obtain ⟨f_Making_settle, fd_Making_settle, F_Making_settle, b_Making_settle, m_Making_settle⟩ := T.d_Making_settle
  have G_Making_settle := ok_Making_settle (P := P) (w := w) (base := base) F_Making_settle T
  obtain ⟨f_tree_parts, fd_tree_parts, F_tree_parts, b_tree_parts, m_tree_parts⟩ := T.d_tree_parts
  have G_tree_parts := ok_tree_parts (P := P) (w := w) (base := base) F_tree_parts T
  obtain ⟨f_Making_source_of, fd_Making_source_of, F_Making_source_of, b_Making_source_of, m_Making_source_of⟩ := T.d_Making_source_of
  have G_Making_source_of := ok_Making_source_of (P := P) (w := w) (base := base) F_Making_source_of T
  obtain ⟨f_part_rule, fd_part_rule, F_part_rule, b_part_rule, m_part_rule⟩ := T.d_part_rule
  have G_part_rule := ok_part_rule (P := P) (w := w) (base := base) F_part_rule T
  obtain ⟨f_taken_sources, fd_taken_sources, F_taken_sources, b_taken_sources, m_taken_sources⟩ := T.d_taken_sources
  have G_taken_sources := ok_taken_sources (P := P) (w := w) (base := base) F_taken_sources T
  obtain ⟨f_Making_put_hand, fd_Making_put_hand, F_Making_put_hand, b_Making_put_hand, m_Making_put_hand⟩ := T.d_Making_put_hand
  have G_Making_put_hand := ok_Making_put_hand (P := P) (w := w) (base := base) F_Making_put_hand T
  refine F.ok sc_Making_put_rule (fun vs H Q E h => ?_) (fun cdv A outer s H vs Q E hr h => ?_)
  · obtain ⟨F, mo, p, hv, bv, s, s', name, v, t, rfl, _⟩ := h
    rfl
  obtain ⟨F, mo, p, hv, bv, s, s', name, v, t, rfl, a, ht, ep, hn, lho, lt, li, lb, hl, q⟩ := h
  have ps : t.parts = t.sub ++ [t] := t.parts_sub
  have lps : t.parts.length = t.sub.length + 1 := by rw [ps, List.length_append]; rfl
  obtain ⟨s1, e1, rfl⟩ : ∃ s1, runP F mo t.sub ⟨s.inn, s.bs, []⟩ = some s1 ∧ s' = ⟨s.ho.set (home F name) (t.hr mo), s1.inn, s1.bs ++ toB (home F name) (rootS F t s1.st)⟩ := by
    unfold putR at ep
    obtain ⟨s1, e1, e2⟩ := Option.map_eq_some_iff.mp ep
    exact ⟨s1, e1, e2.symm⟩
  have lsub : t.sub.length ≤ 100 := by omega
  have hsub : ∀ u ∈ t.sub, u.isNm = true → u.ofNm.1 ∈ F.own ∧ u.ofNm.2 ≤ 100 := fun u hu un => by
    refine hl u.ofNm ?_
    rw [← t.leans_eq, ps, List.filter_append, List.map_append]
    exact List.mem_append.mpr (.inl (List.mem_map.mpr ⟨u, List.mem_filter.mpr ⟨hu, un⟩, rfl⟩))
  have hroot : t.isNm = true → t.ofNm.1 ∈ F.own ∧ t.ofNm.2 ≤ 100 := fun un => by
    refine hl t.ofNm ?_
    rw [← t.leans_eq, ps, List.filter_append, List.map_append]
    exact List.mem_append.mpr (.inr (List.mem_map.mpr ⟨t, List.mem_filter.mpr ⟨List.mem_singleton.mpr rfl, un⟩, rfl⟩))
  let R1 : TS := fun D' σ' H' => (D'.nx = fun _ H2 => Q .non H2) ∧ ∃ (sl pl : Addr) (rv : V) (hv5 bv5 sv : List V) (v5 v6 : Option V), σ' = [some (.ref p.M), some (.str name), some v, some (.ref pl), some (.ref sl), v5, v6, some rv] ∧ RmAt K C H' F mo p (s.ho ++ s1.inn) s1.bs hv5 bv5 ∧ H' sl = some (.lst sv) ∧ All2 (SrAt H') sv (rootS F t s1.st) ∧ TrAt H' rv t ∧ Bm p H H' ∧ sl ≠ p.hl ∧ sl ≠ p.bl ∧ s1.bs.length + (rootS F t s1.st).length ≤ 900
  refine ⟨_, (pss_cons (ps_set (i := 3) sc_Making_put_rule.nd rfl (Or.inl rfl) (pe_call G_tree_parts (hr.mono (by decide)) (by rfl) m_tree_parts F_tree_parts.kp b_tree_parts .nil pass0 (pa_cons (pv 2) pa_nil)))
      (pss_cons (ps_set (i := 4) sc_Making_put_rule.nd rfl (Or.inl rfl) (pe_lst pa_nil))
      (pss_cons (ps_for PassesOwn.never rfl (pi_listK K rfl (pe_slice (sl_listK K rfl) (pv 3) po_none (po_some (pe_un un_neg pe_int)))) (pg_name (i := 5) sc_Making_put_rule.nd rfl (Or.inl rfl))
        (pss_one (ps_if (pt_cmpR op_eq (pe_ix (ix_tupK K rfl) (pv 5) pe_int (fun _ _ => rfl)) pe_str (nomark _)) (pss_one (ps_expr (pe_bmK K rfl PySem.F.plainAttrs_list PySem.F.slot_list_append PySem.F.type_list_append mt_append (pv 4) (pa_cons (pe_meth (pv 0) T.cl m_Making_source_of G_Making_source_of (hr.mono (by decide)) b_Making_source_of .nil pass0 (pa_cons (pv 5) pa_nil)) pa_nil)))) (pss_cons (ps_set (i := 6) sc_Making_put_rule.nd rfl (Or.inl rfl) (pe_call G_taken_sources (hr.mono (by decide)) (by rfl) m_taken_sources F_taken_sources.kp b_taken_sources .nil pass0 (pa_cons (pv 4) (pa_cons (pv 5) pa_nil))))
      (pss_one (ps_expr (pe_bmK K rfl PySem.F.plainAttrs_list PySem.F.slot_list_append PySem.F.type_list_append mt_append (pv 4) (pa_cons (pe_tup (pa_cons (pe_meth (pv 0) T.cl m_Making_put_hand G_Making_put_hand (hr.mono (by decide)) b_Making_put_hand .nil pass0 (pa_cons (pe_call G_part_rule (hr.mono (by decide)) (by rfl) m_part_rule F_part_rule.kp b_part_rule .nil pass0 (pa_cons (pv 5) pa_nil)) (pa_cons (pv 6) pa_nil))) (pa_cons (pe_tup pa_nil) pa_nil))) pa_nil))))))))
      (pss_cons (ps_set (i := 7) sc_Making_put_rule.nd rfl (Or.inl rfl) (pe_ix (ix_listK K rfl) (pv 3) (pe_un un_neg pe_int) (fun _ _ => rfl)))
      (pss_cons (ps_if (pt_cmpR op_eq (pe_ix (ix_tupK K rfl) (pv 7) pe_int (fun _ _ => rfl)) pe_str (nomark _)) (pss_one (ps_expr (pe_bmK K rfl PySem.F.plainAttrs_list PySem.F.slot_list_append PySem.F.type_list_append mt_append (pv 4) (pa_cons (pe_meth (pv 0) T.cl m_Making_source_of G_Making_source_of (hr.mono (by decide)) b_Making_source_of .nil pass0 (pa_cons (pv 7) pa_nil)) pa_nil)))) pss_nil)
      (PSs.to (pss_one (ps_expr (pe_meth (pv 0) T.cl m_Making_settle G_Making_settle (hr.mono (by decide)) b_Making_settle .nil pass0 (pa_cons (pe_dget (hu_of hr) (pe_fldK K rfl (pv 0) rfl) (pv 1) (fun _ _ => rfl)) (pa_cons (pe_call G_part_rule (hr.mono (by decide)) (by rfl) m_part_rule F_part_rule.kp b_part_rule .nil pass0 (pa_cons (pv 7) pa_nil)) (pa_cons (pv 4) pa_nil)))))) R1 ?tail1)))))), ?_⟩
  case tail1 =>
    rintro D' σ' H1 ⟨eN, sl, pl, rv, hv5, bv5, sv, v5, v6, rfl, a1, hsl, als, rt, b1, n1, n2, few⟩
    have gh : DGet H1 p.hd (.str name) (some (nV (home F name))) := by
      have := DGet.k (k := Sum.inr name) a1.a.hhd
      rw [a1.a.hom name hn] at this
      exact this
    have lhv := a1.h.length
    rw [List.length_append, lho] at lhv
    have lbv := a1.b.length
    have hhn := home_lt hn
    refine ⟨_, rfl, p.M, p.dx, _, rfl, a1.a.hM, rfl, _, rfl, p.M, C, p.dx, _, _, rfl, a1.a.hM, T.cl, T.n_homes, rfl, _, rfl, p.hd, nV (home F name), rfl, gh, ?_⟩
    refine ⟨_, rfl, rv, t, rfl, rt, fun rp H2 hrp s2 => ?_⟩
    have a2 := a1.same s2
    refine ⟨_, rfl, F, mo, p, hv5, bv5, home F name, rp, sl, t.hr mo, sv, _, rfl, a2.a, by omega, .inl (by rw [t.hr_rl]; exact hrp), t.hr_mom mo, s2 _ _ hsl, als.imp fun _ _ z => z.keep (TK.same s2), n1, by omega, fun v9 ws H3 hv9 hw9 g1 g2 b3 => ?_⟩
    rw [eN]
    refine q _ _ H3 ⟨a2.a.go b3 g1 g2, ?_, ?_⟩ ((b1.same s2).trans b3)
    · have := All2.set2 hv9 (home F name) (a2.h.imp fun _ _ z => z.keep (a2.a.tk b3))
      rwa [List.set_append_left _ _ (by omega)] at this
    · exact (a2.b.imp fun _ _ z => z.keep (a2.a.tk b3)).app hw9
  refine ⟨_, rfl, v, t, rfl, ht, by omega, fun pl tv H1 npl hpl al s1' => ?_⟩
  refine ⟨(by show 0 ≤ sizeLine; decide), fun sl nsl => ?_⟩
  have s2 : Same H (upd H1 sl (.lst [])) := s1'.trans (same_new nsl)
  have nsl0 : H sl = none := same_none s1' nsl
  have hsl0 : (upd H1 sl (.lst [])) sl = some (.lst []) := upd_same
  have hpl2 : (upd H1 sl (.lst [])) pl = some (.lst tv) := same_new nsl _ _ hpl
  have slpl : pl ≠ sl := fun z => by rw [← z, hpl] at nsl; cases nsl
  replace al := al.imp fun _ _ z => z.keep (TK.new (p := sl) (o := .lst []) nsl)
  generalize upd H1 sl (.lst []) = H2 at s2 hsl0 hpl2 al ⊢
  have a2 := a.same s2
  rw [ps] at al
  obtain ⟨tv0, rv, rfl, al0, rt⟩ := al.unsnoc
  have slh : sl ≠ p.hl := fun z => by rw [z, a.a.hhl] at nsl0; cases nsl0
  have slb : sl ≠ p.bl := fun z => by rw [z, a.a.hbl] at nsl0; cases nsl0
  have plh : pl ≠ p.hl := fun z => by rw [z, a.a.hhl] at npl; cases npl
  have plb : pl ≠ p.bl := fun z => by rw [z, a.a.hbl] at npl; cases npl
  have ltv := al0.length
  refine ⟨_, rfl, _, rfl, _, rfl, pl, _, rfl, SqL.of hpl2, fun cl ncl => ?_⟩
  rw [cut_last]
  have s3 : Same H2 (upd H2 cl (.lst tv0)) := same_new ncl
  have hcl0 : (upd H2 cl (.lst tv0)) cl = some (.lst tv0) := upd_same
  have clh : cl ≠ p.hl := fun z => by rw [z, a2.a.hhl] at ncl; cases ncl
  have clb : cl ≠ p.bl := fun z => by rw [z, a2.a.hbl] at ncl; cases ncl
  have cls : cl ≠ sl := fun z => by rw [z, hsl0] at ncl; cases ncl
  generalize upd H2 cl (.lst tv0) = H3 at s3 hcl0 ⊢
  let J : Nat → L2.St → Hp → Prop := fun i σ H5 => ∃ (m : Ms) (hv5 bv5 sv : List V) (v5 v6 : Option V), σ = [some (.ref p.M), some (.str name), some v, some (.ref pl), some (.ref sl), v5, v6, none] ∧ RmAt K C H5 F mo p (s.ho ++ m.inn) m.bs hv5 bv5 ∧ H5 sl = some (.lst sv) ∧ All2 (SrAt H5) sv m.st ∧ runP F mo (t.sub.drop i) m = some s1 ∧ m.inn.length ≤ s.inn.length + i ∧ m.bs.length + m.st.length ≤ s.bs.length + i ∧ Bm p H H5 ∧ Fnl H3 H5 ∧ H5 cl = some (.lst tv0) ∧ H5 pl = some (.lst (tv0 ++ [rv]))
  refine ⟨cl, rfl, ⟨_, SqL.of hcl0⟩, ?_⟩
  refine for_list (K := K) (a := cl) (xs := tv0) (fun i σ H5 => J i σ H5) ?_ ?_ ?_ ?_
  · exact ⟨⟨s.inn, s.bs, []⟩, hv, bv, [], none, none, rfl, a2.same s3, s3 _ _ hsl0, .nil, by rw [List.drop_zero]; exact e1, Nat.le_refl _, Nat.le_refl _, Bm.of (s2.trans s3), Fnl.refl, hcl0, s3 _ _ hpl2⟩
  · exact fun i σ H5 _ ⟨_, _, _, _, _, _, _, _, _, _, _, _, _, _, _, h, _⟩ => SqL.of h
  · rintro i z σ H5 hx ⟨m, hv5, bv5, sv, v5, v6, rfl, a5, hsl5, als, ex, li5, lb5, b5, f5, hcl5, hpl5⟩
    have hi : i < tv0.length := (List.getElem?_eq_some_iff.mp hx).1
    obtain ⟨u, hu, tu⟩ := al0.getL hx
    replace tu := tu.keep ((TK.same s3).trans f5.tk)
    have dr : t.sub.drop i = u :: t.sub.drop (i + 1) := by
      obtain ⟨l, e⟩ := List.getElem?_eq_some_iff.mp hu
      rw [← e]; exact List.drop_eq_getElem_cons l
    have mu := List.mem_of_getElem? hu
    rw [dr] at ex
    have ex : (stp F mo u m).bind (runP F mo (t.sub.drop (i + 1))) = some s1 := ex
    obtain ⟨m', em, ex'⟩ := Option.bind_eq_some_iff.mp ex
    obtain ⟨g1, g2⟩ := stp_len em
    have lsv := als.length
    have lhv := a5.h.length
    rw [List.length_append, lho] at lhv
    have lbv := a5.b.length
    obtain ⟨x, ks, rfl, hx0, ak⟩ := tu.op
    obtain ⟨r, er, sort⟩ := u.hd_wd
    have hx1 := hx0
    rw [er, List.cons_append] at hx1
    refine ⟨_, rfl, x, _, _, _, rfl, rfl, SqT.of hx1, atI_nat (j := 0) rfl, rfl, _, rfl, if_str (fun c1 => ?_) (fun c1 => ?_)⟩
    · have un : u.isNm = true := by rw [u.wd_nm, decide_eq_true c1]
      obtain ⟨o1, o2⟩ := hsub u mu un
      cases u with
      | nm n k =>
        have hx0 : H5 x = some (.tup ([.str "name", .str n, nV k] ++ ks)) := hx0
        obtain rfl : ks = [] := by cases ak; rfl
        have emm : m' = ⟨m.inn, m.bs, m.st ++ [srcOf F (n, k)]⟩ := by
          unfold stp at em
          rw [if_pos un] at em
          exact (Option.some.inj em).symm
        subst emm
        refine ⟨_, rfl, .inl ⟨rfl, _, SqL.of hsl5⟩, _, rfl, p.M, p.dx, _, rfl, a5.a.hM, rfl, _, rfl, F, mo, p, hv5, bv5, x, n, k, rfl, a5.a, hx0, o1, o2, fun tt H6 hsr s6 => ?_⟩
        have hsl6 := s6 _ _ hsl5
        have a6 := a5.same s6
        refine ⟨sl, sv, _, rfl, rfl, hsl6, small1000 (by omega), ?_⟩
        have k7 := Fnl.but (H' := upd H6 sl (.lst (sv ++ [.ref tt]))) hsl6 But.upd1
        refine ⟨⟨m.inn, m.bs, m.st ++ [srcOf F (n, k)]⟩, hv5, bv5, sv ++ [.ref tt], _, _, rfl, a6.but hsl6 But.upd1 slh slb, upd_same, (als.imp fun _ _ z => z.keep ((TK.same s6).trans k7.tk)).snoc (hsr.keep k7.tk), ex', Nat.le_trans g1 (show _ ≤ s.inn.length + (i + 1) by omega), Nat.le_trans g2 (show _ ≤ s.bs.length + (i + 1) by omega), (b5.same s6).but nsl0 But.upd1, f5.trans ((Fnl.same s6).trans k7), by rw [upd_ne cls]; exact s6 _ _ hcl5, by rw [upd_ne slpl]; exact s6 _ _ hpl5⟩
      | _ => cases un
    · have un : u.isNm = false := by rw [u.wd_nm, decide_eq_false c1]
      have kl : u.kids.length ≤ m.st.length := by
        unfold stp at em
        rw [un, if_neg Bool.false_ne_true] at em
        by_cases c : u.kids.length ≤ m.st.length
        · exact c
        · rw [if_neg c] at em; cases em
      have emm : m' = ⟨m.inn ++ [u.hr mo], m.bs ++ toB (F.n0 + m.inn.length) (m.st.drop (m.st.length - u.kids.length)), m.st.take (m.st.length - u.kids.length) ++ [(F.n0 + m.inn.length, [])]⟩ := by
        unfold stp at em
        rw [un, if_neg Bool.false_ne_true, if_pos kl] at em
        exact (Option.some.inj em).symm
      subst emm
      refine ⟨_, rfl, _, rfl, sl, .ref x, u, sv, rfl, tu, un, hsl5, by omega, by omega, fun tl H6 ntl htl hsl6 b6 => ?_⟩
      rw [lsv] at htl hsl6
      have a6 := a5.but hsl5 b6 slh slb
      have k6 := Fnl.but hsl5 b6
      have tlh : tl ≠ p.hl := fun z => by rw [z, a5.a.hhl] at ntl; cases ntl
      have tlb : tl ≠ p.bl := fun z => by rw [z, a5.a.hbl] at ntl; cases ntl
      refine ⟨_, rfl, .inl ⟨rfl, _, SqL.of hsl6⟩, _, rfl, p.M, p.dx, _, rfl, a6.a.hM, rfl, _, rfl, .ref x, u, rfl, tu.keep k6.tk, fun rp H7 hrp s7 => ?_⟩
      have a7 := a6.same s7
      have als7 := als.imp fun _ _ z => z.keep (k6.tk.trans (TK.same s7))
      refine ⟨_, rfl, F, mo, p, hv5, bv5, rp, tl, u.hr mo, _, _, rfl, a7.a, .inl (by rw [u.hr_rl]; exact hrp), u.hr_mom mo, s7 _ _ htl, als7.drop2 _, tlh, tlb, by omega, by rw [List.length_drop]; omega, fun v8 ws H8 hv8 hw8 e1' e2' b8 => ?_⟩
      rw [lhv] at hw8 ⊢
      have k8 := a7.a.fnl b8
      have hsl8 := b8 _ _ (s7 _ _ hsl6) slh slb
      refine ⟨(by show 0 ≤ sizeLine; decide), fun ep nep => ⟨(by show 2 ≤ sizeLine; decide), fun tt ntt => ?_⟩⟩
      have s9 : Same H8 (upd H8 ep (.tup [])) := same_new nep
      have hep : (upd H8 ep (.tup [])) ep = some (.tup []) := upd_same
      generalize upd H8 ep (.tup []) = H9 at s9 hep ntt ⊢
      have s10 : Same H9 (upd H9 tt (.tup [nV (F.n0 + m.inn.length), .ref ep])) := same_new ntt
      have htt : (upd H9 tt (.tup [nV (F.n0 + m.inn.length), .ref ep])) tt = some (.tup [nV (F.n0 + m.inn.length), .ref ep]) := upd_same
      generalize upd H9 tt (.tup [nV (F.n0 + m.inn.length), .ref ep]) = H10 at s10 htt ⊢
      have s810 := s9.trans s10
      have hsl10 := s810 _ _ hsl8
      refine ⟨sl, _, _, rfl, rfl, hsl10, small1000 (by rw [List.length_take]; omega), ?_⟩
      have k11 := Fnl.but (H' := upd H10 sl (.lst (sv.take (m.st.length - u.kids.length) ++ [.ref tt]))) hsl10 But.upd1
      have a8 : RmAt K C H8 F mo p (s.ho ++ (m.inn ++ [u.hr mo])) (m.bs ++ toB (F.n0 + m.inn.length) (m.st.drop (m.st.length - u.kids.length))) (hv5 ++ [v8]) (bv5 ++ ws) := ⟨a7.a.go b8 e1' e2', by rw [← List.append_assoc]; exact (a7.h.imp fun _ _ z => z.keep k8.tk).snoc hv8, (a7.b.imp fun _ _ z => z.keep k8.tk).app hw8⟩
      refine ⟨⟨m.inn ++ [u.hr mo], m.bs ++ toB (F.n0 + m.inn.length) (m.st.drop (m.st.length - u.kids.length)), m.st.take (m.st.length - u.kids.length) ++ [(F.n0 + m.inn.length, [])]⟩, _, _, _, _, _, rfl, (a8.same s810).but hsl10 But.upd1 slh slb, upd_same, ((als7.take2 _).imp fun _ _ z => z.keep (k8.tk.trans ((TK.same s810).trans k11.tk))).snoc ⟨tt, ep, rfl, k11.tk _ _ htt, k11.tk _ _ (s10 _ _ hep)⟩, ex', Nat.le_trans g1 (show _ ≤ s.inn.length + (i + 1) by omega), Nat.le_trans g2 (show _ ≤ s.bs.length + (i + 1) by omega), ?_, f5.trans (k6.trans ((Fnl.same s7).trans (k8.trans ((Fnl.same s810).trans k11)))), ?_, ?_⟩
      · exact ((((b5.but nsl0 b6).same s7).trans b8).same s810).but nsl0 But.upd1
      · rw [upd_ne cls]
        exact s810 _ _ (b8 _ _ (s7 _ _ (b6 _ _ hcl5 cls)) clh clb)
      · rw [upd_ne slpl]
        exact s810 _ _ (b8 _ _ (s7 _ _ (b6 _ _ hpl5 slpl)) plh plb)
  · rintro σ H5 ⟨m, hv5, bv5, sv, v5, v6, rfl, a5, hsl5, als, ex, li5, lb5, b5, f5, hcl5, hpl5⟩
    rw [ltv, List.drop_length] at ex
    obtain rfl : m = s1 := Option.some.inj ex
    have rt5 := rt.keep ((TK.same s3).trans f5.tk)
    have lsv := als.length
    refine ⟨_, rfl, _, rfl, pl, _, _, _, rfl, rfl, SqL.of hpl5, at_last _ _, ?_⟩
    obtain ⟨x, ks, rfl, hx0, ak⟩ := rt5.op
    obtain ⟨r, er, sort⟩ := t.hd_wd
    have hx1 := hx0
    rw [er, List.cons_append] at hx1
    refine ⟨_, rfl, x, _, _, _, rfl, rfl, SqT.of hx1, atI_nat (j := 0) rfl, rfl, _, rfl, if_str (fun c1 => ?_) (fun c1 => ?_)⟩
    · have un : t.isNm = true := by rw [t.wd_nm, decide_eq_true c1]
      obtain ⟨o1, o2⟩ := hroot un
      cases t with
      | nm n k =>
        have hx0 : H5 x = some (.tup ([.str "name", .str n, nV k] ++ ks)) := hx0
        obtain rfl : ks = [] := by cases ak; rfl
        refine ⟨_, rfl, .inl ⟨rfl, _, SqL.of hsl5⟩, _, rfl, p.M, p.dx, _, rfl, a5.a.hM, rfl, _, rfl, F, mo, p, hv5, bv5, x, n, k, rfl, a5.a, hx0, o1, o2, fun tt H6 hsr s6 => ?_⟩
        have hsl6 := s6 _ _ hsl5
        have a6 := a5.same s6
        refine ⟨sl, sv, _, rfl, rfl, hsl6, small1000 (by omega), ?_⟩
        have k7 := Fnl.but (H' := upd H6 sl (.lst (sv ++ [.ref tt]))) hsl6 But.upd1
        refine ⟨rfl, sl, pl, .ref x, hv5, bv5, sv ++ [.ref tt], _, _, rfl, a6.but hsl6 But.upd1 slh slb, upd_same, (als.imp fun _ _ z => z.keep ((TK.same s6).trans k7.tk)).snoc (hsr.keep k7.tk), rt5.keep ((TK.same s6).trans k7.tk), (b5.same s6).but nsl0 But.upd1, slh, slb, ?_⟩
        unfold rootS
        rw [List.length_append]
        show _ + (_ + 1) ≤ 900
        omega
      | _ => cases un
    · have un : t.isNm = false := by rw [t.wd_nm, decide_eq_false c1]
      have er0 : rootS F t m.st = m.st := by unfold rootS; rw [un, if_neg Bool.false_ne_true, List.append_nil]
      exact ⟨rfl, sl, pl, .ref x, hv5, bv5, sv, _, _, rfl, a5, hsl5, by rw [er0]; exact als, rt5, b5, slh, slb, by rw [er0]; omega⟩
end
/-! ### what was, as a dict -/
theorem merge_new : ∀ (kvs acc : List (Key × V)), (kvs.map (·.1)).Nodup → (∀ kv ∈ kvs, valV acc kv.1 = none) → mergeK acc kvs = acc ++ kvs
  | [], acc, _, _ => by rw [List.append_nil]; rfl
  | kv :: r, acc, nd, no => by
    show mergeK (putK acc kv.1 kv.2) r = _
    have n0 := no kv (List.mem_cons_self ..)
    rw [putK_new _ n0, merge_new r _ (List.nodup_cons.mp nd).2 fun kv2 h2 => ?_, List.append_assoc]
    · rfl
    · have n2 := no kv2 (List.mem_cons_of_mem _ h2)
      have ne : kv.1 ≠ kv2.1 := fun e => (List.nodup_cons.mp nd).1 (by show kv.1 ∈ _; rw [e]; exact List.mem_map.mpr ⟨kv2, h2, rfl⟩)
      unfold valV at n2 ⊢
      rw [List.find?_append]
      cases c : acc.find? (fun kv => decide (kv.1 = kv2.1)) with
      | some u => rw [c] at n2; cases n2
      | none =>
        show Option.map _ ((none : Option (Key × V)).or _) = none
        rw [Option.none_or, List.find?_cons, decide_eq_false ne]
        rfl
theorem was_pairs {K : PySem.W.Frag} {H : Hp} {wv : List V} {was : List (Str × List Int)} (al : All2 (WaAt H) wv was) : ∃ (ps : List Addr) (kvs : List (Key × V)), wv = ps.map V.ref ∧ Paired (fun p kv => SqT K H p [kV kv.1, kv.2]) ps kvs ∧ kvs.map (·.1) = was.map (fun p => Sum.inr p.1) ∧
    ∀ n : Str, (valV kvs (Sum.inr n) = none ∧ (was.find? fun p => decide (p.1 = n)) = none) ∨ ∃ p b, valV kvs (Sum.inr n) = some (.ref b) ∧ (was.find? fun p => decide (p.1 = n)) = some p ∧ H b = some (.tup (p.2.map V.int)) := by
  induction al with
  | nil => exact ⟨[], [], rfl, .nil, rfl, fun n => .inl ⟨rfl, rfl⟩⟩
  | cons h t ih =>
    rename_i v p vs l
    obtain ⟨ps, kvs, e1, e2, e3, e4⟩ := ih
    obtain ⟨a, b, rfl, ea, eb⟩ := h
    refine ⟨a :: ps, (Sum.inr p.1, .ref b) :: kvs, by rw [e1]; rfl, .cons (SqT.of ea) e2, by rw [List.map_cons, e3]; rfl, fun n => ?_⟩
    unfold valV at e4 ⊢
    rw [List.find?_cons, List.find?_cons]
    by_cases c : p.1 = n
    · rw [decide_eq_true c, decide_eq_true (show (Sum.inr p.1 : Key) = Sum.inr n by rw [c])]
      exact .inr ⟨p, b, rfl, rfl, eb⟩
    · rw [decide_eq_false c, decide_eq_false (fun z => c (Sum.inr.inj z) : ¬ (Sum.inr p.1 : Key) = Sum.inr n)]
      exact e4 n
theorem was_dict {K : PySem.W.Frag} {H : Hp} {wv : List V} {F : Fm} (al : All2 (WaAt H) wv F.was) (nd : F.kept.Nodup) : ∃ (ps : List Addr) (kvs : List (Key × V)), wv = ps.map V.ref ∧ Paired (fun p kv => SqT K H p [kV kv.1, kv.2]) ps kvs ∧ BfAt H (mergeK [] kvs) F := by
  obtain ⟨ps, kvs, e1, e2, e3, e4⟩ := was_pairs (K := K) al
  refine ⟨ps, kvs, e1, e2, ?_⟩
  have ndk : (kvs.map (·.1)).Nodup := by
    rw [e3]
    have : F.was.map (fun p => (Sum.inr p.1 : Key)) = F.kept.map Sum.inr := by unfold Fm.kept; rw [List.map_map]; rfl
    rw [this]
    refine List.Pairwise.map _ (fun a b h z => h (Sum.inr.inj z)) nd
  rw [merge_new kvs [] ndk fun _ _ => rfl, List.nil_append]
  intro n
  unfold bfr
  rcases e4 n with ⟨z1, z2⟩ | ⟨p, b, z1, z2, z3⟩
  · exact .inl ⟨z1, by rw [z2]⟩
  · exact .inr ⟨b, z1, by rw [z2]; exact z3⟩
/-! ### a Making begun -/
def wordsL : List Str := ["same", "sum", "gap", "below", "most", "least", "pick", "times", "always"]
/-- the moments of a word -/
def moOf (ms : List Int) (z : Str) : Int := match (wordsL.zip ms).find? fun p => decide (p.1 = z) with
  | some p => p.2
  | none => 0
theorem words_nd : wordsL.Nodup := by decide +kernel
theorem zip_val (z : Str) : ∀ (ws : List Str) (ms : List Int), (valV ((ws.map (Sum.inr : Str → Key)).zip (ms.map V.int)) (Sum.inr z)).getD (.int 0) = .int (match (ws.zip ms).find? fun p => decide (p.1 = z) with | some p => p.2 | none => 0)
  | [], _ => rfl
  | _ :: _, [] => rfl
  | w :: ws, m :: ms => by
    have ih := zip_val z ws ms
    unfold valV at ih ⊢
    rw [List.map_cons, List.map_cons, List.zip_cons_cons, List.zip_cons_cons, List.find?_cons, List.find?_cons]
    by_cases c : w = z
    · rw [decide_eq_true (show (Sum.inr w : Key) = Sum.inr z by rw [c]), decide_eq_true c]
      rfl
    · rw [decide_eq_false (fun y => c (Sum.inr.inj y) : ¬ (Sum.inr w : Key) = Sum.inr z), decide_eq_false c]
      exact ih
theorem mo_dict (ms : List Int) (z : Str) : (valV (mergeK [] ((wordsL.map (Sum.inr : Str → Key)).zip (ms.map V.int))) (Sum.inr z)).getD (.int 0) = .int (moOf ms z) := by
  rw [merge_new _ [] ?_ fun _ _ => rfl, List.nil_append]
  · exact zip_val z wordsL ms
  · have : ∀ (ws : List Str) (xs : List V), ws.Nodup → (((ws.map (Sum.inr : Str → Key)).zip xs).map (·.1)).Nodup := by
      intro ws
      induction ws with
      | nil => intro xs _; exact List.nodup_nil
      | cons w r ih =>
        intro xs nd
        cases xs with
        | nil => exact List.nodup_nil
        | cons x xs =>
          rw [List.map_cons, List.zip_cons_cons, List.map_cons]
          obtain ⟨n1, n2⟩ := List.nodup_cons.mp nd
          refine List.nodup_cons.mpr ⟨fun m => ?_, ih xs n2⟩
          obtain ⟨q, mq, eq⟩ := List.mem_map.mp m
          have := (List.of_mem_zip mq).1
          obtain ⟨y, my, ey⟩ := List.mem_map.mp this
          have e3 : (Sum.inr y : Key) = Sum.inr w := ey.trans eq
          exact n1 (Sum.inr.inj e3 ▸ my)
    exact this _ _ words_nd
theorem dc_enum {K : PySem.W.Frag} {a D : Addr} {xs : List V} {g : TG} {tt : TT} {tk tv : TE} {vs : List Nat} {σ : L2.St} {H1 : Hp} {Z : Hp → Prop} (J : Nat → Hp → Prop) (begin_ : J 0 (upd H1 D (.dK []))) (stay : ∀ n G, n ≤ xs.length → J n G → SqL K G a xs)
    (turn : ∀ n x G T, xs[n]? = some x → J n G → G T = none → DSt g tt tk tv vs σ D (.ref T) (upd G T (.tup [.int ((n : Nat) : Int), x])) (J (n + 1))) (fin : ∀ G, J xs.length G → Z G) : ∃ W : Nat → Nat → Hp → Prop, (∃ l, W 0 l (upd H1 D (.dK []))) ∧
    ∀ n l G, W n l G → ((Ite K a).stop n G ∧ Z G) ∨ ((Ite K a).go n G ∧ ∃ N : Hp → Prop, (∀ G', N G' → ∃ l', l' < l ∧ W (n + 1) l' G') ∧ ∀ x G', (Ite K a).yld n G x G' → DSt g tt tk tv vs σ D x G' N) := by
  refine ⟨fun n l G => n + l = xs.length ∧ J n G, ⟨xs.length, Nat.zero_add _, begin_⟩, fun n l G ⟨total, here⟩ => ?_⟩
  have seen := stay n G (by omega) here
  cases l with
  | zero =>
    obtain rfl : n = xs.length := by omega
    exact .inl ⟨⟨xs, seen, Nat.le_refl _⟩, fin G here⟩
  | succ l =>
    have lt : n < xs.length := by omega
    refine .inr ⟨⟨xs, xs[n], seen, List.getElem?_eq_getElem lt⟩, J (n + 1), fun G' j => ⟨l, Nat.lt_succ_self l, by omega, j⟩, fun x G' y => ?_⟩
    obtain ⟨T, y, rfl, nT, rfl, ey⟩ := y
    exact turn n y _ T (ey xs seen) here nT
theorem ins_tk {C p dx : Addr} {H : Hp} {fs gs : List (Str × V)} (h : H p = some (.ins C dx fs)) : TK H (upd H p (.ins C dx gs)) := fun x zs e => by
  rw [upd_ne (ne_of e h (fun z => nomatch z))]
  exact e
theorem flat_rep {α : Type} (x : α) : ∀ n : Nat, (List.replicate n [x]).flatten = List.replicate n x
  | 0 => rfl
  | n + 1 => by rw [List.replicate_succ, List.flatten_cons, flat_rep x n]; rfl
theorem all2_rep {α β : Type} {R : α → β → Prop} {x : α} {y : β} (r : R x y) : ∀ n : Nat, All2 R (List.replicate n x) (List.replicate n y)
  | 0 => .nil
  | n + 1 => by rw [List.replicate_succ, List.replicate_succ]; exact .cons r (all2_rep r n)
section
variable {P : Program} {w : World} {K : PySem.W.Frag} {mg : Str → Option Value} {base : Heap}
def sp_Making___init__ (K : PySem.W.Frag) (C : Addr) : Sp := fun vs H Q _ => ∃ (F : Fm) (ms : List Int) (M dx r ma : Addr), vs = [.ref M, .ref r, .ref ma] ∧ H M = some (.ins C dx []) ∧ FmAtF H r F ∧ H ma = some (.tup (ms.map V.int)) ∧ F.own.Nodup ∧ F.kept.Nodup ∧ F.own.length ≤ 100 ∧
  ∀ (p : Mp) (hv bv : List V) (H' : Hp), p.M = M → H p.hl = none → H p.bl = none → RmAt K C H' F (moOf ms) p (List.replicate F.n0 inH) [] hv bv → But M H H' → Q .non H'
set_option maxHeartbeats 0 in
theorem ok_Making___init__ {f : Addr} {fd : FuncData} (F : Fun K "__init__" "Making.__init__" s_Making___init__ f fd) {C : Addr} (T : Top w K mg C) : FnOk P w K mg base CX0 1 f fd ["self", "formulas", "moments"] (sp_Making___init__ K C) := by
  refine F.ok sc_Making___init__ (fun vs H Q E h => ?_) (fun cdv A outer s H vs Q E hr h => ?_)
  · obtain ⟨F, ms, M, dx, r, ma, rfl, _⟩ := h
    rfl
  obtain ⟨aI, mI, hI⟩ := T.x_in
  obtain ⟨aWd, mWd, hWd⟩ := T.x_wd
  obtain ⟨F, ms, M, dx, r, ma, rfl, hM, hFm, hma, nd, kn, lown, q⟩ := h
  obtain ⟨a1, a2, a3, a4, ob, wv, rv, nod, e0, e1, e2, e3, e4, e5, e6⟩ := hFm
  refine ⟨_, (pss_cons (ps_asg (pv 1) (pg_tupK K rfl rfl (pgs_cons (pg_name (i := 3) sc_Making___init__.nd rfl (Or.inl rfl)) (pgs_cons (pg_name (i := 4) sc_Making___init__.nd rfl (Or.inl rfl)) (pgs_cons (pg_name (i := 5) sc_Making___init__.nd rfl (Or.inl rfl)) (pgs_cons (pg_name (i := 6) sc_Making___init__.nd rfl (Or.inl rfl)) pgs_nil))))))
      (pss_cons (ps_set (i := 7) sc_Making___init__.nd rfl (Or.inl rfl) (pe_op op_cat (pe_callTy (call_list_ofK K rfl) (by rfl) T.m_list (by decide +kernel) (pa_cons (pv 3) pa_nil)) (pe_lc (own := [("name", 8), ("tree", 9)]) (g := gTup K 2 (gCons (gName 8) (gCons (gName 9) gNil))) (tt := tYes) (by rfl) sc_Making___init__.nd (pi_tupK K rfl (pv 5)) (blkOk_by (own := [("name", 8), ("tree", 9)]) (N := N_Making___init__) (sc := defScope s_Making___init__) (by decide +kernel)) (fun _ _ _ _ _ => (pg_tupK K rfl rfl (pgs_cons (pg_name (i := 8) sc_Making___init__.nd rfl (Or.inl rfl)) (pgs_cons (pg_name (i := 9) sc_Making___init__.nd rfl (Or.inl rfl)) pgs_nil)))) (fun _ _ _ _ _ => pts_nil) (fun _ _ _ _ _ => (pv 8)))))
      (pss_cons (ps_fldK K rfl (pv 0) (pe_dictZipTT K rfl rfl (by rfl) T.m_dict (by rfl) T.m_zip (pa_cons (pe_glob (v := .ref aWd) (by rfl) mWd rfl) (pa_cons (pv 2) pa_nil))) rfl)
      (pss_cons (ps_fldK K rfl (pv 0) (pe_callTy (call_dictPT K rfl rfl) (by rfl) T.m_dict (by decide +kernel) (pa_cons (pv 4) pa_nil)) rfl)
      (pss_cons (ps_fldK K rfl (pv 0) (pe_dc (own := [("number", 10), ("name", 8)]) (g := gTup K 2 (gCons (gName 10) (gCons (gName 8) gNil))) (tt := tYes) (by rfl) sc_Making___init__.nd (pi_enumK K rfl (by rfl) T.m_enumerate (pa_cons (pv 7) pa_nil)) (blkOk_by (own := [("number", 10), ("name", 8)]) (N := N_Making___init__) (sc := defScope s_Making___init__) (by decide +kernel)) (fun _ _ _ _ _ => (pg_tupK K rfl rfl (pgs_cons (pg_name (i := 10) sc_Making___init__.nd rfl (Or.inl rfl)) (pgs_cons (pg_name (i := 8) sc_Making___init__.nd rfl (Or.inl rfl)) pgs_nil)))) (fun _ _ _ _ _ => pts_nil) (fun _ _ _ _ _ => (pv 8)) (fun _ _ _ _ _ => (pv 10))) rfl)
      (pss_cons (ps_fldK K rfl (pv 0) (pe_op op_rep (pe_lst (pa_cons (pe_tup (pa_cons (pe_glob (v := .ref aI) (by rfl) mI rfl) (pa_cons pe_int pa_nil))) pa_nil)) (pe_callB (call_len_seqK K rfl) (by rfl) T.m_len (by decide +kernel) (pa_cons (pv 7) pa_nil))) rfl)
      (pss_one (ps_fldK K rfl (pv 0) (pe_lst pa_nil) rfl)))))))), ?_⟩
  refine ⟨_, rfl, r, _, rfl, SqT.of e0, rfl, _, _, rfl, _, _, rfl, _, _, rfl, _, _, rfl, rfl, ?_⟩
  have li : F.ins.length ≤ 100 := by unfold Fm.own at lown; rw [List.length_append] at lown; omega
  have lr : F.rules.length ≤ 100 := by unfold Fm.own at lown; rw [List.length_append, List.length_map] at lown; omega
  refine ⟨_, rfl, a1, _, rfl, .inr (SqT.of e1), fun L1 n1 => ?_⟩
  have s1 : Same H (upd H L1 (.lst (F.ins.map V.str))) := same_new n1
  have hL1 : (upd H L1 (.lst (F.ins.map V.str))) L1 = some (.lst (F.ins.map V.str)) := upd_same
  generalize upd H L1 (.lst (F.ins.map V.str)) = H2 at s1 hL1 ⊢
  refine ⟨_, rfl, a3, rfl, ⟨_, SqT.of (s1 _ _ e4)⟩, fun D nD => ?_⟩
  refine lc_tup (K := K) (a := a3) (xs := rv) (fun i H9 => H9 D = some (.lst (((F.rules.take i).map (·.1)).map V.str)) ∧ Same H2 H9) ⟨upd_same, same_new nD⟩ (fun i H9 _ ⟨_, s9⟩ => SqT.of (s9 _ _ (s1 _ _ e4))) ?_ ?_
  · rintro j z H9 hz ⟨hD, s9⟩
    obtain ⟨u, hu, b, c, rfl, hb, _⟩ := e5.getL hz
    refine ⟨b, _, rfl, SqT.of (s9 _ _ (s1 _ _ hb)), rfl, _, _, rfl, _, _, rfl, rfl, rfl, yes_in ⟨_, rfl, _, hD, ?_, ?_, Same.own s9 nD⟩⟩
    · rw [List.length_map, List.length_map, List.length_take]
      exact small1000 (by omega)
    · rw [upd_same, List.take_add_one, hu, List.map_append, List.map_append]
      rfl
  rintro H3 ⟨hD, s2⟩
  rw [e5.length, List.take_length] at hD
  refine ⟨L1, D, _, _, rfl, rfl, s2 _ _ hL1, hD, ?_, fun nl nnl => ?_⟩
  · rw [← List.length_append, ← List.map_append, List.length_map]
    exact little (Nat.le_trans lown (by decide))
  have s3 : Same H3 (upd H3 nl (.lst (F.ins.map V.str ++ (F.rules.map (·.1)).map V.str))) := same_new nnl
  have hnl : (upd H3 nl (.lst (F.ins.map V.str ++ (F.rules.map (·.1)).map V.str))) nl = some (.lst (F.own.map V.str)) := by
    rw [upd_same, ← List.map_append]; rfl
  generalize upd H3 nl (.lst (F.ins.map V.str ++ (F.rules.map (·.1)).map V.str)) = H4 at s3 hnl ⊢
  have s14 := s1.trans (s2.trans s3)
  have neM : ∀ {x : Addr} {G : Hp}, Same H G → G x = none → x ≠ M := fun s n z => by rw [z, s _ _ hM] at n; cases n
  have nlM : nl ≠ M := fun z => by rw [z, s14 _ _ hM] at hnl; cases hnl
  -- moments
  refine ⟨_, rfl, aWd, ma, wordsL.map Sum.inr, ms.map V.int, rfl, hWd _, SqT.of (s14 _ _ hma), fun md nmd => ?_⟩
  have s5 := same_new (o := .dK (mergeK [] ((wordsL.map (Sum.inr : Str → Key)).zip (ms.map V.int)))) nmd
  have hmd : (upd H4 md (.dK (mergeK [] ((wordsL.map (Sum.inr : Str → Key)).zip (ms.map V.int))))) md = some (.dK (mergeK [] ((wordsL.map (Sum.inr : Str → Key)).zip (ms.map V.int)))) := upd_same
  have mdM := neM s14 nmd
  generalize upd H4 md (.dK (mergeK [] ((wordsL.map (Sum.inr : Str → Key)).zip (ms.map V.int)))) = H5 at s5 hmd ⊢
  have s15 := s14.trans s5
  refine ⟨_, rfl, M, C, dx, _, rfl, s15 _ _ hM, T.cl, T.n_moments, (by show 0 < 1000; decide), ?_⟩
  have B6 : But M H (upd H5 M (.ins C dx [("moments", .ref md)])) := (But.refl.same s15).upd
  have hM6 : (upd H5 M (.ins C dx [("moments", .ref md)])) M = some (.ins C dx [("moments", .ref md)]) := upd_same
  have hmd6 : (upd H5 M (.ins C dx [("moments", .ref md)])) md = some (.dK (mergeK [] ((wordsL.map (Sum.inr : Str → Key)).zip (ms.map V.int)))) := by rw [upd_ne mdM]; exact hmd
  have hnl6 : (upd H5 M (.ins C dx [("moments", .ref md)])) nl = some (.lst (F.own.map V.str)) := by rw [upd_ne nlM]; exact s5 _ _ hnl
  show tSeq _ _ _ _ (upd H5 M (.ins C dx [("moments", .ref md)]))
  generalize upd H5 M (.ins C dx [("moments", .ref md)]) = H6 at B6 hM6 hmd6 hnl6 ⊢
  have tkM : ∀ {G : Hp}, But M H G → TK H G := fun b x xs e => b _ _ e (ne_of e hM (fun z => nomatch z))
  obtain ⟨ps, kvs, rfl, prd, hbf⟩ := was_dict (K := K) (e3.imp fun _ _ z => z.keep (tkM B6)) kn
  refine ⟨_, rfl, a2, ob, ps, kvs, rfl, nod, B6 _ _ e2 (ne_of e2 hM (fun z => nomatch z)), prd, fun bd nbd => ?_⟩
  have s7 := same_new (o := .dK (mergeK [] kvs)) nbd
  have hbd : (upd H6 bd (.dK (mergeK [] kvs))) bd = some (.dK (mergeK [] kvs)) := upd_same
  have bdM : bd ≠ M := fun z => by rw [z, hM6] at nbd; cases nbd
  generalize upd H6 bd (.dK (mergeK [] kvs)) = H7 at s7 hbd ⊢
  refine ⟨_, rfl, M, C, dx, _, rfl, s7 _ _ hM6, T.cl, T.n_before, (by show 1 < 1000; decide), ?_⟩
  have k8 : TK H7 (upd H7 M (.ins C dx [("moments", .ref md), ("before", .ref bd)])) := ins_tk (s7 _ _ hM6)
  have B8 : But M H (upd H7 M (.ins C dx [("moments", .ref md), ("before", .ref bd)])) := (B6.same s7).upd
  have hM8 : (upd H7 M (.ins C dx [("moments", .ref md), ("before", .ref bd)])) M = some (.ins C dx [("moments", .ref md), ("before", .ref bd)]) := upd_same
  have hmd8 : (upd H7 M (.ins C dx [("moments", .ref md), ("before", .ref bd)])) md = some (.dK (mergeK [] ((wordsL.map (Sum.inr : Str → Key)).zip (ms.map V.int)))) := by rw [upd_ne mdM]; exact s7 _ _ hmd6
  have hnl8 : (upd H7 M (.ins C dx [("moments", .ref md), ("before", .ref bd)])) nl = some (.lst (F.own.map V.str)) := by rw [upd_ne nlM]; exact s7 _ _ hnl6
  have hbd8 : (upd H7 M (.ins C dx [("moments", .ref md), ("before", .ref bd)])) bd = some (.dK (mergeK [] kvs)) := by rw [upd_ne bdM]; exact hbd
  have hbf8 := (hbf.keep (TK.same s7)).keep k8
  show tSeq _ _ _ _ (upd H7 M (.ins C dx [("moments", .ref md), ("before", .ref bd)]))
  generalize upd H7 M (.ins C dx [("moments", .ref md), ("before", .ref bd)]) = H8 at B8 hM8 hmd8 hnl8 hbd8 hbf8 ⊢
  -- homes
  refine ⟨_, rfl, nl, _, rfl, SqL.of hnl8, fun hd nhd => ?_⟩
  have hdM : hd ≠ M := fun z => by rw [z, hM8] at nhd; cases nhd
  refine dc_enum (K := K) (a := nl) (xs := F.own.map V.str) (fun i G => G hd = some (.dK (stV (fun z => nV (home F z)) (F.own.take i))) ∧ Same H8 G) ⟨by rw [List.take_zero]; exact upd_same, same_new nhd⟩ (fun i G _ ⟨_, sG⟩ => SqL.of (sG _ _ hnl8)) ?_ ?_
  · rintro i x G T hx ⟨hD9, sG⟩ nT
    rw [List.getElem?_map] at hx
    cases hn : F.own[i]? with
    | none => rw [hn] at hx; cases hx
    | some n =>
    rw [hn] at hx
    obtain rfl : V.str n = x := Option.some.inj hx
    have il := (List.getElem?_eq_some_iff.mp hn).1
    have tk : F.own.take (i + 1) = F.own.take i ++ [n] := by rw [List.take_add_one, hn]; rfl
    have hi : home F n = i := by
      have hm := List.mem_of_getElem? hn
      have e3 : F.own[home F n]? = some n := by
        unfold home
        rw [List.getElem?_eq_getElem (List.idxOf_lt_length_of_mem hm), List.getElem_idxOf]
      exact nodup_get nd e3 hn
    have nin : n ∉ F.own.take i := fun z => by
      obtain ⟨j, hj, ej⟩ := List.mem_take_iff_getElem.mp z
      have := nodup_get nd hn (List.getElem?_eq_some_iff.mpr ⟨by omega, ej⟩)
      omega
    have sT := same_new (o := .tup [V.int ((i : Nat) : Int), .str n]) nT
    refine ⟨T, _, rfl, SqT.of upd_same, rfl, _, _, rfl, _, _, rfl, rfl, rfl, yes_in ⟨_, rfl, _, rfl, stV (fun z => nV (home F z)) (F.own.take i), Sum.inr n, rfl, sT _ _ hD9, ?_, ?_, Same.own (sG.trans sT) nhd⟩⟩
    · unfold stV
      rw [List.length_map, List.length_take]
      exact small1000 (by omega)
    · rw [upd_same, stV_put _ nin, tk]
      congr 2
      refine List.map_congr_left fun y _ => ?_
      show ((Sum.inr y : Key), (if y = n then V.int ((i : Nat) : Int) else nV (home F y))) = (Sum.inr y, nV (home F y))
      by_cases c : y = n
      · rw [if_pos c, c, hi]
      · rw [if_neg c]
  rintro H9 ⟨hhd, s9⟩
  rw [List.length_map, List.take_length] at hhd
  refine ⟨_, rfl, M, C, dx, _, rfl, s9 _ _ hM8, T.cl, T.n_homes, (by show 2 < 1000; decide), ?_⟩
  have k10 : TK H8 (upd H9 M (.ins C dx [("moments", .ref md), ("before", .ref bd), ("homes", .ref hd)])) := (TK.same s9).trans (ins_tk (s9 _ _ hM8))
  have B10 : But M H (upd H9 M (.ins C dx [("moments", .ref md), ("before", .ref bd), ("homes", .ref hd)])) := (B8.same s9).upd
  have hM10 : (upd H9 M (.ins C dx [("moments", .ref md), ("before", .ref bd), ("homes", .ref hd)])) M = some (.ins C dx [("moments", .ref md), ("before", .ref bd), ("homes", .ref hd)]) := upd_same
  have hmd10 : (upd H9 M (.ins C dx [("moments", .ref md), ("before", .ref bd), ("homes", .ref hd)])) md = some (.dK (mergeK [] ((wordsL.map (Sum.inr : Str → Key)).zip (ms.map V.int)))) := by rw [upd_ne mdM]; exact s9 _ _ hmd8
  have hnl10 : (upd H9 M (.ins C dx [("moments", .ref md), ("before", .ref bd), ("homes", .ref hd)])) nl = some (.lst (F.own.map V.str)) := by rw [upd_ne nlM]; exact s9 _ _ hnl8
  have hbd10 : (upd H9 M (.ins C dx [("moments", .ref md), ("before", .ref bd), ("homes", .ref hd)])) bd = some (.dK (mergeK [] kvs)) := by rw [upd_ne bdM]; exact s9 _ _ hbd8
  have hhd10 : (upd H9 M (.ins C dx [("moments", .ref md), ("before", .ref bd), ("homes", .ref hd)])) hd = some (.dK (stV (fun z => nV (home F z)) F.own)) := by rw [upd_ne hdM]; exact hhd
  have hbf10 := hbf8.keep k10
  show tSeq _ _ _ _ (upd H9 M (.ins C dx [("moments", .ref md), ("before", .ref bd), ("homes", .ref hd)]))
  generalize upd H9 M (.ins C dx [("moments", .ref md), ("before", .ref bd), ("homes", .ref hd)]) = H10 at B10 hM10 hmd10 hnl10 hbd10 hhd10 hbf10 ⊢
  -- hands
  refine ⟨(by show 2 ≤ sizeLine; decide), fun t nt => ⟨(by show 1 ≤ sizeLine; decide), fun l nl2 => ?_⟩⟩
  have s11 : Same H10 (upd H10 t (.tup [.ref aI, .int 0])) := same_new nt
  have ht : (upd H10 t (.tup [.ref aI, .int 0])) t = some (.tup [.ref aI, .int 0]) := upd_same
  generalize upd H10 t (.tup [.ref aI, .int 0]) = H11 at s11 ht nl2 ⊢
  have s12 : Same H11 (upd H11 l (.lst [.ref t])) := same_new nl2
  have hl : (upd H11 l (.lst [.ref t])) l = some (.lst [.ref t]) := upd_same
  generalize upd H11 l (.lst [.ref t]) = H12 at s12 hl ⊢
  have s1012 := s11.trans s12
  refine ⟨_, rfl, nl, _, rfl, .inl (SqL.of (s1012 _ _ hnl10)), l, _, [.ref t], rfl, rfl, hl, by omega, ?_, ?_, fun hl' nhl => ?_⟩
  · rw [List.length_map]; omega
  · rw [List.length_map]
    show 1 * _ ≤ sizeLine
    rw [sizeLine_eq, Int.toNat_natCast]
    omega
  rw [List.length_map, Int.toNat_natCast, flat_rep]
  have s13 : Same H12 (upd H12 hl' (.lst (List.replicate F.own.length (.ref t)))) := same_new nhl
  have hhl : (upd H12 hl' (.lst (List.replicate F.own.length (.ref t)))) hl' = some (.lst (List.replicate F.own.length (.ref t))) := upd_same
  have s1013 := s1012.trans s13
  have hlM : hl' ≠ M := fun z => by rw [z, s1012 _ _ hM10] at nhl; cases nhl
  have nhlH : H hl' = none := by
    cases c : H hl' with
    | none => rfl
    | some o => rw [s1012 _ _ (B10 _ _ c hlM)] at nhl; cases nhl
  generalize upd H12 hl' (.lst (List.replicate F.own.length (.ref t))) = H13 at s13 hhl s1013 ⊢
  refine ⟨_, rfl, M, C, dx, _, rfl, s1013 _ _ hM10, T.cl, T.n_hands, (by show 3 < 1000; decide), ?_⟩
  have k14 : TK H10 (upd H13 M (.ins C dx [("moments", .ref md), ("before", .ref bd), ("homes", .ref hd), ("hands", .ref hl')])) := (TK.same s1013).trans (ins_tk (s1013 _ _ hM10))
  have B14 : But M H (upd H13 M (.ins C dx [("moments", .ref md), ("before", .ref bd), ("homes", .ref hd), ("hands", .ref hl')])) := (B10.same s1013).upd
  have hM14 : (upd H13 M (.ins C dx [("moments", .ref md), ("before", .ref bd), ("homes", .ref hd), ("hands", .ref hl')])) M = some (.ins C dx [("moments", .ref md), ("before", .ref bd), ("homes", .ref hd), ("hands", .ref hl')]) := upd_same
  have hmd14 : (upd H13 M (.ins C dx [("moments", .ref md), ("before", .ref bd), ("homes", .ref hd), ("hands", .ref hl')])) md = some (.dK (mergeK [] ((wordsL.map (Sum.inr : Str → Key)).zip (ms.map V.int)))) := by rw [upd_ne mdM]; exact s1013 _ _ hmd10
  have hbd14 : (upd H13 M (.ins C dx [("moments", .ref md), ("before", .ref bd), ("homes", .ref hd), ("hands", .ref hl')])) bd = some (.dK (mergeK [] kvs)) := by rw [upd_ne bdM]; exact s1013 _ _ hbd10
  have hhd14 : (upd H13 M (.ins C dx [("moments", .ref md), ("before", .ref bd), ("homes", .ref hd), ("hands", .ref hl')])) hd = some (.dK (stV (fun z => nV (home F z)) F.own)) := by rw [upd_ne hdM]; exact s1013 _ _ hhd10
  have hhl14 : (upd H13 M (.ins C dx [("moments", .ref md), ("before", .ref bd), ("homes", .ref hd), ("hands", .ref hl')])) hl' = some (.lst (List.replicate F.own.length (.ref t))) := by rw [upd_ne hlM]; exact hhl
  have ht14 := (ins_tk (gs := [("moments", .ref md), ("before", .ref bd), ("homes", .ref hd), ("hands", .ref hl')]) (s1013 _ _ hM10)) _ _ (s13 _ _ (s12 _ _ ht))
  have hbf14 := hbf10.keep k14
  have e14 : upd H13 M (.ins C dx (putF "hands" (.ref hl') [("moments", .ref md), ("before", .ref bd), ("homes", .ref hd)])) = upd H13 M (.ins C dx [("moments", .ref md), ("before", .ref bd), ("homes", .ref hd), ("hands", .ref hl')]) := rfl
  rw [e14]
  generalize upd H13 M (.ins C dx [("moments", .ref md), ("before", .ref bd), ("homes", .ref hd), ("hands", .ref hl')]) = H14 at B14 hM14 hmd14 hbd14 hhd14 hhl14 ht14 hbf14 ⊢
  -- belts
  refine ⟨(by show 0 ≤ sizeLine; decide), fun bl nbl => ?_⟩
  have s15' : Same H14 (upd H14 bl (.lst [])) := same_new nbl
  have hbl : (upd H14 bl (.lst [])) bl = some (.lst []) := upd_same
  have blM : bl ≠ M := fun z => by rw [z, hM14] at nbl; cases nbl
  have hlbl : hl' ≠ bl := fun z => by rw [← z, hhl14] at nbl; cases nbl
  have nblH : H bl = none := by
    cases c : H bl with
    | none => rfl
    | some o => rw [B14 _ _ c blM] at nbl; cases nbl
  generalize upd H14 bl (.lst []) = H15 at s15' hbl ⊢
  refine ⟨_, rfl, M, C, dx, _, rfl, s15' _ _ hM14, T.cl, T.n_belts, (by show 4 < 1000; decide), ?_⟩
  have k16 : TK H14 (upd H15 M (.ins C dx [("moments", .ref md), ("before", .ref bd), ("homes", .ref hd), ("hands", .ref hl'), ("belts", .ref bl)])) := (TK.same s15').trans (ins_tk (s15' _ _ hM14))
  show Q .non (upd H15 M (.ins C dx [("moments", .ref md), ("before", .ref bd), ("homes", .ref hd), ("hands", .ref hl'), ("belts", .ref bl)]))
  refine q ⟨M, dx, md, bd, hd, hl', bl, _, _, _⟩ (List.replicate F.own.length (.ref t)) [] _ rfl nhlH nblH ⟨⟨upd_same, by rw [upd_ne mdM]; exact s15' _ _ hmd14, mo_dict ms, by rw [upd_ne bdM]; exact s15' _ _ hbd14, hbf14.keep k16, by rw [upd_ne hdM]; exact s15' _ _ hhd14, fun n hn => ?_, by rw [upd_ne hlM]; exact s15' _ _ hhl14, by rw [upd_ne blM]; exact hbl, hlbl⟩, all2_rep ⟨t, aI, rfl, k16 _ _ ht14, .inr hI⟩ _, .nil⟩ (B14.same s15').upd
  show valV (stV (fun z => nV (home F z)) F.own) (Sum.inr n) = _
  rw [stV_val, if_pos hn]
end
/-! ### a room made of formulas -/
theorem Bm.sameOf {p : Mp} {H H1 H2 : Hp} (s : Same H H1) (b : Bm p H1 H2) (n1 : H p.hl = none) (n2 : H p.bl = none) : Same H H2 := fun x o e =>
  b x o (s x o e) (fun z => by rw [z, n1] at e; cases e) fun z => by rw [z, n2] at e; cases e
theorem mo_out (ms : List Int) : moOf ms "out" = 0 := by
  unfold moOf
  have : ∀ (ws : List Str) (xs : List Int), ("out" : Str) ∉ ws → ((ws.zip xs).find? fun p => decide (p.1 = ("out" : Str))) = none := fun ws xs h => by
    rw [List.find?_eq_none]
    intro q hq z
    exact h (of_decide_eq_true z ▸ (List.of_mem_zip hq).1)
  rw [this wordsL ms (by decide +kernel)]
section
variable {P : Program} {w : World} {K : PySem.W.Frag} {mg : Str → Option Value} {base : Heap}
def sp_made_room (K : PySem.W.Frag) (C : Addr) : Sp := fun vs H Q _ => ∃ (F : Fm) (ms : List Int) (s : Rm) (r ma : Addr), vs = [.ref r, .ref ma] ∧ FmAtF H r F ∧ H ma = some (.tup (ms.map V.int)) ∧ MadeIs F (moOf ms) s ∧ F.own.Nodup ∧ F.kept.Nodup ∧ F.own.length ≤ 100 ∧ F.outs.length ≤ 50 ∧ (∀ z ∈ F.outs, z ∈ F.own) ∧ (∀ p ∈ F.rules, p.2.parts.length ≤ 100 ∧ ∀ q ∈ p.2.leans, q.1 ∈ F.own ∧ q.2 ≤ 100) ∧
  ∀ (p : Addr) (H' : Hp), RoomAt K H' p (roomHs F s) (roomBs F s) → Same H H' → Q (.ref p) H'
theorem ok_made_room {f : Addr} {fd : FuncData} (F : Fun K "made_room" "made_room" s_made_room f fd) {C : Addr} (T : Top w K mg C) : FnOk P w K mg base CX0 4 f fd ["formulas", "moments"] (sp_made_room K C) := by
  obtain ⟨f_Making___init__, fd_Making___init__, F_Making___init__, b_Making___init__, m_Making___init__⟩ := T.d_Making___init__
  have G_Making___init__ := ok_Making___init__ (P := P) (w := w) (base := base) F_Making___init__ T
  obtain ⟨f_Making_put_rule, fd_Making_put_rule, F_Making_put_rule, b_Making_put_rule, m_Making_put_rule⟩ := T.d_Making_put_rule
  have G_Making_put_rule := ok_Making_put_rule (P := P) (w := w) (base := base) F_Making_put_rule T
  obtain ⟨f_Making_put_hand, fd_Making_put_hand, F_Making_put_hand, b_Making_put_hand, m_Making_put_hand⟩ := T.d_Making_put_hand
  have G_Making_put_hand := ok_Making_put_hand (P := P) (w := w) (base := base) F_Making_put_hand T
  refine F.ok sc_made_room (fun vs H Q E h => ?_) (fun cdv A outer s H vs Q E hr h => ?_)
  · obtain ⟨F, ms, s, r, ma, rfl, _⟩ := h
    rfl
  obtain ⟨aO, mO, hO⟩ := T.x_out
  obtain ⟨F, ms, s, r, ma, rfl, hFm, hma, md, nd, kn, lown, lo, oo, tr, q⟩ := h
  obtain ⟨a1, a2, a3, a4, ob, wv, rv, nod, e0, e1, e2, e3, e4, e5, e6⟩ := id hFm
  refine ⟨_, (pss_cons (ps_asg (pv 0) (pg_tupK K rfl rfl (pgs_cons (pg_name (i := 2) sc_made_room.nd rfl (Or.inl rfl)) (pgs_cons (pg_name (i := 3) sc_made_room.nd rfl (Or.inl rfl)) (pgs_cons (pg_name (i := 4) sc_made_room.nd rfl (Or.inl rfl)) (pgs_cons (pg_name (i := 5) sc_made_room.nd rfl (Or.inl rfl)) pgs_nil))))))
      (pss_cons (ps_set (i := 6) sc_made_room.nd rfl (Or.inl rfl) (pe_make m_Making___init__ G_Making___init__ (hr.mono (by decide)) (by rfl) T.mgC b_Making___init__ .nil pass0 (pa_cons (pv 0) (pa_cons (pv 1) pa_nil))))
      (pss_cons (ps_for PassesOwn.never rfl (pi_tupK K rfl (pv 4)) (pg_tupK K rfl rfl (pgs_cons (pg_name (i := 7) sc_made_room.nd rfl (Or.inl rfl)) (pgs_cons (pg_name (i := 8) sc_made_room.nd rfl (Or.inl rfl)) pgs_nil)))
        (pss_one (ps_expr (pe_meth (pv 6) T.cl m_Making_put_rule G_Making_put_rule (hr.mono (by decide)) b_Making_put_rule .nil pass0 (pa_cons (pv 7) (pa_cons (pv 8) pa_nil))))))
      (pss_cons (ps_for PassesOwn.never rfl (pi_tupK K rfl (pv 5)) (pg_name (i := 7) sc_made_room.nd rfl (Or.inl rfl))
        (pss_one (ps_expr (pe_meth (pv 6) T.cl m_Making_put_hand G_Making_put_hand (hr.mono (by decide)) b_Making_put_hand .nil pass0 (pa_cons (pe_glob (v := .ref aO) (by rfl) mO rfl) (pa_cons (pe_lst (pa_cons (pe_tup (pa_cons (pe_dget (hu_of hr) (pe_fldK K rfl (pv 6) rfl) (pv 7) (fun _ _ => rfl)) (pa_cons (pe_tup pa_nil) pa_nil))) pa_nil)) pa_nil))))))
      (pss_one (ps_ret (pe_tup (pa_cons (pe_callTy (call_tuple_ofK K rfl) (by rfl) T.m_tuple (by decide +kernel) (pa_cons (pe_fldK K rfl (pv 6) rfl) pa_nil)) (pa_cons (pe_callTy (call_tuple_ofK K rfl) (by rfl) T.m_tuple (by decide +kernel) (pa_cons (pe_fldK K rfl (pv 6) rfl) pa_nil)) pa_nil))))))))), ?_⟩
  refine ⟨_, rfl, r, _, rfl, SqT.of e0, rfl, _, _, rfl, _, _, rfl, _, _, rfl, _, _, rfl, rfl, ?_⟩
  refine ⟨_, rfl, _, rfl, fun M dx nM ndx ne => ?_⟩
  have s1 : Same H (upd (upd H dx (.own M)) M (.ins C dx [])) := (same_new ndx).trans (same_new (by rw [upd_ne ne.symm]; exact nM))
  have hM1 : (upd (upd H dx (.own M)) M (.ins C dx [])) M = some (.ins C dx []) := upd_same
  generalize upd (upd H dx (.own M)) M (.ins C dx []) = H1 at s1 hM1 ⊢
  refine ⟨F, ms, M, dx, r, ma, rfl, hM1, hFm.same s1, s1 _ _ hma, nd, kn, lown, fun p hv bv H2 eM nhl1 nbl1 r2 B2 => ⟨rfl, ?_⟩⟩
  subst eM
  have nhl := same_none s1 nhl1
  have nbl := same_none s1 nbl1
  have s2 : Same H H2 := fun x o e => B2 x o (s1 x o e) fun z => by rw [z, nM] at e; cases e
  have lrv := e5.length
  refine ⟨_, rfl, a3, rfl, ⟨_, SqT.of (s2 _ _ e4)⟩, ?_⟩
  refine for_tup (K := K) (a := a3) (xs := rv) (fun i σ H5 => ∃ (s5 : Rm) (hv5 bv5 : List V) (v7 v8 : Option V), σ = [some (.ref r), some (.ref ma), some (.ref a1), some (.ref a2), some (.ref a3), some (.ref a4), some (.ref p.M), v7, v8] ∧ putAll F (moOf ms) (F.rules.take i) (rm0 F) = some s5 ∧ RmAt K C H5 F (moOf ms) p (s5.ho ++ s5.inn) s5.bs hv5 bv5 ∧ Same H H5) ?_ ?_ ?_ ?_
  · refine ⟨rm0 F, hv, bv, none, none, rfl, by rw [List.take_zero]; rfl, ?_, s2⟩
    show RmAt K C H2 F (moOf ms) p (List.replicate F.n0 inH ++ []) [] hv bv
    rw [List.append_nil]
    exact r2
  · rintro i σ H5 _ ⟨_, _, _, _, _, _, _, _, s5⟩
    exact SqT.of (s5 _ _ e4)
  · rintro i z σ H5 hx ⟨m, hv5, bv5, v7, v8, rfl, ep, r5, s5⟩
    obtain ⟨⟨name, t⟩, hp, b, x, rfl, hb, ht⟩ := e5.getL hx
    have hi := (List.getElem?_eq_some_iff.mp hp).1
    obtain ⟨g1, g2⟩ := tr _ (List.mem_of_getElem? hp)
    obtain ⟨m', ec, lc1, lc2, lc3⟩ := md.chain i (by omega)
    obtain rfl : m = m' := Option.some.inj (ep.symm.trans ec)
    obtain ⟨m2, ec2, _⟩ := md.chain (i + 1) (by omega)
    have tk : F.rules.take (i + 1) = F.rules.take i ++ [(name, t)] := by rw [List.take_add_one, hp]; rfl
    have eput : putR F (moOf ms) (name, t) m = some m2 := by
      rw [tk, putAll_snoc, ep] at ec2
      exact ec2
    have nO : name ∈ F.own := by
      unfold Fm.own
      exact List.mem_append.mpr (.inr (List.mem_map.mpr ⟨_, List.mem_of_getElem? hp, rfl⟩))
    refine ⟨b, _, rfl, SqT.of (s5 _ _ hb), rfl, _, _, rfl, _, _, rfl, rfl, ?_⟩
    refine ⟨_, rfl, p.M, p.dx, _, rfl, r5.a.hM, rfl, _, rfl, _, rfl, F, moOf ms, p, hv5, bv5, m, m2, name, x, t, rfl, r5, ht.keep (TK.same s5), eput, nO, lc1, g1, lc2, lc3, g2, fun hv6 bv6 H6 r6 b6 => ?_⟩
    exact ⟨m2, hv6, bv6, _, _, rfl, ec2, r6, b6.sameOf s5 nhl nbl⟩
  rintro σ H5 ⟨m, hv5, bv5, v7, v8, rfl, ep, r5, s5⟩
  rw [lrv, List.take_length] at ep
  obtain rfl : m = s := Option.some.inj (ep.symm.trans md.run)
  have lhs : (m.ho ++ m.inn).length = F.n0 + m.inn.length := by rw [List.length_append, md.lho]
  obtain ⟨m', ec, _, lc2, lc3⟩ := md.chain F.rules.length (Nat.le_refl _)
  rw [List.take_length] at ec
  obtain rfl : m = m' := Option.some.inj (ep.symm.trans ec)
  refine ⟨_, rfl, a4, rfl, ⟨_, SqT.of (s5 _ _ e6)⟩, ?_⟩
  refine for_tup (K := K) (a := a4) (xs := F.outs.map V.str) (fun i σ H6 => ∃ (hv6 bv6 : List V) (v7 v8 : Option V), σ = [some (.ref r), some (.ref ma), some (.ref a1), some (.ref a2), some (.ref a3), some (.ref a4), some (.ref p.M), v7, v8] ∧ RmAt K C H6 F (moOf ms) p (m.ho ++ m.inn ++ List.replicate i outH) (m.bs ++ outB F (F.n0 + m.inn.length) (F.outs.take i)) hv6 bv6 ∧ Same H H6) ?_ ?_ ?_ ?_
  · refine ⟨hv5, bv5, _, _, rfl, ?_, s5⟩
    rw [List.replicate_zero, List.append_nil, List.take_zero]
    show RmAt K C H5 F (moOf ms) p (m.ho ++ m.inn) (m.bs ++ []) hv5 bv5
    rw [List.append_nil]
    exact r5
  · rintro i σ H6 _ ⟨_, _, _, _, _, _, s6⟩
    exact SqT.of (s6 _ _ e6)
  · rintro i z σ H6 hx ⟨hv6, bv6, v7, v8, rfl, r6, s6⟩
    rw [List.getElem?_map] at hx
    cases hn : F.outs[i]? with
    | none => rw [hn] at hx; cases hx
    | some n =>
    rw [hn] at hx
    obtain rfl : V.str n = z := Option.some.inj hx
    have hi := (List.getElem?_eq_some_iff.mp hn).1
    have nO := oo n (List.mem_of_getElem? hn)
    have gh : DGet H6 p.hd (.str n) (some (nV (home F n))) := by
      have := DGet.k (k := Sum.inr n) r6.a.hhd
      rw [r6.a.hom n nO] at this
      exact this
    have lhv := r6.h.length
    rw [List.length_append, lhs, List.length_replicate] at lhv
    have lbv := r6.b.length
    rw [List.length_append, outB_len, List.length_take] at lbv
    refine ⟨_, rfl, p.M, p.dx, _, rfl, r6.a.hM, rfl, _, rfl, p.M, C, p.dx, _, _, rfl, r6.a.hM, T.cl, T.n_homes, rfl, _, rfl, p.hd, nV (home F n), rfl, gh, ?_⟩
    refine ⟨(by show 0 ≤ sizeLine; decide), fun ep2 nep => ⟨(by show 2 ≤ sizeLine; decide), fun tt ntt => ⟨(by show 1 ≤ sizeLine; decide), fun sl nsl => ?_⟩⟩⟩
    have s7 : Same H6 (upd H6 ep2 (.tup [])) := same_new nep
    have hep : (upd H6 ep2 (.tup [])) ep2 = some (.tup []) := upd_same
    generalize upd H6 ep2 (.tup []) = H7 at s7 hep ntt nsl ⊢
    have s8 : Same H7 (upd H7 tt (.tup [nV (home F n), .ref ep2])) := same_new ntt
    have htt : (upd H7 tt (.tup [nV (home F n), .ref ep2])) tt = some (.tup [nV (home F n), .ref ep2]) := upd_same
    generalize upd H7 tt (.tup [nV (home F n), .ref ep2]) = H8 at s8 htt nsl ⊢
    have s9 : Same H8 (upd H8 sl (.lst [.ref tt])) := same_new nsl
    have hsl : (upd H8 sl (.lst [.ref tt])) sl = some (.lst [.ref tt]) := upd_same
    have s68 := s7.trans s8
    have slh : sl ≠ p.hl := fun z => by rw [z, s68 _ _ r6.a.hhl] at nsl; cases nsl
    have slb : sl ≠ p.bl := fun z => by rw [z, s68 _ _ r6.a.hbl] at nsl; cases nsl
    generalize upd H8 sl (.lst [.ref tt]) = H9 at s9 hsl ⊢
    have s69 := s68.trans s9
    have r9 := r6.same s69
    have hsr : SrAt H9 (.ref tt) (home F n, []) := ⟨tt, ep2, rfl, s9 _ _ htt, s9 _ _ (s8 _ _ hep)⟩
    refine ⟨F, moOf ms, p, hv6, bv6, aO, sl, outH, [.ref tt], [(home F n, [])], rfl, r9.a, .inr hO, (mo_out ms).symm, hsl, .cons hsr .nil, slh, slb, by omega, by rw [lbv]; show _ + 1 ≤ 1000; omega, fun v9 ws H10 hv9 hw9 g1 g2 b10 => ?_⟩
    rw [lhv] at hw9
    have tk : F.outs.take (i + 1) = F.outs.take i ++ [n] := by rw [List.take_add_one, hn]; rfl
    have k10 := r9.a.tk b10
    refine ⟨hv6 ++ [v9], bv6 ++ ws, _, _, rfl, ⟨r9.a.go b10 g1 g2, ?_, ?_⟩, b10.sameOf (s6.trans s69) nhl nbl⟩
    · rw [List.replicate_succ', ← List.append_assoc]
      exact (r9.h.imp fun _ _ z => z.keep k10).snoc hv9
    · rw [tk, outB_snoc, ← List.append_assoc, List.length_take, Nat.min_eq_left (by omega)]
      exact (r9.b.imp fun _ _ z => z.keep k10).app hw9
  rintro σ H6 ⟨hv6, bv6, v7, v8, rfl, r6, s6⟩
  rw [List.length_map, List.take_length] at r6
  refine ⟨_, rfl, p.M, C, p.dx, _, _, rfl, r6.a.hM, T.cl, T.n_hands, rfl, p.hl, hv6, rfl, .inl ⟨SqL.of r6.a.hhl, fun ha nha => ?_⟩⟩
  have s7 : Same H6 (upd H6 ha (.tup hv6)) := same_new nha
  have hha : (upd H6 ha (.tup hv6)) ha = some (.tup hv6) := upd_same
  generalize upd H6 ha (.tup hv6) = H7 at s7 hha ⊢
  have r7 := r6.same s7
  refine ⟨_, rfl, p.M, C, p.dx, _, _, rfl, r7.a.hM, T.cl, T.n_belts, rfl, p.bl, bv6, rfl, .inl ⟨SqL.of r7.a.hbl, fun ba nba => ⟨(by show 2 ≤ sizeLine; decide), fun rr nrr => ?_⟩⟩⟩
  have s8 : Same H7 (upd H7 ba (.tup bv6)) := same_new nba
  have hba : (upd H7 ba (.tup bv6)) ba = some (.tup bv6) := upd_same
  generalize upd H7 ba (.tup bv6) = H8 at s8 hba nrr ⊢
  have s9 : Same H8 (upd H8 rr (.tup [.ref ha, .ref ba])) := same_new nrr
  have r9 := (r7.same s8).same s9
  exact q rr _ ⟨ha, ba, hv6, bv6, upd_same, s9 _ _ (s8 _ _ hha), s9 _ _ hba, r9.h, r9.b⟩ (s6.trans (s7.trans (s8.trans s9)))
end
/-! ### parts counted, moments drawn -/
theorem parts_sum (t : Tr) : (1 : Int) + (t.kids.map fun u => ((u.parts.length : Nat) : Int)).sum = ((t.parts.length : Nat) : Int) := by
  rw [t.parts_eq, List.length_append]
  have key : ∀ l : List Tr, (l.map fun u => ((u.parts.length : Nat) : Int)).sum = (((l.flatMap Tr.parts).length : Nat) : Int) := by
    intro l
    induction l with
    | nil => rfl
    | cons u r ih =>
      rw [List.map_cons, List.sum_cons, ih, List.flatMap_cons, List.length_append]
      omega
  rw [key]
  show (1 : Int) + _ = ((_ + 1 : Nat) : Int)
  omega
section
variable {P : Program} {w : World} {K : PySem.W.Frag} {mg : Str → Option Value} {base : Heap}
def spN (K : PySem.W.Frag) : Nat → Sp
  | 0 => fun _ _ _ _ => False
  | n + 1 => fun vs H Q _ => ∃ (v : V) (t : Tr), vs = [v] ∧ TrAt H v t ∧ t.dep ≤ n + 1 ∧ ∀ H', Same H H' → Q (.int ((t.parts.length : Nat) : Int)) H'
theorem count_step {C : Addr} {f : Addr} {fd : FuncData} (T : Top w K mg C) (n : Nat) (below : ∀ (f : Addr) (fd : FuncData), Fun K "_law_count" "_law_count" s_law_count f fd → FnOk P w K mg base CX0 (n + 1) f fd ["_law_tree_here"] (spN K n)) (F : Fun K "_law_count" "_law_count" s_law_count f fd) :
    FnOk P w K mg base CX0 (n + 2) f fd ["_law_tree_here"] (spN K (n + 1)) := by
  obtain ⟨f_law_count, fd_law_count, F_law_count, b_law_count, m_law_count⟩ := T.d_law_count
  have G_law_count := below f_law_count fd_law_count F_law_count
  obtain ⟨f_law_parts, fd_law_parts, F_law_parts, b_law_parts, m_law_parts⟩ := T.d_law_parts
  have G_law_parts := ok_law_parts (P := P) (w := w) (base := base) F_law_parts T
  refine F.ok sc_law_count (fun vs H Q E h => ?_) (fun cdv A outer s H vs Q E hr h => ?_)
  · obtain ⟨v, t, rfl, _⟩ := h
    rfl
  obtain ⟨v, t, rfl, ht, hdep, q⟩ := h
  refine ⟨_, (pss_one (ps_ret (pe_op op_add pe_int (pe_callB (cr_sumK K rfl rfl) (by rfl) T.m_sum (by decide +kernel) (pa_cons (pe_lc (own := [("_law_part", 1)]) (g := gName 1) (tt := tYes) (by rfl) sc_law_count.nd (pi_listK K rfl (pe_call G_law_parts (hr.mono (by omega)) (by rfl) m_law_parts F_law_parts.kp b_law_parts .nil pass0 (pa_cons (pv 0) pa_nil))) (blkOk_by (own := [("_law_part", 1)]) (N := N_law_count) (sc := defScope s_law_count) (by decide +kernel)) (fun _ _ _ _ _ => (pg_name (i := 1) sc_law_count.nd rfl (Or.inl rfl))) (fun _ _ _ _ _ => pts_nil) (fun _ _ _ _ _ => (pe_call G_law_count (hr.mono (Nat.le_refl _)) (by rfl) m_law_count F_law_count.kp b_law_count .nil pass0 (pa_cons (pv 1) pa_nil)))) pa_nil))))), ?_⟩
  refine ⟨_, rfl, v, t, rfl, ht, fun kp kl H1 nkp hkp al s1 => ?_⟩
  refine ⟨kp, rfl, ⟨_, SqL.of hkp⟩, fun D nD => ?_⟩
  have lkl := al.length
  have kl3 := t.kids_len
  refine lc_list (K := K) (a := kp) (xs := kl) (fun i H9 => H9 D = some (.lst (((t.kids.take i).map fun u => ((u.parts.length : Nat) : Int)).map V.int)) ∧ Same H1 H9) ⟨upd_same, same_new nD⟩ (fun i H9 _ ⟨_, s9⟩ => SqL.of (s9 _ _ hkp)) ?_ ?_
  · rintro i z H9 hz ⟨hD, s9⟩
    obtain ⟨u, hu, tu⟩ := al.getL hz
    have tk : t.kids.take (i + 1) = t.kids.take i ++ [u] := by rw [List.take_add_one, hu]; rfl
    have dk := Tr.dep_kid (List.mem_of_getElem? hu)
    refine ⟨rfl, yes_in ?_⟩
    cases n with
    | zero =>
      exfalso
      have : 1 ≤ u.dep := by cases u <;> simp [Tr.dep]
      omega
    | succ n =>
      refine ⟨_, rfl, z, u, rfl, tu.keep (TK.same s9), by omega, fun H10 s10 => ?_⟩
      refine ⟨_, s10 _ _ hD, ?_, ?_, Same.own (s9.trans s10) nD⟩
      · rw [List.length_map, List.length_map, List.length_take]
        exact small1000 (by omega)
      · rw [upd_same, tk, List.map_append, List.map_append]
        rfl
  · rintro H9 ⟨hD, s9⟩
    rw [lkl, List.take_length] at hD
    refine ⟨D, _, rfl, SqL.of hD, _, _, rfl, rfl, ?_⟩
    have e := parts_sum t
    show Q (.int (1 + (t.kids.map fun u => ((u.parts.length : Nat) : Int)).sum)) H9
    rw [e]
    exact q H9 (s1.trans s9)
theorem count_all {C : Addr} (T : Top w K mg C) : ∀ (n : Nat) (f : Addr) (fd : FuncData), Fun K "_law_count" "_law_count" s_law_count f fd → FnOk P w K mg base CX0 (n + 1) f fd ["_law_tree_here"] (spN K n)
  | 0, f, fd, F => by
    refine F.ok sc_law_count (fun vs H Q E h => h.elim) (fun cdv A outer s H vs Q E hr h => h.elim)
  | n + 1, f, fd, F => count_step T n (count_all T n) F
abbrev sp_law_count (K : PySem.W.Frag) : Sp := spN K 10
theorem ok_law_count {C : Addr} {f : Addr} {fd : FuncData} (F : Fun K "_law_count" "_law_count" s_law_count f fd) (T : Top w K mg C) : FnOk P w K mg base CX0 11 f fd ["_law_tree_here"] (sp_law_count K) := count_all T 10 f fd F
def sp_law_moments (K : PySem.W.Frag) : Sp := fun vs H Q _ => ∃ f c : Addr, vs = [.ref f] ∧ Flow H f c ∧ ∀ (p : Addr) (ms : List Int) (H' : Hp), H p = none → H' p = some (.tup (ms.map V.int)) → ms.length = 9 → (∀ x ∈ ms, 0 ≤ x ∧ x ≤ 30) → Flow H' f c → But f H H' → Q (.ref p) H'
theorem ok_law_moments {f : Addr} {fd : FuncData} (F : Fun K "_law_moments" "_law_moments" s_law_moments f fd) {C : Addr} (T : Top w K mg C) : FnOk P w K mg base CX0 2 f fd ["_law_flow_here"] (sp_law_moments K) := by
  obtain ⟨f_law_pick, fd_law_pick, F_law_pick, b_law_pick, m_law_pick⟩ := T.d_law_pick
  have G_law_pick := ok_law_pick (P := P) (w := w) (base := base) F_law_pick T
  refine F.ok sc_law_moments (fun vs H Q E h => ?_) (fun cdv A outer s H vs Q E hr h => ?_)
  · obtain ⟨f, c, rfl, _⟩ := h
    rfl
  obtain ⟨f, c, rfl, hF, q⟩ := h
  refine ⟨_, (pss_one (ps_ret (pe_callTy (call_tuple_ofK K rfl) (by rfl) T.m_tuple (by decide +kernel) (pa_cons (pe_lc (own := [("_law_k", 1)]) (g := gName 1) (tt := tYes) (by rfl) sc_law_moments.nd (pi_range1 (by rfl) T.m_range (pa_cons pe_int pa_nil)) (blkOk_by (own := [("_law_k", 1)]) (N := N_law_moments) (sc := defScope s_law_moments) (by decide +kernel)) (fun _ _ _ _ _ => (pg_name (i := 1) sc_law_moments.nd rfl (Or.inl rfl))) (fun _ _ _ _ _ => pts_nil) (fun _ _ _ _ _ => (pe_call G_law_pick (hr.mono (by decide)) (by rfl) m_law_pick F_law_pick.kp b_law_pick .nil pass0 (pa_cons (pv 0) (pa_cons (pe_ix (ix_listK K rfl) (pe_lst (pa_cons pe_int (pa_cons pe_int pa_nil))) (pe_call G_law_pick (hr.mono (by decide)) (by rfl) m_law_pick F_law_pick.kp b_law_pick .nil pass0 (pa_cons (pv 0) (pa_cons pe_int pa_nil))) (fun _ _ => rfl)) pa_nil))))) pa_nil)))), ?_⟩
  refine ⟨_, rfl, by decide, by decide, fun D nD => ?_⟩
  have nf := hF.ne nD
  have nc := hF.nec nD
  refine lc_range (lo := 0) (n := (9 : Int).toNat) (fun i H5 => ∃ ms : List Int, H5 D = some (.lst (ms.map V.int)) ∧ ms.length = i ∧ (∀ x ∈ ms, 0 ≤ x ∧ x ≤ 30) ∧ Flow H5 f c ∧ But f H H5) ⟨[], upd_same, rfl, (fun x m => by cases m), hF.new nD, But.refl.new nD⟩ ?_ ?_
  · rintro i H5 hi ⟨ms, hD, lm, hm, F5, B5⟩
    have hi : i < 9 := hi
    refine ⟨rfl, yes_in ?_⟩
    refine ⟨_, rfl, (by show 2 ≤ sizeLine; decide), fun l nl => ?_⟩
    have lf := F5.ne nl
    have lD : D ≠ l := fun z => by rw [← z, hD] at nl; cases nl
    have s6 : Same H5 (upd H5 l (.lst [.int 31, .int 3])) := same_new nl
    have hl : (upd H5 l (.lst [.int 31, .int 3])) l = some (.lst [.int 31, .int 3]) := upd_same
    have F6 := F5.new (o := .lst [.int 31, .int 3]) nl
    generalize upd H5 l (.lst [.int 31, .int 3]) = H6 at s6 hl F6 ⊢
    refine ⟨_, rfl, f, c, 2, rfl, by decide, by decide, F6, fun v H7 v0 v1 F7 B7 => ?_⟩
    have hl7 := B7 _ _ hl lf
    have hD7 := B7 _ _ (s6 _ _ hD) nf
    have fin : ∀ k : Int, 1 ≤ k → k ≤ 31 → sp_law_pick K [.ref f, .int k] H7 (fun y H4 => ∃ acc, H4 D = some (.lst acc) ∧ acc.length < sizeLine ∧ ∃ ms' : List Int, (upd H4 D (.lst (acc ++ [y]))) D = some (.lst (ms'.map V.int)) ∧ ms'.length = i + 1 ∧ (∀ x ∈ ms', 0 ≤ x ∧ x ≤ 30) ∧ Flow (upd H4 D (.lst (acc ++ [y]))) f c ∧ But f H (upd H4 D (.lst (acc ++ [y])))) E0 := fun k k1 k31 => by
      refine ⟨f, c, k, rfl, by omega, ?_, F7, fun u H8 u0 u1 F8 B8 => ?_⟩
      · obtain ⟨j, rfl⟩ : ∃ j : Nat, k = ((j : Nat) : Int) := ⟨k.toNat, by omega⟩
        exact log_small (by omega)
      have hD8 := B8 _ _ hD7 nf
      refine ⟨_, hD8, by rw [List.length_map]; exact small1000 (by omega), ms ++ [u], by rw [upd_same, List.map_append]; rfl, by rw [List.length_append]; show _ + 1 = _; omega, fun x hx => ?_, ?_, ?_⟩
      · rcases List.mem_append.mp hx with hx | hx
        · exact hm x hx
        · rw [List.mem_singleton.mp hx]; omega
      · exact F8.lst nf nc
      · exact But.own (((B5.same s6).trans B7).trans B8) nD
    have : v = 0 ∨ v = 1 := by omega
    rcases this with rfl | rfl
    · exact ⟨l, _, 0, .int 31, rfl, rfl, SqL.of hl7, rfl, fin 31 (by decide) (by decide)⟩
    · exact ⟨l, _, 1, .int 3, rfl, rfl, SqL.of hl7, rfl, fin 3 (by decide) (by decide)⟩
  · rintro H5 ⟨ms, hD, lm, hm, F5, B5⟩
    refine ⟨D, _, rfl, .inl ⟨SqL.of hD, fun p np => ?_⟩⟩
    have nD0 : H D = none := nD
    refine q p ms _ ?_ upd_same lm hm (F5.new np) (B5.new np)
    have pf := F5.ne np
    exact But.none B5 np pf
end
/-! ### formulas kept, formulas as data -/
theorem small_parts {t : Tr} (h : t.small) : ∀ u ∈ t.parts, u.small := by
  induction t with
  | nm n k => intro u m; rw [List.mem_singleton.mp m]; exact h
  | no i => intro u m; rw [List.mem_singleton.mp m]; exact h
  | tm k t ih =>
    intro u m
    rcases List.mem_append.mp m with m | m
    · exact ih h.2 u m
    · rw [List.mem_singleton.mp m]; exact h
  | o2 w a b i1 i2 =>
    intro u m
    rcases List.mem_append.mp m with m | m
    · rcases List.mem_append.mp m with m | m
      · exact i1 h.1 u m
      · exact i2 h.2 u m
    · rw [List.mem_singleton.mp m]; exact h
  | o3 a b c i1 i2 i3 =>
    intro u m
    rcases List.mem_append.mp m with m | m
    · rcases List.mem_append.mp m with m | m
      · rcases List.mem_append.mp m with m | m
        · exact i1 h.1 u m
        · exact i2 h.2.1 u m
      · exact i3 h.2.2 u m
    · rw [List.mem_singleton.mp m]; exact h
theorem FmAtF.ext {H H' : Hp} {r : Addr} {F : Fm} (h : FmAtF H r F) (x : LamX.ExtN H H') : FmAtF H' r F := by
  obtain ⟨a1, a2, a3, a4, ob, wv, rv, d, e0, e1, e2, e3, e4, e5, e6⟩ := h
  have k := tk_ext x
  exact ⟨a1, a2, a3, a4, ob, wv, rv, d, k _ _ e0, k _ _ e1, x _ _ e2 (fun ps z => nomatch z), e3.imp fun _ _ z => z.keep k, k _ _ e4, e5.imp fun _ _ z => z.keep k, k _ _ e6⟩
theorem FmAtF.but {f : Addr} {H H' : Hp} {r : Addr} {F : Fm} {c : Addr} (h : FmAtF H r F) (hF : Flow H f c) (x : But f H H') : FmAtF H' r F := by
  obtain ⟨a1, a2, a3, a4, ob, wv, rv, d, e0, e1, e2, e3, e4, e5, e6⟩ := h
  have k := TK.but hF x
  have ne : a2 ≠ f := fun z => by
    obtain ⟨ns, i, p, q, r, g, _⟩ := hF
    rw [z, g] at e2; cases e2
  exact ⟨a1, a2, a3, a4, ob, wv, rv, d, k _ _ e0, k _ _ e1, x _ _ e2 ne, e3.imp fun _ _ z => z.keep k, k _ _ e4, e5.imp fun _ _ z => z.keep k, k _ _ e6⟩
theorem FmAtF.dp {K : PySem.W.Frag} {H : Hp} {r : Addr} {F : Fm} (h : FmAtF H r F) : Dp K H (.ref r) (fmD F) := by
  obtain ⟨a1, a2, a3, a4, ob, wv, rv, d, e0, e1, e2, e3, e4, e5, e6⟩ := h
  exact .tup (SqT.of e0) (.cons (.tup (SqT.of e1) (dp_strs _)) (.cons (.tup (SqT.fz e2) (was_dp e3)) (.cons (.tup (SqT.of e4) (rls_dp e5)) (.cons (.tup (SqT.of e6) (dp_strs _)) .nil))))
theorem GFm.neat {most : Nat} {F : Fm} (g : GFm most F) (m : most ≤ 5) : Neat (fmD F) 15 250000 := by
  have ow : ∀ z ∈ F.own, Nm z := fun z hz => (g.wd z hz).1.nm (by decide)
  refine fm_neat ⟨by have := g.li; omega, by have := g.lw; omega, by have := g.lr; omega, by have := g.lo; omega, fun p hp => by have := (g.tr p hp).1; omega⟩ ⟨fun z hz => ow z (List.mem_append.mpr (.inl hz)), fun z hz => ow z (g.oo z hz), fun p hp => ⟨ow _ (g.ko _ (List.mem_map.mpr ⟨p, hp, rfl⟩)), ?_, (g.th p hp).2⟩, fun p hp => ⟨ow _ (List.mem_append.mpr (.inr (List.mem_map.mpr ⟨p, hp, rfl⟩))), (g.tr p hp).2.1, fun q hq => ?_, (g.tr p hp).1⟩⟩
  · have := (g.th p hp).1; omega
  · obtain ⟨h1, h2⟩ := (g.tr p hp).2.2 q hq
    exact ⟨ow _ h1, by omega⟩
/-! ### the law: made rooms -/
theorem sumP_ge : ∀ {l : List (Str × Tr)}, (∀ p ∈ l, p.2.parts.length ≤ 10) → sumP l ≤ 10 * l.length
  | [], _ => Nat.le_refl _
  | p :: l, h => by
    have i := sumP_ge (l := l) fun q m => h q (List.mem_cons_of_mem _ m)
    have j := h p (List.mem_cons_self ..)
    unfold sumP at i ⊢
    rw [List.map_cons, List.sum_cons, List.length_cons]
    omega
theorem lean_part {t u : Tr} (h : u ∈ t.parts) (un : u.isNm = true) : u.ofNm ∈ t.leans := by
  rw [← t.leans_eq]
  exact List.mem_map.mpr ⟨u, List.mem_filter.mpr ⟨h, un⟩, rfl⟩
theorem bfr_small {most : Nat} {F : Fm} (g : GFm most F) (n : Str) : ∀ x ∈ bfr F n, Small x := by
  unfold bfr
  cases e : F.was.find? fun p => decide (p.1 = n) with
  | none => intro x m; cases m
  | some p => exact (g.th p (List.mem_of_find?_eq_some e)).2
theorem ahead_ok {most : Nat} {F : Fm} (g : GFm most F) (n : Str) {k : Nat} (h : k ≤ 6) : ThOk (ahead F n k) := by
  refine ⟨by rw [ahead_len]; exact h, fun x m => ?_⟩
  unfold ahead at m
  obtain ⟨j, _, rfl⟩ := List.mem_map.mp m
  rw [List.getD_eq_getElem?_getD]
  cases e : (bfr F n)[k - 1 - j]? with
  | none => exact ⟨by decide, by decide⟩
  | some y => exact bfr_small g n y (List.mem_of_getElem? e)
theorem GFm.made {most : Nat} {F : Fm} (g : GFm most F) (m : most ≤ 5) {mo : Str → Int} (hmo : ∀ z, 0 ≤ mo z ∧ mo z ≤ 30) : ∃ s, MadeIs F mo s := by
  obtain ⟨R, hR⟩ := g.rk
  have lr := g.lr
  have li := g.li
  have sp := sumP_ge (l := F.rules) fun p hp => (g.tr p hp).1
  refine made_is R g.nd (fun p hp u hu => ⟨small_parts (g.tr p hp).2.1 u hu, fun un => ?_⟩) ?_ g.oo (by have := g.lo; omega) hmo
  · have ml := lean_part hu un
    obtain ⟨g1, g2⟩ := (g.tr p hp).2.2 _ ml
    exact ⟨g1, fun z => hR p hp _ ml z, ahead_ok g _ g2⟩
  · rw [own_len]
    omega
theorem mo_some (ms : List Int) (z : Str) : moOf ms z = 0 ∨ moOf ms z ∈ ms := by
  unfold moOf
  cases e : (wordsL.zip ms).find? fun p => decide (p.1 = z) with
  | none => exact .inl rfl
  | some p => exact .inr (List.of_mem_zip (List.mem_of_find?_eq_some e)).2
theorem mo_bound {ms : List Int} (h : ∀ x ∈ ms, 0 ≤ x ∧ x ≤ 30) (z : Str) : 0 ≤ moOf ms z ∧ moOf ms z ≤ 30 := by
  rcases mo_some ms z with e | e
  · rw [e]; decide
  · exact h _ e
theorem mo_no {ms : List Int} {z : Str} (h : z ∉ wordsL) : moOf ms z = 0 := by
  unfold moOf
  have : ((wordsL.zip ms).find? fun p => decide (p.1 = z)) = none := by
    rw [List.find?_eq_none]
    intro q hq y
    exact h (of_decide_eq_true y ▸ (List.of_mem_zip hq).1)
  rw [this]
theorem made_mom {F : Fm} {ms : List Int} {s : Rm} (md : MadeIs F (moOf ms) s) : ∀ h ∈ roomHs F s, h.mom = moOf ms h.wd := fun h hh => by
  unfold roomHs at hh
  rcases List.mem_append.mp hh with hh | hh
  · rcases List.mem_append.mp hh with hh | hh
    · rw [md.ho] at hh
      rcases List.mem_append.mp hh with hh | hh
      · rw [(List.mem_replicate.mp hh).2]
        exact (mo_no (by decide +kernel)).symm
      · obtain ⟨p, _, rfl⟩ := List.mem_map.mp hh
        exact p.2.hr_mom _
    · exact (md.inn h hh).2
  · rw [(List.mem_replicate.mp hh).2]
    exact (mo_no (by decide +kernel)).symm
/-- the doors' words -/
def doorsL (hs : List HR) : List Str := (hs.filter fun h => decide (h.wd = ("in" : Str)) || decide (h.wd = ("out" : Str))).map HR.wd
theorem doors_app (a b : List HR) : doorsL (a ++ b) = doorsL a ++ doorsL b := by
  unfold doorsL
  rw [List.filter_append, List.map_append]
theorem doors_none {l : List HR} (h : ∀ x ∈ l, x.wd ∈ nine) : doorsL l = [] := by
  unfold doorsL
  rw [List.map_eq_nil_iff, List.filter_eq_nil_iff]
  intro x hx z
  have q := h x hx
  rw [Bool.or_eq_true, decide_eq_true_eq, decide_eq_true_eq] at z
  rcases z with z | z <;> rw [z] at q <;> exact absurd q (by decide +kernel)
theorem doors_rep (n : Nat) {x : HR} (h : x.wd = "in" ∨ x.wd = "out") : doorsL (List.replicate n x) = List.replicate n x.wd := by
  unfold doorsL
  rw [List.filter_eq_self.mpr, List.map_replicate]
  intro y hy
  rw [(List.mem_replicate.mp hy).2, Bool.or_eq_true, decide_eq_true_eq, decide_eq_true_eq]
  exact h
theorem made_doors {F : Fm} {mo : Str → Int} {s : Rm} (md : MadeIs F mo s) : doorsL (roomHs F s) = List.replicate F.ins.length ("in" : Str) ++ List.replicate F.outs.length ("out" : Str) := by
  unfold roomHs
  rw [md.ho, doors_app, doors_app, doors_app, doors_rep _ (.inl rfl), doors_rep _ (.inr rfl), doors_none (l := F.rules.map _), doors_none fun x hx => (md.inn x hx).1.wd, List.append_nil, List.append_nil]
  intro x hx
  obtain ⟨p, _, rfl⟩ := List.mem_map.mp hx
  exact Tr.hr_nine _ _
theorem count_doors (n m : Nat) (x : Str) : (((List.replicate n ("in" : Str) ++ List.replicate m ("out" : Str)).map PyData.str).countP fun z => PyData.eqv z (.str x)) = (if x = "in" then n else 0) + if x = "out" then m else 0 := by
  have e : ∀ a b : Str, PyData.eqv (.str a) (.str b) = decide (a = b) := fun a b => by
    show (a == b) = decide (a = b)
    by_cases k : a = b
    · rw [k, decide_eq_true rfl]; exact beq_self_eq_true b
    · rw [decide_eq_false k]; exact beq_eq_false_iff_ne.mpr k
  rw [List.map_append, List.map_replicate, List.map_replicate, List.countP_append, List.countP_replicate, List.countP_replicate, e, e]
  congr 1
  · by_cases h : x = "in"
    · rw [if_pos h, h, decide_eq_true rfl]; rfl
    · rw [if_neg h, decide_eq_false fun z => h z.symm]; rfl
  · by_cases h : x = "out"
    · rw [if_pos h, h, decide_eq_true rfl]; rfl
    · rw [if_neg h, decide_eq_false fun z => h z.symm]; rfl
theorem made_len {F : Fm} {mo : Str → Int} {s : Rm} (md : MadeIs F mo s) : (roomHs F s).length = F.ins.length + F.rules.length + s.inn.length + F.outs.length := by
  unfold roomHs
  rw [List.length_append, List.length_append, md.lho, own_len, List.length_replicate]
theorem RoomL.neat {hs : List HR} {bs : List BR} (ok : RoomL hs bs) : Neat (roomD hs bs) 5 300000 := by
  have h1 : Neat (.tuple (hs.map handD)) 4 81000 := (Neat.tup (NeatAll.map (f := handD) (dp := 2) (n := 200) fun h m => (ok.good h m).neat)).mono (by decide) (by have := ok.hands; omega)
  have h2 : Neat (.tuple (bs.map beltD)) 4 200000 := by
    refine (Neat.tup (NeatAll.map (f := beltD) (dp := 3) (n := 400) fun b m => ?_)).mono (by decide) (by have := ok.many; omega)
    obtain ⟨t1, t2⟩ := ok.th b m
    obtain ⟨n1, n2⟩ := ok.ends b m
    have lh := ok.hands
    have tt := (Neat.tup (NeatAll.map (f := PyData.int) (dp := 1) (n := 41) (l := b.th) fun x hx => Neat.int (by have := t2 x hx; unfold Small at this; omega)))
    exact (Neat.tup (.cons (Neat.int (i := ((b.one : Nat) : Int)) (dp := 2) (by omega)) (.cons (Neat.int (i := ((b.to : Nat) : Int)) (by omega)) (.cons tt .nil)))).mono (Nat.le_refl _) (by omega)
  exact (Neat.tup (.cons h1 (.cons h2 .nil))).mono (Nat.le_refl _) (by decide)
theorem ms_neat {ms : List Int} (l : ms.length = 9) (h : ∀ x ∈ ms, 0 ≤ x ∧ x ≤ 30) : Neat (.tuple (ms.map PyData.int)) 15 1000 :=
  (Neat.tup (NeatAll.map (f := PyData.int) (dp := 14) (n := 41) fun x hx => Neat.int (by have := h x hx; omega))).mono (Nat.le_refl _) (by omega)
section
variable {P : Program} {w : World} {K : PySem.W.Frag} {mg : Str → Option Value} {base : Heap}
/-- what stands all along -/
structure LB (K : PySem.W.Frag) (PT : Addr × Addr) (H H' : Hp) (r ma rp : Addr) (F : Fm) (ms : List Int) (s : Rm) : Prop where
  fm : FmAtF H' r F
  mo : H' ma = some (.tup (ms.map V.int))
  rm : RoomAt K H' rp (roomHs F s) (roomBs F s)
  ext : LamX.ExtN H H'
  tb : Tb2 PT H'
theorem LB.same {PT : Addr × Addr} {H H1 H2 : Hp} {r ma rp : Addr} {F : Fm} {ms : List Int} {s : Rm} (a : LB K PT H H1 r ma rp F ms s) (k : Same H1 H2) : LB K PT H H2 r ma rp F ms s :=
  ⟨a.fm.same k, k _ _ a.mo, a.rm.keep (TK.same k), a.ext.trans (ext_same k), a.tb.same k⟩
variable {cF cB : Addr} {PT : Addr × Addr} [TF : TabF K mg base cF PT] [TC : TabC K mg base cB PT]
include TF TC
def sp_law_right (K : PySem.W.Frag) (PT : Addr × Addr) : Sp := fun vs H Q _ => ∃ (r ma : Addr) (F : Fm) (most : Nat) (ms : List Int), vs = [.ref r, .ref ma] ∧ FmAtF H r F ∧ GFm most F ∧ most ≤ 5 ∧ H ma = some (.tup (ms.map V.int)) ∧ ms.length = 9 ∧ (∀ x ∈ ms, 0 ≤ x ∧ x ≤ 30) ∧ Tb2 PT H ∧ ∀ H', LamX.ExtN H H' → Tb2 PT H' → Q (.bl true) H'
set_option maxHeartbeats 0 in
theorem ok_law_right {f : Addr} {fd : FuncData} (F : Fun K "_law_right" "_law_right" s_law_right f fd) {C : Addr} (T : Top w K mg C) : FnG P w K mg base CX0 12 f fd ["_law_formulas_here", "_law_moments_here"] (sp_law_right K PT) := by
  obtain ⟨f_made_room, fd_made_room, F_made_room, b_made_room, m_made_room⟩ := T.d_made_room
  have G_made_room := ok_made_room (P := P) (w := w) (base := base) F_made_room T
  obtain ⟨f_look_room, fd_look_room, F_look_room, b_look_room, m_look_room⟩ := T.d_look_room
  have G_look_room := ok_look_room (P := P) (w := w) (base := base) F_look_room T
  obtain ⟨f_law_count, fd_law_count, F_law_count, b_law_count, m_law_count⟩ := T.d_law_count
  have G_law_count := ok_law_count (P := P) (w := w) (base := base) F_law_count T
  refine Fun.okG F sc_law_right (fun vs H Q E h => ?_) (fun cdv A outer s H vs Q E hr hG h => ?_)
  · obtain ⟨r, ma, F, most, ms, rfl, _⟩ := h
    rfl
  obtain ⟨r, ma, F, most, ms, rfl, hF, g, m5, hM, lms, hms, tb, q⟩ := h
  obtain ⟨s, md⟩ := g.made m5 (mo_bound hms)
  have hmr : ∀ x ∈ ms.reverse, 0 ≤ x ∧ x ≤ 30 := fun x hx => hms x (List.mem_reverse.mp hx)
  obtain ⟨sb, md2⟩ := g.made m5 (mo_bound hmr)
  have li := g.li
  have lr := g.lr
  have lo := g.lo
  have lown : F.own.length ≤ 100 := by
    have := own_len F
    unfold Fm.n0 at this
    omega
  have tr : ∀ p ∈ F.rules, p.2.parts.length ≤ 100 ∧ ∀ q ∈ p.2.leans, q.1 ∈ F.own ∧ q.2 ≤ 100 := fun p hp => ⟨by have := (g.tr p hp).1; omega, fun q hq => by obtain ⟨h1, h2⟩ := (g.tr p hp).2.2 q hq; exact ⟨h1, by omega⟩⟩
  have both : SayD (.tuple [fmD F, .tuple (ms.map PyData.int)]) := (Neat.tup (.cons (g.neat m5) (.cons ((ms_neat lms hms).mono (Nat.le_refl _) (show 1000 ≤ 1000 by decide)) .nil))).sayD (by decide) (by decide)
  obtain ⟨y1, y2, y3, y4⟩ := both
  obtain ⟨z1, z2, z3, z4⟩ := md.ok.neat.sayD (by decide) (by decide)
  let sg : Addr → Option V → Option V → Option V → Option V → Option V → Option V → Option V → Option V → Option V → L2.St := fun rp v4 v5 v6 v7 v8 v9 v10 v11 v12 => [some (.ref r), some (.ref ma), some (.str (PyData.tuple [fmD F, .tuple (ms.map PyData.int)]).shown), some (.ref rp), v4, v5, v6, v7, v8, v9, v10, v11, v12]
  let R1 : TS := fun D' σ' H' => D'.rt = Q ∧ ∃ rp : Addr, σ' = sg rp none none none none none none none none none ∧ LB K PT H H' r ma rp F ms s
  let R2 : TS := fun D' σ' H' => D'.rt = Q ∧ ∃ (rp wl : Addr) (v5 v6 v7 : Option V), σ' = sg rp (some (.ref wl)) v5 v6 v7 none none none none none ∧ LB K PT H H' r ma rp F ms s ∧ H' wl = some (.lst (wordsL.map V.str))
  let R3 : TS := fun D' σ' H' => D'.rt = Q ∧ ∃ (rp wl : Addr) (v5 v6 v7 v8 v9 v10 v11 : Option V), σ' = sg rp (some (.ref wl)) v5 v6 v7 v8 v9 v10 v11 none ∧ LB K PT H H' r ma rp F ms s ∧ H' wl = some (.lst (wordsL.map V.str))
  refine ⟨_, (pss_cons (ps_set (i := 2) sc_law_right.nd rfl (Or.inl rfl) (pe_callB (call_reprG K rfl hG hr.units) (by rfl) T.m_repr (by decide +kernel) (pa_cons (pe_tup (pa_cons (pv 0) (pa_cons (pv 1) pa_nil))) pa_nil)))
      (pss_cons (ps_set (i := 3) sc_law_right.nd rfl (Or.inl rfl) (pe_call G_made_room (hr.mono (by decide)) (by rfl) m_made_room F_made_room.kp b_made_room .nil pass0 (pa_cons (pv 0) (pa_cons (pv 1) pa_nil))))
      (pss_cons (ps_if (PW.pt (pw_or (pt_cmpR op_notB (pe_call G_look_room (hr.mono (by decide)) (by rfl) m_look_room F_look_room.kp b_look_room .nil pass0 (pa_cons (pv 3) pa_nil)) pe_bl (nomark _)) (pw_or1 (pt_cmpR op_ne (pe_callB (call_reprG K rfl hG hr.units) (by rfl) T.m_repr (by decide +kernel) (pa_cons (pe_tup (pa_cons (pv 0) (pa_cons (pv 1) pa_nil))) pa_nil)) (pv 2) (nomark _))))) (pss_one (ps_ret pe_bl)) pss_nil)
      (PSs.to (pss_cons (ps_set (i := 4) sc_law_right.nd rfl (Or.inl rfl) (pe_lst (pa_cons pe_str (pa_cons pe_str (pa_cons pe_str (pa_cons pe_str (pa_cons pe_str (pa_cons pe_str (pa_cons pe_str (pa_cons pe_str (pa_cons pe_str pa_nil)))))))))))
      (pss_cons (ps_set (i := 5) sc_law_right.nd rfl (Or.inr rfl) (pe_dictZip K rfl rfl (by rfl) T.m_dict (by rfl) T.m_zip (pa_cons (pv 4) (pa_cons (pv 1) pa_nil))))
      (pss_cons (ps_for PassesOwn.never rfl (pi_tupK K rfl (pe_ix (ix_tupK K rfl) (pv 3) pe_int (fun _ _ => rfl))) (pg_tupK K rfl rfl (pgs_cons (pg_name (i := 6) sc_law_right.nd rfl (Or.inl rfl)) (pgs_cons (pg_name (i := 7) sc_law_right.nd rfl (Or.inl rfl)) pgs_nil)))
        (pss_one (ps_if (pt_cmpR op_ne (pv 7) (pe_dget2 (hu_of hr) (pv 5) (pe_ix (ix_tupK K rfl) (pv 6) pe_int (fun _ _ => rfl)) pe_int ⟨by rfl, by rfl, by rfl, by rfl⟩) (nomark _)) (pss_one (ps_ret pe_bl)) pss_nil)))
      (PSs.to (pss_cons (ps_setLc (i := 8) (own := [("_law_rule", 6), ("_law_many", 7)]) (g := gTup K 2 (gCons (gName 6) (gCons (gName 7) gNil))) (by rfl) sc_law_right.nd rfl rfl (sw_true rfl rfl rfl (by decide +kernel)) (pi_tupK K rfl (pe_ix (ix_tupK K rfl) (pv 3) pe_int (fun _ _ => rfl))) (blkOk_by (own := [("_law_rule", 6), ("_law_many", 7)]) (N := N_law_right) (sc := defScope s_law_right) (by decide +kernel)) (fun _ _ _ _ _ => (pg_tupK K rfl rfl (pgs_cons (pg_name (i := 6) sc_law_right.nd rfl (Or.inl rfl)) (pgs_cons (pg_name (i := 7) sc_law_right.nd rfl (Or.inl rfl)) pgs_nil)))) (fun _ _ _ _ _ => pts_one (pt_cmpR (op_in_seqK K rfl) (pe_ix (ix_tupK K rfl) (pv 6) pe_int (fun _ _ => rfl)) (pe_tup (pa_cons pe_str (pa_cons pe_str pa_nil))) (by with_unfolding_all rfl))) (fun _ _ _ _ _ => (pe_ix (ix_tupK K rfl) (pv 6) pe_int (fun _ _ => rfl))))
      (pss_cons (ps_if (PW.pt (pw_or (pt_cmpR op_ne (pe_bmK K rfl PySem.F.plainAttrs_list PySem.F.slot_list_count PySem.F.type_list_count (mt_countDK K rfl (hu65 hr)) (pv 8) (pa_cons pe_str pa_nil)) (pe_callB (call_len_seqK K rfl) (by rfl) T.m_len (by decide +kernel) (pa_cons (pe_ix (ix_tupK K rfl) (pv 0) pe_int (fun _ _ => rfl)) pa_nil)) (nomark _)) (pw_or1 (pt_cmpR op_ne (pe_bmK K rfl PySem.F.plainAttrs_list PySem.F.slot_list_count PySem.F.type_list_count (mt_countDK K rfl (hu65 hr)) (pv 8) (pa_cons pe_str pa_nil)) (pe_callB (call_len_seqK K rfl) (by rfl) T.m_len (by decide +kernel) (pa_cons (pe_ix (ix_tupK K rfl) (pv 0) pe_int (fun _ _ => rfl)) pa_nil)) (nomark _))))) (pss_one (ps_ret pe_bl)) pss_nil)
      (pss_cons (ps_set (i := 9) sc_law_right.nd rfl (Or.inl rfl) (pe_callB (cr_sumK K rfl rfl) (by rfl) T.m_sum (by decide +kernel) (pa_cons (pe_lc (own := [("_law_name", 10), ("_law_tree_here", 11)]) (g := gTup K 2 (gCons (gName 10) (gCons (gName 11) gNil))) (tt := tYes) (by rfl) sc_law_right.nd (pi_tupK K rfl (pe_ix (ix_tupK K rfl) (pv 0) pe_int (fun _ _ => rfl))) (blkOk_by (own := [("_law_name", 10), ("_law_tree_here", 11)]) (N := N_law_right) (sc := defScope s_law_right) (by decide +kernel)) (fun _ _ _ _ _ => (pg_tupK K rfl rfl (pgs_cons (pg_name (i := 10) sc_law_right.nd rfl (Or.inl rfl)) (pgs_cons (pg_name (i := 11) sc_law_right.nd rfl (Or.inl rfl)) pgs_nil)))) (fun _ _ _ _ _ => pts_nil) (fun _ _ _ _ _ => (pe_call G_law_count (hr.mono (by decide)) (by rfl) m_law_count F_law_count.kp b_law_count .nil pass0 (pa_cons (pv 11) pa_nil)))) pa_nil)))
      (pss_cons (ps_if (pt_cmpR op_gt (pe_op op_sub (pe_callB (call_len_seqK K rfl) (by rfl) T.m_len (by decide +kernel) (pa_cons (pe_ix (ix_tupK K rfl) (pv 3) pe_int (fun _ _ => rfl)) pa_nil)) (pe_callB (call_len_seqK K rfl) (by rfl) T.m_len (by decide +kernel) (pa_cons (pv 8) pa_nil))) (pe_op op_add (pe_op op_mul pe_int (pv 9)) (pe_callB (call_len_seqK K rfl) (by rfl) T.m_len (by decide +kernel) (pa_cons (pe_ix (ix_tupK K rfl) (pv 0) pe_int (fun _ _ => rfl)) pa_nil))) (nomark _)) (pss_one (ps_ret pe_bl)) pss_nil)
      (PSs.to (pss_cons (ps_set (i := 12) sc_law_right.nd rfl (Or.inl rfl) (pe_call G_made_room (hr.mono (by decide)) (by rfl) m_made_room F_made_room.kp b_made_room .nil pass0 (pa_cons (pv 0) (pa_cons (pe_revT K rfl (pv 1)) pa_nil))))
      (pss_cons (ps_set (i := 5) sc_law_right.nd rfl (Or.inr rfl) (pe_dictZip K rfl rfl (by rfl) T.m_dict (by rfl) T.m_zip (pa_cons (pv 4) (pa_cons (pe_revT K rfl (pv 1)) pa_nil))))
      (pss_cons (ps_if (pt_not (pt_val (pe_callB (cr_allK K rfl rfl) (by rfl) T.m_all (by decide +kernel) (pa_cons (pe_lc (own := [("_law_rule", 6), ("_law_many", 7)]) (g := gTup K 2 (gCons (gName 6) (gCons (gName 7) gNil))) (tt := tYes) (by rfl) sc_law_right.nd (pi_tupK K rfl (pe_ix (ix_tupK K rfl) (pv 12) pe_int (fun _ _ => rfl))) (blkOk_by (own := [("_law_rule", 6), ("_law_many", 7)]) (N := N_law_right) (sc := defScope s_law_right) (by decide +kernel)) (fun _ _ _ _ _ => (pg_tupK K rfl rfl (pgs_cons (pg_name (i := 6) sc_law_right.nd rfl (Or.inl rfl)) (pgs_cons (pg_name (i := 7) sc_law_right.nd rfl (Or.inl rfl)) pgs_nil)))) (fun _ _ _ _ _ => pts_nil) (fun _ _ _ _ _ => (pe_cmpR op_eq (pv 7) (pe_dget2 (hu_of hr) (pv 5) (pe_ix (ix_tupK K rfl) (pv 6) pe_int (fun _ _ => rfl)) pe_int ⟨by rfl, by rfl, by rfl, by rfl⟩) (nomark _)))) pa_nil)))) (pss_one (ps_ret pe_bl)) pss_nil)
      (pss_one (ps_ret (pe_cmpR op_eq (pe_callB (call_reprG K rfl hG hr.units) (by rfl) T.m_repr (by decide +kernel) (pa_cons (pe_call G_made_room (hr.mono (by decide)) (by rfl) m_made_room F_made_room.kp b_made_room .nil pass0 (pa_cons (pv 0) (pa_cons (pv 1) pa_nil))) pa_nil)) (pe_callB (call_reprG K rfl hG hr.units) (by rfl) T.m_repr (by decide +kernel) (pa_cons (pv 3) pa_nil)) (nomark _))))))) R3 ?tail3))))) R2 ?tail2)))) R1 ?tail1)))), ?_⟩
  case tail1 =>
    rintro D' σ' H1 ⟨eD, rp, rfl, b1⟩
    obtain ⟨ha, ba, hv, bv, er, eh, eb, alh, alb⟩ := b1.rm.ex
    refine ⟨(by show 9 ≤ sizeLine; decide), fun wl nwl => ?_⟩
    generalize e2 : upd H1 wl _ = H2
    have s2 : Same H1 H2 := by rw [← e2]; exact same_new nwl
    have hwl : H2 wl = some (.lst (wordsL.map V.str)) := by rw [← e2]; exact upd_same
    clear e2
    refine ⟨_, rfl, _, rfl, wl, ma, wordsL.map Sum.inr, ms.map V.int, rfl, SqL.of hwl, SqT.of (s2 _ _ b1.mo), fun od nod => ?_⟩
    generalize e3 : upd H2 od _ = H3
    have s3 : Same H2 H3 := by rw [← e3]; exact same_new nod
    have hod : H3 od = some (.dK (mergeK [] ((wordsL.map (Sum.inr : Str → Key)).zip (ms.map V.int)))) := by rw [← e3]; exact upd_same
    clear e3
    have s13 := s2.trans s3
    refine ⟨_, rfl, rp, _, _, _, rfl, rfl, SqT.of (s13 _ _ er), atI_nat (j := 0) rfl, ha, rfl, ⟨_, SqT.of (s13 _ _ eh)⟩, ?_⟩
    refine for_tup (K := K) (a := ha) (xs := hv) (fun i σ H5 => ∃ v6 v7 : Option V, σ = sg rp (some (.ref wl)) (some (.ref od)) v6 v7 none none none none none ∧ Same H3 H5) ⟨_, _, rfl, Same.refl _⟩ (fun i σ H5 _ ⟨_, _, _, s5⟩ => SqT.of (s5 _ _ (s13 _ _ eh))) ?_ ?_
    · rintro i z σ H5 hx ⟨v6, v7, rfl, s5⟩
      obtain ⟨h, hh, t, rr, rfl, g1, g2⟩ := alh.getL hx
      have s15 := s13.trans s5
      have hm := made_mom md h (List.mem_of_getElem? hh)
      refine ⟨t, _, rfl, SqT.of (s15 _ _ g1), rfl, _, _, rfl, _, _, rfl, rfl, ?_⟩
      refine ⟨_, rfl, _, rfl, od, rfl, .inl ⟨_, .inl (s5 _ _ hod)⟩, _, rfl, rr, _, _, _, rfl, rfl, (g2.keep (TK.same s15)).sq, atI_nat (j := 0) rfl, _, DGet.k (k := Sum.inr h.wd) (s5 _ _ hod), ?_⟩
      rw [mo_dict]
      refine ⟨rfl, _, rfl, if_bl (fun e => ?_) (fun _ => ?_)⟩
      · rw [← hm, decide_eq_true rfl] at e
        cases e
      · exact ⟨_, _, rfl, s5⟩
    · rintro σ H5 ⟨v6, v7, rfl, s5⟩
      have s15 := s13.trans s5
      exact ⟨eD, rp, wl, _, _, _, rfl, b1.same s15, s5 _ _ (s3 _ _ hwl)⟩
  case tail2 =>
    rintro D' σ' H1 ⟨eD, rp, wl, v5, v6, v7, rfl, b1, hwl⟩
    obtain ⟨ha, ba, hv, bv, er, eh, eb, alh, alb⟩ := b1.rm.ex
    obtain ⟨a1, a2, a3, a4, ob, wv, rv, nod, e0, e1, e2, e3, e4, e5, e6⟩ := b1.fm
    have lhv := alh.length
    have lhs := md.ok.hands
    refine ⟨_, rfl, rp, _, _, _, rfl, rfl, SqT.of er, atI_nat (j := 0) rfl, ha, rfl, ⟨_, SqT.of eh⟩, fun D nD => ?_⟩
    refine lc_tup (K := K) (a := ha) (xs := hv) (fun i H9 => H9 D = some (.lst ((doorsL ((roomHs F s).take i)).map V.str)) ∧ Same H1 H9) ⟨upd_same, same_new nD⟩ (fun i H9 _ ⟨_, s9⟩ => SqT.of (s9 _ _ eh)) ?_ ?_
    · rintro i z H9 hx ⟨hD, s9⟩
      obtain ⟨h, hh, t, rr, rfl, g1, g2⟩ := alh.getL hx
      have hi := (List.getElem?_eq_some_iff.mp hh).1
      have gh := md.ok.good h (List.mem_of_getElem? hh)
      have tk : (roomHs F s).take (i + 1) = (roomHs F s).take i ++ [h] := by rw [List.take_add_one, hh]; rfl
      refine ⟨t, _, rfl, SqT.of (s9 _ _ g1), rfl, _, _, rfl, _, _, rfl, rfl, rfl, ?_⟩
      refine ⟨_, rfl, rr, _, _, _, rfl, rfl, (g2.keep (TK.same s9)).sq, atI_nat (j := 0) rfl, (by show 2 ≤ sizeLine; decide), fun tp ntp => ?_⟩
      have s10 : Same H9 (upd H9 tp (.tup [.str "in", .str "out"])) := same_new ntp
      have tpD : tp ≠ D := fun z => by rw [z, hD] at ntp; cases ntp
      refine ⟨tp, _, rfl, .inr (SqT.of upd_same), rfl, rfl, _, rfl, ?_⟩
      generalize upd H9 tp (.tup [.str "in", .str "out"]) = H10 at s10 ⊢
      have hD10 := s10 _ _ hD
      refine if_in (zs := ["in", "out"]) (fun c => ?_) (fun c => ?_)
      · have c : (decide (h.wd = ("in" : Str)) || decide (h.wd = ("out" : Str))) = true := by
          rw [Bool.or_eq_true, decide_eq_true_eq, decide_eq_true_eq]
          simpa using c
        refine ⟨_, rfl, rr, _, _, _, rfl, rfl, ((g2.keep (TK.same s9)).keep (TK.same s10)).sq, atI_nat (j := 0) rfl, _, hD10, ?_, ?_, Same.own (s9.trans s10) nD⟩
        · have : (doorsL ((roomHs F s).take i)).length ≤ ((roomHs F s).take i).length := by
            unfold doorsL
            rw [List.length_map]
            exact List.length_filter_le ..
          rw [List.length_take] at this
          rw [List.length_map]
          exact small1000 (by omega)
        · rw [upd_same, tk, doors_app, List.map_append]
          have : doorsL [h] = [h.wd] := by
            unfold doorsL
            rw [List.filter_cons, if_pos c]
            rfl
          rw [this]
          rfl
      · have c : ¬ ((decide (h.wd = ("in" : Str)) || decide (h.wd = ("out" : Str))) = true) := by
          rw [Bool.or_eq_true, decide_eq_true_eq, decide_eq_true_eq]
          simpa using c
        refine ⟨?_, s9.trans s10⟩
        have : doorsL [h] = [] := by
          unfold doorsL
          rw [List.filter_cons, if_neg c]
          rfl
        rw [tk, doors_app, this, List.append_nil]
        exact hD10
    rintro H2 ⟨hD, s2⟩
    rw [lhv, List.take_length, made_doors md] at hD
    have plain : ∀ l : List Str, PyData.plainAll (l.map PyData.str) = true := fun l => by
      induction l with
      | nil => rfl
      | cons x l ih => rw [List.map_cons]; exact ih
    have k1 := count_doors F.ins.length F.outs.length "in"
    have k2 := count_doors F.ins.length F.outs.length "out"
    rw [if_pos rfl, if_neg (by decide +kernel), Nat.add_zero] at k1
    rw [if_neg (by decide +kernel), if_pos rfl, Nat.zero_add] at k2
    -- the doors counted
    refine ⟨_, rfl, .inl ⟨rfl, _, SqL.of hD⟩, D, .str "in", _, .str "in", _, rfl, rfl, SqL.of hD, dp_strs _, .str _, plain _, rfl, by decide, ?_⟩
    rw [k1]
    refine ⟨_, rfl, r, _, _, _, rfl, rfl, SqT.of (s2 _ _ e0), atI_nat (j := 0) rfl, a1, _, rfl, .inr (SqT.of (s2 _ _ e1)), ?_⟩
    refine ⟨rfl, _, rfl, if_bl (fun c => ?_) (fun _ => ?_)⟩
    · rw [List.length_map, decide_eq_true rfl] at c
      cases c
    refine ⟨_, rfl, .inl ⟨rfl, _, SqL.of hD⟩, D, .str "out", _, .str "out", _, rfl, rfl, SqL.of hD, dp_strs _, .str _, plain _, rfl, by decide, ?_⟩
    rw [k2]
    refine ⟨_, rfl, r, _, _, _, rfl, rfl, SqT.of (s2 _ _ e0), atI_nat (j := 3) rfl, a4, _, rfl, .inr (SqT.of (s2 _ _ e6)), ?_⟩
    refine ⟨rfl, _, rfl, if_bl (fun c => ?_) (fun _ => ?_)⟩
    · rw [List.length_map, decide_eq_true rfl] at c
      cases c
    -- the parts counted
    refine ⟨_, rfl, r, _, _, _, rfl, rfl, SqT.of (s2 _ _ e0), atI_nat (j := 2) rfl, a3, rfl, ⟨_, SqT.of (s2 _ _ e4)⟩, fun D2 nD2 => ?_⟩
    have lrv := e5.length
    refine lc_tup (K := K) (a := a3) (xs := rv) (fun i H9 => H9 D2 = some (.lst (((F.rules.take i).map fun p => ((p.2.parts.length : Nat) : Int)).map V.int)) ∧ Same H2 H9) ⟨upd_same, same_new nD2⟩ (fun i H9 _ ⟨_, s9⟩ => SqT.of (s9 _ _ (s2 _ _ e4))) ?_ ?_
    · rintro i z H9 hx ⟨hD9, s9⟩
      obtain ⟨p, hp, b, x, rfl, hb, ht⟩ := e5.getL hx
      have s29 := s2.trans s9
      have dp := p.2.dep_parts
      have lp := (g.tr p (List.mem_of_getElem? hp)).1
      have tk : F.rules.take (i + 1) = F.rules.take i ++ [p] := by rw [List.take_add_one, hp]; rfl
      refine ⟨b, _, rfl, SqT.of (s29 _ _ hb), rfl, _, _, rfl, _, _, rfl, rfl, rfl, yes_in ?_⟩
      refine ⟨_, rfl, x, p.2, rfl, ht.keep (TK.same s29), (show p.2.dep ≤ 9 + 1 from Nat.le_trans dp (by omega)), fun H10 s10 => ⟨_, s10 _ _ hD9, ?_, ?_, Same.own (s9.trans s10) nD2⟩⟩
      · rw [List.length_map, List.length_map, List.length_take]
        exact small1000 (by omega)
      · rw [upd_same, tk, List.map_append, List.map_append]
        rfl
    rintro H3 ⟨hD2, s3⟩
    rw [lrv, List.take_length] at hD2
    have s13 := s2.trans s3
    refine ⟨D2, _, rfl, SqL.of hD2, ?_⟩
    have sumE : (F.rules.map fun p => ((p.2.parts.length : Nat) : Int)).sum = ((sumP F.rules : Nat) : Int) := by
      unfold sumP
      have : ∀ l : List (Str × Tr), (l.map fun p => ((p.2.parts.length : Nat) : Int)).sum = (((l.map fun p => p.2.parts.length).sum : Nat) : Int) := by
        intro l
        induction l with
        | nil => rfl
        | cons p l ih => rw [List.map_cons, List.map_cons, List.sum_cons, List.sum_cons, ih]; omega
      exact this _
    rw [sumE]
    have hD3 := s3 _ _ hD
    refine ⟨_, rfl, rp, _, _, _, rfl, rfl, SqT.of (s13 _ _ er), atI_nat (j := 0) rfl, ha, _, rfl, .inr (SqT.of (s13 _ _ eh)), _, rfl, D, _, rfl, .inl (SqL.of hD3), ?_⟩
    have spb := sumP_ge (l := F.rules) fun p hp => (g.tr p hp).1
    refine ⟨_, _, rfl, rfl, _, rfl, _, _, rfl, rfl, .inl ⟨by omega, by omega⟩, _, rfl, r, _, _, _, rfl, rfl, SqT.of (s13 _ _ e0), atI_nat (j := 2) rfl, a3, _, rfl, .inr (SqT.of (s13 _ _ e4)), ?_⟩
    refine ⟨_, _, rfl, rfl, _, _, rfl, rfl, _, rfl, if_bl (fun c => ?_) (fun _ => ?_)⟩
    · exfalso
      have c := of_decide_eq_true c
      have l1 := made_len md
      have l2 := md.few
      rw [List.length_map, List.length_append, List.length_replicate, List.length_replicate, lhv, l1, lrv] at c
      omega
    · exact ⟨eD, rp, wl, _, _, _, _, _, _, _, rfl, b1.same s13, s13 _ _ hwl⟩
  case tail3 =>
    rintro D' σ' H1 ⟨eD, rp, wl, v5, v6, v7, v8, v9, v10, v11, rfl, b1, hwl⟩
    -- the other room
    refine ⟨_, rfl, _, rfl, ma, _, rfl, SqT.of b1.mo, fun mr nmr => ?_⟩
    have s2 : Same H1 (upd H1 mr (.tup (ms.map V.int).reverse)) := same_new nmr
    have hmr2 : (upd H1 mr (.tup (ms.map V.int).reverse)) mr = some (.tup (ms.reverse.map V.int)) := by rw [upd_same, List.map_reverse]
    generalize upd H1 mr (.tup (ms.map V.int).reverse) = H2 at s2 hmr2 ⊢
    have b2 := b1.same s2
    refine ⟨F, ms.reverse, sb, r, mr, rfl, b2.fm, hmr2, md2, g.nd, g.kn, lown, by omega, g.oo, tr, fun op H3 hO s3 => ?_⟩
    have b3 := b2.same s3
    obtain ⟨ha, ba, hv, bv, er, eh, eb, alh, alb⟩ := hO.ex
    have lhv := alh.length
    have lhs := md2.ok.hands
    have hwl3 := s3 _ _ (s2 _ _ hwl)
    refine ⟨_, rfl, ?_⟩
    refine ⟨_, rfl, ma, _, rfl, SqT.of b3.mo, fun mr2 nmr2 => ?_⟩
    have s4 : Same H3 (upd H3 mr2 (.tup (ms.map V.int).reverse)) := same_new nmr2
    have hmr4 : (upd H3 mr2 (.tup (ms.map V.int).reverse)) mr2 = some (.tup (ms.reverse.map V.int)) := by rw [upd_same, List.map_reverse]
    generalize upd H3 mr2 (.tup (ms.map V.int).reverse) = H4 at s4 hmr4 ⊢
    refine ⟨wl, mr2, wordsL.map Sum.inr, ms.reverse.map V.int, rfl, SqL.of (s4 _ _ hwl3), SqT.of hmr4, fun od nod => ?_⟩
    generalize e5 : upd H4 od _ = H5
    have s5 : Same H4 H5 := by rw [← e5]; exact same_new nod
    have hod : H5 od = some (.dK (mergeK [] ((wordsL.map (Sum.inr : Str → Key)).zip (ms.reverse.map V.int)))) := by rw [← e5]; exact upd_same
    clear e5
    have s35 := s4.trans s5
    have b5 := b3.same s35
    refine ⟨_, rfl, op, _, _, _, rfl, rfl, SqT.of (s35 _ _ er), atI_nat (j := 0) rfl, ha, rfl, ⟨_, SqT.of (s35 _ _ eh)⟩, fun D nD => ?_⟩
    refine lc_tup (K := K) (a := ha) (xs := hv) (fun i H9 => H9 D = some (.lst ((List.replicate i true).map V.bl)) ∧ Same H5 H9) ⟨upd_same, same_new nD⟩ (fun i H9 _ ⟨_, s9⟩ => SqT.of (s9 _ _ (s35 _ _ eh))) ?_ ?_
    · rintro i z H9 hx ⟨hD, s9⟩
      obtain ⟨h, hh, t, rr, rfl, g1, g2⟩ := alh.getL hx
      have hi := (List.getElem?_eq_some_iff.mp hh).1
      have hm := made_mom md2 h (List.mem_of_getElem? hh)
      have s39 := s35.trans s9
      refine ⟨t, _, rfl, SqT.of (s39 _ _ g1), rfl, _, _, rfl, _, _, rfl, rfl, rfl, yes_in ?_⟩
      refine ⟨_, rfl, _, rfl, od, rfl, .inl ⟨_, .inl (s9 _ _ hod)⟩, _, rfl, rr, _, _, _, rfl, rfl, (g2.keep (TK.same s39)).sq, atI_nat (j := 0) rfl, _, DGet.k (k := Sum.inr h.wd) (s9 _ _ hod), ?_⟩
      rw [mo_dict]
      refine ⟨rfl, _, hD, ?_, ?_, Same.own s9 nD⟩
      · rw [List.length_map, List.length_replicate]
        exact small1000 (by omega)
      · rw [upd_same, List.replicate_succ', List.map_append, ← hm, decide_eq_true rfl]
        rfl
    rintro H6 ⟨hD, s6⟩
    refine ⟨D, _, rfl, SqL.of hD, ?_⟩
    rw [show (List.replicate hv.length true).all id = true by simp]
    refine ⟨_, rfl, if_bl (fun z => nomatch z) (fun _ => ?_)⟩
    have b6 := b5.same s6
    refine ⟨_, rfl, _, rfl, F, ms, s, r, ma, rfl, b6.fm, b6.mo, md, g.nd, g.kn, lown, by omega, g.oo, tr, fun qp H7 hQ s7 => ?_⟩
    have b7 := b6.same s7
    refine ⟨.ref qp, _, rfl, hQ.dp, z1, z2, z3, z4, _, rfl, .ref rp, _, rfl, b7.rm.dp, z1, z2, z3, z4, rfl, ?_⟩
    rw [decide_eq_true rfl, eD]
    exact q H7 b7.ext b7.tb
  refine ⟨_, rfl, _, rfl, (by show 2 ≤ sizeLine; decide), fun p0 np0 => ?_⟩
  have s0 : Same H (upd H p0 (.tup [.ref r, .ref ma])) := same_new np0
  have hp0 : (upd H p0 (.tup [.ref r, .ref ma])) p0 = some (.tup [.ref r, .ref ma]) := upd_same
  generalize upd H p0 (.tup [.ref r, .ref ma]) = H0 at s0 hp0 ⊢
  have hF0 := hF.same s0
  have hM0 := s0 _ _ hM
  refine ⟨.ref p0, _, rfl, .tup (SqT.of hp0) (.cons hF0.dp (.cons (.tup (SqT.of hM0) (dp_ints _)) .nil)), y1, y2, y3, y4, ?_⟩
  refine ⟨_, rfl, _, rfl, F, ms, s, r, ma, rfl, hF0, hM0, md, g.nd, g.kn, lown, by omega, g.oo, tr, fun rp H1 hR s1 => ?_⟩
  have s01 := s0.trans s1
  refine ⟨_, rfl, rp, _, _, rfl, hR, md.ok, tb.same s01, fun H2 e2 tb2 => ⟨true, true, rfl, rfl, _, rfl, if_bl (fun z => nomatch z) (fun _ => ?_)⟩⟩
  have e02 := (ext_same s01).trans e2
  have hF2 := hF.ext e02
  have hM2 := tk_ext e02 _ _ hM
  refine ⟨_, rfl, _, rfl, (by show 2 ≤ sizeLine; decide), fun p3 np3 => ?_⟩
  have s3 : Same H2 (upd H2 p3 (.tup [.ref r, .ref ma])) := same_new np3
  have hp3 : (upd H2 p3 (.tup [.ref r, .ref ma])) p3 = some (.tup [.ref r, .ref ma]) := upd_same
  generalize upd H2 p3 (.tup [.ref r, .ref ma]) = H3 at s3 hp3 ⊢
  refine ⟨.ref p3, _, rfl, .tup (SqT.of hp3) (.cons (hF2.same s3).dp (.cons (.tup (SqT.of (s3 _ _ hM2)) (dp_ints _)) .nil)), y1, y2, y3, y4, _, rfl, rfl, _, rfl, ?_⟩
  rw [decide_eq_true rfl]
  refine if_bl (fun z => nomatch z) (fun _ => ?_)
  exact ⟨rfl, rp, rfl, hF2.same s3, s3 _ _ hM2, (hR.keep (tk_ext e2)).keep (TK.same s3), e02.trans (ext_same s3), tb2.same s3⟩
/-- formulas and moments that are asked -/
def AskAt (H : Hp) (v : V) : Prop := ∃ (t r ma : Addr) (F : Fm) (most : Nat) (ms : List Int), v = .ref t ∧ H t = some (.tup [.ref r, .ref ma]) ∧ FmAtF H r F ∧ GFm most F ∧ most ≤ 5 ∧ H ma = some (.tup (ms.map V.int)) ∧ ms.length = 9 ∧ ∀ x ∈ ms, 0 ≤ x ∧ x ≤ 30
omit TF TC in
theorem FmAtF.fnl {H H' : Hp} {r : Addr} {F : Fm} (h : FmAtF H r F) (k : Fnl H H') : FmAtF H' r F := by
  obtain ⟨a1, a2, a3, a4, ob, wv, rv, d, e0, e1, e2, e3, e4, e5, e6⟩ := h
  exact ⟨a1, a2, a3, a4, ob, wv, rv, d, k.tk _ _ e0, k.tk _ _ e1, k _ _ e2 (fun _ z => nomatch z), e3.imp fun _ _ z => z.keep k.tk, k.tk _ _ e4, e5.imp fun _ _ z => z.keep k.tk, k.tk _ _ e6⟩
omit TF TC in
theorem AskAt.fnl {H H' : Hp} {v : V} (h : AskAt H v) (k : Fnl H H') : AskAt H' v := by
  obtain ⟨t, r, ma, F, most, ms, rfl, e1, e2, g, m, e3, l, b⟩ := h
  exact ⟨t, r, ma, F, most, ms, rfl, k.tk _ _ e1, e2.fnl k, g, m, k.tk _ _ e3, l, b⟩
omit TF TC in
theorem AskAt.ext {H H' : Hp} {v : V} (h : AskAt H v) (k : LamX.ExtN H H') : AskAt H' v := by
  obtain ⟨t, r, ma, F, most, ms, rfl, e1, e2, g, m, e3, l, b⟩ := h
  exact ⟨t, r, ma, F, most, ms, rfl, tk_ext k _ _ e1, e2.ext k, g, m, tk_ext k _ _ e3, l, b⟩
omit TF TC in
theorem fnl_but {H H' : Hp} {f c : Addr} (F : Flow H f c) (b : But f H H') : Fnl H H' := by
  obtain ⟨ns, i, p, q, r, g, _⟩ := F
  exact .but g b
omit TF TC in
theorem Tb2.lst {H : Hp} {D : Addr} {xs ys : List V} (t : Tb2 PT H) (e : H D = some (.lst xs)) : Tb2 PT (upd H D (.lst ys)) := by
  obtain ⟨⟨p1, e1, t1⟩, p2, e2, t2⟩ := t
  exact ⟨⟨p1, by rw [upd_ne (fun z => by rw [z, e] at e1; cases e1)]; exact e1, t1⟩, p2, by rw [upd_ne (fun z => by rw [z, e] at e2; cases e2)]; exact e2, t2⟩
def sp_law (K : PySem.W.Frag) (PT : Addr × Addr) : Sp := fun vs H Q _ => ∃ (a : Addr) (ns : List Int), vs = [.ref a] ∧ SqL K H a (ns.map V.int) ∧ ns.length ≤ 63 ∧ Tb2 PT H ∧ ∀ H', Q (.bl true) H'
set_option maxHeartbeats 0 in
theorem ok_law {f : Addr} {fd : FuncData} (F : Fun K "law" "law" s_law f fd) {C : Addr} (T : Top w K mg C) : FnG P w K mg base CX0 13 f fd ["_law_script"] (sp_law K PT) := by
  obtain ⟨f_law_flow, fd_law_flow, F_law_flow, b_law_flow, m_law_flow⟩ := T.d_law_flow
  have G_law_flow := ok_law_flow (P := P) (w := w) (base := base) F_law_flow T
  obtain ⟨f_law_right, fd_law_right, F_law_right, b_law_right, m_law_right⟩ := T.d_law_right
  have G_law_right := ok_law_right (P := P) (w := w) (base := base) F_law_right T
  obtain ⟨f_law_formulas, fd_law_formulas, F_law_formulas, b_law_formulas, m_law_formulas⟩ := T.d_law_formulas
  have G_law_formulas := ok_law_formulas (P := P) (w := w) (base := base) F_law_formulas T
  obtain ⟨f_law_moments, fd_law_moments, F_law_moments, b_law_moments, m_law_moments⟩ := T.d_law_moments
  have G_law_moments := ok_law_moments (P := P) (w := w) (base := base) F_law_moments T
  refine Fun.okG F sc_law (fun vs H Q E h => ?_) (fun cdv A outer s H vs Q E hr hG h => ?_)
  · obtain ⟨a, ns, rfl, _⟩ := h
    rfl
  obtain ⟨a, ns, rfl, hS, hlen, tb0, q⟩ := h
  refine ⟨_, (pss_cons (ps_set (i := 1) sc_law.nd rfl (Or.inl rfl) (pe_call G_law_flow (hr.mono (by decide)) (by rfl) m_law_flow F_law_flow.kp b_law_flow .nil pass0 (pa_cons (pv 0) pa_nil)))
      (pss_cons (ps_set (i := 2) sc_law.nd rfl (Or.inl rfl) (pe_lst pa_nil))
      (pss_cons (ps_for PassesOwn.never rfl (pi_tupK K rfl (pe_tup (pa_cons pe_int (pa_cons pe_int pa_nil)))) (pg_name (i := 3) sc_law.nd rfl (Or.inl rfl))
        (pss_one (ps_expr (pe_bmK K rfl PySem.F.plainAttrs_list PySem.F.slot_list_append PySem.F.type_list_append mt_append (pv 2) (pa_cons (pe_tup (pa_cons (pe_call G_law_formulas (hr.mono (by decide)) (by rfl) m_law_formulas F_law_formulas.kp b_law_formulas .nil pass0 (pa_cons (pv 1) (pa_cons (pv 3) pa_nil))) (pa_cons (pe_call G_law_moments (hr.mono (by decide)) (by rfl) m_law_moments F_law_moments.kp b_law_moments .nil pass0 (pa_cons (pv 1) pa_nil)) pa_nil))) pa_nil)))))
      (pss_one (ps_ret (pe_callB (cr_allK K rfl rfl) (by rfl) T.m_all (by decide +kernel) (pa_cons (pe_lc (own := [("_law_formulas_here", 4), ("_law_moments_here", 5)]) (g := gTup K 2 (gCons (gName 4) (gCons (gName 5) gNil))) (tt := tYes) (by rfl) sc_law.nd (pi_listK K rfl (pe_op op_cat (pv 2) (pv 2))) (blkOk_by (own := [("_law_formulas_here", 4), ("_law_moments_here", 5)]) (N := N_law) (sc := defScope s_law) (by decide +kernel)) (fun _ _ _ _ _ => (pg_tupK K rfl rfl (pgs_cons (pg_name (i := 4) sc_law.nd rfl (Or.inl rfl)) (pgs_cons (pg_name (i := 5) sc_law.nd rfl (Or.inl rfl)) pgs_nil)))) (fun _ _ _ _ _ => pts_nil) (fun _ _ _ _ _ => (pe_callG G_law_right (hr.mono (by decide)) hG (by rfl) m_law_right F_law_right.kp b_law_right .nil pass0 (pa_cons (pv 4) (pa_cons (pv 5) pa_nil))))) pa_nil))))))), ?_⟩
  refine ⟨_, rfl, a, ns, rfl, hS, fun f c H1 nf nc F1 s1 => ?_⟩
  have tb1 := tb0.same s1
  refine ⟨(by show 0 ≤ sizeLine; decide), fun al nal => ?_⟩
  have s2 : Same H1 (upd H1 al (.lst [])) := same_new nal
  have hal2 : (upd H1 al (.lst [])) al = some (.lst []) := upd_same
  have F2 := F1.new (o := .lst []) nal
  have alf : al ≠ f := F1.ne nal
  have alc : al ≠ c := F1.nec nal
  have tb2 := tb1.same s2
  generalize upd H1 al (.lst []) = H2 at s2 hal2 F2 tb2 ⊢
  refine ⟨(by show 2 ≤ sizeLine; decide), fun tp ntp => ?_⟩
  have s3 : Same H2 (upd H2 tp (.tup [.int 5, .int 2])) := same_new ntp
  have htp : (upd H2 tp (.tup [.int 5, .int 2])) tp = some (.tup [.int 5, .int 2]) := upd_same
  have F3 := F2.new (o := .tup [.int 5, .int 2]) ntp
  have tb3 := tb2.same s3
  have hal3 := s3 _ _ hal2
  generalize upd H2 tp (.tup [.int 5, .int 2]) = H3 at s3 htp F3 tb3 hal3 ⊢
  refine ⟨tp, rfl, ⟨_, SqT.of htp⟩, ?_⟩
  refine for_tup (K := K) (a := tp) (xs := [.int 5, .int 2]) (fun i σ H5 => ∃ (v3 : Option V) (av : List V), σ = [some (.ref a), some (.ref f), some (.ref al), v3, none, none] ∧ H5 al = some (.lst av) ∧ av.length = i ∧ (∀ v ∈ av, AskAt H5 v) ∧ Flow H5 f c ∧ Tb2 PT H5 ∧ H5 tp = some (.tup [.int 5, .int 2])) ⟨none, [], rfl, hal3, rfl, (fun v m => by cases m), F3, tb3, htp⟩ (fun i σ H5 _ ⟨_, _, _, _, _, _, _, _, h⟩ => SqT.of h) ?_ ?_
  · rintro i x σ H5 hx ⟨v3, av, rfl, hal5, lav, hav, F5, tb5, htp5⟩
    have hi : i < 2 := (List.getElem?_eq_some_iff.mp hx).1
    obtain ⟨m, rfl, m5⟩ : ∃ m : Nat, x = nV m ∧ m ≤ 5 := by
      match i, hx with
      | 0, hx => exact ⟨5, (Option.some.inj hx).symm, by decide⟩
      | 1, hx => exact ⟨2, (Option.some.inj hx).symm, by decide⟩
    refine ⟨_, rfl, .inl ⟨rfl, _, SqL.of hal5⟩, _, rfl, _, rfl, f, c, m, rfl, m5, F5, fun r F H6 hF g F6 B6 => ?_⟩
    refine ⟨_, rfl, f, c, rfl, F6, fun ma ms H7 nma hma lms hms F7 B7 => ⟨(by show 2 ≤ sizeLine; decide), fun t nt => ?_⟩⟩
    have hF7 := hF.but F6 B7
    have B57 := B6.trans B7
    have k57 := fnl_but F5 B57
    have hal7 := B57 _ _ hal5 alf
    have tb7 := tb5.but F5 B57
    have htp7 := k57.tk _ _ htp5
    have s8 : Same H7 (upd H7 t (.tup [.ref r, .ref ma])) := same_new nt
    have ht8 : (upd H7 t (.tup [.ref r, .ref ma])) t = some (.tup [.ref r, .ref ma]) := upd_same
    have F8 := F7.new (o := .tup [.ref r, .ref ma]) nt
    generalize upd H7 t (.tup [.ref r, .ref ma]) = H8 at s8 ht8 F8 ⊢
    have hal8 := s8 _ _ hal7
    have ask : AskAt H8 (.ref t) := ⟨t, r, ma, F, m, ms, rfl, ht8, hF7.same s8, g, m5, s8 _ _ hma, lms, hms⟩
    have k9 : Fnl H8 (upd H8 al (.lst (av ++ [.ref t]))) := .but hal8 But.upd1
    refine ⟨al, av, _, rfl, rfl, hal8, small1000 (by omega), _, av ++ [.ref t], rfl, upd_same, by rw [List.length_append, lav]; rfl, fun v hv => ?_, F8.lst alf alc, (tb7.same s8).lst hal8, k9.tk _ _ (s8 _ _ htp7)⟩
    rcases List.mem_append.mp hv with hv | hv
    · exact (((hav v hv).fnl k57).fnl (.same s8)).fnl k9
    · rw [List.mem_singleton.mp hv]
      exact ask.fnl k9
  rintro σ H5 ⟨v3, av, rfl, hal5, lav, hav, F5, tb5, htp5⟩
  have lav : av.length = 2 := lav
  refine ⟨_, rfl, _, rfl, al, al, av, av, rfl, rfl, hal5, hal5, by rw [lav, sizeLine_eq]; decide, fun cl ncl => ?_⟩
  have s6 : Same H5 (upd H5 cl (.lst (av ++ av))) := same_new ncl
  have hcl : (upd H5 cl (.lst (av ++ av))) cl = some (.lst (av ++ av)) := upd_same
  generalize upd H5 cl (.lst (av ++ av)) = H6 at s6 hcl ⊢
  refine ⟨cl, rfl, ⟨_, SqL.of hcl⟩, fun D nD => ?_⟩
  have clD : cl ≠ D := fun z => by rw [← z, hcl] at nD; cases nD
  have s7 : Same H6 (upd H6 D (.lst [])) := same_new nD
  refine lc_list (K := K) (a := cl) (xs := av ++ av) (fun i H9 => H9 D = some (.lst ((List.replicate i true).map V.bl)) ∧ H9 cl = some (.lst (av ++ av)) ∧ (∀ v ∈ av, AskAt H9 v) ∧ Tb2 PT H9) ⟨upd_same, s7 _ _ hcl, fun v hv => (hav v hv).fnl (.same (s6.trans s7)), tb5.same (s6.trans s7)⟩ (fun i H9 _ ⟨_, h, _⟩ => SqL.of h) ?_ ?_
  · rintro i z H9 hx ⟨hD, hcl9, hav9, tb9⟩
    have hi := (List.getElem?_eq_some_iff.mp hx).1
    rw [List.length_append, lav] at hi
    have mz : z ∈ av := by
      rcases List.mem_append.mp (List.mem_of_getElem? hx) with m | m <;> exact m
    obtain ⟨t, r, ma, F, most, ms, rfl, e1, e2, g, m5, e3, lms, hms⟩ := hav9 z mz
    refine ⟨t, _, rfl, SqT.of e1, rfl, _, _, rfl, _, _, rfl, rfl, rfl, yes_in ?_⟩
    refine ⟨_, rfl, _, rfl, r, ma, F, most, ms, rfl, e2, g, m5, e3, lms, hms, tb9, fun H10 x10 tb10 => ?_⟩
    have hD10 := x10 _ _ hD (fun ps z => nomatch z)
    have k11 : Fnl H10 (upd H10 D (.lst ((List.replicate i true).map V.bl ++ [.bl true]))) := .but hD10 But.upd1
    refine ⟨_, hD10, ?_, ?_, ?_, fun v hv => ((hav9 v hv).ext x10).fnl k11, tb10.lst hD10⟩
    · rw [List.length_map, List.length_replicate]
      exact small1000 (by omega)
    · rw [upd_same, List.replicate_succ', List.map_append]
      rfl
    · rw [upd_ne clD]
      exact x10 _ _ hcl9 (fun ps z => nomatch z)
  rintro H7 ⟨hD, _, _, _⟩
  refine ⟨D, _, rfl, SqL.of hD, ?_⟩
  rw [show (List.replicate (av ++ av).length true).all id = true by simp]
  exact q _
end
theorem fun_of_D {K : PySem.W.Frag} {x q : Str} {st : Stmt} {f : Addr} {fd : FuncData} (D : FunD K x q (defArgs st) (defBody st) (defScope st) [] [] f fd) : Fun K x q st f fd := by
  obtain ⟨⟨oc, od, dV, kV, doc, pm, an, cdv, ct, osl, e, lk, ci, dfl, _⟩, kp⟩ := D
  have z : dV = .none := by
    rcases dfl with ⟨_, h⟩ | ⟨h, _⟩
    · exact h
    · exact absurd rfl h
  subst z
  exact ⟨⟨oc, od, kV, doc, pm, an, cdv, ct, osl, e, lk, ci⟩, kp⟩
def hd_first_on_ring : He.DefD := ⟨("first_on_ring", none), "first_on_ring", "first_on_ring", defArgs s_first_on_ring, defBody s_first_on_ring, defScope s_first_on_ring, [], []⟩
def hd_comes_back : He.DefD := ⟨("comes_back", none), "comes_back", "comes_back", defArgs s_comes_back, defBody s_comes_back, defScope s_comes_back, [], []⟩
def hd_is_whole : He.DefD := ⟨("is_whole", none), "is_whole", "is_whole", defArgs s_is_whole, defBody s_is_whole, defScope s_is_whole, [], []⟩
def hd_is_rule : He.DefD := ⟨("is_rule", none), "is_rule", "is_rule", defArgs s_is_rule, defBody s_is_rule, defScope s_is_rule, [], []⟩
def hd_needs : He.DefD := ⟨("needs", none), "needs", "needs", defArgs s_needs, defBody s_needs, defScope s_needs, [], []⟩
def hd_look_room : He.DefD := ⟨("look_room", none), "look_room", "look_room", defArgs s_look_room, defBody s_look_room, defScope s_look_room, [], []⟩
def hd_refuse_room : He.DefD := ⟨("refuse_room", none), "refuse_room", "refuse_room", defArgs s_refuse_room, defBody s_refuse_room, defScope s_refuse_room, [], []⟩
def hd_is_tuple_of : He.DefD := ⟨("is_tuple_of", none), "is_tuple_of", "is_tuple_of", defArgs s_is_tuple_of, defBody s_is_tuple_of, defScope s_is_tuple_of, [], []⟩
def hd_has_form : He.DefD := ⟨("has_form", none), "has_form", "has_form", defArgs s_has_form, defBody s_has_form, defScope s_has_form, [], []⟩
def hd_is_hand_pair : He.DefD := ⟨("is_hand_pair", none), "is_hand_pair", "is_hand_pair", defArgs s_is_hand_pair, defBody s_is_hand_pair, defScope s_is_hand_pair, [], []⟩
def hd_is_belt_triple : He.DefD := ⟨("is_belt_triple", none), "is_belt_triple", "is_belt_triple", defArgs s_is_belt_triple, defBody s_is_belt_triple, defScope s_is_belt_triple, [], []⟩
def hd_wrong_hand : He.DefD := ⟨("wrong_hand", none), "wrong_hand", "wrong_hand", defArgs s_wrong_hand, defBody s_wrong_hand, defScope s_wrong_hand, [], []⟩
def hd_wrong_belt : He.DefD := ⟨("wrong_belt", none), "wrong_belt", "wrong_belt", defArgs s_wrong_belt, defBody s_wrong_belt, defScope s_wrong_belt, [], []⟩
def hd_wrong_count : He.DefD := ⟨("wrong_count", none), "wrong_count", "wrong_count", defArgs s_wrong_count, defBody s_wrong_count, defScope s_wrong_count, [], []⟩
def hd_hand_on_ring : He.DefD := ⟨("hand_on_ring", none), "hand_on_ring", "hand_on_ring", defArgs s_hand_on_ring, defBody s_hand_on_ring, defScope s_hand_on_ring, [], []⟩
def hd_comings : He.DefD := ⟨("comings", none), "comings", "comings", defArgs s_comings, defBody s_comings, defScope s_comings, [], []⟩
def hd_tree_parts : He.DefD := ⟨("tree_parts", none), "tree_parts", "tree_parts", defArgs s_tree_parts, defBody s_tree_parts, defScope s_tree_parts, [], []⟩
def hd_part_rule : He.DefD := ⟨("part_rule", none), "part_rule", "part_rule", defArgs s_part_rule, defBody s_part_rule, defScope s_part_rule, [], []⟩
def hd_thing_at : He.DefD := ⟨("thing_at", none), "thing_at", "thing_at", defArgs s_thing_at, defBody s_thing_at, defScope s_thing_at, [], []⟩
def hd_made_room : He.DefD := ⟨("made_room", none), "made_room", "made_room", defArgs s_made_room, defBody s_made_room, defScope s_made_room, [], []⟩
def hd_Making___init__ : He.DefD := ⟨("Making", some "__init__"), "__init__", "Making.__init__", defArgs s_Making___init__, defBody s_Making___init__, defScope s_Making___init__, [], []⟩
def hd_Making_put_rule : He.DefD := ⟨("Making", some "put_rule"), "put_rule", "Making.put_rule", defArgs s_Making_put_rule, defBody s_Making_put_rule, defScope s_Making_put_rule, [], []⟩
def hd_Making_source_of : He.DefD := ⟨("Making", some "source_of"), "source_of", "Making.source_of", defArgs s_Making_source_of, defBody s_Making_source_of, defScope s_Making_source_of, [], []⟩
def hd_Making_put_hand : He.DefD := ⟨("Making", some "put_hand"), "put_hand", "Making.put_hand", defArgs s_Making_put_hand, defBody s_Making_put_hand, defScope s_Making_put_hand, [], []⟩
def hd_Making_settle : He.DefD := ⟨("Making", some "settle"), "settle", "Making.settle", defArgs s_Making_settle, defBody s_Making_settle, defScope s_Making_settle, [], []⟩
def hd_taken_sources : He.DefD := ⟨("taken_sources", none), "taken_sources", "taken_sources", defArgs s_taken_sources, defBody s_taken_sources, defScope s_taken_sources, [], []⟩
def hd_law_flow : He.DefD := ⟨("_law_flow", none), "_law_flow", "_law_flow", defArgs s_law_flow, defBody s_law_flow, defScope s_law_flow, [], []⟩
def hd_law_pick : He.DefD := ⟨("_law_pick", none), "_law_pick", "_law_pick", defArgs s_law_pick, defBody s_law_pick, defScope s_law_pick, [], []⟩
def hd_law_thing : He.DefD := ⟨("_law_thing", none), "_law_thing", "_law_thing", defArgs s_law_thing, defBody s_law_thing, defScope s_law_thing, [], []⟩
def hd_law_shuffled : He.DefD := ⟨("_law_shuffled", none), "_law_shuffled", "_law_shuffled", defArgs s_law_shuffled, defBody s_law_shuffled, defScope s_law_shuffled, [], []⟩
def hd_law_word : He.DefD := ⟨("_law_word", none), "_law_word", "_law_word", defArgs s_law_word, defBody s_law_word, defScope s_law_word, [], []⟩
def hd_law_taken : He.DefD := ⟨("_law_taken", none), "_law_taken", "_law_taken", defArgs s_law_taken, defBody s_law_taken, defScope s_law_taken, [], []⟩
def hd_law_names : He.DefD := ⟨("_law_names", none), "_law_names", "_law_names", defArgs s_law_names, defBody s_law_names, defScope s_law_names, [], []⟩
def hd_law_leaf : He.DefD := ⟨("_law_leaf", none), "_law_leaf", "_law_leaf", defArgs s_law_leaf, defBody s_law_leaf, defScope s_law_leaf, [], []⟩
def hd_law_tree : He.DefD := ⟨("_law_tree", none), "_law_tree", "_law_tree", defArgs s_law_tree, defBody s_law_tree, defScope s_law_tree, [], []⟩
def hd_law_formulas : He.DefD := ⟨("_law_formulas", none), "_law_formulas", "_law_formulas", defArgs s_law_formulas, defBody s_law_formulas, defScope s_law_formulas, [], []⟩
def hd_law_parts : He.DefD := ⟨("_law_parts", none), "_law_parts", "_law_parts", defArgs s_law_parts, defBody s_law_parts, defScope s_law_parts, [], []⟩
def hd_law_moments : He.DefD := ⟨("_law_moments", none), "_law_moments", "_law_moments", defArgs s_law_moments, defBody s_law_moments, defScope s_law_moments, [], []⟩
def hd_law_count : He.DefD := ⟨("_law_count", none), "_law_count", "_law_count", defArgs s_law_count, defBody s_law_count, defScope s_law_count, [], []⟩
def hd_law_right : He.DefD := ⟨("_law_right", none), "_law_right", "_law_right", defArgs s_law_right, defBody s_law_right, defScope s_law_right, [], []⟩
def hd_law : He.DefD := ⟨("law", none), "law", "law", defArgs s_law, defBody s_law, defScope s_law, [], []⟩
def hFn : List He.DefD := [hd_first_on_ring, hd_comes_back, hd_is_whole, hd_is_rule, hd_needs, hd_look_room, hd_refuse_room, hd_is_tuple_of, hd_has_form, hd_is_hand_pair, hd_is_belt_triple, hd_wrong_hand, hd_wrong_belt, hd_wrong_count, hd_hand_on_ring, hd_comings, hd_tree_parts, hd_part_rule, hd_thing_at, hd_made_room, hd_Making___init__, hd_Making_put_rule, hd_Making_source_of, hd_Making_put_hand, hd_Making_settle, hd_taken_sources, hd_law_flow, hd_law_pick, hd_law_thing, hd_law_shuffled, hd_law_word, hd_law_taken, hd_law_names, hd_law_leaf, hd_law_tree, hd_law_formulas, hd_law_parts, hd_law_moments, hd_law_count, hd_law_right, hd_law]
def needsL : List (Str × He.Dv) := [("same", .int 1), ("sum", .int 2), ("gap", .int 2), ("below", .int 2), ("most", .int 2), ("least", .int 2), ("pick", .int 3), ("times", .int 1), ("always", .int 0), ("in", .int 0), ("out", .int 1)]
def needsT : He.Tab := (fun K => He.ga K "NEEDS", ["same", "sum", "gap", "below", "most", "least", "pick", "times", "always", "in", "out"])
theorem needs_yes {K : PySem.W.Frag} (h : He.valsB K (He.ga K "NEEDS") needsL = true) {z : Str} (hz : z ∈ eleven) : ∃ t, PySem.W.nsIn K (He.ga K "NEEDS") z = some (some (.int (needN z) t)) := by
  have key : ∀ i : Int, (z, He.Dv.int i) ∈ needsL → ∃ t, PySem.W.nsIn K (He.ga K "NEEDS") z = some (some (.int i t)) := fun i hm => by
    obtain ⟨u, e, r⟩ := He.valsB_ok h hm
    obtain ⟨t, rfl⟩ := r
    exact ⟨t, e⟩
  have key2 : ∀ i : Int, needN z = i → (z, He.Dv.int i) ∈ needsL → ∃ t, PySem.W.nsIn K (He.ga K "NEEDS") z = some (some (.int (needN z) t)) := fun i e hm => by
    rw [e]
    exact key i hm
  unfold needsL at key2
  unfold eleven at hz
  simp only [List.mem_cons, List.not_mem_nil, or_false] at hz
  rcases hz with h | h | h | h | h | h | h | h | h | h | h <;> subst h
  · exact key2 1 (by decide +kernel) (List.mem_cons_self ..)
  · exact key2 2 (by decide +kernel) (List.mem_cons_of_mem _ (List.mem_cons_self ..))
  · exact key2 2 (by decide +kernel) (List.mem_cons_of_mem _ (List.mem_cons_of_mem _ (List.mem_cons_self ..)))
  · exact key2 2 (by decide +kernel) (List.mem_cons_of_mem _ (List.mem_cons_of_mem _ (List.mem_cons_of_mem _ (List.mem_cons_self ..))))
  · exact key2 2 (by decide +kernel) (List.mem_cons_of_mem _ (List.mem_cons_of_mem _ (List.mem_cons_of_mem _ (List.mem_cons_of_mem _ (List.mem_cons_self ..)))))
  · exact key2 2 (by decide +kernel) (List.mem_cons_of_mem _ (List.mem_cons_of_mem _ (List.mem_cons_of_mem _ (List.mem_cons_of_mem _ (List.mem_cons_of_mem _ (List.mem_cons_self ..))))))
  · exact key2 3 (by decide +kernel) (List.mem_cons_of_mem _ (List.mem_cons_of_mem _ (List.mem_cons_of_mem _ (List.mem_cons_of_mem _ (List.mem_cons_of_mem _ (List.mem_cons_of_mem _ (List.mem_cons_self ..)))))))
  · exact key2 1 (by decide +kernel) (List.mem_cons_of_mem _ (List.mem_cons_of_mem _ (List.mem_cons_of_mem _ (List.mem_cons_of_mem _ (List.mem_cons_of_mem _ (List.mem_cons_of_mem _ (List.mem_cons_of_mem _ (List.mem_cons_self ..))))))))
  · exact key2 0 (by decide +kernel) (List.mem_cons_of_mem _ (List.mem_cons_of_mem _ (List.mem_cons_of_mem _ (List.mem_cons_of_mem _ (List.mem_cons_of_mem _ (List.mem_cons_of_mem _ (List.mem_cons_of_mem _ (List.mem_cons_of_mem _ (List.mem_cons_self ..)))))))))
  · exact key2 0 (by decide +kernel) (List.mem_cons_of_mem _ (List.mem_cons_of_mem _ (List.mem_cons_of_mem _ (List.mem_cons_of_mem _ (List.mem_cons_of_mem _ (List.mem_cons_of_mem _ (List.mem_cons_of_mem _ (List.mem_cons_of_mem _ (List.mem_cons_of_mem _ (List.mem_cons_self ..))))))))))
  · exact key2 1 (by decide +kernel) (List.mem_cons_of_mem _ (List.mem_cons_of_mem _ (List.mem_cons_of_mem _ (List.mem_cons_of_mem _ (List.mem_cons_of_mem _ (List.mem_cons_of_mem _ (List.mem_cons_of_mem _ (List.mem_cons_of_mem _ (List.mem_cons_of_mem _ (List.mem_cons_of_mem _ (List.mem_cons_self ..)))))))))))
def hFa : List He.Fa := [.glo "first_on_ring", .glo "comes_back", .glo "is_whole", .glo "is_rule", .glo "needs", .glo "look_room", .glo "refuse_room", .glo "is_tuple_of", .glo "has_form", .glo "is_hand_pair", .glo "is_belt_triple", .glo "wrong_hand", .glo "wrong_belt", .glo "wrong_count", .glo "hand_on_ring", .glo "comings", .glo "tree_parts", .glo "part_rule", .glo "thing_at", .glo "made_room", .mkr "Making", .meth "Making" "put_rule", .meth "Making" "source_of", .meth "Making" "put_hand", .meth "Making" "settle", .glo "taken_sources", .glo "_law_flow", .glo "_law_pick", .glo "_law_thing", .glo "_law_shuffled", .glo "_law_word", .glo "_law_taken", .glo "_law_names", .glo "_law_leaf", .glo "_law_tree", .glo "_law_formulas", .glo "_law_parts", .glo "_law_moments", .glo "_law_count", .glo "_law_right", .glo "law", .free "all", .free "bool", .free "dict", .free "enumerate", .free "int", .free "isinstance", .free "len", .free "list", .free "range", .free "repr", .free "set", .free "str", .free "sum", .free "tuple", .free "zip", .glo "IN_RULE", .glo "OUT_RULE", .glo "WITH_NUMBER", .glo "WORDS", .glo "NEEDS", .cls "Making", .glo "Making", .noat "Making" "moments", .noat "Making" "before", .noat "Making" "homes", .noat "Making" "hands", .noat "Making" "belts"]
def hEx (K : PySem.W.Frag) : Bool := He.tupB K "IN_RULE" [.str "in"] && He.tupB K "OUT_RULE" [.str "out"] && He.tupB K "WITH_NUMBER" [.str "times", .str "always"] && He.tupB K "WORDS" [.str "same", .str "sum", .str "gap", .str "below", .str "most", .str "least", .str "pick", .str "times", .str "always"] && He.valsB K (He.ga K "NEEDS") needsL
def hTf : List (Str × Option Str) := [("has_form", none), ("is_belt_triple", none)]
abbrev hR : PySem.W.OpenRow := PySem.W.OpenLaw.row PySem.Challenge.rw_beltshift_k24_rooms_of_formulas
abbrev hk : PySem.W.Hook := He.hookX 4 hFa hFn [needsT] hTf hEx
def hOb (s : PySem.W.SharedT) : He.AlX := He.obsX 4 hFa hFn [needsT] hTf hEx (HandSHeadRun.getT s)
theorem hOb_eq (s : PySem.W.SharedT) : hOb s = hk.obs s.abs := He.obsX_eq (HandSHeadRun.getT_eq s)
def hN0 : List Str := ["BeltError", "NoRoom", "first_on_ring", "comes_back", "is_whole", "NEEDS", "WITH_NUMBER", "is_rule", "needs", "IN_RULE", "OUT_RULE", "look_room", "refuse_room", "is_tuple_of", "has_form", "is_hand_pair", "is_belt_triple", "wrong_hand", "wrong_belt", "wrong_count", "hand_on_ring", "comings", "tree_parts", "part_rule", "thing_at", "WORDS", "made_room", "Making", "taken_sources", "_law_flow"]
def hN1 : List Str := ["_law_pick", "_law_thing", "_law_shuffled", "_law_word", "_law_taken", "_law_names", "_law_leaf", "_law_tree", "_law_formulas", "_law_parts", "_law_moments", "_law_count", "_law_right"]
def hNames : List Str := hN0 ++ hN1
set_option maxHeartbeats 0 in
theorem all_mkX {w : World} {K : PySem.W.Frag} {h : Heap} {mg : Str → Option Value} {fa : Addr} (X : K.In h) (G : h.Ns mainGlobals mg) (hfa : mg "law" = some (.ref fa)) (c : He.SaysX hFa hFn [needsT] hTf hEx w h K) : LawAtG PySem.Challenge.rw_beltshift_k24_rooms_of_formulas w K CX0 13 63 "_law_script" mg fa h := by
  have cd := c.t.d
  obtain ⟨fd0, D0⟩ := cd.def_ 0 (d := hd_first_on_ring) rfl
  have F0 : Fun K "first_on_ring" "first_on_ring" s_first_on_ring (He.ga K "first_on_ring") fd0 := fun_of_D D0
  have g0 : mg "first_on_ring" = some (.ref (He.ga K "first_on_ring")) := He.glo_ok X G (cd.fact 0 (f := .glo "first_on_ring") rfl)
  have b0 := F0.binds (ps := ["places", "steps"]) fun _ _ _ _ _ _ us hl => match us, hl with | [_, _], _ => rfl
  obtain ⟨fd1, D1⟩ := cd.def_ 1 (d := hd_comes_back) rfl
  have F1 : Fun K "comes_back" "comes_back" s_comes_back (He.ga K "comes_back") fd1 := fun_of_D D1
  have g1 : mg "comes_back" = some (.ref (He.ga K "comes_back")) := He.glo_ok X G (cd.fact 1 (f := .glo "comes_back") rfl)
  have b1 := F1.binds (ps := ["place", "steps"]) fun _ _ _ _ _ _ us hl => match us, hl with | [_, _], _ => rfl
  obtain ⟨fd2, D2⟩ := cd.def_ 2 (d := hd_is_whole) rfl
  have F2 : Fun K "is_whole" "is_whole" s_is_whole (He.ga K "is_whole") fd2 := fun_of_D D2
  have g2 : mg "is_whole" = some (.ref (He.ga K "is_whole")) := He.glo_ok X G (cd.fact 2 (f := .glo "is_whole") rfl)
  have b2 := F2.binds (ps := ["thing"]) fun _ _ _ _ _ _ us hl => match us, hl with | [_], _ => rfl
  obtain ⟨fd3, D3⟩ := cd.def_ 3 (d := hd_is_rule) rfl
  have F3 : Fun K "is_rule" "is_rule" s_is_rule (He.ga K "is_rule") fd3 := fun_of_D D3
  have g3 : mg "is_rule" = some (.ref (He.ga K "is_rule")) := He.glo_ok X G (cd.fact 3 (f := .glo "is_rule") rfl)
  have b3 := F3.binds (ps := ["thing"]) fun _ _ _ _ _ _ us hl => match us, hl with | [_], _ => rfl
  obtain ⟨fd4, D4⟩ := cd.def_ 4 (d := hd_needs) rfl
  have F4 : Fun K "needs" "needs" s_needs (He.ga K "needs") fd4 := fun_of_D D4
  have g4 : mg "needs" = some (.ref (He.ga K "needs")) := He.glo_ok X G (cd.fact 4 (f := .glo "needs") rfl)
  have b4 := F4.binds (ps := ["rule"]) fun _ _ _ _ _ _ us hl => match us, hl with | [_], _ => rfl
  obtain ⟨fd5, D5⟩ := cd.def_ 5 (d := hd_look_room) rfl
  have F5 : Fun K "look_room" "look_room" s_look_room (He.ga K "look_room") fd5 := fun_of_D D5
  have g5 : mg "look_room" = some (.ref (He.ga K "look_room")) := He.glo_ok X G (cd.fact 5 (f := .glo "look_room") rfl)
  have b5 := F5.binds (ps := ["room"]) fun _ _ _ _ _ _ us hl => match us, hl with | [_], _ => rfl
  obtain ⟨fd6, D6⟩ := cd.def_ 6 (d := hd_refuse_room) rfl
  have F6 : Fun K "refuse_room" "refuse_room" s_refuse_room (He.ga K "refuse_room") fd6 := fun_of_D D6
  have g6 : mg "refuse_room" = some (.ref (He.ga K "refuse_room")) := He.glo_ok X G (cd.fact 6 (f := .glo "refuse_room") rfl)
  have b6 := F6.binds (ps := ["word", "at"]) fun _ _ _ _ _ _ us hl => match us, hl with | [_, _], _ => rfl
  obtain ⟨fd7, D7⟩ := cd.def_ 7 (d := hd_is_tuple_of) rfl
  have F7 : Fun K "is_tuple_of" "is_tuple_of" s_is_tuple_of (He.ga K "is_tuple_of") fd7 := fun_of_D D7
  have g7 : mg "is_tuple_of" = some (.ref (He.ga K "is_tuple_of")) := He.glo_ok X G (cd.fact 7 (f := .glo "is_tuple_of") rfl)
  have b7 := F7.binds (ps := ["thing", "many"]) fun _ _ _ _ _ _ us hl => match us, hl with | [_, _], _ => rfl
  obtain ⟨fd8, D8⟩ := cd.def_ 8 (d := hd_has_form) rfl
  have F8 : Fun K "has_form" "has_form" s_has_form (He.ga K "has_form") fd8 := fun_of_D D8
  have g8 : mg "has_form" = some (.ref (He.ga K "has_form")) := He.glo_ok X G (cd.fact 8 (f := .glo "has_form") rfl)
  have b8 := F8.binds (ps := ["room"]) fun _ _ _ _ _ _ us hl => match us, hl with | [_], _ => rfl
  obtain ⟨fd9, D9⟩ := cd.def_ 9 (d := hd_is_hand_pair) rfl
  have F9 : Fun K "is_hand_pair" "is_hand_pair" s_is_hand_pair (He.ga K "is_hand_pair") fd9 := fun_of_D D9
  have g9 : mg "is_hand_pair" = some (.ref (He.ga K "is_hand_pair")) := He.glo_ok X G (cd.fact 9 (f := .glo "is_hand_pair") rfl)
  have b9 := F9.binds (ps := ["hand"]) fun _ _ _ _ _ _ us hl => match us, hl with | [_], _ => rfl
  obtain ⟨fd10, D10⟩ := cd.def_ 10 (d := hd_is_belt_triple) rfl
  have F10 : Fun K "is_belt_triple" "is_belt_triple" s_is_belt_triple (He.ga K "is_belt_triple") fd10 := fun_of_D D10
  have g10 : mg "is_belt_triple" = some (.ref (He.ga K "is_belt_triple")) := He.glo_ok X G (cd.fact 10 (f := .glo "is_belt_triple") rfl)
  have b10 := F10.binds (ps := ["belt"]) fun _ _ _ _ _ _ us hl => match us, hl with | [_], _ => rfl
  obtain ⟨fd11, D11⟩ := cd.def_ 11 (d := hd_wrong_hand) rfl
  have F11 : Fun K "wrong_hand" "wrong_hand" s_wrong_hand (He.ga K "wrong_hand") fd11 := fun_of_D D11
  have g11 : mg "wrong_hand" = some (.ref (He.ga K "wrong_hand")) := He.glo_ok X G (cd.fact 11 (f := .glo "wrong_hand") rfl)
  have b11 := F11.binds (ps := ["room"]) fun _ _ _ _ _ _ us hl => match us, hl with | [_], _ => rfl
  obtain ⟨fd12, D12⟩ := cd.def_ 12 (d := hd_wrong_belt) rfl
  have F12 : Fun K "wrong_belt" "wrong_belt" s_wrong_belt (He.ga K "wrong_belt") fd12 := fun_of_D D12
  have g12 : mg "wrong_belt" = some (.ref (He.ga K "wrong_belt")) := He.glo_ok X G (cd.fact 12 (f := .glo "wrong_belt") rfl)
  have b12 := F12.binds (ps := ["room"]) fun _ _ _ _ _ _ us hl => match us, hl with | [_], _ => rfl
  obtain ⟨fd13, D13⟩ := cd.def_ 13 (d := hd_wrong_count) rfl
  have F13 : Fun K "wrong_count" "wrong_count" s_wrong_count (He.ga K "wrong_count") fd13 := fun_of_D D13
  have g13 : mg "wrong_count" = some (.ref (He.ga K "wrong_count")) := He.glo_ok X G (cd.fact 13 (f := .glo "wrong_count") rfl)
  have b13 := F13.binds (ps := ["room"]) fun _ _ _ _ _ _ us hl => match us, hl with | [_], _ => rfl
  obtain ⟨fd14, D14⟩ := cd.def_ 14 (d := hd_hand_on_ring) rfl
  have F14 : Fun K "hand_on_ring" "hand_on_ring" s_hand_on_ring (He.ga K "hand_on_ring") fd14 := fun_of_D D14
  have g14 : mg "hand_on_ring" = some (.ref (He.ga K "hand_on_ring")) := He.glo_ok X G (cd.fact 14 (f := .glo "hand_on_ring") rfl)
  have b14 := F14.binds (ps := ["room"]) fun _ _ _ _ _ _ us hl => match us, hl with | [_], _ => rfl
  obtain ⟨fd15, D15⟩ := cd.def_ 15 (d := hd_comings) rfl
  have F15 : Fun K "comings" "comings" s_comings (He.ga K "comings") fd15 := fun_of_D D15
  have g15 : mg "comings" = some (.ref (He.ga K "comings")) := He.glo_ok X G (cd.fact 15 (f := .glo "comings") rfl)
  have b15 := F15.binds (ps := ["room", "hand"]) fun _ _ _ _ _ _ us hl => match us, hl with | [_, _], _ => rfl
  obtain ⟨fd16, D16⟩ := cd.def_ 16 (d := hd_tree_parts) rfl
  have F16 : Fun K "tree_parts" "tree_parts" s_tree_parts (He.ga K "tree_parts") fd16 := fun_of_D D16
  have g16 : mg "tree_parts" = some (.ref (He.ga K "tree_parts")) := He.glo_ok X G (cd.fact 16 (f := .glo "tree_parts") rfl)
  have b16 := F16.binds (ps := ["tree"]) fun _ _ _ _ _ _ us hl => match us, hl with | [_], _ => rfl
  obtain ⟨fd17, D17⟩ := cd.def_ 17 (d := hd_part_rule) rfl
  have F17 : Fun K "part_rule" "part_rule" s_part_rule (He.ga K "part_rule") fd17 := fun_of_D D17
  have g17 : mg "part_rule" = some (.ref (He.ga K "part_rule")) := He.glo_ok X G (cd.fact 17 (f := .glo "part_rule") rfl)
  have b17 := F17.binds (ps := ["part"]) fun _ _ _ _ _ _ us hl => match us, hl with | [_], _ => rfl
  obtain ⟨fd18, D18⟩ := cd.def_ 18 (d := hd_thing_at) rfl
  have F18 : Fun K "thing_at" "thing_at" s_thing_at (He.ga K "thing_at") fd18 := fun_of_D D18
  have g18 : mg "thing_at" = some (.ref (He.ga K "thing_at")) := He.glo_ok X G (cd.fact 18 (f := .glo "thing_at") rfl)
  have b18 := F18.binds (ps := ["since", "before", "bell"]) fun _ _ _ _ _ _ us hl => match us, hl with | [_, _, _], _ => rfl
  obtain ⟨fd19, D19⟩ := cd.def_ 19 (d := hd_made_room) rfl
  have F19 : Fun K "made_room" "made_room" s_made_room (He.ga K "made_room") fd19 := fun_of_D D19
  have g19 : mg "made_room" = some (.ref (He.ga K "made_room")) := He.glo_ok X G (cd.fact 19 (f := .glo "made_room") rfl)
  have b19 := F19.binds (ps := ["formulas", "moments"]) fun _ _ _ _ _ _ us hl => match us, hl with | [_, _], _ => rfl
  obtain ⟨fd20, D20⟩ := cd.def_ 20 (d := hd_Making___init__) rfl
  have F20 : Fun K "__init__" "Making.__init__" s_Making___init__ (He.fAd K ("Making", some "__init__")) fd20 := fun_of_D D20
  have g20 : Mk K (He.ga K "Making") (He.fAd K ("Making", some "__init__")) := He.mkr_ok (cd.fact 20 (f := .mkr "Making") rfl)
  have b20 := F20.binds (ps := ["self", "formulas", "moments"]) fun _ _ _ _ _ _ us hl => match us, hl with | [_, _, _], _ => rfl
  obtain ⟨fd21, D21⟩ := cd.def_ 21 (d := hd_Making_put_rule) rfl
  have F21 : Fun K "put_rule" "Making.put_rule" s_Making_put_rule (He.fAd K ("Making", some "put_rule")) fd21 := fun_of_D D21
  have g21 : Meth K (He.ga K "Making") "put_rule" (He.fAd K ("Making", some "put_rule")) := He.meth_ok (cd.fact 21 (f := .meth "Making" "put_rule") rfl)
  have b21 := F21.binds (ps := ["self", "name", "tree"]) fun _ _ _ _ _ _ us hl => match us, hl with | [_, _, _], _ => rfl
  obtain ⟨fd22, D22⟩ := cd.def_ 22 (d := hd_Making_source_of) rfl
  have F22 : Fun K "source_of" "Making.source_of" s_Making_source_of (He.fAd K ("Making", some "source_of")) fd22 := fun_of_D D22
  have g22 : Meth K (He.ga K "Making") "source_of" (He.fAd K ("Making", some "source_of")) := He.meth_ok (cd.fact 22 (f := .meth "Making" "source_of") rfl)
  have b22 := F22.binds (ps := ["self", "part"]) fun _ _ _ _ _ _ us hl => match us, hl with | [_, _], _ => rfl
  obtain ⟨fd23, D23⟩ := cd.def_ 23 (d := hd_Making_put_hand) rfl
  have F23 : Fun K "put_hand" "Making.put_hand" s_Making_put_hand (He.fAd K ("Making", some "put_hand")) fd23 := fun_of_D D23
  have g23 : Meth K (He.ga K "Making") "put_hand" (He.fAd K ("Making", some "put_hand")) := He.meth_ok (cd.fact 23 (f := .meth "Making" "put_hand") rfl)
  have b23 := F23.binds (ps := ["self", "rule", "sources"]) fun _ _ _ _ _ _ us hl => match us, hl with | [_, _, _], _ => rfl
  obtain ⟨fd24, D24⟩ := cd.def_ 24 (d := hd_Making_settle) rfl
  have F24 : Fun K "settle" "Making.settle" s_Making_settle (He.fAd K ("Making", some "settle")) fd24 := fun_of_D D24
  have g24 : Meth K (He.ga K "Making") "settle" (He.fAd K ("Making", some "settle")) := He.meth_ok (cd.fact 24 (f := .meth "Making" "settle") rfl)
  have b24 := F24.binds (ps := ["self", "number", "rule", "sources"]) fun _ _ _ _ _ _ us hl => match us, hl with | [_, _, _, _], _ => rfl
  obtain ⟨fd25, D25⟩ := cd.def_ 25 (d := hd_taken_sources) rfl
  have F25 : Fun K "taken_sources" "taken_sources" s_taken_sources (He.ga K "taken_sources") fd25 := fun_of_D D25
  have g25 : mg "taken_sources" = some (.ref (He.ga K "taken_sources")) := He.glo_ok X G (cd.fact 25 (f := .glo "taken_sources") rfl)
  have b25 := F25.binds (ps := ["sources", "part"]) fun _ _ _ _ _ _ us hl => match us, hl with | [_, _], _ => rfl
  obtain ⟨fd26, D26⟩ := cd.def_ 26 (d := hd_law_flow) rfl
  have F26 : Fun K "_law_flow" "_law_flow" s_law_flow (He.ga K "_law_flow") fd26 := fun_of_D D26
  have g26 : mg "_law_flow" = some (.ref (He.ga K "_law_flow")) := He.glo_ok X G (cd.fact 26 (f := .glo "_law_flow") rfl)
  have b26 := F26.binds (ps := ["_law_script"]) fun _ _ _ _ _ _ us hl => match us, hl with | [_], _ => rfl
  obtain ⟨fd27, D27⟩ := cd.def_ 27 (d := hd_law_pick) rfl
  have F27 : Fun K "_law_pick" "_law_pick" s_law_pick (He.ga K "_law_pick") fd27 := fun_of_D D27
  have g27 : mg "_law_pick" = some (.ref (He.ga K "_law_pick")) := He.glo_ok X G (cd.fact 27 (f := .glo "_law_pick") rfl)
  have b27 := F27.binds (ps := ["_law_flow_here", "_law_many"]) fun _ _ _ _ _ _ us hl => match us, hl with | [_, _], _ => rfl
  obtain ⟨fd28, D28⟩ := cd.def_ 28 (d := hd_law_thing) rfl
  have F28 : Fun K "_law_thing" "_law_thing" s_law_thing (He.ga K "_law_thing") fd28 := fun_of_D D28
  have g28 : mg "_law_thing" = some (.ref (He.ga K "_law_thing")) := He.glo_ok X G (cd.fact 28 (f := .glo "_law_thing") rfl)
  have b28 := F28.binds (ps := ["_law_flow_here"]) fun _ _ _ _ _ _ us hl => match us, hl with | [_], _ => rfl
  obtain ⟨fd29, D29⟩ := cd.def_ 29 (d := hd_law_shuffled) rfl
  have F29 : Fun K "_law_shuffled" "_law_shuffled" s_law_shuffled (He.ga K "_law_shuffled") fd29 := fun_of_D D29
  have g29 : mg "_law_shuffled" = some (.ref (He.ga K "_law_shuffled")) := He.glo_ok X G (cd.fact 29 (f := .glo "_law_shuffled") rfl)
  have b29 := F29.binds (ps := ["_law_flow_here", "_law_some"]) fun _ _ _ _ _ _ us hl => match us, hl with | [_, _], _ => rfl
  obtain ⟨fd30, D30⟩ := cd.def_ 30 (d := hd_law_word) rfl
  have F30 : Fun K "_law_word" "_law_word" s_law_word (He.ga K "_law_word") fd30 := fun_of_D D30
  have g30 : mg "_law_word" = some (.ref (He.ga K "_law_word")) := He.glo_ok X G (cd.fact 30 (f := .glo "_law_word") rfl)
  have b30 := F30.binds (ps := ["_law_flow_here", "_law_most"]) fun _ _ _ _ _ _ us hl => match us, hl with | [_, _], _ => rfl
  obtain ⟨fd31, D31⟩ := cd.def_ 31 (d := hd_law_taken) rfl
  have F31 : Fun K "_law_taken" "_law_taken" s_law_taken (He.ga K "_law_taken") fd31 := fun_of_D D31
  have g31 : mg "_law_taken" = some (.ref (He.ga K "_law_taken")) := He.glo_ok X G (cd.fact 31 (f := .glo "_law_taken") rfl)
  have b31 := F31.binds (ps := []) fun _ _ _ _ _ _ us hl => match us, hl with | [], _ => rfl
  obtain ⟨fd32, D32⟩ := cd.def_ 32 (d := hd_law_names) rfl
  have F32 : Fun K "_law_names" "_law_names" s_law_names (He.ga K "_law_names") fd32 := fun_of_D D32
  have g32 : mg "_law_names" = some (.ref (He.ga K "_law_names")) := He.glo_ok X G (cd.fact 32 (f := .glo "_law_names") rfl)
  have b32 := F32.binds (ps := ["_law_flow_here", "_law_many"]) fun _ _ _ _ _ _ us hl => match us, hl with | [_, _], _ => rfl
  obtain ⟨fd33, D33⟩ := cd.def_ 33 (d := hd_law_leaf) rfl
  have F33 : Fun K "_law_leaf" "_law_leaf" s_law_leaf (He.ga K "_law_leaf") fd33 := fun_of_D D33
  have g33 : mg "_law_leaf" = some (.ref (He.ga K "_law_leaf")) := He.glo_ok X G (cd.fact 33 (f := .glo "_law_leaf") rfl)
  have b33 := F33.binds (ps := ["_law_flow_here", "_law_now", "_law_names_here"]) fun _ _ _ _ _ _ us hl => match us, hl with | [_, _, _], _ => rfl
  obtain ⟨fd34, D34⟩ := cd.def_ 34 (d := hd_law_tree) rfl
  have F34 : Fun K "_law_tree" "_law_tree" s_law_tree (He.ga K "_law_tree") fd34 := fun_of_D D34
  have g34 : mg "_law_tree" = some (.ref (He.ga K "_law_tree")) := He.glo_ok X G (cd.fact 34 (f := .glo "_law_tree") rfl)
  have b34 := F34.binds (ps := ["_law_flow_here", "_law_room", "_law_now", "_law_names_here"]) fun _ _ _ _ _ _ us hl => match us, hl with | [_, _, _, _], _ => rfl
  obtain ⟨fd35, D35⟩ := cd.def_ 35 (d := hd_law_formulas) rfl
  have F35 : Fun K "_law_formulas" "_law_formulas" s_law_formulas (He.ga K "_law_formulas") fd35 := fun_of_D D35
  have g35 : mg "_law_formulas" = some (.ref (He.ga K "_law_formulas")) := He.glo_ok X G (cd.fact 35 (f := .glo "_law_formulas") rfl)
  have b35 := F35.binds (ps := ["_law_flow_here", "_law_most"]) fun _ _ _ _ _ _ us hl => match us, hl with | [_, _], _ => rfl
  obtain ⟨fd36, D36⟩ := cd.def_ 36 (d := hd_law_parts) rfl
  have F36 : Fun K "_law_parts" "_law_parts" s_law_parts (He.ga K "_law_parts") fd36 := fun_of_D D36
  have g36 : mg "_law_parts" = some (.ref (He.ga K "_law_parts")) := He.glo_ok X G (cd.fact 36 (f := .glo "_law_parts") rfl)
  have b36 := F36.binds (ps := ["_law_tree_here"]) fun _ _ _ _ _ _ us hl => match us, hl with | [_], _ => rfl
  obtain ⟨fd37, D37⟩ := cd.def_ 37 (d := hd_law_moments) rfl
  have F37 : Fun K "_law_moments" "_law_moments" s_law_moments (He.ga K "_law_moments") fd37 := fun_of_D D37
  have g37 : mg "_law_moments" = some (.ref (He.ga K "_law_moments")) := He.glo_ok X G (cd.fact 37 (f := .glo "_law_moments") rfl)
  have b37 := F37.binds (ps := ["_law_flow_here"]) fun _ _ _ _ _ _ us hl => match us, hl with | [_], _ => rfl
  obtain ⟨fd38, D38⟩ := cd.def_ 38 (d := hd_law_count) rfl
  have F38 : Fun K "_law_count" "_law_count" s_law_count (He.ga K "_law_count") fd38 := fun_of_D D38
  have g38 : mg "_law_count" = some (.ref (He.ga K "_law_count")) := He.glo_ok X G (cd.fact 38 (f := .glo "_law_count") rfl)
  have b38 := F38.binds (ps := ["_law_tree_here"]) fun _ _ _ _ _ _ us hl => match us, hl with | [_], _ => rfl
  obtain ⟨fd39, D39⟩ := cd.def_ 39 (d := hd_law_right) rfl
  have F39 : Fun K "_law_right" "_law_right" s_law_right (He.ga K "_law_right") fd39 := fun_of_D D39
  have g39 : mg "_law_right" = some (.ref (He.ga K "_law_right")) := He.glo_ok X G (cd.fact 39 (f := .glo "_law_right") rfl)
  have b39 := F39.binds (ps := ["_law_formulas_here", "_law_moments_here"]) fun _ _ _ _ _ _ us hl => match us, hl with | [_, _], _ => rfl
  obtain ⟨fd40, D40⟩ := cd.def_ 40 (d := hd_law) rfl
  have F40 : Fun K "law" "law" s_law (He.ga K "law") fd40 := fun_of_D D40
  have g40 : mg "law" = some (.ref (He.ga K "law")) := He.glo_ok X G (cd.fact 40 (f := .glo "law") rfl)
  have ex := c.more
  unfold hEx at ex
  simp only [Bool.and_eq_true] at ex
  obtain ⟨⟨⟨⟨ex0, ex1⟩, ex2⟩, ex3⟩, ex4⟩ := ex
  have T : Top w K mg (He.ga K "Making") := ⟨⟨_, fd0, F0, b0, g0⟩, ⟨_, fd1, F1, b1, g1⟩, ⟨_, fd2, F2, b2, g2⟩, ⟨_, fd3, F3, b3, g3⟩, ⟨_, fd4, F4, b4, g4⟩, ⟨_, fd5, F5, b5, g5⟩, ⟨_, fd6, F6, b6, g6⟩, ⟨_, fd7, F7, b7, g7⟩, ⟨_, fd8, F8, b8, g8⟩, ⟨_, fd9, F9, b9, g9⟩, ⟨_, fd10, F10, b10, g10⟩, ⟨_, fd11, F11, b11, g11⟩, ⟨_, fd12, F12, b12, g12⟩, ⟨_, fd13, F13, b13, g13⟩, ⟨_, fd14, F14, b14, g14⟩, ⟨_, fd15, F15, b15, g15⟩, ⟨_, fd16, F16, b16, g16⟩, ⟨_, fd17, F17, b17, g17⟩, ⟨_, fd18, F18, b18, g18⟩, ⟨_, fd19, F19, b19, g19⟩, ⟨_, fd20, F20, b20, g20⟩, ⟨_, fd21, F21, b21, g21⟩, ⟨_, fd22, F22, b22, g22⟩, ⟨_, fd23, F23, b23, g23⟩, ⟨_, fd24, F24, b24, g24⟩, ⟨_, fd25, F25, b25, g25⟩, ⟨_, fd26, F26, b26, g26⟩, ⟨_, fd27, F27, b27, g27⟩, ⟨_, fd28, F28, b28, g28⟩, ⟨_, fd29, F29, b29, g29⟩, ⟨_, fd30, F30, b30, g30⟩, ⟨_, fd31, F31, b31, g31⟩, ⟨_, fd32, F32, b32, g32⟩, ⟨_, fd33, F33, b33, g33⟩, ⟨_, fd34, F34, b34, g34⟩, ⟨_, fd35, F35, b35, g35⟩, ⟨_, fd36, F36, b36, g36⟩, ⟨_, fd37, F37, b37, g37⟩, ⟨_, fd38, F38, b38, g38⟩, ⟨_, fd39, F39, b39, g39⟩, He.free_ok X G (cd.fact 41 (f := .free "all") rfl), He.free_ok X G (cd.fact 42 (f := .free "bool") rfl), He.free_ok X G (cd.fact 43 (f := .free "dict") rfl), He.free_ok X G (cd.fact 44 (f := .free "enumerate") rfl), He.free_ok X G (cd.fact 45 (f := .free "int") rfl), He.free_ok X G (cd.fact 46 (f := .free "isinstance") rfl), He.free_ok X G (cd.fact 47 (f := .free "len") rfl), He.free_ok X G (cd.fact 48 (f := .free "list") rfl), He.free_ok X G (cd.fact 49 (f := .free "range") rfl), He.free_ok X G (cd.fact 50 (f := .free "repr") rfl), He.free_ok X G (cd.fact 51 (f := .free "set") rfl), He.free_ok X G (cd.fact 52 (f := .free "str") rfl), He.free_ok X G (cd.fact 53 (f := .free "sum") rfl), He.free_ok X G (cd.fact 54 (f := .free "tuple") rfl), He.free_ok X G (cd.fact 55 (f := .free "zip") rfl), ⟨_, He.glo_ok X G (cd.fact 56 (f := .glo "IN_RULE") rfl), fun H => He.tupB_ok ex0 H⟩, ⟨_, He.glo_ok X G (cd.fact 57 (f := .glo "OUT_RULE") rfl), fun H => He.tupB_ok ex1 H⟩, ⟨_, He.glo_ok X G (cd.fact 58 (f := .glo "WITH_NUMBER") rfl), fun H => He.tupB_ok ex2 H⟩, ⟨_, He.glo_ok X G (cd.fact 60 (f := .glo "NEEDS") rfl), ⟨c.t.tab 0 (t := needsT), fun z hz => needs_yes ex4 hz⟩⟩, ⟨_, He.glo_ok X G (cd.fact 59 (f := .glo "WORDS") rfl), fun H => He.tupB_ok ex3 H⟩, He.cls_ok (cd.fact 61 (f := .cls "Making") rfl), He.glo_ok X G (cd.fact 62 (f := .glo "Making") rfl), He.noat_ok (cd.fact 63 (f := .noat "Making" "moments") rfl), He.noat_ok (cd.fact 64 (f := .noat "Making" "before") rfl), He.noat_ok (cd.fact 65 (f := .noat "Making" "homes") rfl), He.noat_ok (cd.fact 66 (f := .noat "Making" "hands") rfl), He.noat_ok (cd.fact 67 (f := .noat "Making" "belts") rfl)⟩
  have e := hfa.symm.trans g40
  cases e
  have law_b : ∀ (s : Shared) (v : Value), BindsTo s fd40 ⟨[v], []⟩ [("_law_script", v)] := fun s v => by
    obtain ⟨_, _, _, _, _, _, _, _, _, rfl, _, _⟩ := F40.ex
    exact .of_eq rfl
  refine ⟨fd40, [He.cT K ("has_form", none), He.cT K ("is_belt_triple", none)], sp_law K ((He.cT K ("has_form", none)).2, (He.cT K ("is_belt_triple", none)).2), fun p hp => ?_, fun p hp => ?_, fun p hp => ?_, law_b, fun H a ns hl _ hT hS => ⟨a, ns, rfl, hS, hl, ⟨⟨#[], hT (He.cT K ("has_form", none)) (List.mem_cons_self ..), trivial⟩, ⟨#[], hT (He.cT K ("is_belt_triple", none)) (List.mem_cons_of_mem _ (List.mem_cons_self ..)), trivial⟩⟩, fun _ => rfl⟩, fun base _ _ TB => ?_⟩
  · have hin : ∀ p ∈ [He.cT K ("has_form", none), He.cT K ("is_belt_triple", none)], ∃ q ∈ hTf, p = He.cT K q := fun p hp => by
      rcases List.mem_cons.mp hp with rfl | hp
      · exact ⟨_, List.mem_cons_self .., rfl⟩
      rcases List.mem_cons.mp hp with rfl | hp
      · exact ⟨_, (List.mem_cons_of_mem _ (List.mem_cons_self ..)), rfl⟩
      cases hp
    obtain ⟨q, hq, rfl⟩ := hin p hp
    exact c.empty _ hq
  · have hin : ∀ p ∈ [He.cT K ("has_form", none), He.cT K ("is_belt_triple", none)], ∃ q ∈ hTf, p = He.cT K q := fun p hp => by
      rcases List.mem_cons.mp hp with rfl | hp
      · exact ⟨_, List.mem_cons_self .., rfl⟩
      rcases List.mem_cons.mp hp with rfl | hp
      · exact ⟨_, (List.mem_cons_of_mem _ (List.mem_cons_self ..)), rfl⟩
      cases hp
    obtain ⟨q, hq, rfl⟩ := hin p hp
    exact c.out _ hq
  · have hin : ∀ p ∈ [He.cT K ("has_form", none), He.cT K ("is_belt_triple", none)], ∃ q ∈ hTf, p = He.cT K q := fun p hp => by
      rcases List.mem_cons.mp hp with rfl | hp
      · exact ⟨_, List.mem_cons_self .., rfl⟩
      rcases List.mem_cons.mp hp with rfl | hp
      · exact ⟨_, (List.mem_cons_of_mem _ (List.mem_cons_self ..)), rfl⟩
      cases hp
    obtain ⟨q, hq, rfl⟩ := hin p hp
    exact PySem.W.codeHd_of_K X (c.hd _ hq)
  have TB0 := TB _ (List.mem_cons_self ..)
  have TC0 : GxR.TabB base mg (He.codeOf K ("has_form", none)) (He.tabOf K (He.codeOf K ("has_form", none))) := ⟨TB0.code, TB0.bm, TB0.gP⟩
  haveI : TabF K mg base _ ((He.cT K ("has_form", none)).2, (He.cT K ("is_belt_triple", none)).2) := ⟨TC0, fun f fd F m => by
    have e := m.symm.trans g8
    cases e
    obtain ⟨_, _, _, _, _, _, cdv, _, _, rfl, lk, ci⟩ := F.ex
    obtain ⟨c0, rfl⟩ := He.codeIn_ref ci
    exact congrArg Value.ref (He.codeOf_eq (p := ("has_form", none)) lk rfl).symm⟩
  have TB1 := TB _ (List.mem_cons_of_mem _ (List.mem_cons_self ..))
  have TC1 : GxR.TabB base mg (He.codeOf K ("is_belt_triple", none)) (He.tabOf K (He.codeOf K ("is_belt_triple", none))) := ⟨TB1.code, TB1.bm, TB1.gP⟩
  haveI : TabC K mg base _ ((He.cT K ("has_form", none)).2, (He.cT K ("is_belt_triple", none)).2) := ⟨TC1, fun f fd F m => by
    have e := m.symm.trans g10
    cases e
    obtain ⟨_, _, _, _, _, _, cdv, _, _, rfl, lk, ci⟩ := F.ex
    obtain ⟨c0, rfl⟩ := He.codeIn_ref ci
    exact congrArg Value.ref (He.codeOf_eq (p := ("is_belt_triple", none)) lk rfl).symm⟩
  exact ok_law F40 T
end Mine
open PySem PySem.W PySem.Calls PyProof.Rows
set_option maxRecDepth 100000 in
set_option maxHeartbeats 0 in
theorem PySem.Challenge.cw_beltshift_k24_rooms_of_formulas_holds : PySem.Challenge.rw_beltshift_k24_rooms_of_formulas.Holds := by
  w_on; o_law
  o_head Mine.hk
  case hw => w_witness2
  case hc =>
    refine Mine.walkGT (l := PySem.Challenge.rw_beltshift_k24_rooms_of_formulas) (n := 63) (k := 13) (x := "_law_script") (CX := fun _ => L2.CX0) rfl (by decide) (by kernel_rfl) ⟨rfl, by decide, by decide⟩ ?F (fun _ _ _ _ _ z => z)
    intro w mg fa h Y G hmg0
    obtain ⟨K, KX, c⟩ := Y
    have hmg : mg ("law" : PySem.Str) = some (.ref fa) := by
      have e : (HandSHeadRun.topDef Mine.hR.prog 52).name = ("law" : PySem.Str) := by kernel_rfl
      rw [← e]
      exact hmg0
    exact ⟨K, KX, Mine.all_mkX KX G hmg c⟩
