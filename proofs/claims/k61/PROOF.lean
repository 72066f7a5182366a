import PyProof.Rows.All
import Wide.All
import OpenK.AllK
import Wide.FinOn
import HandS.ForMost
import HandS.Wide
import HandS.DictComp
import HandS.Style
import HandS.IsInst
import HandS.TupAny
import HandS.NoneIn
import HandS.SetFor
import HandS.Conv
import HandS.Zip
import HandS.SortKw
import HandS.Deep
import KE.DataMinMax
import KE.GoesMore
import KE.KDictZip
import KE.GoesZip
import KE.GoesEnum
import HandS.AnyAll
import HandS.Words
import HandS.EndTab
import HandS.HeadWalk
import HandS.Defaults
import HandS.Head0
import HandS.Head1
import HandS.Head2
import HandS.HeadEnd
import HandS.HeadHook1
import HandS.HeadHook2
import HandS.HeadHook3
import HandS.HeadHook4
import KE.KStateDown
import KE.KIsAll
import KE.KNestM
import PyProof.GenCompD
import PyProof.WalksMore
import PySem.Challenge.RW_beltshift_k61_floors_by_turns
import HandS.ExcInit
import HandS.WordsExc
import HandS.ExcIs
import HandS.ExcField
import HandS.ExcOwn
import HandS.ExcCtx
import HandS.HotCalls
import HandS.ExcInitHot
set_option Elab.async false
set_option linter.all false
set_option maxRecDepth 100000
namespace Mine
open PySem PyProof.Rows L2
def topS (i : Nat) : Stmt := PySem.Challenge.pw_beltshift_k61_floors_by_turns.main.body.getD i (.Pass ⟨0, 0, 0, 0⟩)
abbrev s_made_by : Stmt := topS 10
abbrev N_made_by : List Str := ["rule", "things", "word"]
theorem sc_made_by : FnScope N_made_by ["rule", "things"] (defScope s_made_by) := ⟨rfl, rfl, rfl, by decide +kernel, rfl, by decide +kernel, by decide +kernel⟩
abbrev s_made_of_two : Stmt := topS 11
abbrev N_made_of_two : List Str := ["word", "one", "other"]
theorem sc_made_of_two : FnScope N_made_of_two ["word", "one", "other"] (defScope s_made_of_two) := ⟨rfl, rfl, rfl, by decide +kernel, rfl, by decide +kernel, by decide +kernel⟩
abbrev s_comings : Stmt := topS 14
abbrev N_comings : List Str := ["room", "hand", "number", "belt"]
theorem sc_comings : FnScope N_comings ["room", "hand"] (defScope s_comings) := ⟨rfl, rfl, rfl, by decide +kernel, rfl, by decide +kernel, by decide +kernel⟩
abbrev s_goings : Stmt := topS 15
abbrev N_goings : List Str := ["room", "hand", "number", "belt"]
theorem sc_goings : FnScope N_goings ["room", "hand"] (defScope s_goings) := ⟨rfl, rfl, rfl, by decide +kernel, rfl, by decide +kernel, by decide +kernel⟩
abbrev s_Floor___init__ : Stmt := inClass (topS 17) 0
abbrev N_Floor___init__ : List Str := ["self", "room", "hands", "belts", "numbers", "rule", "moments", "hand", "giver", "taker", "things"]
theorem sc_Floor___init__ : FnScope N_Floor___init__ ["self", "room"] (defScope s_Floor___init__) := ⟨rfl, rfl, rfl, by decide +kernel, rfl, by decide +kernel, by decide +kernel⟩
abbrev s_Floor_give : Stmt := inClass (topS 17) 1
abbrev N_Floor_give : List Str := ["self", "hand", "thing"]
theorem sc_Floor_give : FnScope N_Floor_give ["self", "hand", "thing"] (defScope s_Floor_give) := ⟨rfl, rfl, rfl, by decide +kernel, rfl, by decide +kernel, by decide +kernel⟩
abbrev s_Floor_ready : Stmt := inClass (topS 17) 2
abbrev N_Floor_ready : List Str := ["self", "hand"]
theorem sc_Floor_ready : FnScope N_Floor_ready ["self"] (defScope s_Floor_ready) := ⟨rfl, rfl, rfl, by decide +kernel, rfl, by decide +kernel, by decide +kernel⟩
abbrev s_Floor_work : Stmt := inClass (topS 17) 3
abbrev N_Floor_work : List Str := ["self", "hand", "taken", "things", "thing", "belt"]
theorem sc_Floor_work : FnScope N_Floor_work ["self", "hand"] (defScope s_Floor_work) := ⟨rfl, rfl, rfl, by decide +kernel, rfl, by decide +kernel, by decide +kernel⟩
abbrev s_Floor_made : Stmt := inClass (topS 17) 4
abbrev N_Floor_made : List Str := ["self", "hand"]
theorem sc_Floor_made : FnScope N_Floor_made ["self", "hand"] (defScope s_Floor_made) := ⟨rfl, rfl, rfl, by decide +kernel, rfl, by decide +kernel, by decide +kernel⟩
abbrev s_Floor_can_work : Stmt := inClass (topS 17) 5
abbrev N_Floor_can_work : List Str := ["self", "hand", "things"]
theorem sc_Floor_can_work : FnScope N_Floor_can_work ["self", "hand"] (defScope s_Floor_can_work) := ⟨rfl, rfl, rfl, by decide +kernel, rfl, by decide +kernel, by decide +kernel⟩
abbrev s_Floor_sources : Stmt := inClass (topS 17) 6
abbrev N_Floor_sources : List Str := ["self", "hand", "belt"]
theorem sc_Floor_sources : FnScope N_Floor_sources ["self", "hand"] (defScope s_Floor_sources) := ⟨rfl, rfl, rfl, by decide +kernel, rfl, by decide +kernel, by decide +kernel⟩
abbrev s_law_flow : Stmt := topS 19
abbrev N_law_flow : List Str := ["_law_script"]
theorem sc_law_flow : FnScope N_law_flow ["_law_script"] (defScope s_law_flow) := ⟨rfl, rfl, rfl, by decide +kernel, rfl, by decide +kernel, by decide +kernel⟩
abbrev s_law_pick : Stmt := topS 20
abbrev N_law_pick : List Str := ["_law_flow_here", "_law_many", "_law_cell", "_law_digit"]
theorem sc_law_pick : FnScope N_law_pick ["_law_flow_here", "_law_many"] (defScope s_law_pick) := ⟨rfl, rfl, rfl, by decide +kernel, rfl, by decide +kernel, by decide +kernel⟩
abbrev s_law_thing : Stmt := topS 21
abbrev N_law_thing : List Str := ["_law_flow_here"]
theorem sc_law_thing : FnScope N_law_thing ["_law_flow_here"] (defScope s_law_thing) := ⟨rfl, rfl, rfl, by decide +kernel, rfl, by decide +kernel, by decide +kernel⟩
abbrev s_law_needs : Stmt := topS 22
abbrev N_law_needs : List Str := ["_law_rule_here"]
theorem sc_law_needs : FnScope N_law_needs ["_law_rule_here"] (defScope s_law_needs) := ⟨rfl, rfl, rfl, by decide +kernel, rfl, by decide +kernel, by decide +kernel⟩
abbrev s_law_rule : Stmt := topS 23
abbrev N_law_rule : List Str := ["_law_flow_here", "_law_most", "_law_words", "_law_word"]
theorem sc_law_rule : FnScope N_law_rule ["_law_flow_here", "_law_most"] (defScope s_law_rule) := ⟨rfl, rfl, rfl, by decide +kernel, rfl, by decide +kernel, by decide +kernel⟩
abbrev s_law_shuffled : Stmt := topS 24
abbrev N_law_shuffled : List Str := ["_law_flow_here", "_law_some", "_law_left", "_law_k"]
theorem sc_law_shuffled : FnScope N_law_shuffled ["_law_flow_here", "_law_some"] (defScope s_law_shuffled) := ⟨rfl, rfl, rfl, by decide +kernel, rfl, by decide +kernel, by decide +kernel⟩
abbrev s_law_hands : Stmt := topS 25
abbrev N_law_hands : List Str := ["_law_flow_here", "_law_many", "_law_sorts", "_law_left", "_law_hands_here", "_law_k", "_law_sort", "_law_behind", "_law_other", "_law_rule_here"]
theorem sc_law_hands : FnScope N_law_hands ["_law_flow_here", "_law_many"] (defScope s_law_hands) := ⟨rfl, rfl, rfl, by decide +kernel, rfl, by decide +kernel, by decide +kernel⟩
abbrev s_law_room : Stmt := topS 26
abbrev N_law_room : List Str := ["_law_flow_here", "_law_most", "_law_hands_here", "_law_ranks", "_law_givers", "_law_k", "_law_takers", "_law_belts", "_law_to", "_law_one", "_law_trays"]
theorem sc_law_room : FnScope N_law_room ["_law_flow_here", "_law_most"] (defScope s_law_room) := ⟨rfl, rfl, rfl, by decide +kernel, rfl, by decide +kernel, by decide +kernel⟩
abbrev s_law_made_by : Stmt := topS 27
abbrev N_law_made_by : List Str := ["_law_rule_here", "_law_things", "_law_a", "_law_b", "_law_some"]
theorem sc_law_made_by : FnScope N_law_made_by ["_law_rule_here", "_law_things"] (defScope s_law_made_by) := ⟨rfl, rfl, rfl, by decide +kernel, rfl, by decide +kernel, by decide +kernel⟩
abbrev s_law_alike : Stmt := topS 28
abbrev N_law_alike : List Str := ["_law_found", "_law_due", "_law_one", "_law_other"]
theorem sc_law_alike : FnScope N_law_alike ["_law_found", "_law_due"] (defScope s_law_alike) := ⟨rfl, rfl, rfl, by decide +kernel, rfl, by decide +kernel, by decide +kernel⟩
abbrev s_law_doors_room : Stmt := topS 29
abbrev N_law_doors_room : List Str := ["_law_flow_here", "_law_ins", "_law_outs", "_law_sorts", "_law_givers", "_law_k", "_law_sort", "_law_belts", "_law_things", "_law_j"]
theorem sc_law_doors_room : FnScope N_law_doors_room ["_law_flow_here"] (defScope s_law_doors_room) := ⟨rfl, rfl, rfl, by decide +kernel, rfl, by decide +kernel, by decide +kernel⟩
abbrev s_law_any_room : Stmt := topS 30
abbrev N_law_any_room : List Str := ["_law_flow_here", "_law_form", "_law_found"]
theorem sc_law_any_room : FnScope N_law_any_room ["_law_flow_here"] (defScope s_law_any_room) := ⟨rfl, rfl, rfl, by decide +kernel, rfl, by decide +kernel, by decide +kernel⟩
abbrev s_law_doors : Stmt := topS 31
abbrev N_law_doors : List Str := ["_law_room_here", "_law_word", "_law_k", "_law_hand"]
theorem sc_law_doors : FnScope N_law_doors ["_law_room_here", "_law_word"] (defScope s_law_doors) := ⟨rfl, rfl, rfl, by decide +kernel, rfl, by decide +kernel, by decide +kernel⟩
abbrev s_law_model : Stmt := topS 32
abbrev N_law_model : List Str := ["_law_room_here", "_law_one", "_law_to", "_law_things", "_law_hand"]
theorem sc_law_model : FnScope N_law_model ["_law_room_here"] (defScope s_law_model) := ⟨rfl, rfl, rfl, by decide +kernel, rfl, by decide +kernel, by decide +kernel⟩
abbrev s_law_model_ready : Stmt := topS 33
abbrev N_law_model_ready : List Str := ["_law_room_here", "_law_model_here", "_law_found", "_law_k", "_law_hand", "_law_lacks", "_law_belt", "_law_lying"]
theorem sc_law_model_ready : FnScope N_law_model_ready ["_law_room_here", "_law_model_here"] (defScope s_law_model_ready) := ⟨rfl, rfl, rfl, by decide +kernel, rfl, by decide +kernel, by decide +kernel⟩
abbrev s_law_model_work : Stmt := topS 34
abbrev N_law_model_work : List Str := ["_law_room_here", "_law_model_here", "_law_k", "_law_thing_here", "_law_things", "_law_b", "_law_belt"]
theorem sc_law_model_work : FnScope N_law_model_work ["_law_room_here", "_law_model_here", "_law_k"] (defScope s_law_model_work) := ⟨rfl, rfl, rfl, by decide +kernel, rfl, by decide +kernel, by decide +kernel⟩
abbrev s_law_refused : Stmt := topS 35
abbrev N_law_refused : List Str := ["_law_floor", "_law_k", "_law_found", "e"]
theorem sc_law_refused : FnScope N_law_refused ["_law_floor", "_law_k"] (defScope s_law_refused) := ⟨rfl, rfl, rfl, by decide +kernel, rfl, by decide +kernel, by decide +kernel⟩
abbrev s_law_deed_right : Stmt := topS 36
abbrev N_law_deed_right : List Str := ["_law_flow_here", "_law_room_here", "_law_floor", "_law_model_here", "_law_doors_here", "_law_one", "_law_k", "_law_thing_here", "_law_ready"]
theorem sc_law_deed_right : FnScope N_law_deed_right ["_law_flow_here", "_law_room_here", "_law_floor", "_law_model_here"] (defScope s_law_deed_right) := ⟨rfl, rfl, rfl, by decide +kernel, rfl, by decide +kernel, by decide +kernel⟩
abbrev s_law_floor_right : Stmt := topS 37
abbrev N_law_floor_right : List Str := ["_law_room_here", "_law_floor", "_law_model_here", "_law_k"]
theorem sc_law_floor_right : FnScope N_law_floor_right ["_law_room_here", "_law_floor", "_law_model_here"] (defScope s_law_floor_right) := ⟨rfl, rfl, rfl, by decide +kernel, rfl, by decide +kernel, by decide +kernel⟩
abbrev s_law : Stmt := topS 38
abbrev N_law : List Str := ["_law_script", "_law_flow_here", "_law_room_here", "_law_rooms", "_law_floors", "_law_one", "_law_models", "_law_turn", "_law_k", "_law_floor", "_law_model_here"]
theorem sc_law : FnScope N_law ["_law_script"] (defScope s_law) := ⟨rfl, rfl, rfl, by decide +kernel, rfl, by decide +kernel, by decide +kernel⟩

/-- a def of the text stands, binds and is bound -/
def Dd (K : PySem.W.Frag) (mg : Str → Option Value) (name : Str) (st : Stmt) (ps : List Str) : Prop :=
  ∃ (f : Addr) (fd : FuncData), Fun K name name st f fd ∧ Binds K fd ps [] ∧ mg name = some (.ref f)
/-! ### an own error with a field -/
abbrev s_NotReady_init : Stmt := inClass (topS 6) 0
abbrev N_NotReady_init : List Str := ["self", "hand"]
theorem sc_NotReady_init : FnScope N_NotReady_init ["self", "hand"] (defScope s_NotReady_init) := ⟨rfl, rfl, rfl, by decide +kernel, rfl, by decide +kernel, by decide +kernel⟩
structure NsC (K : PySem.W.Frag) (mg : Str → Option Value) (C CB fI : Addr) (fd : FuncData) : Prop where
  gC : mg "NotReady" = some (.ref C)
  gB : mg "BeltError" = some (.ref CB)
  T : OexC K C
  nh : PySem.W.findIn K (.ref C) "hand" = some none
  iC : PySem.W.findIn K (.ref C) "__init__" = some (some (.ref fI))
  tI : PySem.W.typeIn K (.ref fI) = some (.type "function")
  F : Fun K "__init__" "NotReady.__init__" s_NotReady_init fI fd
  b : Binds K fd ["self", "hand"] []
  te : PySem.W.exmOne K (.ref C) (.ref CB) = some true
  xf : XfC K C
  is_ : ExcC K C
  k1 : PySem.W.kitOne K (.ref C) (.ref C) = some true
  k2 : PySem.W.kitOne K (.ref C) (.type "ValueError") = some true
  ko : PySem.W.kitAny K (.ref C) [.ref (He.ga K "NoText"), .ref (He.ga K "NoRoom"), .ref (He.ga K "NoFormula"), .ref (He.ga K "NoShift"), .ref (He.ga K "NoName"), .ref (He.ga K "NoRow")] = some false
structure Top (K : PySem.W.Frag) (mg : Str → Option Value) (C : Addr) : Prop where
  d_made_by : Dd K mg "made_by" s_made_by ["rule", "things"]
  d_made_of_two : Dd K mg "made_of_two" s_made_of_two ["word", "one", "other"]
  d_comings : Dd K mg "comings" s_comings ["room", "hand"]
  d_goings : Dd K mg "goings" s_goings ["room", "hand"]
  d_Floor___init__ : ∃ (f : Addr) (fd : FuncData), Fun K "__init__" "Floor.__init__" s_Floor___init__ f fd ∧ Binds K fd ["self", "room"] [] ∧ Mk K C f
  d_Floor_give : ∃ (f : Addr) (fd : FuncData), Fun K "give" "Floor.give" s_Floor_give f fd ∧ Binds K fd ["self", "hand", "thing"] [] ∧ Meth K C "give" f
  d_Floor_ready : ∃ (f : Addr) (fd : FuncData), Fun K "ready" "Floor.ready" s_Floor_ready f fd ∧ Binds K fd ["self"] [] ∧ Meth K C "ready" f
  d_Floor_work : ∃ (f : Addr) (fd : FuncData), Fun K "work" "Floor.work" s_Floor_work f fd ∧ Binds K fd ["self", "hand"] [] ∧ Meth K C "work" f
  d_Floor_made : ∃ (f : Addr) (fd : FuncData), Fun K "made" "Floor.made" s_Floor_made f fd ∧ Binds K fd ["self", "hand"] [] ∧ Meth K C "made" f
  d_Floor_can_work : ∃ (f : Addr) (fd : FuncData), Fun K "can_work" "Floor.can_work" s_Floor_can_work f fd ∧ Binds K fd ["self", "hand"] [] ∧ Meth K C "can_work" f
  d_Floor_sources : ∃ (f : Addr) (fd : FuncData), Fun K "sources" "Floor.sources" s_Floor_sources f fd ∧ Binds K fd ["self", "hand"] [] ∧ Meth K C "sources" f
  d_law_flow : Dd K mg "_law_flow" s_law_flow ["_law_script"]
  d_law_pick : Dd K mg "_law_pick" s_law_pick ["_law_flow_here", "_law_many"]
  d_law_thing : Dd K mg "_law_thing" s_law_thing ["_law_flow_here"]
  d_law_needs : Dd K mg "_law_needs" s_law_needs ["_law_rule_here"]
  d_law_rule : Dd K mg "_law_rule" s_law_rule ["_law_flow_here", "_law_most"]
  d_law_shuffled : Dd K mg "_law_shuffled" s_law_shuffled ["_law_flow_here", "_law_some"]
  d_law_hands : Dd K mg "_law_hands" s_law_hands ["_law_flow_here", "_law_many"]
  d_law_room : Dd K mg "_law_room" s_law_room ["_law_flow_here", "_law_most"]
  d_law_made_by : Dd K mg "_law_made_by" s_law_made_by ["_law_rule_here", "_law_things"]
  d_law_alike : Dd K mg "_law_alike" s_law_alike ["_law_found", "_law_due"]
  d_law_doors_room : Dd K mg "_law_doors_room" s_law_doors_room ["_law_flow_here"]
  d_law_any_room : Dd K mg "_law_any_room" s_law_any_room ["_law_flow_here"]
  d_law_doors : Dd K mg "_law_doors" s_law_doors ["_law_room_here", "_law_word"]
  d_law_model : Dd K mg "_law_model" s_law_model ["_law_room_here"]
  d_law_model_ready : Dd K mg "_law_model_ready" s_law_model_ready ["_law_room_here", "_law_model_here"]
  d_law_model_work : Dd K mg "_law_model_work" s_law_model_work ["_law_room_here", "_law_model_here", "_law_k"]
  d_law_refused : Dd K mg "_law_refused" s_law_refused ["_law_floor", "_law_k"]
  d_law_deed_right : Dd K mg "_law_deed_right" s_law_deed_right ["_law_flow_here", "_law_room_here", "_law_floor", "_law_model_here"]
  d_law_floor_right : Dd K mg "_law_floor_right" s_law_floor_right ["_law_room_here", "_law_floor", "_law_model_here"]
  m_ValueError : mg "ValueError" = none
  m_all : mg "all" = none
  m_any : mg "any" = none
  m_bool : mg "bool" = none
  m_enumerate : mg "enumerate" = none
  m_int : mg "int" = none
  m_isinstance : mg "isinstance" = none
  m_len : mg "len" = none
  m_list : mg "list" = none
  m_max : mg "max" = none
  m_min : mg "min" = none
  m_range : mg "range" = none
  m_sum : mg "sum" = none
  m_tuple : mg "tuple" = none
  m_zip : mg "zip" = none
  x_in : ∃ aI : Addr, mg "IN_RULE" = some (.ref aI) ∧ ∀ H : Hp, SqT K H aI [.str "in"]
  x_ns : ∃ fd : FuncData, NsC K mg (He.ga K "NotReady") (He.ga K "BeltError") (He.fAd K ("NotReady", some "__init__")) fd
  x_NoText : mg "NoText" = some (.ref (He.ga K "NoText"))
  x_NoRoom : mg "NoRoom" = some (.ref (He.ga K "NoRoom"))
  x_NoFormula : mg "NoFormula" = some (.ref (He.ga K "NoFormula"))
  x_NoShift : mg "NoShift" = some (.ref (He.ga K "NoShift"))
  x_NoName : mg "NoName" = some (.ref (He.ga K "NoName"))
  x_NoRow : mg "NoRow" = some (.ref (He.ga K "NoRow"))
  cl : Cls K C
  mgC : mg "Floor" = some (.ref C)
  n_rules : NoAttr K C "rules"
  n_given : NoAttr K C "given"
  n_lying : NoAttr K C "lying"
  n_coming : NoAttr K C "coming"
  n_going : NoAttr K C "going"
  n_done : NoAttr K C "done"

/-! ### heaps -/
def But (f : Addr) (H H' : Hp) : Prop := ∀ b o, H b = some o → b ≠ f → H' b = some o
theorem But.refl {f : Addr} {H : Hp} : But f H H := fun _ _ e _ => e
theorem But.trans {f : Addr} {H H1 H2 : Hp} (a : But f H H1) (b : But f H1 H2) : But f H H2 := fun x o e n => b x o (a x o e n) n
theorem But.upd {f : Addr} {H H1 : Hp} {o : HO} (a : But f H H1) : But f H (upd H1 f o) := fun x u e n => by rw [upd_ne n]; exact a x u e n
theorem But.new {f p : Addr} {H H1 : Hp} {o : HO} (a : But f H H1) (h : H1 p = none) : But f H (L2.upd H1 p o) := fun x u e n => by
  have e1 := a x u e n
  rw [upd_ne (ne_of_none e1 h)]
  exact e1
theorem same_new {H : Hp} {p : Addr} {o : HO} (h : H p = none) : Same H (upd H p o) := fun b u q => by rw [upd_ne (ne_of_none q h)]; exact q
theorem But.same {f : Addr} {H H1 H2 : Hp} (a : But f H H1) (b : Same H1 H2) : But f H H2 := fun x o e n => b x o (a x o e n)
theorem But.seqT {K : PySem.W.Frag} {f a : Addr} {H H1 : Hp} {xs : List V} (b : But f H H1) (h : SqT K H a xs) (n : a ≠ f) : SqT K H1 a xs := by
  rcases h with h | h
  · left
    rcases h with h | ⟨o, h⟩
    · exact .inl (b _ _ h n)
    · exact .inr ⟨o, b _ _ h n⟩
  · exact .inr h
/-- a comprehension without a test -/
theorem yes_in {σ : L2.St} {H : Hp} {A B : Hp → Prop} (h : A H) : tYes σ H (fun b H3 => if b = true then A H3 else B H3) := by
  show (if true = true then A H else B H)
  rw [if_pos rfl]
  exact h
/-! ### the draw -/
/-- the list of the law's draws at f, the script's copy at c -/
def Flow (H : Hp) (f c : Addr) : Prop := ∃ (ns : List Int) (i p q r : Int), H f = some (.lst [.ref c, .int i, .int p, .int q, .int r]) ∧ H c = some (.lst (ns.map V.int)) ∧ 0 ≤ i ∧ 0 ≤ p ∧ 0 ≤ q ∧ q < 2147483647
theorem Flow.new {H : Hp} {f c p : Addr} {o : HO} (h : Flow H f c) (n : H p = none) : Flow (upd H p o) f c := by
  obtain ⟨ns, i, a, q, r, e1, e2, e⟩ := h
  exact ⟨ns, i, a, q, r, same_new n _ _ e1, same_new n _ _ e2, e⟩
theorem Flow.ne {H : Hp} {f c p : Addr} (h : Flow H f c) (n : H p = none) : p ≠ f := by
  obtain ⟨ns, i, a, q, r, e1, _⟩ := h
  exact fun e => by rw [e, e1] at n; cases n
theorem Flow.nec {H : Hp} {f c p : Addr} (h : Flow H f c) (n : H p = none) : p ≠ c := by
  obtain ⟨ns, i, a, q, r, _, e1, _⟩ := h
  exact fun e => by rw [e, e1] at n; cases n
theorem Flow.lst {H : Hp} {f c p : Addr} {o : HO} (h : Flow H f c) (n1 : p ≠ f) (n2 : p ≠ c) : Flow (upd H p o) f c := by
  obtain ⟨ns, i, a, q, r, e1, e2, e⟩ := h
  exact ⟨ns, i, a, q, r, by rw [upd_ne n1.symm]; exact e1, by rw [upd_ne n2.symm]; exact e2, e⟩
theorem Flow.same {H H' : Hp} {f c : Addr} (h : Flow H f c) (s : Same H H') : Flow H' f c := by
  obtain ⟨ns, i, a, q, r, e1, e2, e⟩ := h
  exact ⟨ns, i, a, q, r, s _ _ e1, s _ _ e2, e⟩
theorem Flow.tup {H : Hp} {f c p : Addr} {xs : List V} (h : Flow H f c) (e : H p = some (.tup xs)) : p ≠ f := by
  obtain ⟨ns, i, a, q, r, e1, _⟩ := h
  exact ne_of e e1 (by intro z; cases z)
theorem at_ints {ns : List Int} {i : Int} (h0 : 0 ≤ i) (h1 : i < (ns.length : Int)) : ∃ v : Int, atI (ns.map V.int) i = some (.int v) := by
  have hk : i.toNat < ns.length := by omega
  have ek : i = ((i.toNat : Nat) : Int) := by omega
  have q : atI (ns.map V.int) ((i.toNat : Nat) : Int) = some (.int ns[i.toNat]) := atI_nat (by rw [List.getElem?_map, List.getElem?_eq_getElem hk]; rfl)
  rw [← ek] at q
  exact ⟨_, q⟩
/-- a block by less than it asks -/
theorem PSs.to {X : Cx} {ss : List Stmt} {t : TS} (h : PSs X ss t) (u : TS) (k : ∀ D σ H, u D σ H → t D σ H) : PSs X ss u := ⟨fun pins s σ H D I q => h.run pins s σ H D I (k D σ H q)⟩
theorem if_bl {b : Bool} {A B : Prop} (h1 : b = true → A) (h2 : b = false → B) : if b = true then A else B := by
  cases b
  · rw [if_neg Bool.false_ne_true]; exact h2 rfl
  · rw [if_pos rfl]; exact h1 rfl
/-! ### lists, two by two -/
inductive All2 {α β : Type} (R : α → β → Prop) : List α → List β → Prop
  | nil : All2 R [] []
  | cons {a b as bs} : R a b → All2 R as bs → All2 R (a :: as) (b :: bs)
theorem All2.imp {α β : Type} {R S : α → β → Prop} (h : ∀ a b, R a b → S a b) : ∀ {as bs}, All2 R as bs → All2 S as bs
  | _, _, .nil => .nil
  | _, _, .cons a b => .cons (h _ _ a) (All2.imp h b)
theorem All2.length {α β : Type} {R : α → β → Prop} : ∀ {as bs}, All2 R as bs → as.length = bs.length
  | _, _, .nil => rfl
  | _, _, .cons _ b => congrArg (· + 1) (All2.length b)
theorem All2.snoc {α β : Type} {R : α → β → Prop} {a b} (r : R a b) : ∀ {as bs}, All2 R as bs → All2 R (as ++ [a]) (bs ++ [b])
  | _, _, .nil => .cons r .nil
  | _, _, .cons h t => .cons h (All2.snoc r t)
theorem All2.get {α β : Type} {R : α → β → Prop} {as : List α} {bs : List β} (h : All2 R as bs) : ∀ {i : Nat} {b : β}, bs[i]? = some b → ∃ a, as[i]? = some a ∧ R a b := by
  induction h with
  | nil => intro i b e; cases e
  | cons r t ih =>
    intro i b e
    cases i with
    | zero => cases e; exact ⟨_, rfl, r⟩
    | succ i => exact ih e
theorem All2.getL {α β : Type} {R : α → β → Prop} {as : List α} {bs : List β} (h : All2 R as bs) : ∀ {i : Nat} {a : α}, as[i]? = some a → ∃ b, bs[i]? = some b ∧ R a b := by
  induction h with
  | nil => intro i b e; cases e
  | cons r t ih =>
    intro i b e
    cases i with
    | zero => cases e; exact ⟨_, rfl, r⟩
    | succ i => exact ih e
/-! ### tuples stay -/
def TK (H H' : Hp) : Prop := ∀ b xs, H b = some (.tup xs) → H' b = some (.tup xs)
theorem TK.refl {H : Hp} : TK H H := fun _ _ e => e
theorem TK.trans {H H1 H2 : Hp} (a : TK H H1) (b : TK H1 H2) : TK H H2 := fun x xs e => b x xs (a x xs e)
theorem TK.same {H H' : Hp} (s : Same H H') : TK H H' := fun x xs e => s _ _ e
theorem TK.new {H : Hp} {p : Addr} {o : HO} (n : H p = none) : TK H (upd H p o) := fun x xs e => same_new n _ _ e
theorem TK.lst {H : Hp} {p : Addr} {xs ys : List V} (h : H p = some (.lst xs)) : TK H (upd H p (.lst ys)) := fun x zs e => by
  rw [upd_ne (ne_of e h (by intro z; cases z))]
  exact e
theorem TK.but {H H' : Hp} {f c : Addr} (F : Flow H f c) (b : But f H H') : TK H H' := fun x xs e => b _ _ e (F.tup e)
theorem same_none {H H' : Hp} {p : Addr} (s : Same H H') (n : H' p = none) : H p = none := by
  cases e : H p with
  | none => rfl
  | some o => rw [s _ _ e] at n; cases n
theorem But.none {f p : Addr} {H H' : Hp} (b : But f H H') (n : H' p = Option.none) (h : p ≠ f) : H p = Option.none := by
  cases e : H p with
  | none => rfl
  | some o => rw [b _ _ e h] at n; cases n
theorem But.of {f : Addr} {H H' : Hp} (s : Same H H') : But f H H' := fun _ _ e _ => s _ _ e
/-- a list that was not there is written: what was stays -/
theorem But.own {f p : Addr} {H H1 : Hp} {o : HO} (a : But f H H1) (h : H p = Option.none) : But f H (L2.upd H1 p o) := fun x u e n => by
  rw [upd_ne (ne_of_none e h)]
  exact a x u e n
theorem Same.own {p : Addr} {H H1 : Hp} {o : HO} (a : Same H H1) (h : H p = Option.none) : Same H (L2.upd H1 p o) := fun x u e => by
  rw [upd_ne (ne_of_none e h)]
  exact a x u e
/-! ### loops over any iterator -/
theorem for_it {J : It} {n : Nat} {g : TG} {tb : TS} {D : Ends} {σ : L2.St} {H : Hp} (Pv : Nat → L2.St → Hp → Prop) (h0 : Pv 0 σ H) (go : ∀ i σ H, i < n → Pv i σ H → J.go i H) (st : ∀ σ H, Pv n σ H → J.stop n H)
    (hs : ∀ i x σ H H', i < n → Pv i σ H → J.yld i H x H' → g x σ H' fun σ2 H2 => tb { D with nx := Pv (i + 1), ct := Pv (i + 1), bk := D.nx } σ2 H2) (hd : ∀ σ H, Pv n σ H → D.nx σ H) :
    ∃ W : Nat → Nat → L2.St → Hp → Prop, (∃ m, W 0 m σ H) ∧ ∀ i m σ H, W i m σ H →
      (J.stop i H ∧ D.nx σ H) ∨ (J.go i H ∧ ∃ N : L2.St → Hp → Prop, (∀ σ' H', N σ' H' → ∃ m', m' < m ∧ W (i + 1) m' σ' H') ∧ ∀ x H', J.yld i H x H' → g x σ H' fun σ2 H2 => tb { D with nx := N, ct := N, bk := D.nx } σ2 H2) := by
  refine ⟨fun i m σ H => i + m = n ∧ Pv i σ H, ⟨n, by omega, h0⟩, fun i m σ H ⟨e, p⟩ => ?_⟩
  by_cases k : i < n
  · exact .inr ⟨go i σ H k p, Pv (i + 1), fun σ' H' p' => ⟨m - 1, by omega, by omega, p'⟩, fun x H' y => hs i x σ H H' k p y⟩
  · have z : i = n := by omega
    subst z
    exact .inl ⟨st σ H p, hd σ H p⟩
theorem lc_it {J : It} {n : Nat} {g : TG} {tt : TT} {te : TE} {vs : List Nat} {σ : L2.St} {H1 : Hp} {D : Addr} {Qd : Hp → Prop} (Pv : Nat → Hp → Prop) (h0 : Pv 0 (upd H1 D (.lst []))) (go : ∀ i H, i < n → Pv i H → J.go i H) (st : ∀ H, Pv n H → J.stop n H)
    (hs : ∀ i x H H', i < n → Pv i H → J.yld i H x H' → g x (wipe σ vs) H' fun σ2 H2 => wipe σ2 vs = wipe σ vs ∧ tt σ2 H2 fun b H3 =>
      if b = true then te σ2 H3 fun y H4 => ∃ acc, H4 D = some (.lst acc) ∧ acc.length < sizeLine ∧ Pv (i + 1) (upd H4 D (.lst (acc ++ [y]))) else Pv (i + 1) H3) (hd : ∀ H, Pv n H → Qd H) :
    ∃ W : Nat → Nat → Hp → Prop, (∃ m, W 0 m (upd H1 D (.lst []))) ∧ ∀ i m H, W i m H →
      (J.stop i H ∧ Qd H) ∨ (J.go i H ∧ ∃ Nx : Hp → Prop, (∀ H', Nx H' → ∃ m', m' < m ∧ W (i + 1) m' H') ∧ ∀ x H', J.yld i H x H' → g x (wipe σ vs) H' fun σ2 H2 => wipe σ2 vs = wipe σ vs ∧ tt σ2 H2 fun b H3 =>
        if b = true then te σ2 H3 fun y H4 => ∃ acc, H4 D = some (.lst acc) ∧ acc.length < sizeLine ∧ Nx (upd H4 D (.lst (acc ++ [y]))) else Nx H3) := by
  refine ⟨fun i m H => i + m = n ∧ Pv i H, ⟨n, by omega, h0⟩, fun i m H ⟨e, p⟩ => ?_⟩
  by_cases k : i < n
  · exact .inr ⟨go i H k p, Pv (i + 1), fun H' p' => ⟨m - 1, by omega, by omega, p'⟩, fun x H' y => hs i x H H' k p y⟩
  · have z : i = n := by omega
    subst z
    exact .inl ⟨st H p, hd H p⟩
/-! ### tests -/
theorem if_str {x z : Str} {A B : Prop} (h1 : x = z → A) (h2 : x ≠ z → B) : if decide (V.str x = V.str z) = true then A else B :=
  if_bl (fun e => h1 (V.str.inj (of_decide_eq_true e))) (fun e => h2 (fun q => of_decide_eq_false e (congrArg V.str q)))
theorem inV_strs {x : Str} {zs : List Str} : inV (.str x) (zs.map V.str) = true ↔ x ∈ zs := by
  unfold inV
  induction zs with
  | nil => simp
  | cons z zs ih =>
    rw [List.map_cons, List.any_cons, Bool.or_eq_true, ih, List.mem_cons]
    constructor
    · rintro (h | h)
      · exact .inl (by simpa [eqV] using (show (z == x) = true from h) |> fun k => (eq_of_beq k).symm)
      · exact .inr h
    · rintro (h | h)
      · exact .inl (show (z == x) = true by rw [h]; exact beq_self_eq_true z)
      · exact .inr h
theorem if_in {x : Str} {zs : List Str} {A B : Prop} (h1 : x ∈ zs → A) (h2 : x ∉ zs → B) : if (if false = true then !inV (.str x) (zs.map V.str) else inV (.str x) (zs.map V.str)) = true then A else B := by
  have e : (if false = true then !inV (.str x) (zs.map V.str) else inV (.str x) (zs.map V.str)) = inV (.str x) (zs.map V.str) := if_neg Bool.false_ne_true
  rw [e]
  exact if_bl (fun c => h1 (inV_strs.mp c)) (fun c => h2 (fun k => by rw [inV_strs.mpr k] at c; cases c))
theorem same_seqT {K : PySem.W.Frag} {a : Addr} {H H1 : Hp} {xs : List V} (b : Same H H1) (h : SqT K H a xs) : SqT K H1 a xs := by
  rcases h with h | h
  · left
    rcases h with h | ⟨o, h⟩
    · exact .inl (b _ _ h)
    · exact .inr ⟨o, b _ _ h⟩
  · exact .inr h
theorem little {n : Nat} (h : n ≤ 1000) : n ≤ sizeLine := Nat.le_of_lt (small1000 h)
/-! ### xs[i] op= e -/
def rGetL (K : PySem.W.Frag) : V → V → Hp → VK → Prop := fun o i H Q => ∃ (p : Addr) (xs : List V) (j : Nat) (v : V), o = .ref p ∧ i = .int (j : Nat) ∧ SqL K H p xs ∧ xs[j]? = some v ∧ Q v H
theorem get_list {X : Cx} : PGet X (rGetL X.K) := by
  intro pins st σ H o i ov iv Q J ro ri asked
  obtain ⟨p, xs, j, v, rfl, rfl, hq, hj, now⟩ := asked
  cases ro
  obtain ⟨t, rfl⟩ := ri
  obtain ⟨its, r, pl, hz⟩ := J.list hq
  obtain ⟨u, eu, ru⟩ := r.get hj
  have n1 := (List.getElem?_eq_some_iff.mp hj).1
  have n2 := line63
  exact wpAny_getItem_list pl.isList (by omega) (by omega) (by simpa using eu) ⟨v, H, J, ru, now⟩
/-! ### the same rules, the written part named (so that they fit within comprehensions) -/
section
variable {X : Cx}
theorem ix_listK (K : PySem.W.Frag) (h : X.K = K) : IxR X (rIxL K) := by subst h; exact ix_list
theorem ix_tupK (K : PySem.W.Frag) (h : X.K = K) : IxR X (rIxT K) := by subst h; exact ix_tup
def rLenK (K : PySem.W.Frag) : List V → Hp → VK → Prop := fun xs H Q => ∃ (p : Addr) (ys : List V), xs = [.ref p] ∧ (SqL K H p ys ∨ SqT K H p ys) ∧ Q (.int (ys.length : Nat)) H
theorem call_len_seqK (K : PySem.W.Frag) (h : X.K = K) : CallR X (.builtin "len") (rLenK K) := by subst h; exact call_len_seq
def rListOfK (K : PySem.W.Frag) : List V → Hp → VK → Prop := fun xs H Q => ∃ (p : Addr) (ys : List V), xs = [.ref p] ∧ (SqL K H p ys ∨ SqT K H p ys) ∧ ∀ l, H l = none → Q (.ref l) (upd H l (.lst ys))
theorem call_list_ofK (K : PySem.W.Frag) (h : X.K = K) : CallR X (.type "list") (rListOfK K) := by subst h; exact call_list_of
def rTupOfK (K : PySem.W.Frag) : List V → Hp → VK → Prop := fun xs H Q => ∃ (p : Addr) (ys : List V), xs = [.ref p] ∧ ((SqL K H p ys ∧ ∀ l, H l = none → Q (.ref l) (upd H l (.tup ys))) ∨ (SqT K H p ys ∧ Q (.ref p) H))
theorem call_tuple_ofK (K : PySem.W.Frag) (h : X.K = K) : CallR X (.type "tuple") (rTupOfK K) := by subst h; exact call_tuple_of
theorem op_in_seqK (K : PySem.W.Frag) (h : X.K = K) : OpR X (compareOp .In) (rIn K false) := by subst h; exact op_in_seq
theorem op_notIn_seqK (K : PySem.W.Frag) (h : X.K = K) : OpR X (compareOp .NotIn) (rIn K true) := by subst h; exact op_notIn_seq
theorem sl_listK (K : PySem.W.Frag) (h : X.K = K) : SlR X (rSlL K) := by subst h; exact sl_list
theorem sl_tupAK (K : PySem.W.Frag) (h : X.K = K) : SlR X (rSlA K) := by subst h; exact sl_tupA
theorem op_eqDK (K : PySem.W.Frag) (h : X.K = K) (hu : X.A.units + 64 < cLine) : OpR X (compareOp .Eq) (rEqD K) := by subst h; exact op_eqD hu
theorem op_neDK (K : PySem.W.Frag) (h : X.K = K) (hu : X.A.units + 64 < cLine) : OpR X (compareOp .NotEq) (rNeD K) := by subst h; exact op_neD hu
theorem call_isiKK (K : PySem.W.Frag) (h : X.K = K) : CallR X (.builtin "isinstance") (rIsi K) := by subst h; exact call_isi
theorem cr_allK (K : PySem.W.Frag) (h : X.K = K) (hc : X.calm = true) : CallR X (.builtin "all") (rAll K) := by subst h; exact cr_all hc
theorem cr_anyK (K : PySem.W.Frag) (h : X.K = K) (hc : X.calm = true) : CallR X (.builtin "any") (rAny K) := by subst h; exact cr_any hc
theorem cr_minKK (K : PySem.W.Frag) (h : X.K = K) (hc : X.calm = true) : CallR X (.builtin "min") (rMin K) := by subst h; exact cr_min hc
theorem cr_maxKK (K : PySem.W.Frag) (h : X.K = K) (hc : X.calm = true) : CallR X (.builtin "max") (rMax K) := by subst h; exact cr_max hc
def tTruK (K : PySem.W.Frag) (ta : TE) : TT := fun σ H Q => ta σ H fun x H' => ∃ k, TruV K x H' k ∧ Q k H'
theorem pt_truthK (K : PySem.W.Frag) (h : X.K = K) {a : Expr} {ta : TE} (ha : PE X a ta) (he : ∀ whole, isTrue a X.env whole = (do let v ← whole; standAt a.pos; holding [v] (truthy v))) : PT X a (tTruK K ta) := by subst h; exact pt_truth ha he
theorem get_listK (K : PySem.W.Frag) (h : X.K = K) : PGet X (rGetL K) := by subst h; exact get_list
theorem pg_tupK (K : PySem.W.Frag) (h : X.K = K) {es : List Expr} {k n : Nat} {t : TGs} {pos : Pos} (hc : X.calm = true) (g : PGs X es t)
    (hn : (assignEach es X.env).length = n := by rfl) (hst : (assignEach es X.env).findIdx? (·.1) = none := by rfl) : PG X (.Tuple es k pos) (gTup K n t) := by subst h; exact pg_tup hc g hn hst
theorem pg_unlK (K : PySem.W.Frag) (h : X.K = K) {es : List Expr} {k n : Nat} {t : TGs} {pos : Pos} (hc : X.calm = true) (g : PGs X es t)
    (hn : (assignEach es X.env).length = n := by rfl) (hst : (assignEach es X.env).findIdx? (·.1) = none := by rfl) : PG X (.Tuple es k pos) (gUnl K n t) := by subst h; exact pg_unl hc g hn hst
theorem pi_listK (K : PySem.W.Frag) (h : X.K = K) {tg e : Expr} {te : TE} (he : PE X e te) : PI X tg e (iList K te) := by subst h; exact pi_list he
theorem pi_tupK (K : PySem.W.Frag) (h : X.K = K) {tg e : Expr} {te : TE} (he : PE X e te) : PI X tg e (iTup K te) := by subst h; exact pi_tup he
theorem pe_revLK (K : PySem.W.Frag) (h : X.K = K) {e : Expr} {te : TE} {k : Nat} {p1 p2 p3 pos : Pos} (he : PE X e te) : PE X (.Subscript e (.Slice none none (some (.UnaryOp .USub (.Constant (.int 1) k p1) p2)) p3) pos) (tRevL K te) := by subst h; exact pe_revL he
theorem pe_bmK (K : PySem.W.Frag) (h : X.K = K) {o e : Expr} {es : List Expr} {to : TE} {t : TA} {name : Str} {apos cpos : Pos} {T id : String} {r : V → List V → Hp → VK → Prop}
    (pa : PlainAttrs T) (slot : Slot T name id) (hty : typeOf (.builtin id) = pure (.type "method_descriptor")) (hm : MtR X id r) (ho : PE X o to) (ha : PA X (e :: es) t)
    (n1 : attributeBase o name X.env (eval o X.env) = eval o X.env := by rfl)
    (n2 : ((backTo cpos (starEach (e :: es) X.env)).all (fun x => !x.1) && (backToKw cpos (keywordEach [] X.env)).all (fun x => x.1.isSome) && decide ((e :: es).length + ([] : List Keyword).length + (if ([] : List Keyword).isEmpty then 0 else 1) < 30)) = true := by rfl)
    (n3 : (apos.endLine == cpos.line) = true := by rfl) (n4 : starEach (e :: es) X.env = (false, eval e X.env) :: starEach es X.env := by rfl) (n5 : (backTo cpos (starEach es X.env)).any (·.1) = false := by rfl) :
    PE X (.Call (.Attribute o name apos) (e :: es) [] cpos) (tBM K T r to t) := by subst h; exact pe_bm pa slot hty hm ho ha n1 n2 n3 n4 n5
theorem pe_bm0K (K : PySem.W.Frag) (h : X.K = K) {o : Expr} {to : TE} {name : Str} {apos cpos : Pos} {T id : String} {r : V → List V → Hp → VK → Prop}
    (pa : PlainAttrs T) (slot : Slot T name id) (hty : typeOf (.builtin id) = pure (.type "method_descriptor")) (hm : MtR X id r) (ho : PE X o to)
    (n1 : attributeBase o name X.env (eval o X.env) = eval o X.env := by rfl) (n3 : (apos.endLine == cpos.line) = true := by rfl) : PE X (.Call (.Attribute o name apos) [] [] cpos) (tBM0 K T r to) := by subst h; exact pe_bm0 pa slot hty hm ho n1 n3
theorem op_catAK (K : PySem.W.Frag) (h : X.K = K) : OpR X (binaryOp .Add) (rCatA K) := by subst h; exact op_catA
theorem call_isiTK (K : PySem.W.Frag) (h : X.K = K) : CallR X (.builtin "isinstance") (rIsiT K) := by subst h; exact call_isiT
theorem pi_zipAK (K : PySem.W.Frag) (h : X.K = K) {e e2 : Expr} {ta : TA} {p pos tpos : Pos} {elts : List Expr} {kk : Nat} (hg : Gl X "zip") (hm : X.mg "zip" = none) (ha : PA X [e, e2] ta)
    (hs : starEach [e, e2] X.env = (false, eval e X.env) :: starEach [e2] X.env := by rfl) (hpl : (backTo pos (starEach [e2] X.env)).any (·.1) = false := by rfl) :
    PI X (.Tuple elts kk tpos) (.Call (.Name "zip" p) [e, e2] [] pos) (RZ.iZipA K ta) := by subst h; exact RZ.pi_zipA hg hm ha hs hpl
theorem pi_or {tg e : Expr} {t1 t2 : TI} (h1 : PI X tg e t1) (h2 : PI X tg e t2) : PI X tg e (fun σ H R => t1 σ H R ∨ t2 σ H R) := ⟨fun pins s σ H R I h => h.elim (h1.run pins s σ H R I) (h2.run pins s σ H R I)⟩
theorem pe_fldK (K : PySem.W.Frag) (h : X.K = K) {e : Expr} {ta : TE} {f : Str} {pos : Pos} (he : PE X e ta) (hb : attributeBase e f X.env (eval e X.env) = eval e X.env) : PE X (.Attribute e f pos) (tFld K ta f) := by subst h; exact pe_fld he hb
theorem ps_fldK (K : PySem.W.Frag) (h : X.K = K) {o value : Expr} {ta tv : TE} {f : Str} {pos pos' : Pos} (ha : PE X o ta) (hv : PE X value tv) (hs : swapsWith value (some (.Attribute o f pos')) pos.line X.env = pure false) : PS X (.Assign [.Attribute o f pos'] value pos) (sFld K ta tv f) := by subst h; exact ps_fld ha hv hs
theorem ps_fldaugK (K : PySem.W.Frag) (h : X.K = K) {o value : Expr} {ta tv : TE} {f : Str} {pos tpos : Pos} {op : Operator} {rd : V → V → Hp → VK → Prop} (ha : PE X o ta) (hv : PE X value tv) (hop : InOp X op rd) : PS X (.AugAssign (.Attribute o f tpos) op value pos) (sFldAug K ta tv rd f) := by subst h; exact ps_fldaug ha hv hop
end
section
variable {X : Cx}
theorem cr_sumK (K : PySem.W.Frag) (h : X.K = K) (hc : X.calm = true) : CallR X (.builtin "sum") (rSum K) := by subst h; exact cr_sum hc
end
/-! ### for x, y in zip(t, l), t a tuple, l a list -/
def IzTL (K : PySem.W.Frag) (a b : Addr) (xs ys : List V) : It :=
  ⟨fun i H => SqT K H a xs ∧ SqL K H b ys ∧ i < xs.length ∧ i < ys.length, fun i H v H' => ∃ T x y, v = .ref T ∧ H T = none ∧ H' = upd H T (.tup [x, y]) ∧ xs[i]? = some x ∧ ys[i]? = some y, fun i H => SqT K H a xs ∧ SqL K H b ys ∧ i ≤ xs.length ∧ i ≤ ys.length ∧ (i = xs.length ∨ i = ys.length)⟩
theorem turn_zipTL {P : Program} {w : World} {K : PySem.W.Frag} {elts : List Expr} {kk : Nat} {tpos : Pos} {a b z TI TO i1 i2 : Addr} (S : ZipSep2 z TI TO i1 i2 [i1, a] [i2, b]) (na : a ≠ i1) (nb : b ≠ i2) (xs ys : List V) :
    Turn P w K (.Tuple elts kk tpos) (IzTL K a b xs ys) [z, TI, TO, i1, i2] z (fun i h => IsZip h z TI TO .none ∧ IsTupOf2 h TI (.ref i1) (.ref i2) ∧ (∃ x y, IsTupOf2 h TO x y) ∧ h.IsTupleIter i1 a i ∧ h.IsListIter i2 b i) where
  mem := by simp
  obj := fun i h stt c hc => by
    obtain ⟨hz, hI, ⟨x, y, hO⟩, ⟨o1, e1, _, d1⟩, ⟨o2, e2, _, d2⟩⟩ := stt
    have any : c = z ∨ c = TI ∨ c = TO ∨ c = i1 ∨ c = i2 := by simpa using hc
    rcases any with q | q | q | q | q <;> subst q
    · exact ⟨_, hz, fun v q => nomatch q⟩
    · exact ⟨_, hI, fun v q => nomatch q⟩
    · exact ⟨_, hO, fun v q => nomatch q⟩
    · exact ⟨o1, e1, fun v q => by rw [d1] at q; cases q⟩
    · exact ⟨o2, e2, fun v q => by rw [d2] at q; cases q⟩
  keep := fun i h h' stt k => by
    obtain ⟨hz, hI, ⟨x, y, hO⟩, k1, k2⟩ := stt
    exact ⟨k z (by simp) _ hz, k TI (by simp) _ hI, ⟨x, y, k TO (by simp) _ hO⟩, k1.at fun o q => k i1 (by simp) o q, k2.at fun o q => k i2 (by simp) o q⟩
  item := by
    intro X hP hw hK hc i pins st σ H E J hf stt going
    subst hP hw hK
    obtain ⟨hz, hI, ⟨x0, y0, hO⟩, k1, k2⟩ := stt
    obtain ⟨hq1, hq2, l1, l2⟩ := going
    obtain ⟨its, rv, tup, _⟩ := J.tuple hq1
    obtain ⟨its2, rv2, lst, _⟩ := J.list hq2
    have len1 := rv.length
    have len2 := rv2.length
    have zl : z < st.heap.objs.size := Heap.lt_size hz
    have D1 := Draws.tuple (prog := X.prog) (w := X.w) (A := X.A.in1) (J.ok.hd hc) i1 a na its.toArray
    have D2 := Draws.list (prog := X.prog) (w := X.w) (A := X.A.in1) (J.ok.hd hc) i2 b nb its2.toArray
    refine wpAny_pyNext_zipD2_item S D1 D2 hz hI hO ⟨k1, tup⟩ ⟨k2, lst.isList⟩ (by rw [List.size_toArray]; omega) (by rw [List.size_toArray]; omega) fun u1 u2 h' tk p1 p2 out hO' s1 s2 new size kp => ?_
    refine ⟨_, rfl, wpAny_letOwnedTupleGo_zip (s := { st with heap := h', toks := tk }) out fun h'' out' sb => ?_⟩
    obtain ⟨x, hx⟩ : ∃ x, xs[i]? = some x := ⟨_, List.getElem?_eq_getElem l1⟩
    obtain ⟨y, hy⟩ : ∃ y, ys[i]? = some y := ⟨_, List.getElem?_eq_getElem l2⟩
    obtain ⟨w1, hw1, r1⟩ := rv.get hx
    obtain ⟨w2, hw2, r2⟩ := rv2.get hy
    have e1 : w1 = u1 := by
      have p1 : its.toArray[i]? = some u1 := p1
      rw [List.getElem?_toArray, hw1] at p1
      exact Option.some.inj p1
    have e2 : w2 = u2 := by
      have p2 : its2.toArray[i]? = some u2 := p2
      rw [List.getElem?_toArray, hw2] at p2
      exact Option.some.inj p2
    subst e1 e2
    have there : h''.get? st.heap.objs.size = some { cls := .type "tuple", data := .seq #[w1, w2] } := (sb.2 _ (Nat.ne_of_gt zl)).trans new
    have good : ObjOk X.prog X.w (upd H st.heap.objs.size (.tup [x, y])) h'' st.heap.objs.size (.tup [x, y]) :=
      ⟨by show 2 ≤ sizeLine; decide, [w1, w2], .cons r1 (.cons r2 .nil), ⟨_, there, rfl, _, rfl⟩⟩
    have J1 : Inv X pins σ (upd H st.heap.objs.size (.tup [x, y])) { st with heap := h'', toks := tk } :=
      J.turnedNew (ch := [z, TI, TO, i1, i2]) (fun c o hb q => (sb.2 c (fun q' => hb (by simp [q']))).trans (kp c o (fun q' => hb (by simp [q'])) (fun q' => hb (by simp [q'])) (fun q' => hb (by simp [q'])) (fun q' => hb (by simp [q'])) q)) hf (Nat.le_refl _) good
    have i1z : i1 ≠ z := fun q => S.zf1 (by simp [q])
    have i2z : i2 ≠ z := fun q => S.zf2 (by simp [q])
    refine ⟨.ref st.heap.objs.size, _, J1, rfl, ⟨_, x, y, rfl, J.hok.fresh (Nat.le_refl _), rfl, hx, hy⟩, ⟨out', ?_, ⟨w1, w2, ?_⟩, ?_, ?_⟩, fun c hcm => ?_⟩
    · exact (sb.2 _ S.TIz).trans (kp _ _ S.TIz S.TITO S.TIi1 S.TIi2 hI)
    · exact (sb.2 _ S.TOz).trans hO'
    · exact s1.1.at fun o q => (sb.2 _ i1z).trans q
    · exact s2.1.at fun o q => (sb.2 _ i2z).trans q
    · have low : c < st.heap.objs.size := by
        have any : c = z ∨ c = TI ∨ c = TO ∨ c = i1 ∨ c = i2 := by simpa using hcm
        rcases any with q | q | q | q | q
        · rw [q]; exact zl
        · rw [q]; exact Heap.lt_size hI
        · rw [q]; exact Heap.lt_size hO
        · rw [q]; obtain ⟨_, q1, _⟩ := k1; exact Heap.lt_size q1
        · rw [q]; obtain ⟨_, q2, _⟩ := k2; exact Heap.lt_size q2
      rw [upd_ne (Nat.ne_of_lt low)]
      exact (hf c hcm).1
  done := by
    intro X hP hw hK hc i pins st σ H E J hf stt over
    subst hP hw hK
    obtain ⟨hz, hI, ⟨x0, y0, hO⟩, k1, k2⟩ := stt
    obtain ⟨hq1, hq2, l1, l2, fin⟩ := over
    obtain ⟨its, rv, tup, _⟩ := J.tuple hq1
    obtain ⟨its2, rv2, lst, _⟩ := J.list hq2
    have len1 := rv.length
    have len2 := rv2.length
    have D1 := Draws.tuple (prog := X.prog) (w := X.w) (A := X.A.in1) (J.ok.hd hc) i1 a na its.toArray
    have D2 := Draws.list (prog := X.prog) (w := X.w) (A := X.A.in1) (J.ok.hd hc) i2 b nb its2.toArray
    refine wpAny_pyNext_zipD2_end S D1 D2 hz hI hO ⟨k1, tup⟩ ⟨k2, lst.isList⟩ (by rw [List.size_toArray]; omega) (by rw [List.size_toArray]; omega) (by rw [List.size_toArray, List.size_toArray]; omega) fun h' tk kp => ⟨rfl, ?_⟩
    exact J.turnedL (t' := tk) (ch := [z, TI, TO, i1, i2]) (fun c o hb q => kp c o (fun q' => hb (by simp [q'])) (fun q' => hb (by simp [q'])) (fun q' => hb (by simp [q'])) (fun q' => hb (by simp [q'])) q) hf
  self := fun A i st Q E stt now => wpAny_pyIter_zip stt.1 now
def iZipTL (K : PySem.W.Frag) (ta : TA) : TI := fun σ H R => ta σ H fun vs H1 => ∃ a b xs ys, vs = [.ref a, .ref b] ∧ SqT K H1 a xs ∧ SqL K H1 b ys ∧ R (IzTL K a b xs ys) H1
theorem pi_zipTL (K : PySem.W.Frag) {X : Cx} (hk : X.K = K) {e e2 : Expr} {ta : TA} {p pos tpos : Pos} {elts : List Expr} {kk : Nat} (hg : Gl X "zip") (hm : X.mg "zip" = none) (ha : PA X [e, e2] ta)
    (hs : starEach [e, e2] X.env = (false, eval e X.env) :: starEach [e2] X.env := by rfl) (hpl : (backTo pos (starEach [e2] X.env)).any (·.1) = false := by rfl) : PI X (.Tuple elts kk tpos) (.Call (.Name "zip" p) [e, e2] [] pos) (iZipTL K ta) := by
  subst hk
  refine ⟨fun pins st σ H R J asked => ?_⟩
  refine Call_ (ld_blt J hg hm PyProof.Rows.boot_zip (PyProof.Rows.callWith_type1 (thn (ha.run pos pins st σ H _ J asked) fun us st1 ⟨vs, H1, J1, rel, now⟩ => ?_) hs hpl))
  obtain ⟨a, b, xs, ys, ex, hq1, hq2, now⟩ := now
  subst ex
  obtain ⟨u1, u2, rfl, r1, r2⟩ := vals2 rel
  obtain rfl : u1 = Value.ref a := r1
  obtain rfl : u2 = Value.ref b := r2
  obtain ⟨its, rv, tup, _⟩ := J1.tuple hq1
  obtain ⟨its2, rv2, lst, _⟩ := J1.list hq2
  have al : a < st1.heap.objs.size := by obtain ⟨o, ho, _⟩ := id tup; exact Heap.lt_size ho
  have bl : b < st1.heap.objs.size := by obtain ⟨o, ho, _⟩ := id lst.isList; exact Heap.lt_size ho
  refine zip_begins2 (begins_tuple a its.toArray) (begins_list b its2.toArray) tup lst.isList fun h' hz hI hO g1 g2 size kp => wpAny_pyIter_zip hz ?_
  have J2 : Inv X pins σ H1 { st1 with heap := h' } := J1.kept (t' := st1.toks) kp
  generalize hn : st1.heap.objs.size = n at *
  have S : ZipSep2 (n + 4) (n + 2) (n + 3) n (n + 1) [n, a] [n + 1, b] :=
    zip_sep2 (fun c hc => by rw [List.mem_singleton.mp hc]; exact al) (fun c hc => by rw [List.mem_singleton.mp hc]; exact bl)
  refine ⟨n + 4, [n + 4, n + 2, n + 3, n, n + 1], _, _, H1, rfl, J2, turn_zipTL S (Nat.ne_of_lt al) (Nat.ne_of_lt (Nat.lt_succ_of_lt bl)) xs ys, ⟨hz, hI, ⟨_, _, hO⟩, ⟨_, g1, rfl, rfl⟩, ⟨_, g2, rfl, rfl⟩⟩, fun c hcm => ?_, now⟩
  have low : n ≤ c := by
    have any : c = n + 4 ∨ c = n + 2 ∨ c = n + 3 ∨ c = n ∨ c = n + 1 := by simpa using hcm
    rcases any with q | q | q | q | q <;> rw [q]
    · exact Nat.le_add_right ..
    · exact Nat.le_add_right ..
    · exact Nat.le_add_right ..
    · exact Nat.le_refl _
    · exact Nat.le_add_right ..
  rw [← hn] at low
  exact J1.fpOk low (J1.hok.fresh low)
/-! ### for x, y in zip(l, t), l a list, t a tuple -/
def IzLT (K : PySem.W.Frag) (a b : Addr) (xs ys : List V) : It :=
  ⟨fun i H => SqL K H a xs ∧ SqT K H b ys ∧ i < xs.length ∧ i < ys.length, fun i H v H' => ∃ T x y, v = .ref T ∧ H T = none ∧ H' = upd H T (.tup [x, y]) ∧ xs[i]? = some x ∧ ys[i]? = some y, fun i H => SqL K H a xs ∧ SqT K H b ys ∧ i ≤ xs.length ∧ i ≤ ys.length ∧ (i = xs.length ∨ i = ys.length)⟩
theorem turn_zipLT {P : Program} {w : World} {K : PySem.W.Frag} {elts : List Expr} {kk : Nat} {tpos : Pos} {a b z TI TO i1 i2 : Addr} (S : ZipSep2 z TI TO i1 i2 [i1, a] [i2, b]) (na : a ≠ i1) (nb : b ≠ i2) (xs ys : List V) :
    Turn P w K (.Tuple elts kk tpos) (IzLT K a b xs ys) [z, TI, TO, i1, i2] z (fun i h => IsZip h z TI TO .none ∧ IsTupOf2 h TI (.ref i1) (.ref i2) ∧ (∃ x y, IsTupOf2 h TO x y) ∧ h.IsListIter i1 a i ∧ h.IsTupleIter i2 b i) where
  mem := by simp
  obj := fun i h stt c hc => by
    obtain ⟨hz, hI, ⟨x, y, hO⟩, ⟨o1, e1, _, d1⟩, ⟨o2, e2, _, d2⟩⟩ := stt
    have any : c = z ∨ c = TI ∨ c = TO ∨ c = i1 ∨ c = i2 := by simpa using hc
    rcases any with q | q | q | q | q <;> subst q
    · exact ⟨_, hz, fun v q => nomatch q⟩
    · exact ⟨_, hI, fun v q => nomatch q⟩
    · exact ⟨_, hO, fun v q => nomatch q⟩
    · exact ⟨o1, e1, fun v q => by rw [d1] at q; cases q⟩
    · exact ⟨o2, e2, fun v q => by rw [d2] at q; cases q⟩
  keep := fun i h h' stt k => by
    obtain ⟨hz, hI, ⟨x, y, hO⟩, k1, k2⟩ := stt
    exact ⟨k z (by simp) _ hz, k TI (by simp) _ hI, ⟨x, y, k TO (by simp) _ hO⟩, k1.at fun o q => k i1 (by simp) o q, k2.at fun o q => k i2 (by simp) o q⟩
  item := by
    intro X hP hw hK hc i pins st σ H E J hf stt going
    subst hP hw hK
    obtain ⟨hz, hI, ⟨x0, y0, hO⟩, k1, k2⟩ := stt
    obtain ⟨hq1, hq2, l1, l2⟩ := going
    obtain ⟨its, rv, lst, _⟩ := J.list hq1
    obtain ⟨its2, rv2, tup, _⟩ := J.tuple hq2
    have len1 := rv.length
    have len2 := rv2.length
    have zl : z < st.heap.objs.size := Heap.lt_size hz
    have D1 := Draws.list (prog := X.prog) (w := X.w) (A := X.A.in1) (J.ok.hd hc) i1 a na its.toArray
    have D2 := Draws.tuple (prog := X.prog) (w := X.w) (A := X.A.in1) (J.ok.hd hc) i2 b nb its2.toArray
    refine wpAny_pyNext_zipD2_item S D1 D2 hz hI hO ⟨k1, lst.isList⟩ ⟨k2, tup⟩ (by rw [List.size_toArray]; omega) (by rw [List.size_toArray]; omega) fun u1 u2 h' tk p1 p2 out hO' s1 s2 new size kp => ?_
    refine ⟨_, rfl, wpAny_letOwnedTupleGo_zip (s := { st with heap := h', toks := tk }) out fun h'' out' sb => ?_⟩
    obtain ⟨x, hx⟩ : ∃ x, xs[i]? = some x := ⟨_, List.getElem?_eq_getElem l1⟩
    obtain ⟨y, hy⟩ : ∃ y, ys[i]? = some y := ⟨_, List.getElem?_eq_getElem l2⟩
    obtain ⟨w1, hw1, r1⟩ := rv.get hx
    obtain ⟨w2, hw2, r2⟩ := rv2.get hy
    have e1 : w1 = u1 := by
      have p1 : its.toArray[i]? = some u1 := p1
      rw [List.getElem?_toArray, hw1] at p1
      exact Option.some.inj p1
    have e2 : w2 = u2 := by
      have p2 : its2.toArray[i]? = some u2 := p2
      rw [List.getElem?_toArray, hw2] at p2
      exact Option.some.inj p2
    subst e1 e2
    have there : h''.get? st.heap.objs.size = some { cls := .type "tuple", data := .seq #[w1, w2] } := (sb.2 _ (Nat.ne_of_gt zl)).trans new
    have good : ObjOk X.prog X.w (upd H st.heap.objs.size (.tup [x, y])) h'' st.heap.objs.size (.tup [x, y]) :=
      ⟨by show 2 ≤ sizeLine; decide, [w1, w2], .cons r1 (.cons r2 .nil), ⟨_, there, rfl, _, rfl⟩⟩
    have J1 : Inv X pins σ (upd H st.heap.objs.size (.tup [x, y])) { st with heap := h'', toks := tk } :=
      J.turnedNew (ch := [z, TI, TO, i1, i2]) (fun c o hb q => (sb.2 c (fun q' => hb (by simp [q']))).trans (kp c o (fun q' => hb (by simp [q'])) (fun q' => hb (by simp [q'])) (fun q' => hb (by simp [q'])) (fun q' => hb (by simp [q'])) q)) hf (Nat.le_refl _) good
    have i1z : i1 ≠ z := fun q => S.zf1 (by simp [q])
    have i2z : i2 ≠ z := fun q => S.zf2 (by simp [q])
    refine ⟨.ref st.heap.objs.size, _, J1, rfl, ⟨_, x, y, rfl, J.hok.fresh (Nat.le_refl _), rfl, hx, hy⟩, ⟨out', ?_, ⟨w1, w2, ?_⟩, ?_, ?_⟩, fun c hcm => ?_⟩
    · exact (sb.2 _ S.TIz).trans (kp _ _ S.TIz S.TITO S.TIi1 S.TIi2 hI)
    · exact (sb.2 _ S.TOz).trans hO'
    · exact s1.1.at fun o q => (sb.2 _ i1z).trans q
    · exact s2.1.at fun o q => (sb.2 _ i2z).trans q
    · have low : c < st.heap.objs.size := by
        have any : c = z ∨ c = TI ∨ c = TO ∨ c = i1 ∨ c = i2 := by simpa using hcm
        rcases any with q | q | q | q | q
        · rw [q]; exact zl
        · rw [q]; exact Heap.lt_size hI
        · rw [q]; exact Heap.lt_size hO
        · rw [q]; obtain ⟨_, q1, _⟩ := k1; exact Heap.lt_size q1
        · rw [q]; obtain ⟨_, q2, _⟩ := k2; exact Heap.lt_size q2
      rw [upd_ne (Nat.ne_of_lt low)]
      exact (hf c hcm).1
  done := by
    intro X hP hw hK hc i pins st σ H E J hf stt over
    subst hP hw hK
    obtain ⟨hz, hI, ⟨x0, y0, hO⟩, k1, k2⟩ := stt
    obtain ⟨hq1, hq2, l1, l2, fin⟩ := over
    obtain ⟨its, rv, lst, _⟩ := J.list hq1
    obtain ⟨its2, rv2, tup, _⟩ := J.tuple hq2
    have len1 := rv.length
    have len2 := rv2.length
    have D1 := Draws.list (prog := X.prog) (w := X.w) (A := X.A.in1) (J.ok.hd hc) i1 a na its.toArray
    have D2 := Draws.tuple (prog := X.prog) (w := X.w) (A := X.A.in1) (J.ok.hd hc) i2 b nb its2.toArray
    refine wpAny_pyNext_zipD2_end S D1 D2 hz hI hO ⟨k1, lst.isList⟩ ⟨k2, tup⟩ (by rw [List.size_toArray]; omega) (by rw [List.size_toArray]; omega) (by rw [List.size_toArray, List.size_toArray]; omega) fun h' tk kp => ⟨rfl, ?_⟩
    exact J.turnedL (t' := tk) (ch := [z, TI, TO, i1, i2]) (fun c o hb q => kp c o (fun q' => hb (by simp [q'])) (fun q' => hb (by simp [q'])) (fun q' => hb (by simp [q'])) (fun q' => hb (by simp [q'])) q) hf
  self := fun A i st Q E stt now => wpAny_pyIter_zip stt.1 now
def iZipLT (K : PySem.W.Frag) (ta : TA) : TI := fun σ H R => ta σ H fun vs H1 => ∃ a b xs ys, vs = [.ref a, .ref b] ∧ SqL K H1 a xs ∧ SqT K H1 b ys ∧ R (IzLT K a b xs ys) H1
theorem pi_zipLT (K : PySem.W.Frag) {X : Cx} (hk : X.K = K) {e e2 : Expr} {ta : TA} {p pos tpos : Pos} {elts : List Expr} {kk : Nat} (hg : Gl X "zip") (hm : X.mg "zip" = none) (ha : PA X [e, e2] ta)
    (hs : starEach [e, e2] X.env = (false, eval e X.env) :: starEach [e2] X.env := by rfl) (hpl : (backTo pos (starEach [e2] X.env)).any (·.1) = false := by rfl) : PI X (.Tuple elts kk tpos) (.Call (.Name "zip" p) [e, e2] [] pos) (iZipLT K ta) := by
  subst hk
  refine ⟨fun pins st σ H R J asked => ?_⟩
  refine Call_ (ld_blt J hg hm PyProof.Rows.boot_zip (PyProof.Rows.callWith_type1 (thn (ha.run pos pins st σ H _ J asked) fun us st1 ⟨vs, H1, J1, rel, now⟩ => ?_) hs hpl))
  obtain ⟨a, b, xs, ys, ex, hq1, hq2, now⟩ := now
  subst ex
  obtain ⟨u1, u2, rfl, r1, r2⟩ := vals2 rel
  obtain rfl : u1 = Value.ref a := r1
  obtain rfl : u2 = Value.ref b := r2
  obtain ⟨its, rv, lst, _⟩ := J1.list hq1
  obtain ⟨its2, rv2, tup, _⟩ := J1.tuple hq2
  have al : a < st1.heap.objs.size := by obtain ⟨o, ho, _⟩ := id lst.isList; exact Heap.lt_size ho
  have bl : b < st1.heap.objs.size := by obtain ⟨o, ho, _⟩ := id tup; exact Heap.lt_size ho
  refine zip_begins2 (begins_list a its.toArray) (begins_tuple b its2.toArray) lst.isList tup fun h' hz hI hO g1 g2 size kp => wpAny_pyIter_zip hz ?_
  have J2 : Inv X pins σ H1 { st1 with heap := h' } := J1.kept (t' := st1.toks) kp
  generalize hn : st1.heap.objs.size = n at *
  have S : ZipSep2 (n + 4) (n + 2) (n + 3) n (n + 1) [n, a] [n + 1, b] :=
    zip_sep2 (fun c hc => by rw [List.mem_singleton.mp hc]; exact al) (fun c hc => by rw [List.mem_singleton.mp hc]; exact bl)
  refine ⟨n + 4, [n + 4, n + 2, n + 3, n, n + 1], _, _, H1, rfl, J2, turn_zipLT S (Nat.ne_of_lt al) (Nat.ne_of_lt (Nat.lt_succ_of_lt bl)) xs ys, ⟨hz, hI, ⟨_, _, hO⟩, ⟨_, g1, rfl, rfl⟩, ⟨_, g2, rfl, rfl⟩⟩, fun c hcm => ?_, now⟩
  have low : n ≤ c := by
    have any : c = n + 4 ∨ c = n + 2 ∨ c = n + 3 ∨ c = n ∨ c = n + 1 := by simpa using hcm
    rcases any with q | q | q | q | q <;> rw [q]
    · exact Nat.le_add_right ..
    · exact Nat.le_add_right ..
    · exact Nat.le_add_right ..
    · exact Nat.le_refl _
    · exact Nat.le_add_right ..
  rw [← hn] at low
  exact J1.fpOk low (J1.hok.fresh low)
/-! ### for x, y, u in zip(l, m, n), three lists -/
def IzL3 (K : PySem.W.Frag) (a b c : Addr) (xs ys us : List V) : It :=
  ⟨fun i H => SqL K H a xs ∧ SqL K H b ys ∧ SqL K H c us ∧ i < xs.length ∧ i < ys.length ∧ i < us.length, fun i H v H' => ∃ T x y u, v = .ref T ∧ H T = none ∧ H' = upd H T (.tup [x, y, u]) ∧ xs[i]? = some x ∧ ys[i]? = some y ∧ us[i]? = some u, fun i H => SqL K H a xs ∧ SqL K H b ys ∧ SqL K H c us ∧ i ≤ xs.length ∧ i ≤ ys.length ∧ i ≤ us.length ∧ (i = xs.length ∨ i = ys.length ∨ i = us.length)⟩
theorem pos_eq {l : List Value} {i : Nat} {w u : Value} (h : l[i]? = some w) (g : l.toArray[i]? = some u) : w = u := by
  rw [List.getElem?_toArray, h] at g
  exact Option.some.inj g
theorem turn_zip3 {P : Program} {w : World} {K : PySem.W.Frag} {elts : List Expr} {kk : Nat} {tpos : Pos} {a b c z TI TO i1 i2 i3 : Addr} (S : ZipSep3 z TI TO i1 i2 i3 [i1, a] [i2, b] [i3, c]) (na : a ≠ i1) (nb : b ≠ i2) (nc : c ≠ i3) (xs ys us : List V) :
    Turn P w K (.Tuple elts kk tpos) (IzL3 K a b c xs ys us) [z, TI, TO, i1, i2, i3] z (fun i h => IsZip h z TI TO .none ∧ IsTupOf3 h TI (.ref i1) (.ref i2) (.ref i3) ∧ (∃ x y u, IsTupOf3 h TO x y u) ∧ h.IsListIter i1 a i ∧ h.IsListIter i2 b i ∧ h.IsListIter i3 c i) where
  mem := by simp
  obj := fun i h stt e he => by
    obtain ⟨hz, hI, ⟨x, y, u, hO⟩, ⟨o1, e1, _, d1⟩, ⟨o2, e2, _, d2⟩, ⟨o3, e3, _, d3⟩⟩ := stt
    have any : e = z ∨ e = TI ∨ e = TO ∨ e = i1 ∨ e = i2 ∨ e = i3 := by simpa using he
    rcases any with q | q | q | q | q | q <;> subst q
    · exact ⟨_, hz, fun v q => nomatch q⟩
    · exact ⟨_, hI, fun v q => nomatch q⟩
    · exact ⟨_, hO, fun v q => nomatch q⟩
    · exact ⟨o1, e1, fun v q => by rw [d1] at q; cases q⟩
    · exact ⟨o2, e2, fun v q => by rw [d2] at q; cases q⟩
    · exact ⟨o3, e3, fun v q => by rw [d3] at q; cases q⟩
  keep := fun i h h' stt k => by
    obtain ⟨hz, hI, ⟨x, y, u, hO⟩, k1, k2, k3⟩ := stt
    exact ⟨k z (by simp) _ hz, k TI (by simp) _ hI, ⟨x, y, u, k TO (by simp) _ hO⟩, k1.at fun o q => k i1 (by simp) o q, k2.at fun o q => k i2 (by simp) o q, k3.at fun o q => k i3 (by simp) o q⟩
  item := by
    intro X hP hw hK hc i pins st σ H E J hf stt going
    subst hP hw hK
    obtain ⟨hz, hI, ⟨x0, y0, u0, hO⟩, k1, k2, k3⟩ := stt
    obtain ⟨q1, q2, q3, l1, l2, l3⟩ := going
    obtain ⟨its, rv, lst, _⟩ := J.list q1
    obtain ⟨its2, rv2, lst2, _⟩ := J.list q2
    obtain ⟨its3, rv3, lst3, _⟩ := J.list q3
    have len1 := rv.length
    have len2 := rv2.length
    have len3 := rv3.length
    have zl : z < st.heap.objs.size := Heap.lt_size hz
    have calm := J.ok.hd hc
    have D1 := Draws.list (prog := X.prog) (w := X.w) (A := X.A.in1) calm i1 a na its.toArray
    have D2 := Draws.list (prog := X.prog) (w := X.w) (A := X.A.in1) calm i2 b nb its2.toArray
    have D3 := Draws.list (prog := X.prog) (w := X.w) (A := X.A.in1) calm i3 c nc its3.toArray
    refine wpAny_pyNext_zipD3_item S D1 D2 D3 hz hI hO ⟨k1, lst.isList⟩ ⟨k2, lst2.isList⟩ ⟨k3, lst3.isList⟩ (by rw [List.size_toArray]; omega) (by rw [List.size_toArray]; omega) (by rw [List.size_toArray]; omega) fun u1 u2 u3 h' tk p1 p2 p3 out hO' s1 s2 s3 new size kp => ?_
    refine ⟨_, rfl, wpAny_letOwnedTupleGo_zip (s := { st with heap := h', toks := tk }) out fun h'' out' sb => ?_⟩
    have hx : xs[i]? = some xs[i] := List.getElem?_eq_getElem l1
    have hy : ys[i]? = some ys[i] := List.getElem?_eq_getElem l2
    have hu : us[i]? = some us[i] := List.getElem?_eq_getElem l3
    obtain ⟨w1, hw1, r1⟩ := rv.get hx
    obtain ⟨w2, hw2, r2⟩ := rv2.get hy
    obtain ⟨w3, hw3, r3⟩ := rv3.get hu
    obtain rfl := pos_eq hw1 p1
    obtain rfl := pos_eq hw2 p2
    obtain rfl := pos_eq hw3 p3
    have there : h''.get? st.heap.objs.size = some { cls := .type "tuple", data := .seq #[w1, w2, w3] } := (sb.2 _ (Nat.ne_of_gt zl)).trans new
    have good : ObjOk X.prog X.w (upd H st.heap.objs.size (.tup [xs[i], ys[i], us[i]])) h'' st.heap.objs.size (.tup [xs[i], ys[i], us[i]]) :=
      ⟨by show 3 ≤ sizeLine; decide, [w1, w2, w3], .cons r1 (.cons r2 (.cons r3 .nil)), ⟨_, there, rfl, _, rfl⟩⟩
    have off : ∀ {e : Addr}, e ∉ [z, TI, TO, i1, i2, i3] → e ≠ z ∧ e ≠ TO ∧ e ≠ i1 ∧ e ≠ i2 ∧ e ≠ i3 := fun hb =>
      ⟨fun q => hb (by simp [q]), fun q => hb (by simp [q]), fun q => hb (by simp [q]), fun q => hb (by simp [q]), fun q => hb (by simp [q])⟩
    have J1 : Inv X pins σ (upd H st.heap.objs.size (.tup [xs[i], ys[i], us[i]])) { st with heap := h'', toks := tk } :=
      J.turnedNew (ch := [z, TI, TO, i1, i2, i3]) (fun e o hb q => (sb.2 e (off hb).1).trans (kp e o (off hb).1 (off hb).2.1 (off hb).2.2.1 (off hb).2.2.2.1 (off hb).2.2.2.2 q)) hf (Nat.le_refl _) good
    have i1z : i1 ≠ z := fun q => S.zf1 (by simp [q])
    have i2z : i2 ≠ z := fun q => S.zf2 (by simp [q])
    have i3z : i3 ≠ z := fun q => S.zf3 (by simp [q])
    refine ⟨.ref st.heap.objs.size, _, J1, rfl, ⟨_, _, _, _, rfl, J.hok.fresh (Nat.le_refl _), rfl, hx, hy, hu⟩, ⟨out', ?_, ⟨w1, w2, w3, ?_⟩, ?_, ?_, ?_⟩, fun e hem => ?_⟩
    · exact (sb.2 _ S.TIz).trans (kp _ _ S.TIz S.TITO S.TIi1 S.TIi2 S.TIi3 hI)
    · exact (sb.2 _ S.TOz).trans hO'
    · exact s1.1.at fun o q => (sb.2 _ i1z).trans q
    · exact s2.1.at fun o q => (sb.2 _ i2z).trans q
    · exact s3.1.at fun o q => (sb.2 _ i3z).trans q
    · have low : e < st.heap.objs.size := by
        have any : e = z ∨ e = TI ∨ e = TO ∨ e = i1 ∨ e = i2 ∨ e = i3 := by simpa using hem
        rcases any with q | q | q | q | q | q
        · rw [q]; exact zl
        · rw [q]; exact Heap.lt_size hI
        · rw [q]; exact Heap.lt_size hO
        · rw [q]; obtain ⟨_, q1, _⟩ := k1; exact Heap.lt_size q1
        · rw [q]; obtain ⟨_, q2, _⟩ := k2; exact Heap.lt_size q2
        · rw [q]; obtain ⟨_, q3, _⟩ := k3; exact Heap.lt_size q3
      rw [upd_ne (Nat.ne_of_lt low)]
      exact (hf e hem).1
  done := by
    intro X hP hw hK hc i pins st σ H E J hf stt over
    subst hP hw hK
    obtain ⟨hz, hI, ⟨x0, y0, u0, hO⟩, k1, k2, k3⟩ := stt
    obtain ⟨q1, q2, q3, l1, l2, l3, fin⟩ := over
    obtain ⟨its, rv, lst, _⟩ := J.list q1
    obtain ⟨its2, rv2, lst2, _⟩ := J.list q2
    obtain ⟨its3, rv3, lst3, _⟩ := J.list q3
    have len1 := rv.length
    have len2 := rv2.length
    have len3 := rv3.length
    have calm := J.ok.hd hc
    have D1 := Draws.list (prog := X.prog) (w := X.w) (A := X.A.in1) calm i1 a na its.toArray
    have D2 := Draws.list (prog := X.prog) (w := X.w) (A := X.A.in1) calm i2 b nb its2.toArray
    have D3 := Draws.list (prog := X.prog) (w := X.w) (A := X.A.in1) calm i3 c nc its3.toArray
    refine wpAny_pyNext_zipD3_end S D1 D2 D3 hz hI hO ⟨k1, lst.isList⟩ ⟨k2, lst2.isList⟩ ⟨k3, lst3.isList⟩ (by rw [List.size_toArray]; omega) (by rw [List.size_toArray]; omega) (by rw [List.size_toArray]; omega) (by rw [List.size_toArray, List.size_toArray, List.size_toArray]; omega) fun h' tk kp => ⟨rfl, ?_⟩
    exact J.turnedL (t' := tk) (ch := [z, TI, TO, i1, i2, i3]) (fun e o hb q => kp e o (fun q' => hb (by simp [q'])) (fun q' => hb (by simp [q'])) (fun q' => hb (by simp [q'])) (fun q' => hb (by simp [q'])) (fun q' => hb (by simp [q'])) q) hf
  self := fun A i st Q E stt now => wpAny_pyIter_zip stt.1 now
def iZip3 (K : PySem.W.Frag) (ta : TA) : TI := fun σ H R => ta σ H fun vs H1 => ∃ a b c xs ys us, vs = [.ref a, .ref b, .ref c] ∧ SqL K H1 a xs ∧ SqL K H1 b ys ∧ SqL K H1 c us ∧ R (IzL3 K a b c xs ys us) H1
theorem pi_zip3 (K : PySem.W.Frag) {X : Cx} (hk : X.K = K) {e e2 e3 : Expr} {ta : TA} {p pos tpos : Pos} {elts : List Expr} {kk : Nat} (hg : Gl X "zip") (hm : X.mg "zip" = none) (ha : PA X [e, e2, e3] ta)
    (hs : starEach [e, e2, e3] X.env = (false, eval e X.env) :: starEach [e2, e3] X.env := by rfl) (hpl : (backTo pos (starEach [e2, e3] X.env)).any (·.1) = false := by rfl) : PI X (.Tuple elts kk tpos) (.Call (.Name "zip" p) [e, e2, e3] [] pos) (iZip3 K ta) := by
  subst hk
  refine ⟨fun pins st σ H R J asked => ?_⟩
  refine Call_ (ld_blt J hg hm PyProof.Rows.boot_zip (PyProof.Rows.callWith_type1 (thn (ha.run pos pins st σ H _ J asked) fun us st1 ⟨vs, H1, J1, rel, now⟩ => ?_) hs hpl))
  obtain ⟨a, b, c, xs, ys, zs, ex, q1, q2, q3, now⟩ := now
  subst ex
  cases rel with
  | cons r1 rel =>
  cases rel with
  | cons r2 rel =>
  cases rel with
  | cons r3 rel =>
  cases rel
  cases (show _ = Value.ref a from r1)
  cases (show _ = Value.ref b from r2)
  cases (show _ = Value.ref c from r3)
  obtain ⟨its, rv, lst, _⟩ := J1.list q1
  obtain ⟨its2, rv2, lst2, _⟩ := J1.list q2
  obtain ⟨its3, rv3, lst3, _⟩ := J1.list q3
  have al : a < st1.heap.objs.size := by obtain ⟨o, ho, _⟩ := id lst.isList; exact Heap.lt_size ho
  have bl : b < st1.heap.objs.size := by obtain ⟨o, ho, _⟩ := id lst2.isList; exact Heap.lt_size ho
  have cl : c < st1.heap.objs.size := by obtain ⟨o, ho, _⟩ := id lst3.isList; exact Heap.lt_size ho
  refine zip_begins3 (begins_list a its.toArray) (begins_list b its2.toArray) (begins_list c its3.toArray) lst.isList lst2.isList lst3.isList fun h' hz hI hO g1 g2 g3 size kp => wpAny_pyIter_zip hz ?_
  have J2 : Inv X pins σ H1 { st1 with heap := h' } := J1.kept (t' := st1.toks) kp
  generalize hn : st1.heap.objs.size = n at *
  have S : ZipSep3 (n + 5) (n + 3) (n + 4) n (n + 1) (n + 2) [n, a] [n + 1, b] [n + 2, c] :=
    zip_sep3 (fun e he => by rw [List.mem_singleton.mp he]; exact al) (fun e he => by rw [List.mem_singleton.mp he]; exact bl) (fun e he => by rw [List.mem_singleton.mp he]; exact cl)
  refine ⟨n + 5, [n + 5, n + 3, n + 4, n, n + 1, n + 2], _, _, H1, rfl, J2, turn_zip3 S (Nat.ne_of_lt al) (Nat.ne_of_lt (Nat.lt_succ_of_lt bl)) (Nat.ne_of_lt (Nat.lt_succ_of_lt (Nat.lt_succ_of_lt cl))) xs ys zs, ⟨hz, hI, ⟨_, _, _, hO⟩, ⟨_, g1, rfl, rfl⟩, ⟨_, g2, rfl, rfl⟩, ⟨_, g3, rfl, rfl⟩⟩, fun e hem => ?_, now⟩
  have low : n ≤ e := by
    have any : e = n + 5 ∨ e = n + 3 ∨ e = n + 4 ∨ e = n ∨ e = n + 1 ∨ e = n + 2 := by simpa using hem
    rcases any with q | q | q | q | q | q <;> rw [q]
    · exact Nat.le_add_right ..
    · exact Nat.le_add_right ..
    · exact Nat.le_add_right ..
    · exact Nat.le_refl _
    · exact Nat.le_add_right ..
    · exact Nat.le_add_right ..
  rw [← hn] at low
  exact J1.fpOk low (J1.hok.fresh low)
/-! ### for i, x in enumerate(t), t a tuple -/
section
open Sem (wp)
open AutoSeq1 (wpAny_loadPart')
theorem enum_of_tup (t : Addr) (its : Array Value) (n : Nat) (dct : Option Addr) (sl : Array (Option Value)) :
    Meets (Builtin.«enumerate.__new__» ⟨[.type "enumerate", .ref t], []⟩) (fun _ R st => st.heap.get? t = some { cls := .type "tuple", dict := dct, data := .seq its n, slots := sl } ∧
      R (.ok (.ret (.ref (st.heap.push { cls := .type "tuple_iterator", data := .fields #[.ref t, .int 0 0] }).objs.size)))
        { st with heap := (st.heap.push { cls := .type "tuple_iterator", data := .fields #[.ref t, .int 0 0] }).push { cls := .type "enumerate", data := .fields #[.none, .bool false, .ref st.heap.objs.size, rawInt 0, .none, .none] } }) :=
  .of_wp fun prog w A R st asked => by
    obtain ⟨hp, g, d, tk, os⟩ := st; obtain ⟨at_, asked⟩ := asked
    have sub := sub_enumerate
    have hT : Heap.IsTuple (Shared.heap ⟨hp, g, d, tk, os⟩) t its := ⟨_, at_, rfl, n, rfl⟩
    wp_walk using wpAny_loadPart' at_
    refine wpAny_stack_any fun stk => wpAny_pure ?_
    split
    · rename_i c _ _ _ _ _
      cases (c == Value.type "enumerate")
      · wp_walk using wpAny_loadPart' at_, wpAny_pyIter_tuple hT
        exact ⟨_, rfl, asked⟩
      · wp_walk using wpAny_loadPart' at_, wpAny_pyIter_tuple hT
        exact ⟨_, rfl, asked⟩
    · wp_walk using wpAny_loadPart' at_, wpAny_pyIter_tuple hT
      exact ⟨_, rfl, asked⟩
theorem call_enum_tup {prog : Program} {w : World} {A : Around} {E : Value → Shared → Prop} {st : Shared} {t : Addr} {its : Array Value} {Q : Value → Shared → Prop} (hT : st.heap.IsTuple t its)
    (now : ∀ h', IsEnum h' (st.heap.objs.size + 1) st.heap.objs.size 0 .none → h'.IsTupleIter st.heap.objs.size t 0 → h'.objs.size = st.heap.objs.size + 2 →
      (∀ b o, st.heap.get? b = some o → h'.get? b = some o) → Q (.ref (st.heap.objs.size + 1)) { st with heap := h' }) :
    wpAny (model prog w) A (call (.type "enumerate") [.ref t]) Q E st := by
  obtain ⟨⟨c, dct, dt, sl⟩, at_, hc, n, hd⟩ := hT
  replace hc : c = .type "tuple" := hc
  replace hd : dt = .seq its n := hd
  subst hc hd
  refine callType_new F.called_enumerate (by decide) (F.typeCall_enumerate_1 _) (F.newCall_enumerate_1 _) (fun obj => F.args_object_init_2 obj _) F.entry_enumerate_new (enum_of_tup t its n dct sl) ⟨at_, ?_⟩
  have size1 : (st.heap.push { cls := .type "tuple_iterator", data := .fields #[.ref t, .int 0 0] }).objs.size = st.heap.objs.size + 1 := Heap.size_push ..
  show _ ∧ _
  rw [size1]
  have made := Heap.get?_push_size (st.heap.push { cls := .type "tuple_iterator", data := .fields #[.ref t, .int 0 0] }) (o := { cls := .type "enumerate", data := .fields #[.none, .bool false, .ref st.heap.objs.size, rawInt 0, .none, .none] }) rfl
  rw [size1] at made
  exact ⟨⟨_, made, rfl⟩, now _ made ⟨_, Heap.get?_push_of_some _ (Heap.get?_push_size _ rfl), rfl, rfl⟩ (by rw [Heap.size_push, size1]) fun b o e => Heap.get?_push_of_some _ (Heap.get?_push_of_some _ e)⟩
end
/-- the tuple at a, each item in a new pair -/
def IteT (K : PySem.W.Frag) (a : Addr) (xs : List V) : It :=
  ⟨fun i H => SqT K H a xs ∧ i < xs.length, fun i H v H' => ∃ T x, v = .ref T ∧ H T = none ∧ H' = upd H T (.tup [.int (i : Nat), x]) ∧ xs[i]? = some x, fun i H => SqT K H a xs ∧ i = xs.length⟩
theorem turn_enumT {P : Program} {w : World} {K : PySem.W.Frag} {elts : List Expr} {kk : Nat} {tpos : Pos} (a e it : Addr) (xs : List V) :
    Turn P w K (.Tuple elts kk tpos) (IteT K a xs) [e, it] e (fun i h => (∃ old, IsEnum h e it ((i : Nat) : Int) old) ∧ h.IsTupleIter it a i ∧ e ≠ it ∧ a ≠ it ∧ a ≠ e) where
  mem := by simp
  obj := fun i h st b hb => by
    obtain ⟨⟨old, he⟩, ⟨o, ho, hc, hd⟩, _⟩ := st
    have either : b = e ∨ b = it := by simpa using hb
    rcases either with z | z
    · rw [z]; exact ⟨_, he, fun v q => nomatch q⟩
    · rw [z]; exact ⟨o, ho, fun v q => by rw [hd] at q; cases q⟩
  keep := fun i h h' st k => let ⟨⟨old, he⟩, hi, apart⟩ := st; ⟨⟨old, k e (by simp) _ he⟩, hi.at fun o q => k it (by simp) o q, apart⟩
  item := by
    intro X hP hw hK hc i pins st σ H E J hf stt going
    subst hP hw hK
    obtain ⟨⟨old, he⟩, hit, n1, n2, n3⟩ := stt
    obtain ⟨hq, hi⟩ := going
    obtain ⟨its, rv, tup, hz⟩ := J.tuple hq
    have len := rv.length
    have el : e < st.heap.objs.size := Heap.lt_size he
    have il : it < st.heap.objs.size := by obtain ⟨_, q, _⟩ := hit; exact Heap.lt_size q
    have D := Draws.tuple (prog := X.prog) (w := X.w) (A := X.A.in1) (J.ok.hd hc) it a n2 its.toArray
    refine wpAny_pyNext_enum_itemD D he ⟨hit, tup⟩ (by rw [List.size_toArray]; omega) n1 (by simp [n1, n3.symm]) fun u h' tk px out stt' new size kp => ?_
    refine ⟨_, rfl, wpAny_letOwnedTupleGo_enum (s := { st with heap := h', toks := tk + 1 }) out fun h'' he' sb => ?_⟩
    obtain ⟨x, hx⟩ : ∃ x, xs[i]? = some x := ⟨_, List.getElem?_eq_getElem hi⟩
    obtain ⟨u', hu', ru⟩ := rv.get hx
    have eu : u' = u := by
      have px : its.toArray[i]? = some u := px
      rw [List.getElem?_toArray, hu'] at px
      exact Option.some.inj px
    subst eu
    have there : h''.get? st.heap.objs.size = some { cls := .type "tuple", data := .seq #[.int i tk, u'] } := (sb.2 _ (Nat.ne_of_gt el)).trans new
    have ok2 : ObjOk X.prog X.w (upd H st.heap.objs.size (.tup [.int (i : Nat), x])) h'' st.heap.objs.size (.tup [.int (i : Nat), x]) :=
      ⟨by show 2 ≤ sizeLine; decide, [.int i tk, u'], .cons ⟨_, rfl⟩ (.cons ru .nil), ⟨_, there, rfl, _, rfl⟩⟩
    have J1 : Inv X pins σ (upd H st.heap.objs.size (.tup [.int (i : Nat), x])) { st with heap := h'', toks := tk + 1 } :=
      J.turnedNew (ch := [e, it]) (fun b ob hb q => (sb.2 b (fun z => hb (by simp [z]))).trans (kp b ob (fun z => hb (by simp [z])) (fun z => hb (by simp [z])) q)) hf (Nat.le_refl _) ok2
    refine ⟨.ref st.heap.objs.size, _, J1, rfl, ⟨_, x, rfl, J.hok.fresh (Nat.le_refl _), rfl, hx⟩, ⟨⟨u', ?_⟩, stt'.1.at fun o q => (sb.2 it (Ne.symm n1)).trans q, n1, n2, n3⟩, fun b hb => ?_⟩
    · rw [show ((i + 1 : Nat) : Int) = (i : Int) + 1 by omega]
      exact he'
    · have bl : b < st.heap.objs.size := by
        have either : b = e ∨ b = it := by simpa using hb
        rcases either with z | z
        · rw [z]; exact el
        · rw [z]; exact il
      rw [upd_ne (Nat.ne_of_lt bl)]
      exact (hf b hb).1
  done := by
    intro X hP hw hK hc i pins st σ H E J hf stt over
    subst hP hw hK
    obtain ⟨⟨old, he⟩, hit, n1, n2, n3⟩ := stt
    obtain ⟨hq, hi⟩ := over
    obtain ⟨its, rv, tup, hz⟩ := J.tuple hq
    obtain ⟨f0, f1, f2, f3, f4, f5⟩ := hf it (by simp)
    have len := rv.length
    have D := Draws.tuple (prog := X.prog) (w := X.w) (A := X.A.in1) (J.ok.hd hc) it a n2 its.toArray
    have ei : its.toArray.size = i := by rw [List.size_toArray]; omega
    exact wpAny_pyNext_enum_endD D he ⟨by rw [ei]; exact hit, tup⟩ fun h' eb => ⟨rfl, J.turned (t' := st.toks) (fun b o hb q => eb b o hb q) f0 f1 f3 f4 f5⟩
  self := fun A i st Q E stt now => let ⟨⟨_, he⟩, _⟩ := stt; wpAny_pyIter_enum he now
def iEnumT (K : PySem.W.Frag) (ta : TA) : TI := fun σ H R => ta σ H fun vs H1 => ∃ a xs, vs = [.ref a] ∧ SqT K H1 a xs ∧ R (IteT K a xs) H1
theorem pi_enumT (K : PySem.W.Frag) {X : Cx} (hk : X.K = K) {e : Expr} {ta : TA} {p pos tpos : Pos} {elts : List Expr} {kk : Nat} (hg : Gl X "enumerate") (hm : X.mg "enumerate" = none) (ha : PA X [e] ta) (hs : starEach [e] X.env = [(false, eval e X.env)] := by rfl) :
    PI X (.Tuple elts kk tpos) (.Call (.Name "enumerate" p) [e] [] pos) (iEnumT K ta) := by
  subst hk
  refine ⟨fun pins st σ H R J asked => ?_⟩
  refine Call_ (ld_blt J hg hm boot_enumerate (PyProof.Rows.callWith_type1 (thn (ha.run pos pins st σ H _ J asked) fun us st1 ⟨vs, H1, J1, rel, now⟩ => ?_) hs rfl))
  obtain ⟨a, xs, ex, hq, now⟩ := now
  subst ex
  obtain ⟨u, rfl, ru⟩ := vals1 rel
  obtain rfl : u = Value.ref a := ru
  obtain ⟨its, rv, tup, hz⟩ := J1.tuple hq
  have al : a < st1.heap.objs.size := by obtain ⟨o, ho, _⟩ := tup; exact Heap.lt_size ho
  refine call_enum_tup tup fun h' he hit size kp => wpAny_pyIter_enum he ?_
  have J2 : Inv X pins σ H1 { st1 with heap := h' } := J1.kept (t' := st1.toks) kp
  refine ⟨st1.heap.objs.size + 1, [st1.heap.objs.size + 1, st1.heap.objs.size], _, _, H1, rfl, J2, turn_enumT a (st1.heap.objs.size + 1) st1.heap.objs.size xs, ⟨⟨.none, he⟩, hit, Nat.succ_ne_self _, Nat.ne_of_lt al, Nat.ne_of_lt (Nat.lt_succ_of_lt al)⟩, fun b hb => ?_, now⟩
  have either : b = st1.heap.objs.size + 1 ∨ b = st1.heap.objs.size := by simpa using hb
  have low : st1.heap.objs.size ≤ b := by
    rcases either with z | z
    · rw [z]; exact Nat.le_add_right _ _
    · rw [z]; exact Nat.le_refl _
  exact J1.fpOk low (J1.hok.fresh low)
/-! ### dict(zip(xs, ys)), xs a list, ys a tuple -/
section
open Sem (wp)
variable {prog : Program} {w : World} {A : Around} {E : Value → Shared → Prop} {st : Shared} {z TI TO T i1 i2 : Addr} {fp1 fp2 : List Addr} {n1 n2 i : Nat} {P1 P2 : Nat → Value → Prop} {S1 S2 : Nat → Heap → Prop} {f : Bool} {oT : Obj}
theorem out_next (S : ZipSep2 z TI TO i1 i2 fp1 fp2) (D1 : Draws prog w A i1 fp1 n1 P1 S1) (D2 : Draws prog w A i2 fp2 n2 P2 S2) {Q : Value → Shared → Prop}
    (out : IsZipHeld st.heap z TI TO T f) (hT : st.heap.get? T = some oT) (both : IsTupOf2 st.heap TI (.ref i1) (.ref i2)) (at1 : S1 i st.heap) (at2 : S2 i st.heap) (l1 : i < n1) (l2 : i < n2)
    (now : ∀ x y h' tk, P1 i x → P2 i y → IsZipHeld h' z TI TO T true → S1 (i + 1) h' → S2 (i + 1) h' → IsTupOf2 h' st.heap.objs.size x y → (∀ c o, c ≠ z → c ≠ i1 → c ≠ i2 → st.heap.get? c = some o → h'.get? c = some o) → Q (.ref st.heap.objs.size) { st with heap := h', toks := tk }) :
    wpAny (model prog w) A (Builtin.«zip.__next__» ⟨[.ref z], []⟩) (fun fin s' => ∃ v, fin = .done (.ret v) ∧ Q v s') E st := by
  obtain ⟨hp, g, d, tk0, os⟩ := st
  show wpAny _ _ (field (.ref z) 2 >>= _) _ _ _; refine wpAny_bind (wpAny_field out rfl (x := .bool false) rfl ?_)
  show wpAny _ _ (field (.ref z) 3 >>= _) _ _ _; refine wpAny_bind (wpAny_field out rfl (x := .ref TI) rfl ?_)
  refine wpAny_bind (wpAny_seqItems both rfl ?_); show wpAny _ _ (Builtin.SmallTypes.ownedTupleIsFree (.ref z) >>= _) _ _ _
  refine wpAny_bind (wpAny_tupleHeld_zip out hT fun g1 out1 b1 => ?_)
  replace b1 : Heap.SameBut z hp g1 := b1
  simp only [Bool.false_eq_true, if_false]; refine wpAny_bind ?_; rw [← Array.forIn_toList]; simp only [List.forIn_cons, List.forIn_nil]
  refine wpAny_bind (wpAny_bind (wpAny_holding ?_)); show wpAny _ _ (Builtin.SmallTypes.nextOf (.ref i1) >>= _) _ _ ⟨g1, g, d, tk0, os⟩
  refine wpAny_bind (D1.item i _ _ _ l1 (D1.over at1 b1 S.zf1) fun x g2 tk1 px n1' b2 => wpAny_pure ?_)
  replace b2 : Heap.SameBut i1 g1 g2 := b2
  refine wpAny_pure ?_; refine wpAny_bind (wpAny_bind (wpAny_holding ?_)); show wpAny _ _ (Builtin.SmallTypes.nextOf (.ref i2) >>= _) _ _ ⟨g2, g, d, tk1, os⟩
  refine wpAny_bind (D2.item i _ _ _ l2 (D2.over (D2.over at2 b1 S.zf2) b2 S.sep1_2) fun y g3 tk2 py n2' b3 => wpAny_pure ?_)
  replace b3 : Heap.SameBut i2 g2 g3 := b3
  refine wpAny_pure (wpAny_pure ?_); show wpAny _ _ (newTuple [x, y] >>= _) _ _ ⟨g3, g, d, tk2, os⟩
  refine wpAny_bind (wpAny_newTuple ?_); refine wpAny_pure ⟨_, rfl, ?_⟩
  have size : g3.objs.size = hp.objs.size := by rw [b3.1, b2.1, b1.1]
  have out3 : IsZipHeld g3 z TI TO T true := b3.extBut _ _ S.zi2 (b2.extBut _ _ S.zi1 out1)
  have new : IsTupOf2 (g3.push { cls := .type "tuple", data := .seq #[x, y] }) g3.objs.size x y := Heap.get?_push_size _ rfl
  show Q (.ref g3.objs.size) _
  rw [size] at new ⊢
  exact now x y _ tk2 px py (Heap.get?_push_of_some _ out3) (D1.frame _ _ _ (D1.over n1' b3 S.sep2_1) fun _ _ _ q => Heap.get?_push_of_some _ q) (D2.frame _ _ _ n2' fun _ _ _ q => Heap.get?_push_of_some _ q) new
    fun c o c1 c2 c3 q => Heap.get?_push_of_some _ (b3.extBut _ _ c3 (b2.extBut _ _ c2 (b1.extBut _ _ c1 q)))
theorem out_end (S : ZipSep2 z TI TO i1 i2 fp1 fp2) (D1 : Draws prog w A i1 fp1 n1 P1 S1) (D2 : Draws prog w A i2 fp2 n2 P2 S2) {Q : Fin → Shared → Prop}
    (out : IsZipHeld st.heap z TI TO T f) (hT : st.heap.get? T = some oT) (both : IsTupOf2 st.heap TI (.ref i1) (.ref i2)) (at1 : S1 i st.heap) (at2 : S2 i st.heap) (l1 : i ≤ n1) (l2 : i ≤ n2) (last : i = n1 ∨ i = n2)
    (now : ∀ h' tk e, (∀ c o, c ≠ z → c ≠ i1 → c ≠ i2 → st.heap.get? c = some o → h'.get? c = some o) → (∃ o, h'.get? e = some o ∧ o.cls = .type "StopIteration") → E (.ref e) { st with heap := h', toks := tk }) :
    wpAny (model prog w) A (Builtin.«zip.__next__» ⟨[.ref z], []⟩) Q E st := by
  obtain ⟨hp, g, d, tk0, os⟩ := st
  show wpAny _ _ (field (.ref z) 2 >>= _) _ _ _; refine wpAny_bind (wpAny_field out rfl (x := .bool false) rfl ?_)
  show wpAny _ _ (field (.ref z) 3 >>= _) _ _ _; refine wpAny_bind (wpAny_field out rfl (x := .ref TI) rfl ?_)
  refine wpAny_bind (wpAny_seqItems both rfl ?_); show wpAny _ _ (Builtin.SmallTypes.ownedTupleIsFree (.ref z) >>= _) _ _ _
  refine wpAny_bind (wpAny_tupleHeld_zip out hT fun g1 out1 b1 => ?_)
  replace b1 : Heap.SameBut z hp g1 := b1
  simp only [Bool.false_eq_true, if_false]; refine wpAny_bind ?_; rw [← Array.forIn_toList]; simp only [List.forIn_cons, List.forIn_nil]
  refine wpAny_bind (wpAny_bind (wpAny_holding ?_)); show wpAny _ _ (Builtin.SmallTypes.nextOf (.ref i1) >>= _) _ _ ⟨g1, g, d, tk0, os⟩
  by_cases more : i < n1
  · refine wpAny_bind (D1.item i _ _ _ more (D1.over at1 b1 S.zf1) fun x g2 tk1 px n1' b2 => wpAny_pure ?_)
    replace b2 : Heap.SameBut i1 g1 g2 := b2
    refine wpAny_pure ?_; refine wpAny_bind (wpAny_bind (wpAny_holding ?_)); show wpAny _ _ (Builtin.SmallTypes.nextOf (.ref i2) >>= _) _ _ ⟨g2, g, d, tk1, os⟩
    have e2 : i = n2 := by omega
    subst e2
    refine wpAny_bind (D2.done _ _ _ (D2.over (D2.over at2 b1 S.zf2) b2 S.sep1_2) fun g3 e b3 he => ?_)
    exact now g3 tk1 e (fun c o c1 c2 c3 q => b3 _ _ c3 (b2.extBut _ _ c2 (b1.extBut _ _ c1 q))) he
  · have e1 : i = n1 := by omega
    subst e1
    refine wpAny_bind (D1.done _ _ _ (D1.over at1 b1 S.zf1) fun g3 e b3 he => ?_)
    exact now g3 tk0 e (fun c o c1 c2 c3 q => b3 _ _ c2 (b1.extBut _ _ c1 q)) he
theorem out_pyNext (S : ZipSep2 z TI TO i1 i2 fp1 fp2) (D1 : Draws prog w A.in1 i1 fp1 n1 P1 S1) (D2 : Draws prog w A.in1 i2 fp2 n2 P2 S2) {Q : Option Value → Shared → Prop}
    (out : IsZipHeld st.heap z TI TO T f) (hT : st.heap.get? T = some oT) (both : IsTupOf2 st.heap TI (.ref i1) (.ref i2)) (at1 : S1 i st.heap) (at2 : S2 i st.heap) (l1 : i < n1) (l2 : i < n2)
    (now : ∀ x y h' tk, P1 i x → P2 i y → IsZipHeld h' z TI TO T true → S1 (i + 1) h' → S2 (i + 1) h' → IsTupOf2 h' st.heap.objs.size x y → (∀ c o, c ≠ z → c ≠ i1 → c ≠ i2 → st.heap.get? c = some o → h'.get? c = some o) → Q (some (.ref st.heap.objs.size)) { st with heap := h', toks := tk }) :
    wpAny (model prog w) A (pyNext (.ref z)) Q E st := by
  have ty : st.TypeIs (.ref z) "zip" := ⟨_, out, rfl⟩
  unfold pyNext
  refine wpAny_bind (wpAny_attempt (wpAny_callSpecial?_slot (name := Str.ofString "__next__") ty F.slot_zip_next (wpAny_call_entry F.slot_zip_next ty F.entry_zip_next (out_next S D1 D2 out hT both at1 at2 l1 l2 ?_) (F.args_zip_next_1 _))))
  exact fun x y h' tk a b c d e g k => wpAny_pure (now x y h' tk a b c d e g k)
theorem out_pyNext_end (S : ZipSep2 z TI TO i1 i2 fp1 fp2) (D1 : Draws prog w A.in1 i1 fp1 n1 P1 S1) (D2 : Draws prog w A.in1 i2 fp2 n2 P2 S2) {Q : Option Value → Shared → Prop}
    (out : IsZipHeld st.heap z TI TO T f) (hT : st.heap.get? T = some oT) (both : IsTupOf2 st.heap TI (.ref i1) (.ref i2)) (at1 : S1 i st.heap) (at2 : S2 i st.heap) (l1 : i ≤ n1) (l2 : i ≤ n2) (last : i = n1 ∨ i = n2)
    (now : ∀ h' tk, (∀ c o, c ≠ z → c ≠ i1 → c ≠ i2 → st.heap.get? c = some o → h'.get? c = some o) → Q none { st with heap := h', toks := tk }) :
    wpAny (model prog w) A (pyNext (.ref z)) Q E st := by
  have ty : st.TypeIs (.ref z) "zip" := ⟨_, out, rfl⟩
  unfold pyNext
  refine wpAny_bind (wpAny_attempt (wpAny_callSpecial?_slot (name := Str.ofString "__next__") ty F.slot_zip_next (wpAny_call_entry F.slot_zip_next ty F.entry_zip_next (out_end S D1 D2 out hT both at1 at2 l1 l2 last ?_) (F.args_zip_next_1 _))))
  rintro h' tk e kp ⟨o, ho, hc⟩
  exact wpAny_bind (wpAny_isInstance (T := "StopIteration") (b := true) ⟨o, ho, hc⟩ isSubtype_stop (wpAny_pure (now _ _ kp)))
/-- the zip of the list l and the tuple t, begun -/
def ZipLT (h : Heap) (z TI TO i1 i2 l t : Addr) (xs ys : Array Value) (n : Nat) : Prop := IsTupOf2 h TI (.ref i1) (.ref i2) ∧ (h.IsListIter i1 l n ∧ h.IsList l xs) ∧ (h.IsTupleIter i2 t n ∧ h.IsTuple t ys)
theorem ZipLT.keep {h h' : Heap} {z TI TO i1 i2 l t : Addr} {xs ys : Array Value} {n : Nat} (q : ZipLT h z TI TO i1 i2 l t xs ys n) (k : ∀ b, b = TI ∨ b = i1 ∨ b = i2 ∨ b = l ∨ b = t → ∀ o, h.get? b = some o → h'.get? b = some o) : ZipLT h' z TI TO i1 i2 l t xs ys n :=
  ⟨k _ (.inl rfl) _ q.1, ⟨q.2.1.1.at fun o e => k _ (.inr (.inl rfl)) o e, q.2.1.2.at fun o e => k _ (.inr (.inr (.inr (.inl rfl)))) o e⟩, ⟨q.2.2.1.at fun o e => k _ (.inr (.inr (.inl rfl))) o e, q.2.2.2.at fun o e => k _ (.inr (.inr (.inr (.inr rfl)))) o e⟩⟩
theorem pairs_LT (z TI TO i1 i2 l t : Addr) (S : ZipSep2 z TI TO i1 i2 [i1, l] [i2, t]) (hl : l ≠ i1) (ht : t ≠ i2) (xs ys : Array Value) :
    PairArg prog w "zip" z [z, TI, TO, i1, i2, l, t] [z, TO, i1, i2] (min xs.size ys.size) (fun i k v => xs[i]? = some k ∧ ys[i]? = some v)
      (fun h => IsZip h z TI TO .none ∧ (∃ a b, IsTupOf2 h TO a b) ∧ ZipLT h z TI TO i1 i2 l t xs ys 0) where
  type := fun s ok => ⟨_, ok.1, rfl⟩
  notDict := by decide
  keep := fun h h' ok k => by
    obtain ⟨a1, ⟨a, b, a2⟩, a3⟩ := ok
    exact ⟨k _ _ a1, ⟨a, b, k _ _ a2⟩, a3.keep fun b _ o e => k b o e⟩
  there := fun h ok b hb => by
    obtain ⟨a1, ⟨a, c, a2⟩, a3, ⟨⟨o1, e1, _⟩, ⟨o2, e2, _⟩⟩, ⟨⟨o3, e3, _⟩, ⟨o4, e4, _⟩⟩⟩ := ok
    have either : b = z ∨ b = TI ∨ b = TO ∨ b = i1 ∨ b = i2 ∨ b = l ∨ b = t := by simpa using hb
    rcases either with q | q | q | q | q | q | q <;> subst q
    · exact ⟨_, a1⟩
    · exact ⟨_, a3⟩
    · exact ⟨_, a2⟩
    · exact ⟨_, e1⟩
    · exact ⟨_, e3⟩
    · exact ⟨_, e2⟩
    · exact ⟨_, e4⟩
  sub := fun b hb => by
    have either : b = z ∨ b = TO ∨ b = i1 ∨ b = i2 := by simpa using hb
    rcases either with q | q | q | q <;> subst q <;> simp
  noKeys := fun A s Q E hA ok now => getAttrOr_miss_zip ok.1 rfl rfl rfl zip_no_keys (by decide +kernel) hA now
  iter := fun A s d Q E hA ok dlt dfar now => by
    obtain ⟨a1, ⟨a, b, a2⟩, a3⟩ := ok
    have far : d ≠ z ∧ d ≠ TI ∧ d ≠ TO ∧ d ≠ i1 ∧ d ≠ i2 ∧ d ≠ l ∧ d ≠ t := by simpa using dfar
    obtain ⟨d1, d2, d3, d4, d5, d6, d7⟩ := far
    have D1 := Draws.list (prog := prog) (w := w) (A := A.in1) hA i1 l hl xs
    have D2 := Draws.tuple (prog := prog) (w := w) (A := A.in1) hA i2 t ht ys
    refine wpAny_pyIter_zip a1 (now z [z, TO, i1, i2] (fun n h => ZipLT h z TI TO i1 i2 l t xs ys n ∧ ((IsZip h z TI TO .none ∧ ∃ a b, IsTupOf2 h TO a b) ∨ ∃ T f oT, IsZipHeld h z TI TO T f ∧ h.get? T = some oT ∧ T ≠ z ∧ T ≠ i1 ∧ T ≠ i2 ∧ T ≠ d)) s.heap s.toks ?_ ⟨a3, .inl ⟨a1, a, b, a2⟩⟩ (fun _ _ e => e) fun b hb => .inl hb)
    refine ⟨fun hm => ?_, fun n h h' q k => ?_, fun n s1 Q1 E1 hn q dl now1 => ?_, fun s1 Q1 E1 q now1 => ?_⟩
    · have either : d = z ∨ d = TO ∨ d = i1 ∨ d = i2 := by simpa using hm
      rcases either with q | q | q | q
      · exact d1 q
      · exact d3 q
      · exact d4 q
      · exact d5 q
    · refine ⟨q.1.keep fun b hb o e => k b o (fun y => ?_) e, ?_⟩
      · rcases hb with q | q | q | q | q <;> rw [q] at y
        · exact d2 y.symm
        · exact d4 y.symm
        · exact d5 y.symm
        · exact d6 y.symm
        · exact d7 y.symm
      · rcases q.2 with ⟨q1, a, b, q2⟩ | ⟨T, f, oT, q1, q2, r1, r2, r3, r4⟩
        · exact .inl ⟨k _ _ (Ne.symm d1) q1, a, b, k _ _ (Ne.symm d3) q2⟩
        · exact .inr ⟨T, f, oT, k _ _ (Ne.symm d1) q1, k _ _ r4 q2, r1, r2, r3, r4⟩
    · obtain ⟨⟨both, at1, at2⟩, q⟩ := q
      have m1 : n < xs.size := Nat.lt_of_lt_of_le hn (Nat.min_le_left ..)
      have m2 : n < ys.size := Nat.lt_of_lt_of_le hn (Nat.min_le_right ..)
      have lt : ∀ {c o}, s1.heap.get? c = some o → s1.heap.objs.size ≠ c := fun e => Nat.ne_of_gt (Heap.lt_size e)
      have j1 : s1.heap.objs.size ≠ i1 := let ⟨_, e⟩ := D1.live _ _ at1; lt e
      have j2 : s1.heap.objs.size ≠ i2 := let ⟨_, e⟩ := D2.live _ _ at2; lt e
      rcases q with ⟨q1, a, b, q2⟩ | ⟨T, f, oT, q1, q2, r1, r2, r3, r4⟩
      · refine wpAny_pyNext_zipD2_item S D1 D2 q1 both q2 at1 at2 m1 m2 fun x y h' tk px py b1 b2 b3 b4 b5 b6 k => ?_
        exact now1 s1.heap.objs.size x y h' tk ⟨px, py⟩ (.inl ⟨_, b5, rfl, _, rfl⟩) ⟨⟨k _ _ S.TIz S.TITO S.TIi1 S.TIi2 both, b3, b4⟩, .inr ⟨_, false, _, b1, b5, lt q1, j1, j2, Nat.ne_of_gt dl⟩⟩
          fun c o hc e => k c o (fun y => hc (by simp [y])) (fun y => hc (by simp [y])) (fun y => hc (by simp [y])) (fun y => hc (by simp [y])) e
      · refine out_pyNext S D1 D2 q1 q2 both at1 at2 m1 m2 fun x y h' tk px py b1 b3 b4 b5 k => ?_
        exact now1 s1.heap.objs.size x y h' tk ⟨px, py⟩ (.inl ⟨_, b5, rfl, _, rfl⟩) ⟨⟨k _ _ S.TIz S.TIi1 S.TIi2 both, b3, b4⟩, .inr ⟨T, true, oT, b1, k _ _ r1 r2 r3 q2, r1, r2, r3, r4⟩⟩
          fun c o hc e => k c o (fun y => hc (by simp [y])) (fun y => hc (by simp [y])) (fun y => hc (by simp [y])) e
    · obtain ⟨⟨both, at1, at2⟩, q⟩ := q
      rcases q with ⟨q1, a, b, q2⟩ | ⟨T, f, oT, q1, q2, r1, r2, r3, r4⟩
      · exact wpAny_pyNext_zipD2_end S D1 D2 q1 both q2 at1 at2 (Nat.min_le_left ..) (Nat.min_le_right ..) (by omega) fun h' tk k => now1 h' tk fun c o hc e => k c o (fun y => hc (by simp [y])) (fun y => hc (by simp [y])) (fun y => hc (by simp [y])) (fun y => hc (by simp [y])) e
      · exact out_pyNext_end S D1 D2 q1 q2 both at1 at2 (Nat.min_le_left ..) (Nat.min_le_right ..) (by omega) fun h' tk k => now1 h' tk fun c o hc e => k c o (fun y => hc (by simp [y])) (fun y => hc (by simp [y])) (fun y => hc (by simp [y])) e
end
/-- dict(zip(e1, e2)): keys from a list, values from a tuple -/
def eDictZip (K : PySem.W.Frag) (ta : TA) : TE := fun σ H Q => ta σ H fun vs H1 => ∃ (a b : Addr) (ks : List Key) (xs : List V), vs = [.ref a, .ref b] ∧ SqL K H1 a (ks.map kV) ∧ SqT K H1 b xs ∧ ∀ p, H1 p = none → Q (.ref p) (upd H1 p (.dK (mergeK [] (ks.zip xs))))
theorem pe_dictZip (K : PySem.W.Frag) {X : Cx} (hk : X.K = K) (hcalm : X.calm = true) {e e2 : Expr} {ta : TA} {p p2 pos pos2 : Pos} (hd : Gl X "dict") (md : X.mg "dict" = none) (hg : Gl X "zip") (hm : X.mg "zip" = none) (ha : PA X [e, e2] ta)
    (hs : starEach [e, e2] X.env = (false, eval e X.env) :: starEach [e2] X.env := by rfl) (hpl : (backTo pos2 (starEach [e2] X.env)).any (·.1) = false := by rfl)
    (hs1 : starEach [.Call (.Name "zip" p2) [e, e2] [] pos2] X.env = [(false, eval (.Call (.Name "zip" p2) [e, e2] [] pos2) X.env)] := by rfl) :
    PE X (.Call (.Name "dict" p) [.Call (.Name "zip" p2) [e, e2] [] pos2] [] pos) (eDictZip K ta) := by
  subst hk
  refine ⟨fun pins st σ H Q J asked => ?_⟩
  refine Call_ (ld_blt J hd md boot_dict (PyProof.Rows.callWith_type1 (args_cons (Call_ (ld_blt J hg hm boot_zip (PyProof.Rows.callWith_type1 (thn (ha.run pos2 pins st σ H _ J asked) fun us st1 ⟨vs, H1, J1, rel, now⟩ => ?_) hs hpl))) hs1) hs1 rfl))
  obtain ⟨a, b, ks, xs, ex, hq1, hq2, now⟩ := now
  subst ex
  cases rel with
  | cons r1 rel =>
  cases rel with
  | cons r2 rel =>
  cases rel
  cases r1
  cases r2
  obtain ⟨its, rv, p1, z1⟩ := J1.list hq1
  obtain ⟨its2, rv2, p2, z2⟩ := J1.tuple hq2
  have al : a < st1.heap.objs.size := p1.lt
  have bl : b < st1.heap.objs.size := by obtain ⟨o, ho, _⟩ := p2; exact Heap.lt_size ho
  have B1 := begins_list a its.toArray
  have B2 := begins_tuple b its2.toArray
  refine zip_begins2 B1 B2 p1.isList p2 fun h' c1 c2 c3 c4 c5 size kp => args_nil ?_
  have S := zip_sep2 (N := st1.heap.objs.size) (fp1 := [a]) (fp2 := [b]) (by simpa using al) (by simpa using bl)
  have P := pairs_LT (prog := X.prog) (w := X.w) _ _ _ _ _ a b S (Nat.ne_of_lt al) (Nat.ne_of_lt (Nat.lt_succ_of_lt bl)) its.toArray its2.toArray
  have n1 := rv.length
  have n2 := rv2.length
  rw [List.length_map] at n1 z1
  have all : ∀ (ks : List Key) (xs : List V) (us vs : List Value), Vals (ks.map kV) us → Vals xs vs → ∃ rs : List (Key × Value), KV (ks.zip xs) rs ∧ rs.length = min us.length vs.length ∧ ∀ (i : Nat) (k v : Value), us[i]? = some k → vs[i]? = some v → ∃ q, rs[i]? = some (q, v) ∧ (mixKind X.prog X.w).is q k = true := by
    intro ks
    induction ks with
    | nil => intro xs us vs r1 r2; cases r1; exact ⟨[], .nil, by simp, fun i k v e => nomatch e⟩
    | cons k ks ih =>
      intro xs us vs r1 r2
      cases r1 with
      | cons h1 t1 =>
      cases r2 with
      | nil => exact ⟨[], .nil, by simp, fun i k v _ e => nomatch e⟩
      | cons h2 t2 =>
        obtain ⟨rs, e1, e2, e3⟩ := ih _ _ _ t1 t2
        refine ⟨(k, _) :: rs, .cons ⟨rfl, h2⟩ e1, by simp only [List.length_cons, e2]; omega, fun i q v e f => ?_⟩
        cases i with
        | zero => cases e; cases f; exact ⟨k, rfl, kV_is h1⟩
        | succ i => exact e3 i q v e f
  obtain ⟨rs, e1, e2, e3⟩ := all ks xs its its2 rv rv2
  have PH : PairsHave (mixKind X.prog X.w) (min its.toArray.size its2.toArray.size) (fun i k v => its.toArray[i]? = some k ∧ its2.toArray[i]? = some v) rs :=
    ⟨by simpa using e2, fun i k v q => e3 i k v (by simpa using q.1) (by simpa using q.2)⟩
  refine _root_.PySem.call_dict_pairs (s := { st1 with heap := h' }) P (J1.ok.hd hcalm) ⟨c1, ⟨_, _, c3⟩, c2, ⟨⟨_, c4, rfl, rfl⟩, B1.keeps _ _ p1.isList kp⟩, ⟨⟨_, c5, rfl, rfl⟩, B2.keeps _ _ p2 kp⟩⟩ PH (by have := n1; have := n2; simp only [List.size_toArray]; omega) fun h2 tk isd kp2 => ?_
  replace isd : h2.DictOf (mixKind X.prog X.w) h'.objs.size (merged [] rs) := isd
  have low : st1.heap.objs.size ≤ h'.objs.size := by rw [size]; exact Nat.le_add_right _ _
  have big : sysModules < h'.objs.size := Nat.lt_of_lt_of_le J1.big low
  have ne : (h'.objs.size == sysModules) = false := beq_eq_false_iff_ne.mpr (Nat.ne_of_gt big)
  have few : (mergeK [] (ks.zip xs)).length ≤ sizeLine := by
    refine Nat.le_trans (length_mergeK _ []) ?_
    rw [List.length_nil, Nat.zero_add, List.length_zip]
    omega
  refine ⟨.ref h'.objs.size, upd H1 h'.objs.size (.dK (mergeK [] (ks.zip xs))), J1.laid (t' := tk) (fun c o q => kp2 c o (fun hm => ?_) (kp c o q)) low (show ObjOk X.prog X.w _ _ _ (.dK (mergeK [] (ks.zip xs))) from ⟨few, ne, merged [] rs, KV.merge e1 .nil, isd⟩), rfl, now _ (J1.hok.fresh low)⟩
  have cl := Heap.lt_size q
  have either : c = st1.heap.objs.size + 4 ∨ c = st1.heap.objs.size + 3 ∨ c = st1.heap.objs.size ∨ c = st1.heap.objs.size + 1 := by simpa using hm
  rcases either with y | y | y | y <;> rw [y] at cl
  · exact absurd cl (Nat.not_lt.mpr (Nat.le_add_right _ _))
  · exact absurd cl (Nat.not_lt.mpr (Nat.le_add_right _ _))
  · exact absurd cl (Nat.lt_irrefl _)
  · exact absurd cl (Nat.not_lt.mpr (Nat.le_add_right _ _))
theorem one_at {K : PySem.W.Frag} {a : Addr} {od : Option Addr} {z : Str} {t1 : Tok} {n : Nat} {sl : Array (Option Value)} (l : K.lookup a = some ⟨.type "tuple", od, .seq #[.str z t1] n, sl⟩) (H : Hp) : SqT K H a [.str z] :=
  .inr ⟨_, _, _, l, rfl, rfl, (show 1 ≤ sizeLine by decide), .cons ⟨_, rfl⟩ .nil⟩
section
variable {P : Program} {w : World} {K : PySem.W.Frag} {mg : Str → Option Value} {base : Heap}
def sp_law_flow (K : PySem.W.Frag) : Sp := fun vs H Q _ => ∃ (a : Addr) (ns : List Int), vs = [.ref a] ∧ SqL K H a (ns.map V.int) ∧ ∀ (f c : Addr) (H' : Hp), H f = none → H c = none → Flow H' f c → Same H H' → Q (.ref f) H'
theorem ok_law_flow {f : Addr} {fd : FuncData} (F : Fun K "_law_flow" "_law_flow" s_law_flow f fd) {C : Addr} (T : Top K mg C) : FnOk P w K mg base CX0 1 f fd ["_law_script"] (sp_law_flow K) := by
  refine F.ok sc_law_flow (fun vs H Q E h => ?_) (fun cdv A outer s H vs Q E hr h => ?_)
  · obtain ⟨a, ns, rfl, _⟩ := h
    rfl
  obtain ⟨a, ns, rfl, hS, q⟩ := h
  refine ⟨_, (pss_one (ps_ret (pe_lst (pa_cons (pe_callTy (call_list_ofK K rfl) (by rfl) T.m_list (by decide +kernel) (pa_cons (pv 0) pa_nil)) (pa_cons pe_int (pa_cons pe_int (pa_cons pe_int (pa_cons pe_int pa_nil)))))))), ?_⟩
  refine ⟨_, rfl, a, _, rfl, .inl hS, fun c hc => ?_⟩
  refine ⟨(by show 5 ≤ sizeLine; decide), fun f hf => ?_⟩
  have nf : H f = none := by
    cases e : H f with
    | none => rfl
    | some o => rw [same_new hc _ _ e] at hf; cases hf
  have s1 := same_new (o := .lst (ns.map V.int)) hc
  refine q f c _ nf hc ⟨ns, 0, 0, 1, 0, upd_same, same_new hf _ _ upd_same, by decide, by decide, by decide, by decide⟩ fun b o e => same_new hf _ _ (s1 _ _ e)
def sp_law_pick (K : PySem.W.Frag) : Sp := fun vs H Q _ => ∃ (f c : Addr) (m : Int), vs = [.ref f, .int m] ∧ 0 < m ∧ m.natAbs.log2 < 9000 ∧ Flow H f c ∧
  ∀ (v : Int) (H' : Hp), 0 ≤ v → v < m → Flow H' f c → But f H H' → Q (.int v) H'
theorem ok_law_pick {f : Addr} {fd : FuncData} (F : Fun K "_law_pick" "_law_pick" s_law_pick f fd) {C : Addr} (T : Top K mg C) : FnOk P w K mg base CX0 1 f fd ["_law_flow_here", "_law_many"] (sp_law_pick K) := by
  refine F.ok sc_law_pick (fun vs H Q E h => ?_) (fun cdv A outer s H vs Q E hr h => ?_)
  · obtain ⟨f, c, m, rfl, _⟩ := h
    rfl
  obtain ⟨f, c, m, rfl, m0, m9, hF, q⟩ := h
  obtain ⟨ns, i, p, z, r, hf, hc, hi, hp, hz, hz2⟩ := hF
  have ncf : c ≠ f := ne_of hc hf (by intro e; injection e with e; cases ns with | nil => cases e | cons x l => cases e)
  let R1 : TS := fun D' σ' H' => D'.rt = Q ∧ ∃ x2 : Option V, σ' = [some (.ref f), some (.int m), x2, none] ∧ (∃ (i p z r : Int), H' f = some (.lst [.ref c, .int i, .int p, .int z, .int r]) ∧ H' c = some (.lst (ns.map V.int)) ∧ 0 ≤ i ∧ 0 ≤ p ∧ 0 ≤ z ∧ z < 2147483647) ∧ But f H H'
  refine ⟨_, (pss_cons (ps_if (PW.pt (pw_and (pt_cmpR op_eq (pe_ix (ix_listK K rfl) (pv 0) pe_int (fun _ _ => rfl)) pe_int (nomark _)) (pw_and1 (pt_cmpR op_lt (pe_ix (ix_listK K rfl) (pv 0) pe_int (fun _ _ => rfl)) (pe_callB (call_len_seqK K rfl) (by rfl) T.m_len (by decide +kernel) (pa_cons (pe_ix (ix_listK K rfl) (pv 0) pe_int (fun _ _ => rfl)) pa_nil)) (nomark _))))) (pss_cons (ps_set (i := 2) sc_law_pick.nd rfl (Or.inl rfl) (pe_ix (ix_listK K rfl) (pe_ix (ix_listK K rfl) (pv 0) pe_int (fun _ _ => rfl)) (pe_ix (ix_listK K rfl) (pv 0) pe_int (fun _ _ => rfl)) (fun _ _ => rfl)))
      (pss_cons (ps_asg (pe_op op_add (pe_ix (ix_listK K rfl) (pv 0) pe_int (fun _ _ => rfl)) pe_int) (pg_sub (pv 0) pe_int set_list))
      (pss_one (ps_if (pt_cmpR op_ge (pv 2) (pe_op op_pow pe_int pe_int) (nomark _)) (pss_one (ps_asg (pv 2) (pg_sub (pv 0) pe_int set_list))) (pss_one (ps_asg (pe_op op_mod (pe_op op_add (pe_op op_add (pe_op op_mul (pe_ix (ix_listK K rfl) (pv 0) pe_int (fun _ _ => rfl)) pe_int) (pe_op op_mod (pv 2) pe_int)) pe_int) pe_int) (pg_sub (pv 0) pe_int set_list))))))) pss_nil)
      (PSs.to (pss_cons (ps_if (pt_cmpR op_gt (pe_ix (ix_listK K rfl) (pv 0) pe_int (fun _ _ => rfl)) pe_int (nomark _)) (pss_cons (ps_set (i := 3) sc_law_pick.nd rfl (Or.inl rfl) (pe_op op_mod (pe_ix (ix_listK K rfl) (pv 0) pe_int (fun _ _ => rfl)) (pv 1)))
      (pss_cons (ps_asg (pe_op op_fdivW (pe_ix (ix_listK K rfl) (pv 0) pe_int (fun _ _ => rfl)) (pv 1)) (pg_sub (pv 0) pe_int set_list))
      (pss_one (ps_ret (pv 3))))) pss_nil)
      (pss_cons (ps_asg (pe_op op_add (pe_ix (ix_listK K rfl) (pv 0) pe_int (fun _ _ => rfl)) pe_int) (pg_sub (pv 0) pe_int set_list))
      (pss_cons (ps_asg (pe_op op_mod (pe_op op_add (pe_op op_add (pe_op op_mul (pe_ix (ix_listK K rfl) (pv 0) pe_int (fun _ _ => rfl)) pe_int) pe_int) (pe_ix (ix_listK K rfl) (pv 0) pe_int (fun _ _ => rfl))) pe_int) (pg_sub (pv 0) pe_int set_list))
      (pss_one (ps_ret (pe_op op_mod (pe_op op_fdiv (pe_op op_mod (pe_op op_mul (pe_op op_add (pe_op op_mod (pe_ix (ix_listK K rfl) (pv 0) pe_int (fun _ _ => rfl)) pe_int) pe_int) (pe_op op_add (pe_op op_fdiv (pe_ix (ix_listK K rfl) (pv 0) pe_int (fun _ _ => rfl)) pe_int) pe_int)) pe_int) pe_int) (pv 1))))))) R1 ?tail1)), ?_⟩
  case tail1 =>
    rintro D' σ' H1 ⟨eD, x2, rfl, ⟨i, p, z, r, hf, hc, hi, hp, hz, hz2⟩, bt⟩
    refine ⟨_, rfl, f, _, _, _, rfl, rfl, SqL.of hf, atI_nat (j := 2) rfl, _, _, rfl, rfl, _, rfl, if_bl (fun c1 => ?_) (fun c1 => ?_)⟩
    · refine ⟨_, rfl, f, _, _, _, rfl, rfl, SqL.of hf, atI_nat (j := 2) rfl, _, rfl, _, _, rfl, rfl, m0, ?_⟩
      refine ⟨_, rfl, f, _, _, _, rfl, rfl, SqL.of hf, atI_nat (j := 2) rfl, _, rfl, _, _, rfl, rfl, ⟨m0, m9⟩, _, rfl, f, _, _, 2, rfl, rfl, hf, rfl, ?_⟩
      refine ⟨_, rfl, ?_⟩
      rw [eD]
      exact q _ _ (Int.emod_nonneg _ (by omega)) (Int.emod_lt_of_pos _ m0) ⟨ns, i, p / m, z, r, upd_same, (by rw [upd_ne ncf]; exact hc), hi, Int.ediv_nonneg hp (by omega), hz, hz2⟩ bt.upd
    · refine ⟨_, rfl, f, _, _, _, rfl, rfl, SqL.of hf, atI_nat (j := 4) rfl, _, _, rfl, rfl, _, rfl, f, _, _, 4, rfl, rfl, hf, rfl, ?_⟩
      have hf2 : upd H1 f (.lst ([V.ref c, V.int i, V.int p, V.int z, V.int r].set 4 (V.int (r + 1)))) f = some (.lst [.ref c, .int i, .int p, .int z, .int (r + 1)]) := upd_same
      refine ⟨_, rfl, f, _, _, _, rfl, rfl, SqL.of hf2, atI_nat (j := 3) rfl, _, _, rfl, rfl, .inl ⟨by omega, by omega⟩, _, _, rfl, rfl, _, rfl, f, _, _, _, rfl, rfl, SqL.of hf2, atI_nat (j := 4) rfl, _, _, rfl, rfl, _, _, rfl, rfl, (by show (0 : Int) < 2147483647; decide), _, rfl, f, _, _, 3, rfl, rfl, hf2, rfl, ?_⟩
      have z0 : 0 ≤ (z * 48271 + 12820163 + (r + 1)) % 2147483647 := Int.emod_nonneg _ (by decide)
      have z1 : (z * 48271 + 12820163 + (r + 1)) % 2147483647 < 2147483647 := Int.emod_lt_of_pos _ (by decide)
      have hf3 : upd (upd H1 f (.lst ([V.ref c, V.int i, V.int p, V.int z, V.int r].set 4 (V.int (r + 1))))) f (.lst ([V.ref c, V.int i, V.int p, V.int z, V.int (r + 1)].set 3 (V.int ((z * 48271 + 12820163 + (r + 1)) % 2147483647)))) f =
        some (.lst [.ref c, .int i, .int p, .int ((z * 48271 + 12820163 + (r + 1)) % 2147483647), .int (r + 1)]) := upd_same
      have hc3 : upd (upd H1 f (.lst ([V.ref c, V.int i, V.int p, V.int z, V.int r].set 4 (V.int (r + 1))))) f (.lst ([V.ref c, V.int i, V.int p, V.int z, V.int (r + 1)].set 3 (V.int ((z * 48271 + 12820163 + (r + 1)) % 2147483647)))) c = some (.lst (ns.map V.int)) := by
        rw [upd_ne ncf, upd_ne ncf]
        exact hc
      refine ⟨_, rfl, f, _, _, _, rfl, rfl, SqL.of hf3, atI_nat (j := 3) rfl, _, _, rfl, rfl, (by show (0 : Int) < 65521; decide), _, _, rfl, rfl, _, rfl, f, _, _, _, rfl, rfl, SqL.of hf3, atI_nat (j := 3) rfl, _, _, rfl, rfl, ⟨by decide, by decide⟩, _, _, rfl, rfl, _, _, rfl, rfl, .inl ⟨?_, ?_⟩, _, _, rfl, rfl, (by show (0 : Int) < 1000003; decide), _, _, rfl, rfl, ⟨by decide, by decide⟩, _, rfl, _, _, rfl, rfl, m0, ?_⟩
      · omega
      · omega
      · rw [eD]
        exact q _ _ (Int.emod_nonneg _ (by omega)) (Int.emod_lt_of_pos _ m0) ⟨ns, i, p, _, r + 1, hf3, hc3, hi, hp, z0, z1⟩ bt.upd.upd
  refine ⟨_, rfl, f, _, _, _, rfl, rfl, SqL.of hf, atI_nat (j := 2) rfl, rfl, _, rfl, if_bl (fun c1 => ?_) (fun c1 => ?_)⟩
  · refine ⟨_, rfl, f, _, _, _, rfl, rfl, SqL.of hf, atI_nat (j := 1) rfl, _, rfl, f, _, _, _, rfl, rfl, SqL.of hf, atI_nat (j := 0) rfl, c, _, rfl, .inl (SqL.of hc), _, _, rfl, rfl, _, rfl, if_bl (fun c2 => ?_) (fun c2 => ?_)⟩
    · have c3 : i < ((ns.map V.int).length : Int) := of_decide_eq_true c2
      rw [List.length_map] at c3
      obtain ⟨v, hv⟩ := at_ints hi c3
      refine ⟨_, rfl, f, _, _, _, rfl, rfl, SqL.of hf, atI_nat (j := 0) rfl, _, rfl, f, _, _, _, rfl, rfl, SqL.of hf, atI_nat (j := 1) rfl, c, _, i, _, rfl, rfl, SqL.of hc, hv, ?_⟩
      refine ⟨_, rfl, f, _, _, _, rfl, rfl, SqL.of hf, atI_nat (j := 1) rfl, _, _, rfl, rfl, _, rfl, f, _, _, 1, rfl, rfl, hf, rfl, ?_⟩
      have hf2 : upd H f (.lst ([V.ref c, V.int i, V.int p, V.int z, V.int r].set 1 (V.int (i + 1)))) f = some (.lst [.ref c, .int (i + 1), .int p, .int z, .int r]) := upd_same
      refine ⟨_, rfl, _, _, rfl, rfl, ⟨by decide, by decide, by decide⟩, _, _, rfl, rfl, _, rfl, if_bl (fun c4 => ?_) (fun c4 => ?_)⟩
      · have c5 : (10 : Int) ^ (18 : Int).toNat ≤ v := of_decide_eq_true c4
        have c6 : (0 : Int) ≤ (10 : Int) ^ (18 : Int).toNat := by decide
        refine ⟨_, rfl, _, rfl, f, _, _, 2, rfl, rfl, hf2, rfl, rfl, _, rfl, ⟨i + 1, v, z, r, upd_same, ?_, by omega, by omega, hz, hz2⟩, But.refl.upd.upd⟩
        rw [upd_ne ncf, upd_ne ncf]
        exact hc
      · refine ⟨_, rfl, f, _, _, _, rfl, rfl, SqL.of hf2, atI_nat (j := 3) rfl, _, _, rfl, rfl, .inl ⟨by omega, by omega⟩, _, rfl, _, _, rfl, rfl, (by show (0 : Int) < 1000003; decide), _, _, rfl, rfl, _, _, rfl, rfl, _, _, rfl, rfl, (by show (0 : Int) < 2147483647; decide), _, rfl, f, _, _, 3, rfl, rfl, hf2, rfl, rfl, _, rfl, ⟨i + 1, p, _, r, upd_same, ?_, by omega, hp, Int.emod_nonneg _ (by decide), Int.emod_lt_of_pos _ (by decide)⟩, But.refl.upd.upd⟩
        rw [upd_ne ncf, upd_ne ncf]
        exact hc
    · exact ⟨rfl, _, rfl, ⟨i, p, z, r, hf, hc, hi, hp, hz, hz2⟩, But.refl⟩
  · exact ⟨rfl, _, rfl, ⟨i, p, z, r, hf, hc, hi, hp, hz, hz2⟩, But.refl⟩
end
/-! ### rooms: what they are -/
/-- a hand: its rule's word, its number if it has one, its moments -/
structure HR where
  wd : Str
  no : Option Int
  mom : Int
/-- a belt -/
structure BR where
  one : Nat
  to : Nat
  th : List Int
abbrev ruleL (h : HR) : List V := .str h.wd :: (match h.no with | none => [] | some n => [.int n])
def HandAt (H : Hp) (v : V) (h : HR) : Prop := ∃ t r : Addr, v = .ref t ∧ H t = some (.tup [.ref r, .int h.mom]) ∧ H r = some (.tup (ruleL h))
def BeltAt (H : Hp) (v : V) (b : BR) : Prop := ∃ t g : Addr, v = .ref t ∧ H t = some (.tup [.int (b.one : Nat), .int (b.to : Nat), .ref g]) ∧ H g = some (.tup (b.th.map V.int))
theorem HandAt.keep {H H' : Hp} {v : V} {h : HR} (a : HandAt H v h) (k : TK H H') : HandAt H' v h := by
  obtain ⟨t, r, e, e1, e2⟩ := a
  exact ⟨t, r, e, k _ _ e1, k _ _ e2⟩
theorem BeltAt.keep {H H' : Hp} {v : V} {b : BR} (a : BeltAt H v b) (k : TK H H') : BeltAt H' v b := by
  obtain ⟨t, r, e, e1, e2⟩ := a
  exact ⟨t, r, e, k _ _ e1, k _ _ e2⟩
def nine : List Str := ["always", "same", "times", "sum", "gap", "below", "most", "least", "pick"]
def needs (wd : Str) : Int := if wd ∈ (["in", "always"] : List Str) then 0 else if wd ∈ (["out", "same", "times"] : List Str) then 1 else 2 + (if wd = "pick" then 1 else 0)
/-- a rule of one of the nine words -/
structure GoodRule (h : HR) : Prop where
  wd : h.wd ∈ nine
  no : h.no.isSome = true ↔ h.wd = "times" ∨ h.wd = "always"
  big : ∀ n, h.no = some n → -1000000 ≤ n ∧ n ≤ 1000000
def GoodHand (h : HR) : Prop := (GoodRule h ∨ ((h.wd = "in" ∨ h.wd = "out") ∧ h.no = none)) ∧ 0 ≤ h.mom ∧ h.mom ≤ 30
def Small (v : Int) : Prop := -1000000 ≤ v ∧ v ≤ 1000000
section
variable {P : Program} {w : World} {K : PySem.W.Frag} {mg : Str → Option Value} {base : Heap}
def sp_law_thing (K : PySem.W.Frag) : Sp := fun vs H Q _ => ∃ f c : Addr, vs = [.ref f] ∧ Flow H f c ∧ ∀ (v : Int) (H' : Hp), Small v → Flow H' f c → But f H H' → Q (.int v) H'
theorem ok_law_thing {f : Addr} {fd : FuncData} (F : Fun K "_law_thing" "_law_thing" s_law_thing f fd) {C : Addr} (T : Top K mg C) : FnOk P w K mg base CX0 2 f fd ["_law_flow_here"] (sp_law_thing K) := by
  obtain ⟨f_law_pick, fd_law_pick, F_law_pick, b_law_pick, m_law_pick⟩ := T.d_law_pick
  have G_law_pick := ok_law_pick (P := P) (w := w) (base := base) F_law_pick T
  refine F.ok sc_law_thing (fun vs H Q E h => ?_) (fun cdv A outer s H vs Q E hr h => ?_)
  · obtain ⟨f, c, rfl, _⟩ := h
    rfl
  obtain ⟨f, c, rfl, hF, q⟩ := h
  refine ⟨_, (pss_cons (ps_if (pt_cmpR op_gt (pe_call G_law_pick (hr.mono (by decide)) (by rfl) m_law_pick F_law_pick.kp b_law_pick .nil pass0 (pa_cons (pv 0) (pa_cons pe_int pa_nil))) pe_int (nomark _)) (pss_one (ps_ret (pe_op op_sub (pe_call G_law_pick (hr.mono (by decide)) (by rfl) m_law_pick F_law_pick.kp b_law_pick .nil pass0 (pa_cons (pv 0) (pa_cons pe_int pa_nil))) pe_int))) pss_nil)
      (pss_one (ps_ret (pe_op op_sub (pe_call G_law_pick (hr.mono (by decide)) (by rfl) m_law_pick F_law_pick.kp b_law_pick .nil pass0 (pa_cons (pv 0) (pa_cons pe_int pa_nil))) pe_int)))), ?_⟩
  refine ⟨_, rfl, f, c, 3, rfl, by decide, by decide +kernel, hF, fun v1 H1 a1 b1 F1 B1 => ⟨_, _, rfl, rfl, _, rfl, if_bl (fun _ => ?_) (fun _ => ?_)⟩⟩
  · exact ⟨_, rfl, f, c, 7, rfl, by decide, by decide +kernel, F1, fun v2 H2 a2 b2 F2 B2 => ⟨_, _, rfl, rfl, q _ _ ⟨by omega, by omega⟩ F2 (B1.trans B2)⟩⟩
  · exact ⟨_, rfl, f, c, 2000001, rfl, by decide, by decide +kernel, F1, fun v2 H2 a2 b2 F2 B2 => ⟨_, _, rfl, rfl, q _ _ ⟨by omega, by omega⟩ F2 (B1.trans B2)⟩⟩
def sp_law_needs (K : PySem.W.Frag) : Sp := fun vs H Q _ => ∃ (r : Addr) (wd : Str) (l : List V), vs = [.ref r] ∧ SqT K H r (.str wd :: l) ∧ ∀ H', Same H H' → Q (.int (needs wd)) H'
theorem ok_law_needs {f : Addr} {fd : FuncData} (F : Fun K "_law_needs" "_law_needs" s_law_needs f fd) {C : Addr} (T : Top K mg C) : FnOk P w K mg base CX0 1 f fd ["_law_rule_here"] (sp_law_needs K) := by
  refine F.ok sc_law_needs (fun vs H Q E h => ?_) (fun cdv A outer s H vs Q E hr h => ?_)
  · obtain ⟨r, wd, l, rfl, _⟩ := h
    rfl
  obtain ⟨r, wd, l, rfl, hR, q⟩ := h
  unfold needs at q
  refine ⟨_, (pss_cons (ps_if (pt_cmpR (op_in_seqK K rfl) (pe_ix (ix_tupK K rfl) (pv 0) pe_int (fun _ _ => rfl)) (pe_tup (pa_cons pe_str (pa_cons pe_str pa_nil))) (by with_unfolding_all rfl)) (pss_one (ps_ret pe_int)) pss_nil)
      (pss_cons (ps_if (pt_cmpR (op_in_seqK K rfl) (pe_ix (ix_tupK K rfl) (pv 0) pe_int (fun _ _ => rfl)) (pe_tup (pa_cons pe_str (pa_cons pe_str (pa_cons pe_str pa_nil)))) (by with_unfolding_all rfl)) (pss_one (ps_ret pe_int)) pss_nil)
      (pss_one (ps_ret (pe_op op_add pe_int (pe_callTy call_int1 (by rfl) T.m_int (by decide +kernel) (pa_cons (pe_cmpR op_eq (pe_ix (ix_tupK K rfl) (pv 0) pe_int (fun _ _ => rfl)) pe_str (nomark _)) pa_nil))))))), ?_⟩
  refine ⟨_, rfl, r, _, _, _, rfl, rfl, hR, atI_nat (j := 0) rfl, (by show 2 ≤ sizeLine; decide), fun p np => ⟨p, _, rfl, .inr (SqT.of upd_same), rfl, rfl, _, rfl, if_in (zs := ["in", "always"]) (fun e => ?_) (fun e => ?_)⟩⟩
  · have q := q _ (same_new (o := .tup [V.str "in", V.str "always"]) np)
    rw [if_pos e] at q
    exact q
  have s1 := same_new (o := .tup [V.str "in", V.str "always"]) np
  refine ⟨_, rfl, r, _, _, _, rfl, rfl, same_seqT s1 hR, atI_nat (j := 0) rfl, (by show 3 ≤ sizeLine; decide), fun p2 np2 => ⟨p2, _, rfl, .inr (SqT.of upd_same), rfl, rfl, _, rfl, if_in (zs := ["out", "same", "times"]) (fun e2 => ?_) (fun e2 => ?_)⟩⟩
  · have q := q _ (s1.trans (same_new (o := .tup [V.str "out", V.str "same", V.str "times"]) np2))
    rw [if_neg e, if_pos e2] at q
    exact q
  have s2 := s1.trans (same_new (o := .tup [V.str "out", V.str "same", V.str "times"]) np2)
  have q := q _ s2
  rw [if_neg e, if_neg e2] at q
  refine ⟨_, rfl, r, _, _, _, rfl, rfl, same_seqT s2 hR, atI_nat (j := 0) rfl, rfl, .inr ⟨_, rfl, _, _, rfl, rfl, ?_⟩⟩
  by_cases k : wd = "pick"
  · rw [if_pos k] at q
    rw [decide_eq_true (show V.str wd = V.str "pick" by rw [k])]
    exact q
  · rw [if_neg k] at q
    rw [decide_eq_false (show ¬ V.str wd = V.str "pick" from fun z => k (V.str.inj z))]
    exact q
theorem nine_at {m : Int} (h0 : 0 ≤ m) (h9 : m < 9) : ∃ wd : Str, wd ∈ nine ∧ atI (nine.map V.str) m = some (.str wd) ∧ (m < 1 → needs wd ≤ 0) ∧ (m < 3 → needs wd ≤ 1) ∧ (m < 8 → needs wd ≤ 2) ∧ needs wd ≤ 3 ∧ 0 ≤ needs wd := by
  have : m = 0 ∨ m = 1 ∨ m = 2 ∨ m = 3 ∨ m = 4 ∨ m = 5 ∨ m = 6 ∨ m = 7 ∨ m = 8 := by omega
  rcases this with rfl | rfl | rfl | rfl | rfl | rfl | rfl | rfl | rfl
  · exact ⟨"always", by decide +kernel, rfl, by decide +kernel, by decide +kernel, by decide +kernel, by decide +kernel, by decide +kernel⟩
  · exact ⟨"same", by decide +kernel, rfl, by decide +kernel, by decide +kernel, by decide +kernel, by decide +kernel, by decide +kernel⟩
  · exact ⟨"times", by decide +kernel, rfl, by decide +kernel, by decide +kernel, by decide +kernel, by decide +kernel, by decide +kernel⟩
  · exact ⟨"sum", by decide +kernel, rfl, by decide +kernel, by decide +kernel, by decide +kernel, by decide +kernel, by decide +kernel⟩
  · exact ⟨"gap", by decide +kernel, rfl, by decide +kernel, by decide +kernel, by decide +kernel, by decide +kernel, by decide +kernel⟩
  · exact ⟨"below", by decide +kernel, rfl, by decide +kernel, by decide +kernel, by decide +kernel, by decide +kernel, by decide +kernel⟩
  · exact ⟨"most", by decide +kernel, rfl, by decide +kernel, by decide +kernel, by decide +kernel, by decide +kernel, by decide +kernel⟩
  · exact ⟨"least", by decide +kernel, rfl, by decide +kernel, by decide +kernel, by decide +kernel, by decide +kernel, by decide +kernel⟩
  · exact ⟨"pick", by decide +kernel, rfl, by decide +kernel, by decide +kernel, by decide +kernel, by decide +kernel, by decide +kernel⟩
def sp_law_rule (K : PySem.W.Frag) : Sp := fun vs H Q _ => ∃ (f c : Addr) (m : Int), vs = [.ref f, .int m] ∧ 0 ≤ m ∧ Flow H f c ∧
  ∀ (r : Addr) (h : HR) (H' : Hp), H' r = some (.tup (ruleL h)) → GoodRule h → needs h.wd ≤ m → 0 ≤ needs h.wd → h.mom = 0 → Flow H' f c → But f H H' → Q (.ref r) H'
theorem ok_law_rule {f : Addr} {fd : FuncData} (F : Fun K "_law_rule" "_law_rule" s_law_rule f fd) {C : Addr} (T : Top K mg C) : FnOk P w K mg base CX0 3 f fd ["_law_flow_here", "_law_most"] (sp_law_rule K) := by
  obtain ⟨f_law_pick, fd_law_pick, F_law_pick, b_law_pick, m_law_pick⟩ := T.d_law_pick
  have G_law_pick := ok_law_pick (P := P) (w := w) (base := base) F_law_pick T
  obtain ⟨f_law_thing, fd_law_thing, F_law_thing, b_law_thing, m_law_thing⟩ := T.d_law_thing
  have G_law_thing := ok_law_thing (P := P) (w := w) (base := base) F_law_thing T
  refine F.ok sc_law_rule (fun vs H Q E h => ?_) (fun cdv A outer s H vs Q E hr h => ?_)
  · obtain ⟨f, c, m, rfl, _⟩ := h
    rfl
  obtain ⟨f, c, m, rfl, m0, hF, q⟩ := h
  refine ⟨_, (pss_cons (ps_set (i := 2) sc_law_rule.nd rfl (Or.inl rfl) (pe_lst (pa_cons pe_str (pa_cons pe_str (pa_cons pe_str (pa_cons pe_str (pa_cons pe_str (pa_cons pe_str (pa_cons pe_str (pa_cons pe_str (pa_cons pe_str pa_nil)))))))))))
      (pss_cons (ps_set (i := 3) sc_law_rule.nd rfl (Or.inl rfl) (pe_ix (ix_listK K rfl) (pv 2) (pe_call G_law_pick (hr.mono (by decide)) (by rfl) m_law_pick F_law_pick.kp b_law_pick .nil pass0 (pa_cons (pv 0) (pa_cons (pe_ix (ix_listK K rfl) (pe_lst (pa_cons pe_int (pa_cons pe_int (pa_cons pe_int (pa_cons pe_int pa_nil))))) (pe_callB (call_min2 rfl) (by rfl) T.m_min (by decide +kernel) (pa_cons pe_int (pa_cons (pv 1) pa_nil))) (fun _ _ => rfl)) pa_nil))) (fun _ _ => rfl)))
      (pss_cons (ps_if (pt_cmpR op_eq (pv 3) pe_str (nomark _)) (pss_one (ps_ret (pe_tup (pa_cons (pv 3) (pa_cons (pe_op op_sub (pe_call G_law_pick (hr.mono (by decide)) (by rfl) m_law_pick F_law_pick.kp b_law_pick .nil pass0 (pa_cons (pv 0) (pa_cons pe_int pa_nil))) pe_int) pa_nil))))) pss_nil)
      (pss_cons (ps_if (pt_cmpR op_eq (pv 3) pe_str (nomark _)) (pss_one (ps_ret (pe_tup (pa_cons (pv 3) (pa_cons (pe_call G_law_thing (hr.mono (by decide)) (by rfl) m_law_thing F_law_thing.kp b_law_thing .nil pass0 (pa_cons (pv 0) pa_nil)) pa_nil))))) pss_nil)
      (pss_one (ps_ret (pe_tup (pa_cons (pv 3) pa_nil)))))))), ?_⟩
  refine ⟨(by show 9 ≤ sizeLine; decide), fun wl nwl => ?_⟩
  have F1 : Flow (upd H wl (.lst (nine.map V.str))) f c := hF.new nwl
  refine ⟨_, rfl, _, rfl, (by show 4 ≤ sizeLine; decide), fun cl ncl => ?_⟩
  have F2 : Flow (upd (upd H wl (.lst (nine.map V.str))) cl (.lst [V.int 1, V.int 3, V.int 8, V.int 9])) f c := F1.new ncl
  have B2 : But f H (upd (upd H wl (.lst (nine.map V.str))) cl (.lst [V.int 1, V.int 3, V.int 8, V.int 9])) := (But.refl.new nwl).new ncl
  obtain ⟨j, hj, j1, j9, jn⟩ : ∃ j : Int, atI [V.int 1, V.int 3, V.int 8, V.int 9] (if m < 3 then m else 3) = some (.int j) ∧ 1 ≤ j ∧ j ≤ 9 ∧ ((j = 1 ∧ m = 0) ∨ (j = 3 ∧ m = 1) ∨ (j = 8 ∧ m = 2) ∨ (j = 9 ∧ 3 ≤ m)) := by
    by_cases k : m < 3
    · rw [if_pos k]
      have : m = 0 ∨ m = 1 ∨ m = 2 := by omega
      rcases this with rfl | rfl | rfl
      · exact ⟨1, rfl, by decide, by decide, by decide⟩
      · exact ⟨3, rfl, by decide, by decide, by decide⟩
      · exact ⟨8, rfl, by decide, by decide, by decide⟩
    · rw [if_neg k]
      exact ⟨9, rfl, by decide, by decide, by omega⟩
  refine ⟨_, rfl, _, _, rfl, cl, _, _, _, rfl, rfl, SqL.of upd_same, hj, f, c, j, rfl, by omega, ?_, F2, fun v H1 v0 v1 F3 B3 => ?_⟩
  · have : j = 1 ∨ j = 3 ∨ j = 8 ∨ j = 9 := by omega
    rcases this with rfl | rfl | rfl | rfl <;> decide +kernel
  obtain ⟨wd, hw, hat, n1, n3, n8, n9, n0⟩ := nine_at v0 (by omega)
  have hn : needs wd ≤ m := by
    rcases jn with ⟨rfl, rfl⟩ | ⟨rfl, rfl⟩ | ⟨rfl, rfl⟩ | ⟨rfl, k⟩
    · exact n1 v1
    · exact n3 v1
    · exact n8 v1
    · omega
  have hwl : H1 wl = some (.lst (nine.map V.str)) := B3 _ _ (same_new ncl _ _ upd_same) (hF.ne nwl)
  refine ⟨wl, _, _, _, rfl, rfl, SqL.of hwl, hat, ?_⟩
  have BB := B2.trans B3
  refine ⟨_, rfl, rfl, _, rfl, if_str (fun e => ?_) (fun e => ?_)⟩
  · refine ⟨_, rfl, _, rfl, f, c, 19, rfl, by decide, by decide +kernel, F3, fun v2 H2 a2 b2 F4 B4 => ⟨_, _, rfl, rfl, (by show 2 ≤ sizeLine; decide), fun r nr => ?_⟩⟩
    exact q r ⟨wd, some (v2 - 9), 0⟩ _ upd_same ⟨hw, ⟨fun _ => .inl e, fun _ => rfl⟩, fun n en => by cases en; exact ⟨by omega, by omega⟩⟩ hn n0 rfl (F4.new nr) ((BB.trans B4).new nr)
  refine ⟨_, rfl, rfl, _, rfl, if_str (fun e2 => ?_) (fun e2 => ?_)⟩
  · refine ⟨_, rfl, _, rfl, f, c, rfl, F3, fun v2 H2 s2 F4 B4 => ⟨(by show 2 ≤ sizeLine; decide), fun r nr => ?_⟩⟩
    exact q r ⟨wd, some v2, 0⟩ _ upd_same ⟨hw, ⟨fun _ => .inr e2, fun _ => rfl⟩, fun n en => by cases en; exact s2⟩ hn n0 rfl (F4.new nr) ((BB.trans B4).new nr)
  · refine ⟨_, rfl, (by show 1 ≤ sizeLine; decide), fun r nr => ?_⟩
    exact q r ⟨wd, none, 0⟩ _ upd_same ⟨hw, ⟨(fun z => nomatch z), fun z => absurd z (fun z => z.elim e e2)⟩, (fun n en => nomatch en)⟩ hn n0 rfl (F3.new nr) (BB.new nr)
def sp_law_shuffled (K : PySem.W.Frag) : Sp := fun vs H Q _ => ∃ (f c l : Addr) (xs : List V), vs = [.ref f, .ref l] ∧ SqL K H l xs ∧ l ≠ f ∧ xs.length ≤ 500 ∧ Flow H f c ∧
  ∀ (p : Addr) (ys : List V) (H' : Hp), ys.Perm xs → H p = none → H' p = some (.lst ys) → Flow H' f c → But f H H' → Q (.ref p) H'
theorem But.seqL {K : PySem.W.Frag} {f a : Addr} {H H1 : Hp} {xs : List V} (b : But f H H1) (h : SqL K H a xs) (n : a ≠ f) : SqL K H1 a xs := by
  rcases h with h | h
  · left
    rcases h with h | ⟨o, h⟩
    · exact .inl (b _ _ h n)
    · exact .inr ⟨o, b _ _ h n⟩
  · exact .inr h
theorem same_seqL {K : PySem.W.Frag} {a : Addr} {H H1 : Hp} {xs : List V} (b : Same H H1) (h : SqL K H a xs) : SqL K H1 a xs := by
  rcases h with h | h
  · left
    rcases h with h | ⟨o, h⟩
    · exact .inl (b _ _ h)
    · exact .inr ⟨o, b _ _ h⟩
  · exact .inr h
theorem log_small {m : Nat} (h : m ≤ 500) : ((m : Int)).natAbs.log2 < 9000 := by
  rw [Int.natAbs_natCast]
  exact Nat.lt_of_le_of_lt (Nat.log2_le_self m) (by omega)
theorem perm_erase {α : Type} : ∀ {l : List α} {j : Nat} {y : α}, l[j]? = some y → (y :: l.eraseIdx j).Perm l
  | [], _, _, h => nomatch h
  | a :: l, 0, y, h => by
    cases h
    exact List.Perm.refl _
  | a :: l, j + 1, y, h => by
    have ih : (y :: l.eraseIdx j).Perm l := perm_erase h
    exact (List.Perm.swap a y _).trans (ih.cons a)
theorem ok_law_shuffled {f : Addr} {fd : FuncData} (F : Fun K "_law_shuffled" "_law_shuffled" s_law_shuffled f fd) {C : Addr} (T : Top K mg C) : FnOk P w K mg base CX0 2 f fd ["_law_flow_here", "_law_some"] (sp_law_shuffled K) := by
  obtain ⟨f_law_pick, fd_law_pick, F_law_pick, b_law_pick, m_law_pick⟩ := T.d_law_pick
  have G_law_pick := ok_law_pick (P := P) (w := w) (base := base) F_law_pick T
  refine F.ok sc_law_shuffled (fun vs H Q E h => ?_) (fun cdv A outer s H vs Q E hr h => ?_)
  · obtain ⟨f, c, l, xs, rfl, _⟩ := h
    rfl
  obtain ⟨f, c, l, xs, rfl, hL, nl, hlen, hF, q⟩ := h
  refine ⟨_, (pss_cons (ps_set (i := 2) sc_law_shuffled.nd rfl (Or.inr rfl) (pe_callTy (call_list_ofK K rfl) (by rfl) T.m_list (by decide +kernel) (pa_cons (pv 1) pa_nil)))
      (pss_one (ps_ret (pe_lc (own := [("_law_k", 3)]) (g := gName 3) (tt := tYes) (by rfl) sc_law_shuffled.nd (pi_range1 (by rfl) T.m_range (pa_cons (pe_callB (call_len_seqK K rfl) (by rfl) T.m_len (by decide +kernel) (pa_cons (pv 1) pa_nil)) pa_nil)) (blkOk_by (own := [("_law_k", 3)]) (N := N_law_shuffled) (sc := defScope s_law_shuffled) (by decide +kernel)) (fun _ _ _ _ _ => (pg_name (i := 3) sc_law_shuffled.nd rfl (Or.inl rfl))) (fun _ _ _ _ _ => pts_nil) (fun _ _ _ _ _ => (pe_bmK K rfl PySem.F.plainAttrs_list PySem.F.slot_list_pop PySem.F.type_list_pop mt_popAt (pv 2) (pa_cons (pe_call G_law_pick (hr.mono (by decide)) (by rfl) m_law_pick F_law_pick.kp b_law_pick .nil pass0 (pa_cons (pv 0) (pa_cons (pe_callB (call_len_seqK K rfl) (by rfl) T.m_len (by decide +kernel) (pa_cons (pv 2) pa_nil)) pa_nil))) pa_nil))))))), ?_⟩
  refine ⟨_, rfl, l, _, rfl, .inl hL, fun lf nlf => ?_⟩
  refine ⟨_, rfl, l, _, rfl, .inl (same_seqL (same_new nlf) hL), _, rfl, by omega, (by omega), fun D nD => ?_⟩
  have F1 : Flow (upd H lf (.lst xs)) f c := hF.new nlf
  have dl : D ≠ lf := (ne_of_none upd_same nD).symm
  refine lc_range (lo := 0) (n := xs.length) (fun i H5 => ∃ acc rest : List V, H5 D = some (.lst acc) ∧ H5 lf = some (.lst rest) ∧ acc.length = i ∧ rest.length + i = xs.length ∧ (acc ++ rest).Perm xs ∧ Flow H5 f c ∧ But f H H5)
    ⟨[], xs, upd_same, by rw [upd_ne dl.symm]; exact upd_same, rfl, by omega, List.Perm.refl _, F1.new nD, (But.refl.new nlf).new nD⟩ ?_ ?_
  · rintro i H5 hi ⟨acc, rest, hD, hl, ha, hr2, hp, F5, B5⟩
    refine ⟨rfl, yes_in ?_⟩
    refine ⟨_, rfl, .inl ⟨rfl, _, SqL.of hl⟩, _, rfl, _, rfl, lf, _, rfl, .inl (SqL.of hl), f, c, ((rest.length : Nat) : Int), rfl, by omega, log_small (by omega), F5, fun v H6 v0 v1 F6 B6 => ?_⟩
    have hl6 := B6 _ _ hl (hF.ne nlf)
    have hv : v.toNat < rest.length := by omega
    have e1 : seqIndex? v rest.length = some v.toNat := by
      rw [seqIndex_of v0 (by omega)]
    refine ⟨lf, rest, v, v.toNat, rest[v.toNat], rfl, rfl, hl6, by omega, by omega, e1, List.getElem?_eq_getElem hv, ?_⟩
    have hD6 := B6 _ _ hD (fun e => by rw [e] at nD; rw [show upd H lf (.lst xs) f = H f from upd_ne (hF.ne nlf).symm] at nD; obtain ⟨_, _, _, _, _, e1, _⟩ := hF; rw [e1] at nD; cases nD)
    refine ⟨acc, by rw [upd_ne dl]; exact hD6, small1000 (by omega), acc ++ [rest[v.toNat]], rest.eraseIdx v.toNat, upd_same, by rw [upd_ne dl.symm]; exact upd_same, by rw [List.length_append, ha]; rfl, ?_, ?_, ?_, ?_⟩
    · rw [List.length_eraseIdx, if_pos hv]
      omega
    · refine List.Perm.trans ?_ hp
      rw [List.append_assoc]
      exact List.Perm.append_left acc (perm_erase (List.getElem?_eq_getElem hv))
    · have dc : D ≠ c := fun e => by
        rw [e] at nD
        obtain ⟨_, _, _, _, _, _, e1, _⟩ := F1
        rw [e1] at nD
        cases nD
      exact (F6.lst (hF.ne nlf) (hF.nec nlf)).lst (F1.ne nD) dc
    · exact ((B5.trans B6).own nlf).own (same_none (same_new nlf) nD)
  · rintro H5 ⟨acc, rest, hD, hl, ha, hr2, hp, F5, B5⟩
    have er : rest = [] := by
      cases rest with
      | nil => rfl
      | cons a l => simp at hr2
    subst er
    rw [List.append_nil] at hp
    exact q D acc H5 hp (same_none (same_new nlf) nD) hD F5 B5
end
/-! ### the hands of a drawn room -/
def unS : V → Str
  | .str s => s
  | _ => ""
theorem perm_strs {ys : List V} {zs : List Str} (h : ys.Perm (zs.map V.str)) : ∃ ss : List Str, ys = ss.map V.str ∧ ss.Perm zs := by
  refine ⟨ys.map unS, ?_, ?_⟩
  · rw [List.map_map]
    symm
    refine (List.map_congr_left (g := id) fun y hy => ?_).trans (List.map_id _)
    obtain ⟨z, _, e⟩ := List.mem_map.mp (h.mem_iff.mp hy)
    subst e
    rfl
  · have q := h.map unS
    rw [List.map_map] at q
    have e : zs.map (unS ∘ V.str) = zs := (List.map_congr_left (g := id) fun z _ => rfl).trans (List.map_id _)
    rw [e] at q
    exact q
theorem flat_rep {α : Type} (x : α) : ∀ n : Nat, (List.replicate n [x]).flatten = List.replicate n x
  | 0 => rfl
  | n + 1 => by
    rw [List.replicate_succ, List.flatten_cons, flat_rep x n]
    rfl
def cnt (ss : List Str) : Nat := (ss.filter fun s => !decide (s = ("in" : Str))).length
theorem cnt_le (ss : List Str) : cnt ss ≤ ss.length := List.length_filter_le ..
theorem cut_drop (xs : List V) (k : Nat) : cutV xs (some ((k : Nat) : Int)) none = xs.drop k := by
  unfold cutV
  rw [HT.sIx_nat, HT.sIx_none]
  by_cases h : k ≤ xs.length
  · rw [Nat.min_eq_left h]
    exact List.take_of_length_le (by rw [List.length_drop]; exact Nat.le_refl _)
  · rw [Nat.min_eq_right (by omega), Nat.sub_self, List.take_zero, List.drop_eq_nil_of_le (by omega)]
structure HInv (f c sl hh : Addr) (ss : List Str) (H0 H : Hp) (i : Nat) (vs : List V) (hs : List HR) (left : Int) : Prop where
  fl : Flow H f c
  bt : But f H0 H
  hsl : H sl = some (.lst (ss.map V.str))
  hhh : H hh = some (.lst vs)
  al : All2 (HandAt H) vs hs
  len : hs.length = i
  good : ∀ h ∈ hs, GoodHand h
  lf : (cnt (ss.drop i) : Int) ≤ left
  sum : (hs.map fun h => needs h.wd).sum + left = 20
  nz : ∀ h ∈ hs, 0 ≤ needs h.wd
  one : ("hand" : Str) ∈ ss.take i → ∃ h ∈ hs, h.wd ≠ "out"
  n1 : sl ≠ f
  n2 : sl ≠ hh
  n3 : hh ≠ f
  n4 : hh ≠ c
  n5 : H0 hh = none
section
variable {f c sl hh : Addr} {ss : List Str} {H0 H H' : Hp} {i : Nat} {vs : List V} {hs : List HR} {left : Int}
theorem HInv.but (s : HInv f c sl hh ss H0 H i vs hs left) (F : Flow H' f c) (b : But f H H') : HInv f c sl hh ss H0 H' i vs hs left :=
  { s with fl := F, bt := s.bt.trans b, hsl := b _ _ s.hsl s.n1, hhh := b _ _ s.hhh s.n3, al := s.al.imp fun _ _ k => k.keep (TK.but s.fl b) }
theorem HInv.new {p : Addr} {o : HO} (s : HInv f c sl hh ss H0 H i vs hs left) (n : H p = none) : HInv f c sl hh ss H0 (upd H p o) i vs hs left :=
  { s with fl := s.fl.new n, bt := s.bt.new n, hsl := same_new n _ _ s.hsl, hhh := same_new n _ _ s.hhh, al := s.al.imp fun _ _ k => k.keep (TK.new n) }
theorem HInv.same (s : HInv f c sl hh ss H0 H i vs hs left) (k : Same H H') : HInv f c sl hh ss H0 H' i vs hs left :=
  { s with fl := s.fl.same k, bt := s.bt.same k, hsl := k _ _ s.hsl, hhh := k _ _ s.hhh, al := s.al.imp fun _ _ z => z.keep (TK.same k) }
theorem HInv.step {x : V} {h : HR} {sd : Str} (s : HInv f c sl hh ss H0 H i vs hs left) (hx : HandAt H x h) (g : GoodHand h) (z : 0 ≤ needs h.wd) (k : needs h.wd + (cnt (ss.drop (i + 1)) : Int) ≤ left) (e : ss[i]? = some sd) (o : sd = "hand" → h.wd ≠ "out") :
    HInv f c sl hh ss H0 (upd H hh (.lst (vs ++ [x]))) (i + 1) (vs ++ [x]) (hs ++ [h]) (left - needs h.wd) := by
  refine { s with fl := s.fl.lst s.n3 s.n4, bt := s.bt.own s.n5, hsl := by rw [upd_ne s.n2]; exact s.hsl, hhh := upd_same, al := (s.al.snoc hx).imp fun _ _ z => z.keep (TK.lst s.hhh), len := by rw [List.length_append, s.len]; rfl, good := ?_, lf := by omega, sum := ?_, nz := ?_, one := ?_ }
  · intro y hy
    rcases List.mem_append.mp hy with hy | hy
    · exact s.good y hy
    · obtain rfl : y = h := by simpa using hy
      exact g
  · have := s.sum
    rw [List.map_append, List.sum_append]
    simp only [List.map_cons, List.map_nil, List.sum_cons, List.sum_nil]
    omega
  · intro y hy
    rcases List.mem_append.mp hy with hy | hy
    · exact s.nz y hy
    · obtain rfl : y = h := by simpa using hy
      exact z
  · intro hm
    rw [List.take_add_one, e] at hm
    rcases List.mem_append.mp hm with hm | hm
    · obtain ⟨y, h1, h2⟩ := s.one hm
      exact ⟨y, List.mem_append_left _ h1, h2⟩
    · have e2 : ("hand" : Str) = sd := by simpa using hm
      exact ⟨h, List.mem_append_right _ (by simp), o e2.symm⟩
end
theorem cnt_cons {ss : List Str} {i : Nat} {sd : Str} (e : ss[i]? = some sd) : cnt (ss.drop i) = (if sd = "in" then 0 else 1) + cnt (ss.drop (i + 1)) := by
  have hi := (List.getElem?_eq_some_iff.mp e).1
  have e2 : ss.drop i = sd :: ss.drop (i + 1) := by
    rw [List.drop_eq_getElem_cons hi, (List.getElem?_eq_some_iff.mp e).2]
  rw [e2]
  unfold cnt
  rw [List.filter_cons]
  by_cases k : sd = "in"
  · rw [if_pos k, decide_eq_true k]
    simp
  · rw [if_neg k, decide_eq_false k]
    simp only [Bool.not_false, if_true, List.length_cons]
    omega
section
variable {P : Program} {w : World} {K : PySem.W.Frag} {mg : Str → Option Value} {base : Heap}
structure HandsOk (hs : List HR) : Prop where
  len : hs.length ≤ 12
  good : ∀ h ∈ hs, GoodHand h
  sum : (hs.map fun h => needs h.wd).sum ≤ 20
  nz : ∀ h ∈ hs, 0 ≤ needs h.wd
  one : ∃ h ∈ hs, h.wd ≠ "out"
def sp_law_hands (K : PySem.W.Frag) : Sp := fun vs H Q _ => ∃ (f c : Addr) (m : Int), vs = [.ref f, .int m] ∧ 1 ≤ m ∧ m ≤ 8 ∧ Flow H f c ∧
  ∀ (p : Addr) (xs : List V) (hs : List HR) (H' : Hp), H p = none → H' p = some (.lst xs) → All2 (HandAt H') xs hs → HandsOk hs → Flow H' f c → But f H H' → Q (.ref p) H'
theorem ok_law_hands {f : Addr} {fd : FuncData} (F : Fun K "_law_hands" "_law_hands" s_law_hands f fd) {C : Addr} (T : Top K mg C) : FnOk P w K mg base CX0 4 f fd ["_law_flow_here", "_law_many"] (sp_law_hands K) := by
  obtain ⟨f_law_shuffled, fd_law_shuffled, F_law_shuffled, b_law_shuffled, m_law_shuffled⟩ := T.d_law_shuffled
  have G_law_shuffled := ok_law_shuffled (P := P) (w := w) (base := base) F_law_shuffled T
  obtain ⟨f_law_rule, fd_law_rule, F_law_rule, b_law_rule, m_law_rule⟩ := T.d_law_rule
  have G_law_rule := ok_law_rule (P := P) (w := w) (base := base) F_law_rule T
  obtain ⟨f_law_needs, fd_law_needs, F_law_needs, b_law_needs, m_law_needs⟩ := T.d_law_needs
  have G_law_needs := ok_law_needs (P := P) (w := w) (base := base) F_law_needs T
  obtain ⟨f_law_pick, fd_law_pick, F_law_pick, b_law_pick, m_law_pick⟩ := T.d_law_pick
  have G_law_pick := ok_law_pick (P := P) (w := w) (base := base) F_law_pick T
  refine F.ok sc_law_hands (fun vs H Q E h => ?_) (fun cdv A outer s H vs Q E hr h => ?_)
  · obtain ⟨f, c, m, rfl, _⟩ := h
    rfl
  obtain ⟨f, c, m, rfl, m1, m8, hF, q⟩ := h
  let R1 : TS := fun D' σ' H' => D'.rt = Q ∧ ∃ (sl : Addr) (ss : List Str), σ' = [some (.ref f), some (.int m), some (.ref sl), none, none, none, none, none, none, none] ∧ H' sl = some (.lst (ss.map V.str)) ∧ sl ≠ f ∧ ss.length ≤ 12 ∧ ("hand" : Str) ∈ ss ∧ (∀ s ∈ ss, s = "in" ∨ s = "out" ∨ s = "hand") ∧ Flow H' f c ∧ But f H H'
  refine ⟨_, (pss_cons (ps_set (i := 2) sc_law_hands.nd rfl (Or.inl rfl) (pe_op op_cat (pe_op op_cat (pe_op op_rep (pe_lst (pa_cons pe_str pa_nil)) (pe_call G_law_pick (hr.mono (by decide)) (by rfl) m_law_pick F_law_pick.kp b_law_pick .nil pass0 (pa_cons (pv 0) (pa_cons pe_int pa_nil)))) (pe_op op_rep (pe_lst (pa_cons pe_str pa_nil)) (pe_call G_law_pick (hr.mono (by decide)) (by rfl) m_law_pick F_law_pick.kp b_law_pick .nil pass0 (pa_cons (pv 0) (pa_cons pe_int pa_nil))))) (pe_op op_rep (pe_lst (pa_cons pe_str pa_nil)) (pv 1))))
      (pss_cons (ps_set (i := 2) sc_law_hands.nd rfl (Or.inl rfl) (pe_call G_law_shuffled (hr.mono (by decide)) (by rfl) m_law_shuffled F_law_shuffled.kp b_law_shuffled .nil pass0 (pa_cons (pv 0) (pa_cons (pv 2) pa_nil))))
      (PSs.to (pss_cons (ps_set (i := 3) sc_law_hands.nd rfl (Or.inl rfl) pe_int)
      (pss_cons (ps_set (i := 4) sc_law_hands.nd rfl (Or.inl rfl) (pe_lst pa_nil))
      (pss_cons (ps_for PassesOwn.never rfl (pi_enum (by rfl) T.m_enumerate (pa_cons (pv 2) pa_nil)) (pg_tupK K rfl rfl (pgs_cons (pg_name (i := 5) sc_law_hands.nd rfl (Or.inl rfl)) (pgs_cons (pg_name (i := 6) sc_law_hands.nd rfl (Or.inl rfl)) pgs_nil)))
        (pss_cons (ps_if (pt_cmpR op_eq (pv 6) pe_str (nomark _)) (pss_cons (ps_set (i := 7) sc_law_hands.nd rfl (Or.inl rfl) (pe_callB (call_len_seqK K rfl) (by rfl) T.m_len (by decide +kernel) (pa_cons (pe_lc (own := [("_law_other", 8)]) (g := gName 8) (by rfl) sc_law_hands.nd (pi_listK K rfl (pe_slice (sl_listK K rfl) (pv 2) (po_some (pe_op op_add (pv 5) pe_int)) po_none)) (blkOk_by (own := [("_law_other", 8)]) (N := N_law_hands) (sc := defScope s_law_hands) (by decide +kernel)) (fun _ _ _ _ _ => (pg_name (i := 8) sc_law_hands.nd rfl (Or.inl rfl))) (fun _ _ _ _ _ => pts_one (pt_cmpR op_ne (pv 8) pe_str (nomark _))) (fun _ _ _ _ _ => (pv 8))) pa_nil)))
      (pss_cons (ps_set (i := 9) sc_law_hands.nd rfl (Or.inl rfl) (pe_call G_law_rule (hr.mono (by decide)) (by rfl) m_law_rule F_law_rule.kp b_law_rule .nil pass0 (pa_cons (pv 0) (pa_cons (pe_op op_sub (pv 3) (pv 7)) pa_nil))))
      (pss_one (ps_expr (pe_bmK K rfl PySem.F.plainAttrs_list PySem.F.slot_list_append PySem.F.type_list_append mt_append (pv 4) (pa_cons (pe_tup (pa_cons (pv 9) (pa_cons (pe_call G_law_pick (hr.mono (by decide)) (by rfl) m_law_pick F_law_pick.kp b_law_pick .nil pass0 (pa_cons (pv 0) (pa_cons (pe_ix (ix_listK K rfl) (pe_lst (pa_cons pe_int (pa_cons pe_int (pa_cons pe_int pa_nil)))) (pe_call G_law_pick (hr.mono (by decide)) (by rfl) m_law_pick F_law_pick.kp b_law_pick .nil pass0 (pa_cons (pv 0) (pa_cons pe_int pa_nil))) (fun _ _ => rfl)) pa_nil))) pa_nil))) pa_nil)))))) (pss_one (ps_expr (pe_bmK K rfl PySem.F.plainAttrs_list PySem.F.slot_list_append PySem.F.type_list_append mt_append (pv 4) (pa_cons (pe_tup (pa_cons (pe_tup (pa_cons (pv 6) pa_nil)) (pa_cons pe_int pa_nil))) pa_nil)))))
      (pss_one (ps_set (i := 3) sc_law_hands.nd rfl (Or.inl rfl) (pe_op op_sub (pv 3) (pe_call G_law_needs (hr.mono (by decide)) (by rfl) m_law_needs F_law_needs.kp b_law_needs .nil pass0 (pa_cons (pe_ix (ix_tupK K rfl) (pe_ix (ix_listK K rfl) (pv 4) (pe_un un_neg pe_int) (fun _ _ => rfl)) pe_int (fun _ _ => rfl)) pa_nil)))))))
      (pss_one (ps_ret (pv 4)))))) R1 ?tail1))), ?_⟩
  case tail1 =>
    rintro D' σ' H1 ⟨eD, sl, ss, rfl, hsl, nsl, hlen, hhand, hall, F1, B1⟩
    refine ⟨(by show 0 ≤ sizeLine; decide), fun hh nhh => ?_⟩
    have I0 : HInv f c sl hh ss H (upd H1 hh (.lst [])) 0 [] [] 20 :=
      { fl := F1.new nhh, bt := B1.new nhh, hsl := same_new nhh _ _ hsl, hhh := upd_same, al := .nil, len := rfl, good := (fun _ h => nomatch h), lf := by have := cnt_le (ss.drop 0); rw [List.length_drop] at this; omega, sum := rfl, nz := (fun _ h => nomatch h), one := (fun h => nomatch h), n1 := nsl, n2 := ne_of_none hsl nhh, n3 := F1.ne nhh, n4 := F1.nec nhh, n5 := B1.none nhh (F1.ne nhh) }
    refine ⟨_, rfl, sl, _, rfl, SqL.of I0.hsl, for_it (n := ss.length) (fun i σ H2 => ∃ (vs : List V) (hs : List HR) (left : Int) (v5 v6 v7 v8 v9 : Option V), σ = [some (.ref f), some (.int m), some (.ref sl), some (.int left), some (.ref hh), v5, v6, v7, v8, v9] ∧ HInv f c sl hh ss H H2 i vs hs left)
      ⟨[], [], 20, none, none, none, none, none, rfl, I0⟩ ?_ ?_ ?_ ?_⟩
    · rintro i σ H2 hi ⟨vs, hs, left, v5, v6, v7, v8, v9, rfl, I⟩
      exact ⟨_, _, SqL.of I.hsl, by rw [List.getElem?_map, List.getElem?_eq_getElem hi]; rfl⟩
    · rintro σ H2 ⟨vs, hs, left, v5, v6, v7, v8, v9, rfl, I⟩
      exact ⟨_, SqL.of I.hsl, by rw [List.length_map]; exact Nat.le_refl _⟩
    · rintro i x σ H2 H3 hi ⟨vs, hs, left, v5, v6, v7, v8, v9, rfl, I⟩ ⟨t, y, rfl, nt, rfl, fy⟩
      have ei : ss[i]? = some ss[i] := List.getElem?_eq_getElem hi
      obtain ⟨sd, hsd⟩ : ∃ sd, sd = ss[i] := ⟨_, rfl⟩
      rw [← hsd] at ei
      have ey : y = V.str sd := by
        have := fy _ (SqL.of I.hsl)
        rw [List.getElem?_map, ei] at this
        exact (Option.some.inj this).symm
      subst ey
      have I1 := I.new (o := .tup [V.int ((i : Nat) : Int), V.str sd]) nt
      have hc1 := cnt_cons ei
      have hl := I.lf
      have sz : vs.length < sizeLine := small1000 (by rw [I.al.length, I.len]; omega)
      refine ⟨t, _, rfl, SqT.of upd_same, rfl, _, _, rfl, _, _, rfl, rfl, ?_⟩
      refine ⟨_, rfl, rfl, _, rfl, if_str (fun e => ?_) (fun e => ?_)⟩
      · -- a hand
        refine ⟨_, rfl, _, rfl, _, _, rfl, rfl, _, rfl, sl, _, rfl, SqL.of I1.hsl, fun cp ncp => ?_⟩
        have I2 := I1.new (o := .lst (cutV (ss.map V.str) (some (((i : Nat) : Int) + 1)) none)) ncp
        have ecut : cutV (ss.map V.str) (some (((i : Nat) : Int) + 1)) none = (ss.drop (i + 1)).map V.str := by
          rw [show ((i : Nat) : Int) + 1 = ((i + 1 : Nat) : Int) by omega, cut_drop, List.map_drop]
        refine ⟨cp, rfl, ⟨_, SqL.of upd_same⟩, fun D nD => lc_list (K := K) (a := cp) (xs := cutV (ss.map V.str) (some (((i : Nat) : Int) + 1)) none) (fun j H5 => ∃ acc : List V, H5 D = some (.lst acc) ∧ acc.length = cnt ((ss.drop (i + 1)).take j) ∧ H5 cp = some (.lst (cutV (ss.map V.str) (some (((i : Nat) : Int) + 1)) none)) ∧ HInv f c sl hh ss H H5 i vs hs left ∧ D ≠ cp ∧ D ≠ f ∧ D ≠ c ∧ D ≠ sl ∧ D ≠ hh ∧ H D = Option.none)
          ⟨[], upd_same, rfl, same_new nD _ _ upd_same, I2.new nD, (ne_of_none upd_same nD).symm, I2.fl.ne nD, I2.fl.nec nD, (ne_of_none I2.hsl nD).symm, (ne_of_none I2.hhh nD).symm, I2.bt.none nD (I2.fl.ne nD)⟩ (fun j H5 _ ⟨_, _, _, h, _⟩ => SqL.of h) ?_ ?_⟩
        · rintro j z H5 hz ⟨acc, hD, hacc, hcp, I5, d1, d2, d3, d4, d5, d6⟩
          rw [ecut, List.getElem?_map] at hz
          cases ez : (ss.drop (i + 1))[j]? with
          | none => rw [ez] at hz; cases hz
          | some so =>
            rw [ez] at hz
            obtain rfl : V.str so = z := Option.some.inj hz
            refine ⟨rfl, _, rfl, rfl, _, rfl, if_bl (fun k => ?_) (fun k => ?_)⟩
            · have k2 : ¬ so = "in" := fun y => by
                rw [y] at k
                exact absurd k (by decide +kernel)
              refine ⟨_, rfl, acc, hD, ?_, acc ++ [V.str so], upd_same, ?_, by rw [upd_ne d1.symm]; exact hcp, ?_, d1, d2, d3, d4, d5, d6⟩
              · rw [hacc]
                have := cnt_le ((ss.drop (i + 1)).take j)
                rw [List.length_take, List.length_drop] at this
                exact small1000 (by omega)
              · rw [List.length_append, hacc, List.take_add_one, ez]
                unfold cnt
                rw [List.filter_append, List.length_append]
                simp [k2]
              · exact { I5 with fl := I5.fl.lst d2 d3, bt := I5.bt.own d6, hsl := by rw [upd_ne d4.symm]; exact I5.hsl, hhh := by rw [upd_ne d5.symm]; exact I5.hhh, al := I5.al.imp fun _ _ y => y.keep (TK.lst hD) }
            · have k2 : so = "in" := by
                by_cases y : so = "in"
                · exact y
                · have k3 : (!decide (V.str so = V.str "in")) = false := k
                  rw [decide_eq_false (fun y2 => y (V.str.inj y2))] at k3
                  cases k3
              refine ⟨acc, hD, ?_, hcp, I5, d1, d2, d3, d4, d5, d6⟩
              rw [hacc, List.take_add_one, ez]
              unfold cnt
              rw [List.filter_append, List.length_append]
              simp [k2]
        · rintro H5 ⟨acc, hD, hacc, hcp, I5, d1, d2, d3, d4, d5, d6⟩
          have hacc2 : acc.length = cnt (ss.drop (i + 1)) := by
            rw [hacc, List.take_of_length_le]
            rw [ecut, List.length_map]
            exact Nat.le_refl _
          have hm0 : 0 ≤ left - ((acc.length : Nat) : Int) := by
            have hne : ¬ sd = "in" := by rw [e]; decide +kernel
            rw [hacc2]
            rw [hc1, if_neg hne] at hl
            omega
          refine ⟨D, _, rfl, .inl (SqL.of hD), ?_⟩
          refine ⟨_, rfl, _, rfl, _, rfl, _, _, rfl, rfl, f, c, _, rfl, hm0, I5.fl, fun r hR H6 hr6 gR n1 n0 mo F6 B6 => ?_⟩
          have I6 := I5.but F6 B6
          refine ⟨_, rfl, .inl ⟨rfl, _, SqL.of I6.hhh⟩, _, rfl, _, rfl, (by show 3 ≤ sizeLine; decide), fun ml nml => ?_⟩
          have I7 := I6.new (o := .lst [V.int 5, V.int 5, V.int 31]) nml
          refine ⟨_, rfl, f, c, 3, rfl, by decide, by decide +kernel, I7.fl, fun z H8 z0 z3 F8 B8 => ?_⟩
          have I8 := I7.but F8 B8
          have hml := B8 _ _ upd_same (I6.fl.ne nml)
          obtain ⟨mm, hmm, mk⟩ : ∃ mm : Int, atI [V.int 5, V.int 5, V.int 31] z = some (.int mm) ∧ (mm = 5 ∨ mm = 31) := by
            have : z = 0 ∨ z = 1 ∨ z = 2 := by omega
            rcases this with rfl | rfl | rfl
            · exact ⟨5, rfl, .inl rfl⟩
            · exact ⟨5, rfl, .inl rfl⟩
            · exact ⟨31, rfl, .inr rfl⟩
          refine ⟨ml, _, _, _, rfl, rfl, SqL.of hml, hmm, f, c, mm, rfl, by omega, (by rcases mk with rfl | rfl <;> decide +kernel), I8.fl, fun mo2 H9 o0 o1 F9 B9 => ?_⟩
          have I9 := I8.but F9 B9
          refine ⟨(by show 2 ≤ sizeLine; decide), fun t2 nt2 => ?_⟩
          have I10 := I9.new (o := .tup [V.ref r, V.int mo2]) nt2
          have sz10 : vs.length < sizeLine := sz
          refine ⟨hh, _, _, rfl, rfl, I10.hhh, sz10, ?_⟩
          have k9 : TK H6 H9 := ((TK.new nml).trans (TK.but I7.fl B8)).trans (TK.but I8.fl B9)
          have hx : HandAt (upd H9 t2 (.tup [V.ref r, V.int mo2])) (V.ref t2) ⟨hR.wd, hR.no, mo2⟩ := ⟨t2, r, rfl, upd_same, TK.new nt2 _ _ (k9 _ _ hr6)⟩
          have gd : GoodHand ⟨hR.wd, hR.no, mo2⟩ := ⟨.inl ⟨gR.wd, gR.no, gR.big⟩, o0, (show mo2 ≤ 30 by omega)⟩
          have nout : hR.wd ≠ "out" := fun y => by
            have := gR.wd
            rw [y] at this
            exact absurd this (by decide +kernel)
          have I11 := I10.step (h := ⟨hR.wd, hR.no, mo2⟩) hx gd n0 (by show needs hR.wd + _ ≤ left; rw [hacc2] at n1; omega) ei (fun _ => nout)
          refine ⟨_, rfl, _, rfl, 1, rfl, hh, _, -1, _, rfl, rfl, SqL.of I11.hhh, atI_last _ _, t2, _, _, _, rfl, rfl, SqT.of (TK.lst I10.hhh _ _ upd_same), atI_nat (j := 0) rfl, r, hR.wd, _, rfl, SqT.of (TK.lst I10.hhh _ _ (TK.new nt2 _ _ (k9 _ _ hr6))), fun H12 s12 => ⟨_, _, rfl, rfl, ?_⟩⟩
          exact ⟨_, _, _, _, _, _, _, _, rfl, I11.same s12⟩
      · -- a door
        refine ⟨_, rfl, .inl ⟨rfl, _, SqL.of I1.hhh⟩, _, rfl, (by show 1 ≤ sizeLine; decide), fun r nr => ⟨(by show 2 ≤ sizeLine; decide), fun t2 nt2 => ?_⟩⟩
        have I2 := (I1.new (o := .tup [V.str sd]) nr).new (o := .tup [V.ref r, V.int 0]) nt2
        refine ⟨hh, _, _, rfl, rfl, I2.hhh, sz, ?_⟩
        have hsd2 : sd = "in" ∨ sd = "out" := by
          rcases hall sd (List.mem_of_getElem? ei) with y | y | y
          · exact .inl y
          · exact .inr y
          · exact absurd y e
        have hn : needs sd = (if sd = "in" then 0 else 1) := by
          rcases hsd2 with y | y <;> rw [y] <;> decide +kernel
        have hx : HandAt (upd (upd (upd H2 t (.tup [V.int ((i : Nat) : Int), V.str sd])) r (.tup [V.str sd])) t2 (.tup [V.ref r, V.int 0])) (V.ref t2) ⟨sd, none, 0⟩ := ⟨t2, r, rfl, upd_same, same_new nt2 _ _ upd_same⟩
        have I3 := I2.step (h := ⟨sd, none, 0⟩) hx ⟨.inr ⟨hsd2, rfl⟩, (show (0 : Int) ≤ 0 by decide), (show (0 : Int) ≤ 30 by decide)⟩ (by show 0 ≤ needs sd; rw [hn]; split <;> decide) (by
          show needs sd + _ ≤ left
          rw [hn]
          rw [hc1] at hl
          by_cases y : sd = "in"
          · rw [if_pos y] at hl ⊢; omega
          · rw [if_neg y] at hl ⊢; omega) ei (fun y => absurd y e)
        refine ⟨_, rfl, _, rfl, 1, rfl, hh, _, -1, _, rfl, rfl, SqL.of I3.hhh, atI_last _ _, t2, _, _, _, rfl, rfl, SqT.of (TK.lst I2.hhh _ _ upd_same), atI_nat (j := 0) rfl, r, sd, _, rfl, SqT.of (TK.lst I2.hhh _ _ (same_new nt2 _ _ upd_same)), fun H12 s12 => ⟨_, _, rfl, rfl, ?_⟩⟩
        exact ⟨_, _, _, _, _, _, _, _, rfl, I3.same s12⟩
    · rintro σ H2 ⟨vs, hs, left, v5, v6, v7, v8, v9, rfl, I⟩
      refine ⟨_, rfl, ?_⟩
      rw [eD]
      refine q hh vs hs H2 I.n5 I.hhh I.al ⟨by rw [I.len]; exact hlen, I.good, ?_, I.nz, I.one (by rw [List.take_length]; exact hhand)⟩ I.fl I.bt
      have := I.sum
      have := I.lf
      omega
  refine ⟨(by show 1 ≤ sizeLine; decide), fun l1 nl1 => ?_⟩
  refine ⟨_, rfl, f, c, 3, rfl, by decide, by decide +kernel, hF.new nl1, fun v1 H1 a1 b1 F1 B1 => ?_⟩
  have g1 := B1 _ _ upd_same (hF.ne nl1)
  have small : ∀ v : Int, 0 ≤ v → v ≤ 8 → [V.str "in"].length * v.toNat ≤ sizeLine := fun v v0 v8 => little (by show 1 * v.toNat ≤ 1000; omega)
  refine ⟨l1, v1, _, rfl, rfl, g1, by omega, by omega, small v1 a1 (by omega), fun p1 np1 => ?_⟩
  rw [flat_rep]
  have F2 := F1.new (o := .lst (List.replicate v1.toNat (V.str "in"))) np1
  refine ⟨(by show 1 ≤ sizeLine; decide), fun l2 nl2 => ?_⟩
  refine ⟨_, rfl, f, c, 3, rfl, by decide, by decide +kernel, F2.new nl2, fun v2 H3 a2 b2 F3 B3 => ?_⟩
  have g2 := B3 _ _ upd_same (F2.ne nl2)
  have h1 := B3 _ _ (same_new nl2 _ _ upd_same) (F1.ne np1)
  refine ⟨l2, v2, _, rfl, rfl, g2, by omega, by omega, small v2 a2 (by omega), fun p2 np2 => ?_⟩
  rw [flat_rep]
  have F4 := F3.new (o := .lst (List.replicate v2.toNat (V.str "out"))) np2
  refine ⟨p1, p2, _, _, rfl, rfl, same_new np2 _ _ h1, upd_same, ?_, fun p3 np3 => ?_⟩
  · rw [List.length_replicate, List.length_replicate]; exact little (by omega)
  have F5 := F4.new (o := .lst (List.replicate v1.toNat (V.str "in") ++ List.replicate v2.toNat (V.str "out"))) np3
  refine ⟨(by show 1 ≤ sizeLine; decide), fun l4 nl4 => ⟨_, rfl, l4, m, _, rfl, rfl, upd_same, by omega, by omega, small m (by omega) m8, fun p5 np5 => ?_⟩⟩
  rw [flat_rep]
  have F6 := F5.new (o := .lst [V.str "hand"]) nl4
  have F7 := F6.new (o := .lst (List.replicate m.toNat (V.str "hand"))) np5
  refine ⟨p3, p5, _, _, rfl, rfl, same_new np5 _ _ (same_new nl4 _ _ upd_same), upd_same, ?_, fun p6 np6 => ?_⟩
  · rw [List.length_append, List.length_replicate, List.length_replicate, List.length_replicate]; exact little (by omega)
  refine ⟨_, rfl, _, rfl, f, c, p6, _, rfl, SqL.of upd_same, F7.ne np6, ?_, F7.new np6, fun p ys H8 hp np hy F8 B8 => ?_⟩
  · rw [List.length_append, List.length_append, List.length_replicate, List.length_replicate, List.length_replicate]; omega
  have ez : (List.replicate v1.toNat (V.str "in") ++ List.replicate v2.toNat (V.str "out")) ++ List.replicate m.toNat (V.str "hand") = ((List.replicate v1.toNat ("in" : Str) ++ List.replicate v2.toNat ("out" : Str)) ++ List.replicate m.toNat ("hand" : Str)).map V.str := by
    rw [List.map_append, List.map_append, List.map_replicate, List.map_replicate, List.map_replicate]
  rw [ez] at hp
  obtain ⟨ss, rfl, hss⟩ := perm_strs hp
  have pf : p ≠ f := fun y => by
    rw [y] at np
    obtain ⟨_, _, _, _, _, e1, _⟩ := F7.new (o := .lst ((List.replicate v1.toNat (V.str "in") ++ List.replicate v2.toNat (V.str "out")) ++ List.replicate m.toNat (V.str "hand"))) np6
    rw [e1] at np
    cases np
  refine ⟨rfl, p, ss, rfl, hy, pf, ?_, ?_, ?_, F8, But.trans ((((((((((But.refl.new nl1).trans B1).new np1).new nl2).trans B3).new np2).new np3).new nl4).new np5).new np6) B8⟩
  · rw [hss.length_eq, List.length_append, List.length_append, List.length_replicate, List.length_replicate, List.length_replicate]; omega
  · refine hss.mem_iff.mpr (List.mem_append_right _ (List.mem_replicate.mpr ⟨by omega, rfl⟩))
  · intro s hs
    rcases List.mem_append.mp (hss.mem_iff.mp hs) with hs | hs
    · rcases List.mem_append.mp hs with hs | hs
      · exact .inl (List.mem_replicate.mp hs).2
      · exact .inr (.inl (List.mem_replicate.mp hs).2)
    · exact .inr (.inr (List.mem_replicate.mp hs).2)
end
/-! ### rules as data -/
abbrev ruleD (h : HR) : List PyData := .str h.wd :: (match h.no with | none => [] | some n => [.int n])
theorem rule_dp {K : PySem.W.Frag} {H : Hp} {r : Addr} {h : HR} (e : H r = some (.tup (ruleL h))) : Dp K H (.ref r) (.tuple (ruleD h)) := by
  obtain ⟨wd, no, mom⟩ := h
  cases no with
  | none => exact .tup (SqT.of e) (.cons (.str _) .nil)
  | some n => exact .tup (SqT.of e) (.cons (.str _) (.cons (.int _) .nil))
theorem rule_shaped {h : HR} (k : PyData.canLay0 (.str h.wd) = true) : SeqAt.shaped (.tuple (ruleD h)) = true := by
  obtain ⟨wd, no, mom⟩ := h
  have k : PyData.canLay0 (.str wd) = true := k
  cases no <;> simp [SeqAt.shaped, PyData.canLay0, PyData.canLayAll0, PyData.depth, PyData.depthAll] <;> simpa [PyData.canLay0] using k
theorem GoodHand.lay {h : HR} (g : GoodHand h) : PyData.canLay0 (.str h.wd) = true := by
  have : h.wd ∈ nine ∨ h.wd = "in" ∨ h.wd = "out" := g.1.elim (fun k => .inl k.wd) (fun k => .inr k.1)
  rcases this with k | k | k
  · unfold nine at k
    simp only [List.mem_cons, List.not_mem_nil, or_false] at k
    rcases k with k | k | k | k | k | k | k | k | k <;> rw [k] <;> decide +kernel
  · rw [k]; decide +kernel
  · rw [k]; decide +kernel
theorem one_shaped {z : Str} (k : PyData.canLay0 (.str z) = true) : SeqAt.shaped (.tuple [.str z]) = true := rule_shaped (h := ⟨z, none, 0⟩) k
theorem at0 {xs : List V} {i : Nat} {v : V} (h : xs[i]? = some v) : atI xs (0 + ((i : Nat) : Int)) = some v := by
  rw [Int.zero_add]
  exact atI_nat h
theorem rule_eqv (h : HR) (z : Str) : PyData.eqv (.tuple (ruleD h)) (.tuple [.str z]) = (decide (h.wd = z) && h.no.isNone) := by
  obtain ⟨wd, no, mom⟩ := h
  have e : (wd == z) = decide (wd = z) := by
    by_cases k : wd = z
    · rw [k, decide_eq_true rfl]; exact beq_self_eq_true z
    · rw [decide_eq_false k]; exact beq_eq_false_iff_ne.mpr k
  cases no with
  | none =>
    show (wd == z && true) = (decide (wd = z) && true)
    rw [e]
  | some n =>
    show (wd == z && false) = (decide (wd = z) && false)
    rw [Bool.and_false, Bool.and_false]
theorem GoodHand.door {h : HR} (g : GoodHand h) (z : Str) (hz : z = "in" ∨ z = "out") : (decide (h.wd = z) && h.no.isNone) = decide (h.wd = z) := by
  by_cases k : h.wd = z
  · rw [decide_eq_true k, Bool.true_and]
    rcases g.1 with g | g
    · have := g.wd
      rw [k] at this
      rcases hz with rfl | rfl <;> exact absurd this (by decide +kernel)
    · rw [g.2]; rfl
  · rw [decide_eq_false k]; rfl
/-! ### numbers in lists -/
abbrev nV (n : Nat) : V := .int (n : Nat)
def unN : V → Nat
  | .int i => i.toNat
  | _ => 0
def unI : V → Int
  | .int i => i
  | _ => 0
theorem perm_inv {α : Type} {f : α → V} {g : V → α} (k : ∀ a, g (f a) = a) {ys : List V} {zs : List α} (h : ys.Perm (zs.map f)) : ∃ ss : List α, ys = ss.map f ∧ ss.Perm zs := by
  refine ⟨ys.map g, ?_, ?_⟩
  · rw [List.map_map]
    symm
    refine (List.map_congr_left (g := id) fun y hy => ?_).trans (List.map_id _)
    obtain ⟨z, _, e⟩ := List.mem_map.mp (h.mem_iff.mp hy)
    subst e
    show f (g (f z)) = f z
    rw [k]
  · have q := h.map g
    rw [List.map_map] at q
    have e : zs.map (g ∘ f) = zs := (List.map_congr_left (g := id) fun z _ => k z).trans (List.map_id _)
    rw [e] at q
    exact q
def nd (hs : List HR) (j : Nat) : Nat := match hs[j]? with | some h => (needs h.wd).toNat | none => 0
def tkTo (hs : List HR) : Nat → List Nat
  | 0 => []
  | n + 1 => tkTo hs n ++ List.replicate (nd hs n) n
theorem tk_count (hs : List HR) (k : Nat) : ∀ n, (tkTo hs n).count k = if k < n then nd hs k else 0
  | 0 => by simp [tkTo]
  | n + 1 => by
    unfold tkTo
    rw [List.count_append, tk_count hs k n, List.count_replicate]
    by_cases h1 : k < n
    · have h2 : ¬ (n == k) = true := by simp; omega
      rw [if_pos h1, if_neg h2, if_pos (show k < n + 1 by omega), Nat.add_zero]
    · by_cases h2 : n = k
      · subst h2
        rw [if_neg h1, if_pos (beq_self_eq_true n), if_pos (show n < n + 1 by omega), Nat.zero_add]
      · have h3 : ¬ (n == k) = true := by simpa using h2
        rw [if_neg h1, if_neg h3, if_neg (show ¬ k < n + 1 by omega)]
theorem tk_mem (hs : List HR) : ∀ n k, k ∈ tkTo hs n → k < n
  | 0, k, h => nomatch h
  | n + 1, k, h => by
    rcases List.mem_append.mp h with h | h
    · exact Nat.lt_succ_of_lt (tk_mem hs n k h)
    · rw [(List.mem_replicate.mp h).2]; exact Nat.lt_succ_self n
theorem tk_len (hs : List HR) (z : ∀ h ∈ hs, 0 ≤ needs h.wd) : ∀ n, n ≤ hs.length → ((tkTo hs n).length : Int) = ((hs.take n).map fun h => needs h.wd).sum
  | 0, _ => rfl
  | n + 1, hn => by
    have e : hs[n]? = some hs[n] := List.getElem?_eq_getElem (by omega)
    unfold tkTo
    rw [List.length_append, List.length_replicate, List.take_add_one, e, List.map_append, List.sum_append, Int.natCast_add, tk_len hs z n (by omega)]
    unfold nd
    rw [e]
    have := z hs[n] (List.getElem_mem _)
    simp only [Option.toList, List.map_cons, List.map_nil, List.sum_cons, List.sum_nil]
    omega
structure RoomOk (hs : List HR) (bs : List BR) : Prop where
  hands : hs.length ≤ 12
  good : ∀ h ∈ hs, GoodHand h
  ends : ∀ b ∈ bs, b.one < hs.length ∧ b.to < hs.length
  out : ∀ b ∈ bs, ∀ h, hs[b.one]? = some h → h.wd ≠ "out"
  th : ∀ b ∈ bs, b.th.length ≤ 30 ∧ True
  rank : ∃ rk : Nat → Int, ∀ b ∈ bs, b.th = [] → rk b.one < rk b.to
  count : ∀ k h, hs[k]? = some h → (((bs.map BR.to).count k : Nat) : Int) = needs h.wd
  many : bs.length ≤ 20
structure RoomAt (H : Hp) (r : Addr) (hs : List HR) (bs : List BR) : Prop where
  ex : ∃ (ha ba : Addr) (hv bv : List V), H r = some (.tup [.ref ha, .ref ba]) ∧ H ha = some (.tup hv) ∧ H ba = some (.tup bv) ∧ All2 (HandAt H) hv hs ∧ All2 (BeltAt H) bv bs
theorem RoomAt.keep {H H' : Hp} {r : Addr} {hs : List HR} {bs : List BR} (a : RoomAt H r hs bs) (k : TK H H') : RoomAt H' r hs bs := by
  obtain ⟨ha, ba, hv, bv, e1, e2, e3, a1, a2⟩ := a.ex
  exact ⟨ha, ba, hv, bv, k _ _ e1, k _ _ e2, k _ _ e3, a1.imp fun _ _ z => z.keep k, a2.imp fun _ _ z => z.keep k⟩
section
variable {P : Program} {w : World} {K : PySem.W.Frag} {mg : Str → Option Value} {base : Heap}
def sp_law_room (K : PySem.W.Frag) : Sp := fun vs H Q _ => ∃ (f c : Addr) (m : Int), vs = [.ref f, .int m] ∧ 1 ≤ m ∧ m ≤ 8 ∧ Flow H f c ∧
  ∀ (r : Addr) (hs : List HR) (bs : List BR) (H' : Hp), RoomAt H' r hs bs → RoomOk hs bs → 0 < hs.length → (∀ b ∈ bs, b.th.length ≤ 6) → Flow H' f c → But f H H' → Q (.ref r) H'
/-- what stands while a room is drawn: the draws, the list of its hands -/
structure RI (f c hh : Addr) (H0 H : Hp) (xs : List V) (hs : List HR) : Prop where
  fl : Flow H f c
  bt : But f H0 H
  lh : H hh = some (.lst xs)
  al : All2 (HandAt H) xs hs
  n1 : hh ≠ f
  n2 : H0 hh = none
section
variable {f c hh : Addr} {H0 H H' : Hp} {xs : List V} {hs : List HR}
theorem RI.but (s : RI f c hh H0 H xs hs) (F : Flow H' f c) (b : But f H H') : RI f c hh H0 H' xs hs :=
  { s with fl := F, bt := s.bt.trans b, lh := b _ _ s.lh s.n1, al := s.al.imp fun _ _ k => k.keep (TK.but s.fl b) }
theorem RI.new {p : Addr} {o : HO} (s : RI f c hh H0 H xs hs) (n : H p = none) : RI f c hh H0 (upd H p o) xs hs :=
  { s with fl := s.fl.new n, bt := s.bt.new n, lh := same_new n _ _ s.lh, al := s.al.imp fun _ _ k => k.keep (TK.new n) }
theorem RI.same (s : RI f c hh H0 H xs hs) (k : Same H H') : RI f c hh H0 H' xs hs :=
  { s with fl := s.fl.same k, bt := s.bt.same k, lh := k _ _ s.lh, al := s.al.imp fun _ _ z => z.keep (TK.same k) }
theorem RI.lst {D : Addr} {as bs : List V} (s : RI f c hh H0 H xs hs) (h : H D = some (.lst as)) (d1 : D ≠ f) (d2 : D ≠ c) (d3 : D ≠ hh) (d4 : H0 D = none) : RI f c hh H0 (upd H D (.lst bs)) xs hs :=
  { s with fl := s.fl.lst d1 d2, bt := s.bt.own d4, lh := by rw [upd_ne d3.symm]; exact s.lh, al := s.al.imp fun _ _ z => z.keep (TK.lst h) }
end
theorem ok_law_room {f : Addr} {fd : FuncData} (F : Fun K "_law_room" "_law_room" s_law_room f fd) {C : Addr} (T : Top K mg C) : FnOk P w K mg base CX0 5 f fd ["_law_flow_here", "_law_most"] (sp_law_room K) := by
  obtain ⟨f_law_hands, fd_law_hands, F_law_hands, b_law_hands, m_law_hands⟩ := T.d_law_hands
  have G_law_hands := ok_law_hands (P := P) (w := w) (base := base) F_law_hands T
  obtain ⟨f_law_shuffled, fd_law_shuffled, F_law_shuffled, b_law_shuffled, m_law_shuffled⟩ := T.d_law_shuffled
  have G_law_shuffled := ok_law_shuffled (P := P) (w := w) (base := base) F_law_shuffled T
  obtain ⟨f_law_pick, fd_law_pick, F_law_pick, b_law_pick, m_law_pick⟩ := T.d_law_pick
  have G_law_pick := ok_law_pick (P := P) (w := w) (base := base) F_law_pick T
  obtain ⟨f_law_needs, fd_law_needs, F_law_needs, b_law_needs, m_law_needs⟩ := T.d_law_needs
  have G_law_needs := ok_law_needs (P := P) (w := w) (base := base) F_law_needs T
  obtain ⟨f_law_thing, fd_law_thing, F_law_thing, b_law_thing, m_law_thing⟩ := T.d_law_thing
  have G_law_thing := ok_law_thing (P := P) (w := w) (base := base) F_law_thing T
  refine F.ok sc_law_room (fun vs H Q E h => ?_) (fun cdv A outer s H vs Q E hr h => ?_)
  · obtain ⟨f, c, m, rfl, _⟩ := h
    rfl
  obtain ⟨f, c, m, rfl, m1, m8, hF, q⟩ := h
  have hm9 : m.natAbs.log2 < 9000 := by
    obtain ⟨j, rfl⟩ : ∃ j : Nat, m = (j : Int) := ⟨m.toNat, by omega⟩
    exact log_small (by omega)
  let R1 : TS := fun D' σ' H' => D'.rt = Q ∧ ∃ (hh rk gv : Addr) (xs : List V) (hs : List HR) (is : List Int) (gs : List Nat), σ' = [some (.ref f), some (.int m), some (.ref hh), some (.ref rk), some (.ref gv), none, none, none, none, none, none] ∧ RI f c hh H H' xs hs ∧ HandsOk hs ∧ H' rk = some (.lst (is.map V.int)) ∧ is.length = hs.length ∧ H' gv = some (.lst (gs.map nV)) ∧ gs ≠ [] ∧ gs.length ≤ 12 ∧ (∀ k ∈ gs, ∃ h, hs[k]? = some h ∧ h.wd ≠ "out") ∧ rk ≠ f ∧ gv ≠ f
  let R2 : TS := fun D' σ' H' => D'.rt = Q ∧ ∃ (hh rk gv tk : Addr) (xs : List V) (hs : List HR) (is : List Int) (gs ts : List Nat) (v5 : Option V), σ' = [some (.ref f), some (.int m), some (.ref hh), some (.ref rk), some (.ref gv), v5, some (.ref tk), none, none, none, none] ∧ RI f c hh H H' xs hs ∧ HandsOk hs ∧ H' rk = some (.lst (is.map V.int)) ∧ is.length = hs.length ∧ H' gv = some (.lst (gs.map nV)) ∧ gs ≠ [] ∧ gs.length ≤ 12 ∧ (∀ k ∈ gs, ∃ h, hs[k]? = some h ∧ h.wd ≠ "out") ∧ rk ≠ f ∧ gv ≠ f ∧ tk ≠ f ∧ H' tk = some (.lst (ts.map nV)) ∧ ts = tkTo hs hs.length
  refine ⟨_, (pss_cons (ps_set (i := 2) sc_law_room.nd rfl (Or.inr rfl) (pe_call G_law_hands (hr.mono (by decide)) (by rfl) m_law_hands F_law_hands.kp b_law_hands .nil pass0 (pa_cons (pv 0) (pa_cons (pe_op op_add pe_int (pe_call G_law_pick (hr.mono (by decide)) (by rfl) m_law_pick F_law_pick.kp b_law_pick .nil pass0 (pa_cons (pv 0) (pa_cons (pv 1) pa_nil)))) pa_nil))))
      (pss_cons (ps_set (i := 3) sc_law_room.nd rfl (Or.inl rfl) (pe_call G_law_shuffled (hr.mono (by decide)) (by rfl) m_law_shuffled F_law_shuffled.kp b_law_shuffled .nil pass0 (pa_cons (pv 0) (pa_cons (pe_listRg rfl (by rfl) T.m_list (prg_1 (by rfl) T.m_range (pe_callB (call_len_seqK K rfl) (by rfl) T.m_len (by decide +kernel) (pa_cons (pv 2) pa_nil)))) pa_nil))))
      (pss_cons (ps_setLc (i := 4) (own := [("_law_k", 5)]) (g := gName 5) (by rfl) sc_law_room.nd rfl rfl (sw_true rfl rfl rfl (by decide +kernel)) (pi_range1 (by rfl) T.m_range (pa_cons (pe_callB (call_len_seqK K rfl) (by rfl) T.m_len (by decide +kernel) (pa_cons (pv 2) pa_nil)) pa_nil)) (blkOk_by (own := [("_law_k", 5)]) (N := N_law_room) (sc := defScope s_law_room) (by decide +kernel)) (fun _ _ _ _ _ => (pg_name (i := 5) sc_law_room.nd rfl (Or.inl rfl))) (fun _ _ _ _ _ => pts_one (pt_cmpR (op_neDK K rfl hr.units) (pe_ix (ix_tupK K rfl) (pe_ix (ix_listK K rfl) (pv 2) (pv 5) (fun _ _ => rfl)) pe_int (fun _ _ => rfl)) (pe_tup (pa_cons pe_str pa_nil)) (nomark _))) (fun _ _ _ _ _ => (pv 5)))
      (PSs.to (pss_cons (ps_set (i := 6) sc_law_room.nd rfl (Or.inl rfl) (pe_lst pa_nil))
      (pss_cons (ps_for PassesOwn.never rfl (pi_range1 (by rfl) T.m_range (pa_cons (pe_callB (call_len_seqK K rfl) (by rfl) T.m_len (by decide +kernel) (pa_cons (pv 2) pa_nil)) pa_nil)) (pg_name (i := 5) sc_law_room.nd rfl (Or.inl rfl))
        (pss_one (ps_set (i := 6) sc_law_room.nd rfl (Or.inl rfl) (pe_op op_cat (pv 6) (pe_op op_rep (pe_lst (pa_cons (pv 5) pa_nil)) (pe_call G_law_needs (hr.mono (by decide)) (by rfl) m_law_needs F_law_needs.kp b_law_needs .nil pass0 (pa_cons (pe_ix (ix_tupK K rfl) (pe_ix (ix_listK K rfl) (pv 2) (pv 5) (fun _ _ => rfl)) pe_int (fun _ _ => rfl)) pa_nil)))))))
      (PSs.to (pss_cons (ps_set (i := 7) sc_law_room.nd rfl (Or.inl rfl) (pe_lst pa_nil))
      (pss_cons (ps_for PassesOwn.never rfl (pi_listK K rfl (pe_call G_law_shuffled (hr.mono (by decide)) (by rfl) m_law_shuffled F_law_shuffled.kp b_law_shuffled .nil pass0 (pa_cons (pv 0) (pa_cons (pv 6) pa_nil)))) (pg_name (i := 8) sc_law_room.nd rfl (Or.inl rfl))
        (pss_cons (ps_set (i := 9) sc_law_room.nd rfl (Or.inl rfl) (pe_ix (ix_listK K rfl) (pv 4) (pe_call G_law_pick (hr.mono (by decide)) (by rfl) m_law_pick F_law_pick.kp b_law_pick .nil pass0 (pa_cons (pv 0) (pa_cons (pe_callB (call_len_seqK K rfl) (by rfl) T.m_len (by decide +kernel) (pa_cons (pv 4) pa_nil)) pa_nil))) (fun _ _ => rfl)))
      (pss_cons (ps_set (i := 10) sc_law_room.nd rfl (Or.inl rfl) (pe_ix (ix_listK K rfl) (pe_lst (pa_cons pe_int (pa_cons pe_int (pa_cons pe_int (pa_cons pe_int (pa_cons pe_int (pa_cons pe_int (pa_cons pe_int (pa_cons pe_int pa_nil))))))))) (pe_call G_law_pick (hr.mono (by decide)) (by rfl) m_law_pick F_law_pick.kp b_law_pick .nil pass0 (pa_cons (pv 0) (pa_cons pe_int pa_nil))) (fun _ _ => rfl)))
      (pss_cons (ps_if (pt_cmpR op_ge (pe_ix (ix_listK K rfl) (pv 3) (pv 9) (fun _ _ => rfl)) (pe_ix (ix_listK K rfl) (pv 3) (pv 8) (fun _ _ => rfl)) (nomark _)) (pss_one (ps_set (i := 10) sc_law_room.nd rfl (Or.inl rfl) (pe_callB (call_max2 rfl) (by rfl) T.m_max (by decide +kernel) (pa_cons pe_int (pa_cons (pv 10) pa_nil))))) pss_nil)
      (pss_one (ps_expr (pe_bmK K rfl PySem.F.plainAttrs_list PySem.F.slot_list_append PySem.F.type_list_append mt_append (pv 7) (pa_cons (pe_tup (pa_cons (pv 9) (pa_cons (pv 8) (pa_cons (pe_callTy (call_tuple_ofK K rfl) (by rfl) T.m_tuple (by decide +kernel) (pa_cons (pe_lc (own := [("_law_k", 5)]) (g := gName 5) (tt := tYes) (by rfl) sc_law_room.nd (pi_range1 (by rfl) T.m_range (pa_cons (pv 10) pa_nil)) (blkOk_by (own := [("_law_k", 5)]) (N := N_law_room) (sc := defScope s_law_room) (by decide +kernel)) (fun _ _ _ _ _ => (pg_name (i := 5) sc_law_room.nd rfl (Or.inl rfl))) (fun _ _ _ _ _ => pts_nil) (fun _ _ _ _ _ => (pe_call G_law_thing (hr.mono (by decide)) (by rfl) m_law_thing F_law_thing.kp b_law_thing .nil pass0 (pa_cons (pv 0) pa_nil)))) pa_nil)) pa_nil)))) pa_nil))))))))
      (pss_one (ps_ret (pe_tup (pa_cons (pe_callTy (call_tuple_ofK K rfl) (by rfl) T.m_tuple (by decide +kernel) (pa_cons (pv 2) pa_nil)) (pa_cons (pe_callTy (call_tuple_ofK K rfl) (by rfl) T.m_tuple (by decide +kernel) (pa_cons (pv 7) pa_nil)) pa_nil))))))) R2 ?tail2))) R1 ?tail1)))), ?_⟩
  case tail2 =>
    rintro D' σ' H1 ⟨eD, hh, rk, gv, tk, xs, hs, is, gs, ts, v5, rfl, I1, ok, hrk, lis, hgv, gne, glen, gok, nrk, ngv, ntk, htk, ets⟩
    have hx : xs.length = hs.length := I1.al.length
    have len12 := ok.len
    have lts : ts.length ≤ 20 := by
      have a := tk_len hs ok.nz hs.length (Nat.le_refl _)
      rw [List.take_length, ← ets] at a
      have := ok.sum
      omega
    refine ⟨(by show 0 ≤ sizeLine; decide), fun bl nbl => ?_⟩
    have I2 := I1.new (o := .lst []) nbl
    refine ⟨_, rfl, _, rfl, f, c, tk, _, rfl, SqL.of (same_new nbl _ _ htk), ntk, by rw [List.length_map]; omega, I2.fl, fun sh ys H3 hp nsh hsh F3 B3 => ?_⟩
    obtain ⟨tt, rfl, htt⟩ := perm_inv (f := nV) (g := unN) (fun n => by show ((n : Nat) : Int).toNat = n; omega) hp
    have I3 := I2.but F3 B3
    have bf : bl ≠ f := I1.fl.ne nbl
    have bc : bl ≠ c := I1.fl.nec nbl
    have hbl3 := B3 _ _ upd_same bf
    have bsh : bl ≠ sh := fun e => by rw [← e, upd_same] at nsh; cases nsh
    have bnone : H bl = Option.none := I1.bt.none nbl bf
    have rank : Nat → Int := fun k => is.getD k 0
    refine ⟨sh, rfl, ⟨_, SqL.of hsh⟩, for_list (K := K) (a := sh) (xs := tt.map nV) (fun i σ H4 => ∃ (bv : List V) (bs : List BR) (v5 v8 v9 v10 : Option V), σ = [some (.ref f), some (.int m), some (.ref hh), some (.ref rk), some (.ref gv), v5, some (.ref tk), some (.ref bl), v8, v9, v10] ∧ RI f c hh H H4 xs hs ∧ H4 rk = some (.lst (is.map V.int)) ∧ H4 gv = some (.lst (gs.map nV)) ∧ H4 sh = some (.lst (tt.map nV)) ∧ H4 bl = some (.lst bv) ∧ All2 (BeltAt H4) bv bs ∧ bs.map BR.to = tt.take i ∧
        (∀ b ∈ bs, b.one < hs.length ∧ (∀ h, hs[b.one]? = some h → h.wd ≠ "out") ∧ b.th.length ≤ 6 ∧ (∀ x ∈ b.th, Small x) ∧ (b.th = [] → is.getD b.one 0 < is.getD b.to 0)))
      ⟨[], [], v5, none, none, none, rfl, I3, B3 _ _ (same_new nbl _ _ hrk) nrk, B3 _ _ (same_new nbl _ _ hgv) ngv, hsh, hbl3, .nil, rfl, (fun _ h => nomatch h)⟩ (fun i σ H4 _ ⟨_, _, _, _, _, _, _, _, _, _, h, _⟩ => SqL.of h) ?_ ?_⟩
    · rintro i y σ H4 hi ⟨bv, bs, v5, v8, v9, v10, rfl, I4, hrk4, hgv4, hsh4, hbl4, al, em, hb⟩
      rw [List.getElem?_map] at hi
      cases et : tt[i]? with
      | none => rw [et] at hi; cases hi
      | some to =>
      rw [et] at hi
      obtain rfl : nV to = y := Option.some.inj hi
      have toL : to < hs.length := tk_mem hs _ _ (by rw [← ets]; exact htt.mem_iff.mp (List.mem_of_getElem? et))
      have il : i < 20 := by have := (List.getElem?_eq_some_iff.mp et).1; rw [htt.length_eq] at this; omega
      have lb : bs.length = i := by
        have := congrArg List.length em
        rw [List.length_map, List.length_take, Nat.min_eq_left (Nat.le_of_lt (List.getElem?_eq_some_iff.mp et).1)] at this
        exact this
      have g0 : 0 < gs.length := List.length_pos_iff.mpr gne
      refine ⟨_, rfl, _, rfl, _, rfl, gv, _, rfl, .inl (SqL.of hgv4), f, c, _, rfl, (by rw [List.length_map]; omega), (by rw [List.length_map]; exact log_small (by omega)), I4.fl, fun z H5 z0 z1 F5 B5 => ?_⟩
      rw [List.length_map] at z1
      have I5 := I4.but F5 B5
      have hgv5 := B5 _ _ hgv4 ngv
      obtain ⟨one, eo, ho⟩ : ∃ one, atI (gs.map nV) z = some (nV one) ∧ one ∈ gs := by
        have hk : z.toNat < gs.length := by omega
        have ek : z = ((z.toNat : Nat) : Int) := by omega
        refine ⟨gs[z.toNat], ?_, List.getElem_mem _⟩
        have q2 : atI (gs.map nV) ((z.toNat : Nat) : Int) = some (nV gs[z.toNat]) := atI_nat (by rw [List.getElem?_map, List.getElem?_eq_getElem hk]; rfl)
        rw [← ek] at q2
        exact q2
      obtain ⟨ho1, eh1, hout⟩ := gok one ho
      have oneL : one < hs.length := (List.getElem?_eq_some_iff.mp eh1).1
      refine ⟨gv, _, _, _, rfl, rfl, SqL.of hgv5, eo, ?_⟩
      refine ⟨(by show 8 ≤ sizeLine; decide), fun tl ntl => ?_⟩
      have I6 := I5.new (o := .lst [V.int 0, V.int 0, V.int 0, V.int 1, V.int 1, V.int 2, V.int 3, V.int 6]) ntl
      refine ⟨_, rfl, f, c, 8, rfl, by decide, by decide +kernel, I6.fl, fun y2 H7 y0 y8 F7 B7 => ?_⟩
      have I7 := I6.but F7 B7
      have htl := B7 _ _ upd_same (I5.fl.ne ntl)
      obtain ⟨tr, htr, tr0, tr6⟩ : ∃ tr : Int, atI [V.int 0, V.int 0, V.int 0, V.int 1, V.int 1, V.int 2, V.int 3, V.int 6] y2 = some (.int tr) ∧ 0 ≤ tr ∧ tr ≤ 6 := by
        have : y2 = 0 ∨ y2 = 1 ∨ y2 = 2 ∨ y2 = 3 ∨ y2 = 4 ∨ y2 = 5 ∨ y2 = 6 ∨ y2 = 7 := by omega
        rcases this with rfl | rfl | rfl | rfl | rfl | rfl | rfl | rfl
        · exact ⟨0, rfl, by decide, by decide⟩
        · exact ⟨0, rfl, by decide, by decide⟩
        · exact ⟨0, rfl, by decide, by decide⟩
        · exact ⟨1, rfl, by decide, by decide⟩
        · exact ⟨1, rfl, by decide, by decide⟩
        · exact ⟨2, rfl, by decide, by decide⟩
        · exact ⟨3, rfl, by decide, by decide⟩
        · exact ⟨6, rfl, by decide, by decide⟩
      refine ⟨tl, _, _, _, rfl, rfl, SqL.of htl, htr, ?_⟩
      have k7 : But f H4 H7 := (B5.new ntl).trans B7
      have hrk7 := k7 _ _ hrk4 nrk
      have hgv7 := k7 _ _ hgv4 ngv
      have shf : sh ≠ f := fun e => by rw [e] at nsh; obtain ⟨_, _, _, _, _, e1, _⟩ := I2.fl; rw [e1] at nsh; cases nsh
      have hsh7 := k7 _ _ hsh4 shf
      have hbl7 := k7 _ _ hbl4 bf
      have tk7 : TK H4 H7 := (TK.but I4.fl B5).trans ((TK.new ntl).trans (TK.but I6.fl B7))
      have al7 : All2 (BeltAt H7) bv bs := al.imp fun _ _ z => z.keep tk7
      have r1 : (is.map V.int)[one]? = some (.int (is.getD one 0)) := by
        rw [List.getElem?_map, List.getD_eq_getElem?_getD, List.getElem?_eq_getElem (by omega)]; rfl
      have r2 : (is.map V.int)[to]? = some (.int (is.getD to 0)) := by
        rw [List.getElem?_map, List.getD_eq_getElem?_getD, List.getElem?_eq_getElem (by omega)]; rfl
      have bvl : bv.length = i := by rw [al.length, lb]
      -- the end of a turn, with so many trays
      refine ⟨_, rfl, _, rfl, rk, _, _, _, rfl, rfl, SqL.of hrk7, atI_nat r1, _, rfl, _, rfl, rk, _, _, _, rfl, rfl, SqL.of hrk7, atI_nat r2, _, _, rfl, rfl, _, rfl, if_bl (fun kk => ?_) (fun kk => ?_)⟩
      · refine ⟨_, rfl, _, _, rfl, ?_⟩
        generalize ht : (if tr > 1 then tr else 1) = tn
        have tn0 : 0 ≤ tn := by rw [← ht]; split <;> omega
        have tn6 : tn ≤ 6 := by rw [← ht]; split <;> omega
        have ttt : tn.toNat = 0 → is.getD one 0 < is.getD to 0 := fun e => by
          exfalso
          have : 1 ≤ tn := by rw [← ht]; split <;> omega
          omega
        refine ⟨_, rfl, .inl ⟨rfl, _, SqL.of hbl7⟩, _, rfl, _, rfl, _, rfl, _, rfl, by omega, by omega, fun D nD => lc_range (lo := 0) (n := tn.toNat) (fun j H8 => ∃ vs : List Int, vs.length = j ∧ H8 D = some (.lst (vs.map V.int)) ∧ (∀ x ∈ vs, Small x) ∧ RI f c hh H H8 xs hs ∧ But f H7 H8 ∧ TK H7 H8 ∧ D ≠ f ∧ D ≠ c ∧ D ≠ hh ∧ H D = Option.none ∧ H7 D = Option.none)
          ⟨[], rfl, upd_same, (fun _ h => nomatch h), I7.new nD, But.refl.new nD, TK.new nD, I7.fl.ne nD, I7.fl.nec nD, (ne_of_none I7.lh nD).symm, I7.bt.none nD (I7.fl.ne nD), nD⟩ ?_ ?_⟩
        · rintro j H8 hj ⟨vs, lv, hD, sm, I8, b8, t8, d1, d2, d3, d4, d5⟩
          refine ⟨rfl, yes_in ⟨_, rfl, f, c, rfl, I8.fl, fun x H9 sx F9 B9 => ⟨_, B9 _ _ hD d1, ?_, vs ++ [x], by rw [List.length_append, lv]; rfl, ?_, ?_, (I8.but F9 B9).lst (B9 _ _ hD d1) d1 d2 d3 d4, (b8.trans B9).own d5, (t8.trans (TK.but I8.fl B9)).trans (TK.lst (B9 _ _ hD d1)), d1, d2, d3, d4, d5⟩⟩⟩
          · rw [List.length_map, lv]; exact small1000 (by omega)
          · rw [upd_same, List.map_append]; rfl
          · intro y hy
            rcases List.mem_append.mp hy with hy | hy
            · exact sm y hy
            · obtain rfl : y = x := by simpa using hy
              exact sx
        · rintro H8 ⟨vs, lv, hD, sm, I8, b8, t8, d1, d2, d3, d4, d5⟩
          refine ⟨D, _, rfl, .inl ⟨SqL.of hD, fun g ng => ⟨(by show 3 ≤ sizeLine; decide), fun t nt => ?_⟩⟩⟩
          have I9 := (I8.new (o := .tup (vs.map V.int)) ng).new (o := .tup [nV one, nV to, V.ref g]) nt
          have hbl8 := same_new (o := .tup [nV one, nV to, V.ref g]) nt _ _ (same_new (o := .tup (vs.map V.int)) ng _ _ (b8 _ _ hbl7 bf))
          have t9 : TK H7 (upd (upd H8 g (.tup (vs.map V.int))) t (.tup [nV one, nV to, V.ref g])) := (t8.trans (TK.new ng)).trans (TK.new nt)
          have s9 : ∀ b o, H7 b = some o → b ≠ f → (upd (upd H8 g (.tup (vs.map V.int))) t (.tup [nV one, nV to, V.ref g])) b = some o := fun b o e n => same_new nt _ _ (same_new ng _ _ (b8 _ _ e n))
          have bh : bl ≠ hh := fun e => by
            have h1 := I1.lh
            rw [← e, nbl] at h1
            cases h1
          have brk : bl ≠ rk := fun e => by
            have h1 := hrk
            rw [← e, nbl] at h1
            cases h1
          have bgv : bl ≠ gv := fun e => by
            have h1 := hgv
            rw [← e, nbl] at h1
            cases h1
          refine ⟨bl, _, _, rfl, rfl, hbl8, small1000 (by rw [bvl]; omega), ?_⟩
          refine ⟨bv ++ [V.ref t], bs ++ [⟨one, to, vs⟩], _, _, _, _, rfl, I9.lst hbl8 bf bc bh bnone, ?_, ?_, ?_, upd_same, ?_, ?_, ?_⟩
          · rw [upd_ne brk.symm]; exact s9 _ _ hrk7 nrk
          · rw [upd_ne bgv.symm]; exact s9 _ _ hgv7 ngv
          · rw [upd_ne bsh.symm]; exact s9 _ _ hsh7 shf
          · exact ((al7.imp fun _ _ z => z.keep t9).snoc ⟨t, g, rfl, upd_same, same_new nt _ _ upd_same⟩).imp fun _ _ z => z.keep (TK.lst hbl8)
          · rw [List.map_append, em, List.take_add_one, et]; rfl
          · intro b hb2
            rcases List.mem_append.mp hb2 with hb2 | hb2
            · exact hb b hb2
            · obtain rfl : b = ⟨one, to, vs⟩ := by simpa using hb2
              refine ⟨oneL, fun h e => ?_, by show vs.length ≤ 6; omega, sm, fun e => ?_⟩
              · have e : hs[one]? = some h := e
                rw [eh1] at e
                cases e
                exact hout
              · have e : vs = [] := e
                rw [e] at lv
                exact ttt (by simpa using lv.symm)
      · obtain ⟨tn, ht⟩ : ∃ tn, tn = tr := ⟨_, rfl⟩
        rw [← ht]
        have tn0 : 0 ≤ tn := by omega
        have tn6 : tn ≤ 6 := by omega
        have ttt : tn.toNat = 0 → is.getD one 0 < is.getD to 0 := fun _ => by
          have : ¬ is.getD to 0 ≤ is.getD one 0 := of_decide_eq_false kk
          omega
        refine ⟨_, rfl, .inl ⟨rfl, _, SqL.of hbl7⟩, _, rfl, _, rfl, _, rfl, _, rfl, by omega, by omega, fun D nD => lc_range (lo := 0) (n := tn.toNat) (fun j H8 => ∃ vs : List Int, vs.length = j ∧ H8 D = some (.lst (vs.map V.int)) ∧ (∀ x ∈ vs, Small x) ∧ RI f c hh H H8 xs hs ∧ But f H7 H8 ∧ TK H7 H8 ∧ D ≠ f ∧ D ≠ c ∧ D ≠ hh ∧ H D = Option.none ∧ H7 D = Option.none)
          ⟨[], rfl, upd_same, (fun _ h => nomatch h), I7.new nD, But.refl.new nD, TK.new nD, I7.fl.ne nD, I7.fl.nec nD, (ne_of_none I7.lh nD).symm, I7.bt.none nD (I7.fl.ne nD), nD⟩ ?_ ?_⟩
        · rintro j H8 hj ⟨vs, lv, hD, sm, I8, b8, t8, d1, d2, d3, d4, d5⟩
          refine ⟨rfl, yes_in ⟨_, rfl, f, c, rfl, I8.fl, fun x H9 sx F9 B9 => ⟨_, B9 _ _ hD d1, ?_, vs ++ [x], by rw [List.length_append, lv]; rfl, ?_, ?_, (I8.but F9 B9).lst (B9 _ _ hD d1) d1 d2 d3 d4, (b8.trans B9).own d5, (t8.trans (TK.but I8.fl B9)).trans (TK.lst (B9 _ _ hD d1)), d1, d2, d3, d4, d5⟩⟩⟩
          · rw [List.length_map, lv]; exact small1000 (by omega)
          · rw [upd_same, List.map_append]; rfl
          · intro y hy
            rcases List.mem_append.mp hy with hy | hy
            · exact sm y hy
            · obtain rfl : y = x := by simpa using hy
              exact sx
        · rintro H8 ⟨vs, lv, hD, sm, I8, b8, t8, d1, d2, d3, d4, d5⟩
          refine ⟨D, _, rfl, .inl ⟨SqL.of hD, fun g ng => ⟨(by show 3 ≤ sizeLine; decide), fun t nt => ?_⟩⟩⟩
          have I9 := (I8.new (o := .tup (vs.map V.int)) ng).new (o := .tup [nV one, nV to, V.ref g]) nt
          have hbl8 := same_new (o := .tup [nV one, nV to, V.ref g]) nt _ _ (same_new (o := .tup (vs.map V.int)) ng _ _ (b8 _ _ hbl7 bf))
          have t9 : TK H7 (upd (upd H8 g (.tup (vs.map V.int))) t (.tup [nV one, nV to, V.ref g])) := (t8.trans (TK.new ng)).trans (TK.new nt)
          have s9 : ∀ b o, H7 b = some o → b ≠ f → (upd (upd H8 g (.tup (vs.map V.int))) t (.tup [nV one, nV to, V.ref g])) b = some o := fun b o e n => same_new nt _ _ (same_new ng _ _ (b8 _ _ e n))
          have bh : bl ≠ hh := fun e => by
            have h1 := I1.lh
            rw [← e, nbl] at h1
            cases h1
          have brk : bl ≠ rk := fun e => by
            have h1 := hrk
            rw [← e, nbl] at h1
            cases h1
          have bgv : bl ≠ gv := fun e => by
            have h1 := hgv
            rw [← e, nbl] at h1
            cases h1
          refine ⟨bl, _, _, rfl, rfl, hbl8, small1000 (by rw [bvl]; omega), ?_⟩
          refine ⟨bv ++ [V.ref t], bs ++ [⟨one, to, vs⟩], _, _, _, _, rfl, I9.lst hbl8 bf bc bh bnone, ?_, ?_, ?_, upd_same, ?_, ?_, ?_⟩
          · rw [upd_ne brk.symm]; exact s9 _ _ hrk7 nrk
          · rw [upd_ne bgv.symm]; exact s9 _ _ hgv7 ngv
          · rw [upd_ne bsh.symm]; exact s9 _ _ hsh7 shf
          · exact ((al7.imp fun _ _ z => z.keep t9).snoc ⟨t, g, rfl, upd_same, same_new nt _ _ upd_same⟩).imp fun _ _ z => z.keep (TK.lst hbl8)
          · rw [List.map_append, em, List.take_add_one, et]; rfl
          · intro b hb2
            rcases List.mem_append.mp hb2 with hb2 | hb2
            · exact hb b hb2
            · obtain rfl : b = ⟨one, to, vs⟩ := by simpa using hb2
              refine ⟨oneL, fun h e => ?_, by show vs.length ≤ 6; omega, sm, fun e => ?_⟩
              · have e : hs[one]? = some h := e
                rw [eh1] at e
                cases e
                exact hout
              · have e : vs = [] := e
                rw [e] at lv
                exact ttt (by simpa using lv.symm)
    · rintro σ H4 ⟨bv, bs, v5, v8, v9, v10, rfl, I4, hrk4, hgv4, hsh4, hbl4, al, em, hb⟩
      rw [List.length_map, List.take_length] at em
      have lb : bs.length = ts.length := by
        have := congrArg List.length em
        rw [List.length_map] at this
        rw [this, htt.length_eq]
      refine ⟨_, rfl, hh, _, rfl, .inl ⟨SqL.of I4.lh, fun a1 na1 => ⟨_, rfl, bl, _, rfl, .inl ⟨SqL.of (same_new na1 _ _ hbl4), fun a2 na2 => ⟨(by show 2 ≤ sizeLine; decide), fun a3 na3 => ?_⟩⟩⟩⟩⟩
      rw [eD]
      have k1 : TK H4 (upd (upd (upd H4 a1 (.tup xs)) a2 (.tup bv)) a3 (.tup [V.ref a1, V.ref a2])) := ((TK.new na1).trans (TK.new na2)).trans (TK.new na3)
      refine q a3 hs bs _ ⟨a1, a2, xs, bv, upd_same, same_new na3 _ _ (same_new na2 _ _ upd_same), same_new na3 _ _ upd_same, I4.al.imp fun _ _ z => z.keep k1, al.imp fun _ _ z => z.keep k1⟩ ⟨ok.len, ok.good, fun b hb2 => ⟨(hb b hb2).1, ?_⟩, fun b hb2 => (hb b hb2).2.1, fun b hb2 => ⟨Nat.le_trans (hb b hb2).2.2.1 (by decide), trivial⟩, ⟨fun k => is.getD k 0, fun b hb2 => (hb b hb2).2.2.2.2⟩, fun k h hk => ?_, by omega⟩ (by obtain ⟨h1, hm1, _⟩ := ok.one; exact List.length_pos_of_mem hm1) (fun b hb2 => (hb b hb2).2.2.1) (((I4.fl.new na1).new na2).new na3) (((I4.bt.new na1).new na2).new na3)
      · have : b.to ∈ bs.map BR.to := List.mem_map.mpr ⟨b, hb2, rfl⟩
        rw [em] at this
        exact tk_mem hs _ _ (by rw [← ets]; exact htt.mem_iff.mp this)
      · rw [em, htt.count_eq, ets, tk_count, if_pos (List.getElem?_eq_some_iff.mp hk).1]
        unfold nd
        rw [hk]
        have := ok.nz h (List.mem_of_getElem? hk)
        show (((needs h.wd).toNat : Nat) : Int) = needs h.wd
        omega
  case tail1 =>
    rintro D' σ' H1 ⟨eD, hh, rk, gv, xs, hs, is, gs, rfl, I1, ok, hrk, lis, hgv, gne, glen, gok, nrk, ngv⟩
    refine ⟨(by show 0 ≤ sizeLine; decide), fun tk ntk => ?_⟩
    have I2 := I1.new (o := .lst []) ntk
    have hx : xs.length = hs.length := I1.al.length
    refine ⟨_, rfl, hh, _, rfl, .inl (SqL.of I2.lh), _, rfl, by omega, (by rw [hx]; have := ok.len; omega), for_range (lo := 0) (n := xs.length) (fun i σ H2 => ∃ (tk : Addr) (v5 : Option V), σ = [some (.ref f), some (.int m), some (.ref hh), some (.ref rk), some (.ref gv), v5, some (.ref tk), none, none, none, none] ∧ RI f c hh H H2 xs hs ∧ H2 rk = some (.lst (is.map V.int)) ∧ H2 gv = some (.lst (gs.map nV)) ∧ tk ≠ f ∧ H2 tk = some (.lst ((tkTo hs i).map nV)))
      ⟨tk, none, rfl, I2, same_new ntk _ _ hrk, same_new ntk _ _ hgv, I1.fl.ne ntk, upd_same⟩ ?_ ?_⟩
    · rintro i σ H2 hi ⟨tk, v5, rfl, I3, hrk3, hgv3, tf, htk⟩
      have eh : hs[i]? = some hs[i] := List.getElem?_eq_getElem (by omega)
      obtain ⟨x, ex, ⟨t, r, rfl, e1, e2⟩⟩ := I3.al.get eh
      have z0 := ok.nz _ (List.mem_of_getElem? eh)
      have zs : needs hs[i].wd ≤ 3 := by
        unfold needs
        split
        · decide
        · split
          · decide
          · split <;> decide
      have sz : (tkTo hs i).length ≤ 20 := by
        have a := tk_len hs ok.nz i (by omega)
        have b : ((hs.take i).map fun h => needs h.wd).sum ≤ (hs.map fun h => needs h.wd).sum := by
          have e : hs.map (fun h => needs h.wd) = (hs.take i).map (fun h => needs h.wd) ++ (hs.drop i).map (fun h => needs h.wd) := by rw [← List.map_append, List.take_append_drop]
          rw [e, List.sum_append]
          have : 0 ≤ ((hs.drop i).map fun h => needs h.wd).sum := by
            have hz : ∀ h ∈ hs.drop i, 0 ≤ needs h.wd := fun h hh => ok.nz h (List.mem_of_mem_drop hh)
            revert hz
            generalize hs.drop i = l
            intro hz
            induction l with
            | nil => decide
            | cons a l ih =>
              have := hz a (List.mem_cons_self ..)
              have := ih fun h hh => hz h (List.mem_cons_of_mem _ hh)
              rw [List.map_cons, List.sum_cons]
              omega
          omega
        have := ok.sum
        omega
      refine ⟨_, rfl, _, rfl, (by show 1 ≤ sizeLine; decide), fun l1 nl1 => ?_⟩
      have I4 := I3.new (o := .lst [V.int (0 + ((i : Nat) : Int))]) nl1
      refine ⟨_, rfl, _, rfl, hh, _, _, _, rfl, rfl, SqL.of I4.lh, at0 ex, t, _, _, _, rfl, rfl, SqT.of (same_new nl1 _ _ e1), atI_nat (j := 0) rfl, r, hs[i].wd, _, rfl, SqT.of (same_new nl1 _ _ e2), fun H5 s5 => ?_⟩
      have I5 := I4.same s5
      have g1 := s5 _ _ upd_same
      have g2 := s5 _ _ (same_new nl1 _ _ htk)
      refine ⟨l1, _, _, rfl, rfl, g1, by omega, by omega, little (by show 1 * (needs hs[i].wd).toNat ≤ 1000; omega), fun l2 nl2 => ?_⟩
      rw [flat_rep]
      have I6 := I5.new (o := .lst (List.replicate (needs hs[i].wd).toNat (V.int (0 + ((i : Nat) : Int))))) nl2
      refine ⟨tk, l2, _, _, rfl, rfl, same_new nl2 _ _ g2, upd_same, ?_, fun l3 nl3 => ?_⟩
      · rw [List.length_map, List.length_replicate]; exact little (by omega)
      refine ⟨l3, _, rfl, I6.new nl3, same_new nl3 _ _ (same_new nl2 _ _ (s5 _ _ (same_new nl1 _ _ hrk3))), same_new nl3 _ _ (same_new nl2 _ _ (s5 _ _ (same_new nl1 _ _ hgv3))), I6.fl.ne nl3, ?_⟩
      rw [upd_same]
      have e : nd hs i = (needs hs[i].wd).toNat := by unfold nd; rw [eh]
      rw [show tkTo hs (i + 1) = tkTo hs i ++ List.replicate (nd hs i) i from rfl, List.map_append, List.map_replicate, e, Int.zero_add]
    · rintro σ H2 ⟨tk, v5, rfl, I3, hrk3, hgv3, tf, htk⟩
      exact ⟨eD, hh, rk, gv, tk, xs, hs, is, gs, _, v5, rfl, I3, ok, hrk3, lis, hgv3, gne, glen, gok, nrk, ngv, tf, htk, by rw [hx]⟩
  refine ⟨_, rfl, _, rfl, _, rfl, f, c, m, rfl, by omega, hm9, hF, fun v1 H1 a1 b1 F1 B1 => ?_⟩
  refine ⟨_, _, rfl, rfl, f, c, _, rfl, by omega, by omega, F1, fun hh xs hs H2 nhh hhh al ok F2 B2 => ?_⟩
  have hx : xs.length = hs.length := al.length
  have len12 := ok.len
  have nf : hh ≠ f := F1.ne nhh
  have I2 : RI f c hh H H2 xs hs := ⟨F2, B1.trans B2, hhh, al, nf, B1.none nhh nf⟩
  -- ranks
  refine ⟨_, rfl, _, rfl, hh, _, rfl, .inl (SqL.of I2.lh), _, rfl, ⟨by omega, by omega, by omega, by omega, by omega⟩, fun rg nrg => ?_⟩
  have I3 := I2.new (o := .lst (rgV 0 ((xs.length : Nat) : Int))) nrg
  refine ⟨f, c, rg, _, rfl, SqL.of upd_same, I2.fl.ne nrg, ?_, I3.fl, fun rk ys H4 hp nrk hrk F4 B4 => ?_⟩
  · rw [rgV_length]; omega
  have erg : rgV 0 ((xs.length : Nat) : Int) = ((List.range xs.length).map fun i => ((i : Nat) : Int)).map V.int := by
    unfold rgV
    rw [List.map_map, show (((xs.length : Nat) : Int) - 0).toNat = xs.length by omega]
    refine List.map_congr_left fun i _ => ?_
    show V.int (0 + ((i : Nat) : Int)) = V.int ((i : Nat) : Int)
    rw [Int.zero_add]
  rw [erg] at hp
  obtain ⟨is, rfl, his⟩ := perm_inv (f := V.int) (g := unI) (fun _ => rfl) hp
  have lis : is.length = hs.length := by rw [his.length_eq, List.length_map, List.length_range, hx]
  have I4 := I3.but F4 B4
  have rkf : rk ≠ f := I3.fl.ne nrk
  -- givers
  refine ⟨_, rfl, hh, _, rfl, .inl (SqL.of I4.lh), _, rfl, by omega, by omega, fun D nD => lc_range (lo := 0) (n := xs.length) (fun i H5 => ∃ gs : List Nat, H5 D = some (.lst (gs.map nV)) ∧ gs.length ≤ i ∧ RI f c hh H H5 xs hs ∧ H5 rk = some (.lst (is.map V.int)) ∧ (∀ k ∈ gs, ∃ h, hs[k]? = some h ∧ h.wd ≠ "out") ∧ (∀ k h, k < i → hs[k]? = some h → h.wd ≠ "out" → gs ≠ []) ∧ D ≠ f ∧ D ≠ c ∧ D ≠ hh ∧ D ≠ rk ∧ H D = Option.none)
    ⟨[], upd_same, Nat.le_refl _, I4.new nD, same_new nD _ _ hrk, (fun _ h => nomatch h), (fun k h hk => absurd hk (Nat.not_lt_zero _)), I4.fl.ne nD, I4.fl.nec nD, (ne_of_none I4.lh nD).symm, (ne_of_none hrk nD).symm, I4.bt.none nD (I4.fl.ne nD)⟩ ?_ ?_⟩
  · rintro i H5 hi ⟨gs, hD, lg, I5, hrk5, g1, g2, d1, d2, d3, d4, d5⟩
    have eh : hs[i]? = some hs[i] := List.getElem?_eq_getElem (by omega)
    obtain ⟨x, ex, ⟨t, r, rfl, e1, e2⟩⟩ := I5.al.get eh
    have gh := ok.good _ (List.mem_of_getElem? eh)
    refine ⟨rfl, _, rfl, _, rfl, hh, _, _, _, rfl, rfl, SqL.of I5.lh, at0 ex, t, _, _, _, rfl, rfl, SqT.of e1, atI_nat (j := 0) rfl, (by show 1 ≤ sizeLine; decide), fun o1 no1 => ?_⟩
    have I6 := I5.new (o := .tup [V.str "out"]) no1
    have hD6 : (upd H5 o1 (.tup [V.str "out"])) D = some (.lst (gs.map nV)) := same_new no1 _ _ hD
    refine ⟨_, _, rule_dp (same_new no1 _ _ e2), .tup (SqT.of upd_same) (.cons (.str _) .nil), rule_shaped gh.lay, one_shaped (by decide +kernel), _, rfl, ?_⟩
    rw [rule_eqv, gh.door "out" (.inr rfl)]
    by_cases k : hs[i].wd = "out"
    · rw [decide_eq_true k]
      refine if_bl (fun z => absurd z (by decide)) (fun _ => ⟨gs, hD6, by omega, I6, same_new no1 _ _ hrk5, g1, fun k' h' hk hk2 hk3 => ?_, d1, d2, d3, d4, d5⟩)
      by_cases y : k' = i
      · subst y
        rw [eh] at hk2
        cases hk2
        exact absurd k hk3
      · exact g2 k' h' (by omega) hk2 hk3
    · rw [decide_eq_false k]
      refine if_bl (fun _ => ⟨_, rfl, _, hD6, ?_, gs ++ [i], ?_, ?_, I6.lst hD6 d1 d2 d3 d5, ?_, ?_, fun _ _ _ _ _ z => by simp at z, d1, d2, d3, d4, d5⟩) (fun z => absurd z (by decide))
      · rw [List.length_map]; exact small1000 (by omega)
      · rw [upd_same, List.map_append, Int.zero_add]; rfl
      · rw [List.length_append]; show gs.length + 1 ≤ i + 1; omega
      · rw [upd_ne d4.symm]; exact same_new no1 _ _ hrk5
      · intro k' hk
        rcases List.mem_append.mp hk with hk | hk
        · exact g1 k' hk
        · obtain rfl : k' = i := by simpa using hk
          exact ⟨_, eh, k⟩
  · rintro H5 ⟨gs, hD, lg, I5, hrk5, g1, g2, d1, d2, d3, d4, d5⟩
    obtain ⟨h1, hm1, hm2⟩ := ok.one
    obtain ⟨k1, hk1⟩ := List.getElem?_of_mem hm1
    have k1l := (List.getElem?_eq_some_iff.mp hk1).1
    exact ⟨rfl, hh, rk, D, xs, hs, is, gs, rfl, I5, ok, hrk5, lis, hD, g2 k1 h1 (by omega) hk1 hm2, by omega, g1, rkf, d1⟩
end
/-! ### the order of work -/
/-- the belts without trays, their ends -/
def looseOf (bs : List BR) : List (Nat × Nat) := (bs.filter fun b => b.th.isEmpty).map fun b => (b.one, b.to)
def free (ls : List (Nat × Nat)) (left : List Nat) (k : Nat) : Prop := ∀ p ∈ ls, p.2 = k → p.1 ∉ left
/-- each stands as soon as it can -/
inductive Soon (ls : List (Nat × Nat)) : List Nat → List Nat → Prop
  | nil : Soon ls [] []
  | cons {left ord : List Nat} {k : Nat} : k ∈ left → free ls left k → (∀ j ∈ left, free ls left j → k ≤ j) → Soon ls (left.erase k) ord → Soon ls left (k :: ord)
def cN (p : Nat × Nat → Bool) (l : List (Nat × Nat)) : Int := ((l.filter p).length : Nat)
theorem cN_snoc (p : Nat × Nat → Bool) (l : List (Nat × Nat)) (x : Nat × Nat) : cN p (l ++ [x]) = cN p l + (if p x = true then 1 else 0) := by
  unfold cN
  rw [List.filter_append, List.length_append]
  cases h : p x <;> simp [h]
theorem cN_zero {p : Nat × Nat → Bool} {l : List (Nat × Nat)} : cN p l = 0 ↔ ∀ x ∈ l, p x = false := by
  unfold cN
  constructor
  · intro h x hx
    have e : (l.filter p).length = 0 := by omega
    have e2 := List.eq_nil_of_length_eq_zero e
    cases k : p x with
    | false => rfl
    | true =>
      have : x ∈ l.filter p := List.mem_filter.mpr ⟨hx, k⟩
      rw [e2] at this
      cases this
  · intro h
    have e : l.filter p = [] := List.filter_eq_nil_iff.mpr fun x hx => by rw [h x hx]; decide
    rw [e]
    rfl
abbrev owing (left : List Nat) (k : Nat) : Nat × Nat → Bool := fun p => decide (p.2 = k) && decide (p.1 ∈ left)
theorem owing_free {ls : List (Nat × Nat)} {left : List Nat} {k : Nat} : cN (owing left k) ls = 0 ↔ free ls left k := by
  rw [cN_zero]
  constructor
  · intro h p hp e1 e2
    have := h p hp
    have this : (decide (p.2 = k) && decide (p.1 ∈ left)) = false := this
    rw [decide_eq_true e1, decide_eq_true e2] at this
    cases this
  · intro h p hp
    show (decide (p.2 = k) && decide (p.1 ∈ left)) = false
    by_cases e1 : p.2 = k
    · rw [decide_eq_false (h p hp e1), Bool.and_false]
    · rw [decide_eq_false e1, Bool.false_and]
theorem cN_erase {ls : List (Nat × Nat)} {left : List Nat} {k r : Nat} (nd : left.Nodup) (hr : r ∈ left) : cN (owing left k) ls - cN (fun p => decide (p.1 = r) && decide (p.2 = k)) ls = cN (owing (left.erase r) k) ls := by
  induction ls with
  | nil => rfl
  | cons x l ih =>
    have e : ∀ q : Nat × Nat → Bool, cN q (x :: l) = (if q x = true then 1 else 0) + cN q l := fun q => by
      unfold cN
      rw [List.filter_cons]
      cases h : q x <;> simp [h] <;> omega
    have h1 : x.1 ∈ left.erase r ↔ x.1 ≠ r ∧ x.1 ∈ left := nd.mem_erase_iff
    have key : (if owing left k x = true then (1 : Int) else 0) - (if (decide (x.1 = r) && decide (x.2 = k)) = true then 1 else 0) = (if owing (left.erase r) k x = true then 1 else 0) := by
      by_cases a : x.2 = k
      · by_cases b : x.1 = r
        · have d : ¬ r ∈ left.erase r := fun z => (nd.mem_erase_iff.mp z).1 rfl
          simp [owing, a, b, hr, d]
        · by_cases c : x.1 ∈ left
          · have d : x.1 ∈ left.erase r := h1.mpr ⟨b, c⟩
            simp [owing, a, b, c, d]
          · have d : ¬ x.1 ∈ left.erase r := fun z => c (h1.mp z).2
            simp [owing, a, b, c, d]
      · simp [owing, a]
    rw [e, e, e, ← ih]
    omega
/-- some hand is free, where the belts without trays go up -/
theorem some_free {ls : List (Nat × Nat)} {rk : Nat → Int} (hr : ∀ p ∈ ls, rk p.1 < rk p.2) : ∀ {left : List Nat}, left ≠ [] → ∃ k ∈ left, free ls left k := by
  have low : ∀ left : List Nat, left ≠ [] → ∃ k ∈ left, ∀ j ∈ left, rk k ≤ rk j := by
    intro left
    induction left with
    | nil => intro h; exact absurd rfl h
    | cons a l ih =>
      intro _
      cases l with
      | nil => exact ⟨a, by simp, fun j hj => by have : j = a := by simpa using hj
                                                 rw [this]; exact Int.le_refl _⟩
      | cons b l =>
        obtain ⟨k, hk, h⟩ := ih (by simp)
        by_cases c : rk a ≤ rk k
        · exact ⟨a, by simp, fun j hj => by
            rcases List.mem_cons.mp hj with e | e
            · rw [e]; exact Int.le_refl _
            · exact Int.le_trans c (h j e)⟩
        · exact ⟨k, List.mem_cons_of_mem _ hk, fun j hj => by
            rcases List.mem_cons.mp hj with e | e
            · rw [e]; omega
            · exact h j e⟩
  intro left hl
  obtain ⟨k, hk, h⟩ := low left hl
  refine ⟨k, hk, fun p hp e hm => ?_⟩
  have h1 := h _ hm
  have h2 := hr p hp
  rw [e] at h2
  omega
theorem erase_map {α β : Type} (f : α → β) : ∀ (l : List α) (j : Nat), (l.map f).eraseIdx j = (l.eraseIdx j).map f
  | [], _ => rfl
  | _ :: _, 0 => rfl
  | a :: l, j + 1 => congrArg (f a :: ·) (erase_map f l j)
abbrev fL (n : Nat) (F : Nat → Int) : List V := (List.range n).map fun k => V.int (F k)
theorem fL_get {n k : Nat} {F : Nat → Int} (h : k < n) : (fL n F)[k]? = some (.int (F k)) := by
  rw [List.getElem?_map, List.getElem?_range h]; rfl
theorem fL_set {n k : Nat} {F : Nat → Int} {z : Int} : (fL n F).set k (.int z) = fL n fun j => if j = k then z else F j := by
  apply List.ext_getElem?
  intro i
  rw [List.getElem?_set]
  by_cases h : i < n
  · rw [fL_get h, fL_get h]
    by_cases e : k = i
    · subst e
      rw [if_pos rfl, if_pos rfl, if_pos (by rw [List.length_map, List.length_range]; exact h)]
    · rw [if_neg e, if_neg (fun z => e z.symm)]
  · have h1 : (fL n F)[i]? = none := List.getElem?_eq_none (by rw [List.length_map, List.length_range]; omega)
    have h2 : (fL n fun j => if j = k then z else F j)[i]? = none := List.getElem?_eq_none (by rw [List.length_map, List.length_range]; omega)
    rw [h1, h2]
    by_cases e : k = i
    · rw [if_pos e, if_neg (by rw [List.length_map, List.length_range]; omega)]
    · rw [if_neg e]
/-! ### what rules make, bells -/
def mk2 (wd : Str) (a b : Int) : Int :=
  if wd = "sum" then a + b else if wd = "gap" then a - b else if wd = "below" then (if a < b then 1 else 0) else if wd = "most" then (if b > a then b else a) else (if b < a then b else a)
def mk (wd : Str) (n a b c : Int) : Int :=
  if wd = "always" then n else if wd = "times" then n * a else if wd = "pick" then (if a = 0 then c else b) else if wd = "same" ∨ wd = "out" then a else mk2 wd a b
def mkR (h : HR) (xs : List Int) : Int := mk h.wd (h.no.getD 0) (xs.getD 0 0) (xs.getD 1 0) (xs.getD 2 0)
/-- the hands whose rule is this door's -/
def doorsOf (z : Str) (hs : List HR) : List Nat := (List.range hs.length).filter fun i => decide (hs[i]?.map HR.wd = some z)
theorem mem_doors {z : Str} {hs : List HR} {k : Nat} : k ∈ doorsOf z hs ↔ ∃ h, hs[k]? = some h ∧ h.wd = z := by
  unfold doorsOf
  rw [List.mem_filter, List.mem_range, decide_eq_true_eq]
  constructor
  · rintro ⟨a, b⟩
    rw [List.getElem?_eq_getElem a] at b
    exact ⟨_, List.getElem?_eq_getElem a, Option.some.inj b⟩
  · rintro ⟨h, a, b⟩
    refine ⟨(List.getElem?_eq_some_iff.mp a).1, ?_⟩
    rw [a, ← b]
    rfl
theorem doors_nodup {z : Str} {hs : List HR} : (doorsOf z hs).Nodup := List.nodup_range.filter _
theorem doors_len {z : Str} {hs : List HR} : (doorsOf z hs).length ≤ hs.length := by
  refine Nat.le_trans (List.length_filter_le ..) ?_
  rw [List.length_range]
  exact Nat.le_refl _
abbrev gD (m : List Int) (k : Nat) : Int := m.getD k 0
def valB (f : Nat → Int) (b : BR) : Int := match b.th with | [] => f b.one | x :: _ => x
def takes (cur : List BR) (f : Nat → Int) (k : Nat) : List Int := (cur.filter fun b => decide (b.to = k)).map (valB f)
theorem valB_nil {f : Nat → Int} {b : BR} (h : b.th = []) : valB f b = f b.one := by unfold valB; rw [h]
theorem takes_ext {cur : List BR} {f g : Nat → Int} {k : Nat} (h : ∀ b ∈ cur, b.to = k → b.th = [] → f b.one = g b.one) : takes cur f k = takes cur g k := by
  unfold takes
  refine List.map_congr_left fun b hb => ?_
  have hb := List.mem_filter.mp hb
  cases e : b.th with
  | nil => rw [valB_nil e, valB_nil e]; exact h b hb.1 (of_decide_eq_true hb.2) e
  | cons x l => unfold valB; rw [e]
structure IsBell (hs : List HR) (cur : List BR) (ins m : List Int) : Prop where
  len : m.length = hs.length
  door : ∀ j k : Nat, (doorsOf "in" hs)[j]? = some k → m[k]? = ins[j]?
  hand : ∀ (k : Nat) (h : HR), hs[k]? = some h → h.wd ≠ "in" → m[k]? = some (mkR h (takes cur (gD m) k))
theorem mem_loose {cur : List BR} {b : BR} (h : b ∈ cur) (e : b.th = []) : (b.one, b.to) ∈ looseOf cur := List.mem_map.mpr ⟨b, List.mem_filter.mpr ⟨h, by rw [e]; rfl⟩, rfl⟩
theorem bell_one {hs : List HR} {cur : List BR} {ins m m' : List Int} {rk : Nat → Int} (hr : ∀ p ∈ looseOf cur, rk p.1 < rk p.2) (a : IsBell hs cur ins m) (b : IsBell hs cur ins m') : m = m' := by
  have off : ∀ k, ¬ k < hs.length → m[k]? = m'[k]? := fun k hk => by
    rw [List.getElem?_eq_none (by have := a.len; omega), List.getElem?_eq_none (by have := b.len; omega)]
  obtain ⟨D, hD⟩ : ∃ D, D = (List.range hs.length).filter fun k => decide (m[k]? ≠ m'[k]?) := ⟨_, rfl⟩
  have mD : ∀ k, k ∉ D → m[k]? = m'[k]? := fun k hk => by
    by_cases l : k < hs.length
    · by_cases e : m[k]? = m'[k]?
      · exact e
      · refine absurd ?_ hk
        rw [hD, List.mem_filter]
        exact ⟨List.mem_range.mpr l, decide_eq_true e⟩
    · exact off k l
  by_cases e : D = []
  · refine List.ext_getElem? fun k => mD k ?_
    rw [e]
    exact fun z => nomatch z
  · exfalso
    obtain ⟨k, hk, fr⟩ := some_free hr e
    have hk2 := hk
    rw [hD, List.mem_filter] at hk2
    have kl := List.mem_range.mp hk2.1
    have ne : m[k]? ≠ m'[k]? := of_decide_eq_true hk2.2
    have eh : hs[k]? = some hs[k] := List.getElem?_eq_getElem kl
    by_cases w : hs[k].wd = "in"
    · obtain ⟨j, hj⟩ := List.getElem?_of_mem (mem_doors.mpr ⟨_, eh, w⟩)
      exact ne ((a.door j k hj).trans (b.door j k hj).symm)
    · refine ne ((a.hand k _ eh w).trans ((b.hand k _ eh w).trans ?_).symm)
      rw [takes_ext (g := gD m) fun c hc et en => ?_]
      have := mD c.one (fr _ (mem_loose hc en) et)
      show m'.getD c.one 0 = m.getD c.one 0
      rw [List.getD_eq_getElem?_getD, List.getD_eq_getElem?_getD, this]
/-- what some hands have made already -/
structure Part (hs : List HR) (cur : List BR) (ins : List Int) (pm : Nat → Option Int) : Prop where
  dom : ∀ k v, pm k = some v → k < hs.length
  door : ∀ j k : Nat, (doorsOf "in" hs)[j]? = some k → pm k = ins[j]?
  hand : ∀ (k : Nat) (h : HR) (v : Int), hs[k]? = some h → h.wd ≠ "in" → pm k = some v → v = mkR h (takes cur (fun j => (pm j).getD 0) k) ∧ ∀ b ∈ cur, b.to = k → b.th = [] → (pm b.one).isSome = true
abbrev putM (pm : Nat → Option Int) (k : Nat) (v : Int) : Nat → Option Int := fun j => if j = k then some v else pm j
theorem Part.put {hs : List HR} {cur : List BR} {ins : List Int} {pm : Nat → Option Int} (p : Part hs cur ins pm) {k : Nat} {h : HR} (eh : hs[k]? = some h) (w : h.wd ≠ "in") (new : pm k = none)
    (there : ∀ b ∈ cur, b.to = k → b.th = [] → (pm b.one).isSome = true) : Part hs cur ins (putM pm k (mkR h (takes cur (fun j => (pm j).getD 0) k))) := by
  have old : ∀ j, (pm j).isSome = true → ∀ v, putM pm k v j = pm j := fun j hj v => if_neg fun e => by rw [e, new] at hj; cases hj
  have same : ∀ j v, (∀ b ∈ cur, b.to = j → b.th = [] → (pm b.one).isSome = true) → takes cur (fun i => (pm i).getD 0) j = takes cur (fun i => (putM pm k v i).getD 0) j := fun j v hb => takes_ext fun b b1 b2 b3 => by
    show (pm b.one).getD 0 = (putM pm k v b.one).getD 0
    rw [old _ (hb b b1 b2 b3)]
  refine ⟨fun j v e => ?_, fun i j e => ?_, fun j h' v e1 e2 e3 => ?_⟩
  · by_cases z : j = k
    · rw [z]; exact (List.getElem?_eq_some_iff.mp eh).1
    · exact p.dom j v ((if_neg z).symm.trans e)
  · have z : j ≠ k := fun z => by
      obtain ⟨h2, q1, q2⟩ := mem_doors.mp (List.mem_of_getElem? e)
      rw [z, eh] at q1
      cases q1
      exact w q2
    exact (if_neg z).trans (p.door i j e)
  · by_cases z : j = k
    · subst z
      rw [eh] at e1
      cases e1
      have e4 := Option.some.inj ((if_pos rfl).symm.trans e3)
      refine ⟨?_, fun b b1 b2 b3 => ?_⟩
      · exact e4.symm.trans (congrArg (mkR h) (same _ _ there))
      · rw [old _ (there b b1 b2 b3)]
        exact there b b1 b2 b3
    · have e4 : pm j = some v := (if_neg z).symm.trans e3
      obtain ⟨q1, q2⟩ := p.hand j h' v e1 e2 e4
      refine ⟨?_, fun b b1 b2 b3 => ?_⟩
      · exact q1.trans (congrArg (mkR h') (same _ _ q2))
      · rw [old _ (q2 b b1 b2 b3)]
        exact q2 b b1 b2 b3
abbrev fullM (n : Nat) (pm : Nat → Option Int) : List Int := (List.range n).map fun k => (pm k).getD 0
theorem fullM_get {n k : Nat} {pm : Nat → Option Int} (h : k < n) : (fullM n pm)[k]? = some ((pm k).getD 0) := by
  rw [List.getElem?_map, List.getElem?_range h]; rfl
theorem Part.full {hs : List HR} {cur : List BR} {ins : List Int} {pm : Nat → Option Int} (p : Part hs cur ins pm) (all : ∀ k, k < hs.length → (pm k).isSome = true) : IsBell hs cur ins (fullM hs.length pm) := by
  have at_ : ∀ k, k < hs.length → ∃ v, pm k = some v ∧ (fullM hs.length pm)[k]? = some v := fun k hk => by
    obtain ⟨v, hv⟩ := Option.isSome_iff_exists.mp (all k hk)
    exact ⟨v, hv, by rw [fullM_get hk, hv]; rfl⟩
  refine ⟨by rw [List.length_map, List.length_range], fun j k e => ?_, fun k h e w => ?_⟩
  · obtain ⟨h, q, _⟩ := mem_doors.mp (List.mem_of_getElem? e)
    obtain ⟨v, e1, e2⟩ := at_ k (List.getElem?_eq_some_iff.mp q).1
    rw [e2, ← e1]
    exact p.door j k e
  · obtain ⟨v, e1, e2⟩ := at_ k (List.getElem?_eq_some_iff.mp e).1
    obtain ⟨q1, q2⟩ := p.hand k h v e w e1
    rw [e2, q1]
    congr 2
    refine takes_ext fun b b1 b2 b3 => ?_
    obtain ⟨x, hx⟩ := Option.isSome_iff_exists.mp (q2 b b1 b2 b3)
    obtain ⟨y, e3, e4⟩ := at_ b.one (p.dom _ _ hx)
    show (pm b.one).getD 0 = (fullM hs.length pm).getD b.one 0
    rw [List.getD_eq_getElem?_getD, e4, e3]
/-! ### the dict of what was made -/
abbrev kN (k : Nat) : Key := .inl ((k : Nat) : Int)
def DM (kvs : List (Key × V)) (pm : Nat → Option Int) : Prop := ∀ k : Nat, valV kvs (kN k) = (pm k).map V.int
theorem kN_inj {a b : Nat} (h : kN a = kN b) : a = b := by
  have : ((a : Nat) : Int) = ((b : Nat) : Int) := Sum.inl.inj h
  omega
theorem DM.put {kvs : List (Key × V)} {pm : Nat → Option Int} (d : DM kvs pm) (k : Nat) (v : Int) : DM (putK kvs (kN k) (.int v)) (putM pm k v) := fun j => by
  rw [valV_put]
  by_cases e : j = k
  · subst e
    rw [if_pos rfl, show putM pm j v j = some v from if_pos rfl]
    rfl
  · rw [if_neg fun z => e (kN_inj z), show putM pm k v j = pm j from if_neg e]
    exact d j
theorem merge_off {k : Nat} : ∀ (ks : List Nat) (xs : List Int) (acc : List (Key × V)), k ∉ ks → valV (mergeK acc ((ks.map kN).zip (xs.map V.int))) (kN k) = valV acc (kN k)
  | [], _, _, _ => rfl
  | _ :: _, [], _, _ => rfl
  | a :: ks, x :: xs, acc, h => by
    have h1 : k ≠ a := fun e => h (by rw [e]; exact List.mem_cons_self ..)
    have h2 : k ∉ ks := fun e => h (List.mem_cons_of_mem _ e)
    show valV (mergeK (putK acc (kN a) (V.int x)) ((ks.map kN).zip (xs.map V.int))) (kN k) = _
    rw [merge_off ks xs _ h2, valV_put, if_neg fun z => h1 (kN_inj z)]
theorem merge_on {k : Nat} {v : Int} : ∀ (ks : List Nat) (xs : List Int) (acc : List (Key × V)) (j : Nat), ks.Nodup → ks[j]? = some k → xs[j]? = some v → valV (mergeK acc ((ks.map kN).zip (xs.map V.int))) (kN k) = some (.int v)
  | [], _, _, _, _, h, _ => nomatch h
  | _ :: _, [], _, _, _, _, h => nomatch h
  | a :: ks, x :: xs, acc, 0, nd, h1, h2 => by
    cases h1
    cases h2
    show valV (mergeK (putK acc (kN k) (V.int v)) ((ks.map kN).zip (xs.map V.int))) (kN k) = _
    rw [merge_off ks xs _ (List.nodup_cons.mp nd).1, valV_put, if_pos rfl]
  | a :: ks, x :: xs, acc, j + 1, nd, h1, h2 => merge_on ks xs _ j (List.nodup_cons.mp nd).2 h1 h2
/-- what the in doors have made -/
def doorM (hs : List HR) (ins : List Int) : Nat → Option Int := fun k => if k ∈ doorsOf "in" hs then ins[(doorsOf "in" hs).idxOf k]? else none
theorem idx_at {l : List Nat} (nd : l.Nodup) {j k : Nat} (h : l[j]? = some k) : l.idxOf k = j := by
  have jl := (List.getElem?_eq_some_iff.mp h).1
  have m := List.mem_of_getElem? h
  have il := List.idxOf_lt_length_of_mem m
  exact (List.getElem_inj nd (h₀ := il) (h₁ := jl)).mp ((List.getElem_idxOf il).trans (List.getElem?_eq_some_iff.mp h).2.symm)
theorem doorM_dm {hs : List HR} {ins : List Int} (hl : ins.length = (doorsOf "in" hs).length) : DM (mergeK [] (((doorsOf "in" hs).map kN).zip (ins.map V.int))) (doorM hs ins) := fun k => by
  unfold doorM
  by_cases e : k ∈ doorsOf "in" hs
  · rw [if_pos e]
    have il := List.idxOf_lt_length_of_mem e
    have e1 : (doorsOf "in" hs)[(doorsOf "in" hs).idxOf k]? = some k := by rw [List.getElem?_eq_getElem il, List.getElem_idxOf]
    have e2 : ins[(doorsOf "in" hs).idxOf k]? = some ins[(doorsOf "in" hs).idxOf k] := List.getElem?_eq_getElem (by omega)
    rw [merge_on _ _ _ _ doors_nodup e1 e2, e2]
    rfl
  · rw [if_neg e, merge_off _ _ _ e]
    rfl
theorem doorM_part {hs : List HR} {cur : List BR} {ins : List Int} : Part hs cur ins (doorM hs ins) := by
  refine ⟨fun k v e => ?_, fun j k e => ?_, fun k h v e w e2 => ?_⟩
  · unfold doorM at e
    by_cases m : k ∈ doorsOf "in" hs
    · obtain ⟨h, q, _⟩ := mem_doors.mp m
      exact (List.getElem?_eq_some_iff.mp q).1
    · rw [if_neg m] at e
      cases e
  · unfold doorM
    rw [if_pos (List.mem_of_getElem? e), idx_at doors_nodup e]
  · unfold doorM at e2
    rw [if_neg fun m => by
      obtain ⟨h2, q1, q2⟩ := mem_doors.mp m
      rw [e] at q1
      cases q1
      exact w q2] at e2
    cases e2
theorem doorM_all {hs : List HR} {ins : List Int} (hl : ins.length = (doorsOf "in" hs).length) {k : Nat} {h : HR} (e : hs[k]? = some h) (w : h.wd = "in") : (doorM hs ins k).isSome = true := by
  have m := mem_doors.mpr ⟨h, e, w⟩
  unfold doorM
  rw [if_pos m]
  have il := List.idxOf_lt_length_of_mem m
  rw [List.getElem?_eq_getElem (by omega)]
  rfl
/-! ### belts as they stand behind some bells -/
def nextB (m : List Int) (b : BR) : BR := if b.th = [] then b else ⟨b.one, b.to, b.th.drop 1 ++ [gD m b.one]⟩
def standB (ms : List (List Int)) (b : BR) : BR := if b.th = [] then b else ⟨b.one, b.to, (b.th ++ ms.map fun m => gD m b.one).drop ms.length⟩
abbrev stand (bs : List BR) (ms : List (List Int)) : List BR := bs.map (standB ms)
theorem stand_one (ms : List (List Int)) (b : BR) : (standB ms b).one = b.one := by unfold standB; split <;> rfl
theorem stand_to (ms : List (List Int)) (b : BR) : (standB ms b).to = b.to := by unfold standB; split <;> rfl
theorem stand_len (ms : List (List Int)) (b : BR) : (standB ms b).th.length = b.th.length := by
  unfold standB
  split
  · rfl
  · rw [List.length_drop, List.length_append, List.length_map]; omega
theorem nil_len {l l' : List Int} (h : l.length = l'.length) : l = [] ↔ l' = [] := by
  cases l <;> cases l' <;> simp at h ⊢
theorem stand_th (ms : List (List Int)) (b : BR) : (standB ms b).th = [] ↔ b.th = [] := nil_len (stand_len ms b)
theorem stand_zero (bs : List BR) : stand bs [] = bs := by
  refine (List.map_congr_left (g := id) fun b _ => ?_).trans (List.map_id _)
  unfold standB
  split
  · rfl
  · show (⟨b.one, b.to, (b.th ++ []).drop 0⟩ : BR) = b
    rw [List.append_nil]
    rfl
theorem stand_next (bs : List BR) (ms : List (List Int)) (m : List Int) : (stand bs ms).map (nextB m) = stand bs (ms ++ [m]) := by
  rw [List.map_map]
  refine List.map_congr_left fun b _ => ?_
  show nextB m (standB ms b) = standB (ms ++ [m]) b
  have hn := stand_th ms b
  by_cases e : b.th = []
  · rw [show nextB m (standB ms b) = standB ms b from if_pos (hn.mpr e)]
    rw [show standB ms b = b from if_pos e, show standB (ms ++ [m]) b = b from if_pos e]
  · rw [show nextB m (standB ms b) = ⟨(standB ms b).one, (standB ms b).to, (standB ms b).th.drop 1 ++ [gD m (standB ms b).one]⟩ from if_neg fun z => e (hn.mp z)]
    rw [stand_one, stand_to, show standB ms b = ⟨b.one, b.to, (b.th ++ ms.map fun m => gD m b.one).drop ms.length⟩ from if_neg e,
      show standB (ms ++ [m]) b = ⟨b.one, b.to, (b.th ++ (ms ++ [m]).map fun m => gD m b.one).drop (ms ++ [m]).length⟩ from if_neg e]
    show (⟨b.one, b.to, ((b.th ++ ms.map fun m => gD m b.one).drop ms.length).drop 1 ++ [gD m b.one]⟩ : BR) = _
    rw [List.drop_drop, List.map_append, ← List.append_assoc, List.length_append]
    congr 1
    refine (List.drop_append_of_le_length ?_).symm
    have := List.length_pos_iff.mpr e
    rw [List.length_append, List.length_map]
    show ms.length + 1 ≤ _
    omega
theorem loose_stand (bs : List BR) (ms : List (List Int)) : looseOf (stand bs ms) = looseOf bs := by
  unfold looseOf
  induction bs with
  | nil => rfl
  | cons b bs ih =>
    have e : (standB ms b).th.isEmpty = b.th.isEmpty := by
      have h := stand_th ms b
      cases h1 : (standB ms b).th <;> cases h2 : b.th <;> simp [h1, h2] at h ⊢
    show List.map _ (List.filter _ (standB ms b :: stand bs ms)) = _
    rw [List.filter_cons, List.filter_cons, e]
    cases b.th.isEmpty
    · exact ih
    · show ((standB ms b).one, (standB ms b).to) :: _ = (b.one, b.to) :: _
      rw [ih, stand_one, stand_to]
/-- what is taken from a belt with trays -/
theorem stand_head {ms : List (List Int)} {b : BR} (f : Nat → Int) (e : b.th ≠ []) : valB f (standB ms b) = (b.th ++ ms.map fun m => gD m b.one).getD ms.length 0 := by
  have hl := stand_len ms b
  have pos := List.length_pos_iff.mpr e
  have et : (standB ms b).th = (b.th ++ ms.map fun m => gD m b.one).drop ms.length := by unfold standB; rw [if_neg e]
  unfold valB
  cases q : (standB ms b).th with
  | nil => rw [q] at hl; simp at hl; omega
  | cons x l =>
    rw [q] at et
    have : ((b.th ++ ms.map fun m => gD m b.one).drop ms.length)[0]? = some x := by rw [← et]; rfl
    rw [List.getElem?_drop, Nat.add_zero] at this
    rw [List.getD_eq_getElem?_getD, this]
    rfl
/-! ### many bells -/
structure WS (hs : List HR) (bs : List BR) (rows ms : List (List Int)) : Prop where
  len : ms.length = rows.length
  at_ : ∀ (t : Nat) (r m : List Int), rows[t]? = some r → ms[t]? = some m → IsBell hs (stand bs (ms.take t)) r m
theorem WS.nil {hs : List HR} {bs : List BR} : WS hs bs [] [] := ⟨rfl, fun t r m e => nomatch e⟩
theorem WS.snoc {hs : List HR} {bs : List BR} {rows ms : List (List Int)} {r m : List Int} (h : WS hs bs rows ms) (b : IsBell hs (stand bs ms) r m) : WS hs bs (rows ++ [r]) (ms ++ [m]) := by
  refine ⟨by rw [List.length_append, List.length_append, h.len]; rfl, fun t r' m' e1 e2 => ?_⟩
  by_cases l : t < ms.length
  · have l2 : t < rows.length := by rw [← h.len]; exact l
    rw [List.getElem?_append_left l2] at e1
    rw [List.getElem?_append_left l] at e2
    rw [List.take_append_of_le_length (Nat.le_of_lt l)]
    exact h.at_ t r' m' e1 e2
  · have tl := (List.getElem?_eq_some_iff.mp e2).1
    rw [List.length_append] at tl
    have et : t = ms.length := by simp at tl; omega
    subst et
    rw [List.getElem?_append_right (Nat.le_refl _), Nat.sub_self] at e2
    rw [h.len, List.getElem?_append_right (Nat.le_refl _), Nat.sub_self] at e1
    cases e1
    cases e2
    rw [List.take_append_of_le_length (Nat.le_refl _), List.take_length]
    exact b
theorem WS.one {hs : List HR} {bs : List BR} {rows ms ms' : List (List Int)} {rk : Nat → Int} (hr : ∀ p ∈ looseOf bs, rk p.1 < rk p.2) (a : WS hs bs rows ms) (b : WS hs bs rows ms') : ms = ms' := by
  have key : ∀ t, ms.take t = ms'.take t := by
    intro t
    induction t with
    | zero => rfl
    | succ t ih =>
      rw [List.take_add_one, List.take_add_one, ih]
      by_cases l : t < rows.length
      · have l1 : t < ms.length := by have := a.len; omega
        have l2 : t < ms'.length := by have := b.len; omega
        have e1 : ms[t]? = some ms[t] := List.getElem?_eq_getElem l1
        have e2 : ms'[t]? = some ms'[t] := List.getElem?_eq_getElem l2
        have e3 : rows[t]? = some rows[t] := List.getElem?_eq_getElem l
        have q1 := a.at_ t _ _ e3 e1
        have q2 := b.at_ t _ _ e3 e2
        rw [ih] at q1
        have := bell_one (rk := rk) (by rw [loose_stand]; exact hr) q1 q2
        rw [e1, e2, this]
      · rw [List.getElem?_eq_none (by have := a.len; omega), List.getElem?_eq_none (by have := b.len; omega)]
  have h1 := key rows.length
  rw [List.take_of_length_le (by rw [a.len]; exact Nat.le_refl _), List.take_of_length_le (by rw [b.len]; exact Nat.le_refl _)] at h1
  exact h1
theorem WS.row {hs : List HR} {bs : List BR} {rows ms : List (List Int)} (h : WS hs bs rows ms) : ∀ m ∈ ms, m.length = hs.length := fun m hm => by
  obtain ⟨t, e⟩ := List.getElem?_of_mem hm
  have tl := (List.getElem?_eq_some_iff.mp e).1
  have e3 : rows[t]? = some (rows[t]'(by rw [← h.len]; exact tl)) := List.getElem?_eq_getElem _
  exact (h.at_ t _ _ e3 e).len
/-- the belts that come to a hand -/
def comingN (bs : List BR) (k : Nat) : List Nat := (List.range bs.length).filter fun i => decide (bs[i]?.map BR.to = some k)
def outsOf (hs : List HR) (m : List Int) : List Int := (doorsOf "out" hs).map (gD m)
/-! ### a loop over any iterator, whatever its turn does -/
theorem it_loop {J : It} {n : Nat} {B : V → Hp → (Hp → Prop) → Prop} {H0 : Hp} {Qd : Hp → Prop} (Pv : Nat → Hp → Prop) (h0 : Pv 0 H0) (go : ∀ i H, i < n → Pv i H → J.go i H) (st : ∀ H, Pv n H → J.stop n H)
    (hs : ∀ i x H H', i < n → Pv i H → J.yld i H x H' → B x H' (Pv (i + 1))) (hd : ∀ H, Pv n H → Qd H) :
    ∃ W : Nat → Nat → Hp → Prop, (∃ m, W 0 m H0) ∧ ∀ i m H, W i m H → (J.stop i H ∧ Qd H) ∨ (J.go i H ∧ ∃ Nx : Hp → Prop, (∀ H', Nx H' → ∃ m', m' < m ∧ W (i + 1) m' H') ∧ ∀ x H', J.yld i H x H' → B x H' Nx) := by
  refine ⟨fun i m H => i + m = n ∧ Pv i H, ⟨n, by omega, h0⟩, fun i m H ⟨e, p⟩ => ?_⟩
  by_cases k : i < n
  · exact .inr ⟨go i H k p, Pv (i + 1), fun H' p' => ⟨m - 1, by omega, by omega, p'⟩, fun x H' y => hs i x H H' k p y⟩
  · have z : i = n := by omega
    subst z
    exact .inl ⟨st H p, hd H p⟩
theorem r_at0 {xs : List V} {k : Nat} {x : V} (h : xs[k]? = some x) : atI xs (0 + (k : Int)) = some x := by
  rw [Int.zero_add]
  exact atI_nat h
theorem filt_succ {p : Nat → Bool} (i : Nat) : (List.range (i + 1)).filter p = (List.range i).filter p ++ (if p i = true then [i] else []) := by
  rw [List.range_succ, List.filter_append]
  cases h : p i <;> simp [h]
theorem filt_len {p : Nat → Bool} (i : Nat) : ((List.range i).filter p).length ≤ i := by
  refine Nat.le_trans (List.length_filter_le ..) ?_
  rw [List.length_range]
  exact Nat.le_refl _
section
variable {P : Program} {w : World} {K : PySem.W.Frag} {mg : Str → Option Value} {base : Heap}
def sp_made_of_two (K : PySem.W.Frag) : Sp := fun vs H Q _ => ∃ (wd : Str) (a b : Int), vs = [.str wd, .int a, .int b] ∧ Q (.int (mk2 wd a b)) H
theorem ok_made_of_two {f : Addr} {fd : FuncData} (F : Fun K "made_of_two" "made_of_two" s_made_of_two f fd) {C : Addr} (T : Top K mg C) : FnOk P w K mg base CX0 1 f fd ["word", "one", "other"] (sp_made_of_two K) := by
  refine F.ok sc_made_of_two (fun vs H Q E h => ?_) (fun cdv A outer s H vs Q E hr h => ?_)
  · obtain ⟨wd, a, b, rfl, _⟩ := h
    rfl
  obtain ⟨wd, a, b, rfl, q⟩ := h
  unfold mk2 at q
  refine ⟨_, (pss_cons (ps_if (pt_cmpR op_eq (pv 0) pe_str (nomark _)) (pss_one (ps_ret (pe_op op_add (pv 1) (pv 2)))) pss_nil)
      (pss_cons (ps_if (pt_cmpR op_eq (pv 0) pe_str (nomark _)) (pss_one (ps_ret (pe_op op_sub (pv 1) (pv 2)))) pss_nil)
      (pss_cons (ps_if (pt_cmpR op_eq (pv 0) pe_str (nomark _)) (pss_one (ps_ret (pe_ifExp (pt_cmpR op_lt (pv 1) (pv 2) (nomark _)) pe_int pe_int))) pss_nil)
      (pss_cons (ps_if (pt_cmpR op_eq (pv 0) pe_str (nomark _)) (pss_one (ps_ret (pe_callB (call_max2 rfl) (by rfl) T.m_max (by decide +kernel) (pa_cons (pv 1) (pa_cons (pv 2) pa_nil))))) pss_nil)
      (pss_one (ps_ret (pe_callB (call_min2 rfl) (by rfl) T.m_min (by decide +kernel) (pa_cons (pv 1) (pa_cons (pv 2) pa_nil))))))))), ?_⟩
  refine ⟨_, rfl, rfl, _, rfl, if_str (fun e => ?_) (fun e => ?_)⟩
  · rw [if_pos e] at q
    exact ⟨_, rfl, _, rfl, _, _, rfl, rfl, q⟩
  rw [if_neg e] at q
  refine ⟨_, rfl, rfl, _, rfl, if_str (fun e => ?_) (fun e => ?_)⟩
  · rw [if_pos e] at q
    exact ⟨_, rfl, _, rfl, _, _, rfl, rfl, q⟩
  rw [if_neg e] at q
  refine ⟨_, rfl, rfl, _, rfl, if_str (fun e => ?_) (fun e => ?_)⟩
  · rw [if_pos e] at q
    refine ⟨_, rfl, _, rfl, _, _, rfl, rfl, _, rfl, if_bl (fun c => ?_) (fun c => ?_)⟩
    · rw [if_pos (of_decide_eq_true c)] at q
      exact q
    · rw [if_neg (of_decide_eq_false c)] at q
      exact q
  rw [if_neg e] at q
  refine ⟨_, rfl, rfl, _, rfl, if_str (fun e => ?_) (fun e => ?_)⟩
  · rw [if_pos e] at q
    exact ⟨_, rfl, _, rfl, _, _, rfl, q⟩
  rw [if_neg e] at q
  exact ⟨_, rfl, _, rfl, _, _, rfl, q⟩
theorem inV_two {x y z : Str} : inV (.str x) [.str y, .str z] = true ↔ x = y ∨ x = z := by
  unfold inV
  simp only [List.any_cons, List.any_nil, Bool.or_false, Bool.or_eq_true, eqV, beq_iff_eq]
  constructor
  · rintro (h | h)
    · exact .inl h.symm
    · exact .inr h.symm
  · rintro (h | h)
    · exact .inl h.symm
    · exact .inr h.symm
theorem if_in2 {x y z : Str} {A B : Prop} (h1 : x = y ∨ x = z → A) (h2 : ¬ (x = y ∨ x = z) → B) : if (if false = true then !inV (.str x) [.str y, .str z] else inV (.str x) [.str y, .str z]) = true then A else B := by
  have e : (if false = true then !inV (.str x) [.str y, .str z] else inV (.str x) [.str y, .str z]) = inV (.str x) [.str y, .str z] := if_neg Bool.false_ne_true
  rw [e]
  exact if_bl (fun c => h1 (inV_two.mp c)) (fun c => h2 (fun k => by rw [inV_two.mpr k] at c; cases c))
def sp_made_by (K : PySem.W.Frag) : Sp := fun vs H Q _ => ∃ (r t : Addr) (rl ts : List V) (wd : Str) (n a b c : Int), vs = [.ref r, .ref t] ∧ SqT K H r rl ∧ SqT K H t ts ∧ rl[0]? = some (.str wd) ∧
  (wd = "always" ∨ wd = "times" → rl[1]? = some (.int n)) ∧ (wd ≠ "always" → ts[0]? = some (.int a)) ∧ (wd = "pick" ∨ (wd ≠ "always" ∧ wd ≠ "times" ∧ wd ≠ "same" ∧ wd ≠ "out") → ts[1]? = some (.int b)) ∧ (wd = "pick" → ts[2]? = some (.int c)) ∧
  (-(2 ^ 64) < n ∧ n < 2 ^ 64) ∧ ∀ H', Same H H' → Q (.int (mk wd n a b c)) H'
theorem ok_made_by {f : Addr} {fd : FuncData} (F : Fun K "made_by" "made_by" s_made_by f fd) {C : Addr} (T : Top K mg C) : FnOk P w K mg base CX0 2 f fd ["rule", "things"] (sp_made_by K) := by
  obtain ⟨f_made_of_two, fd_made_of_two, F_made_of_two, b_made_of_two, m_made_of_two⟩ := T.d_made_of_two
  have G_made_of_two := ok_made_of_two (P := P) (w := w) (base := base) F_made_of_two T
  refine F.ok sc_made_by (fun vs H Q E h => ?_) (fun cdv A outer s H vs Q E hr h => ?_)
  · obtain ⟨r, t, rl, ts, wd, n, a, b, c, rfl, _⟩ := h
    rfl
  obtain ⟨r, t, rl, ts, wd, n, a, b, c, rfl, hR, hT, r0, r1, t0, t1, t2, hn, q⟩ := h
  unfold mk at q
  refine ⟨_, (pss_cons (ps_set (i := 2) sc_made_by.nd rfl (Or.inl rfl) (pe_ix (ix_tupK K rfl) (pv 0) pe_int (fun _ _ => rfl)))
      (pss_cons (ps_if (pt_cmpR op_eq (pv 2) pe_str (nomark _)) (pss_one (ps_ret (pe_ix (ix_tupK K rfl) (pv 0) pe_int (fun _ _ => rfl)))) pss_nil)
      (pss_cons (ps_if (pt_cmpR op_eq (pv 2) pe_str (nomark _)) (pss_one (ps_ret (pe_op op_mul (pe_ix (ix_tupK K rfl) (pv 0) pe_int (fun _ _ => rfl)) (pe_ix (ix_tupK K rfl) (pv 1) pe_int (fun _ _ => rfl))))) pss_nil)
      (pss_cons (ps_if (pt_cmpR op_eq (pv 2) pe_str (nomark _)) (pss_one (ps_ret (pe_ifExp (pt_cmpR op_ne (pe_ix (ix_tupK K rfl) (pv 1) pe_int (fun _ _ => rfl)) pe_int (nomark _)) (pe_ix (ix_tupK K rfl) (pv 1) pe_int (fun _ _ => rfl)) (pe_ix (ix_tupK K rfl) (pv 1) pe_int (fun _ _ => rfl))))) pss_nil)
      (pss_cons (ps_if (pt_cmpR (op_in_seqK K rfl) (pv 2) (pe_tup (pa_cons pe_str (pa_cons pe_str pa_nil))) (by with_unfolding_all rfl)) (pss_one (ps_ret (pe_ix (ix_tupK K rfl) (pv 1) pe_int (fun _ _ => rfl)))) pss_nil)
      (pss_one (ps_ret (pe_call G_made_of_two (hr.mono (by decide)) (by rfl) m_made_of_two F_made_of_two.kp b_made_of_two .nil pass0 (pa_cons (pv 2) (pa_cons (pe_ix (ix_tupK K rfl) (pv 1) pe_int (fun _ _ => rfl)) (pa_cons (pe_ix (ix_tupK K rfl) (pv 1) pe_int (fun _ _ => rfl)) pa_nil))))))))))), ?_⟩
  refine ⟨_, rfl, r, _, _, _, rfl, rfl, hR, atI_nat (j := 0) r0, ?_⟩
  refine ⟨_, rfl, rfl, _, rfl, if_str (fun e1 => ?_) (fun e1 => ?_)⟩
  · have q := q H (fun _ _ e => e)
    rw [if_pos e1] at q
    exact ⟨_, rfl, r, _, _, _, rfl, rfl, hR, atI_nat (j := 1) (r1 (.inl e1)), q⟩
  refine ⟨_, rfl, rfl, _, rfl, if_str (fun e2 => ?_) (fun e2 => ?_)⟩
  · have q := q H (fun _ _ e => e)
    rw [if_neg e1, if_pos e2] at q
    exact ⟨_, rfl, r, _, _, _, rfl, rfl, hR, atI_nat (j := 1) (r1 (.inr e2)), _, rfl, t, _, _, _, rfl, rfl, hT, atI_nat (j := 0) (t0 e1), _, _, rfl, rfl, .inl hn, q⟩
  refine ⟨_, rfl, rfl, _, rfl, if_str (fun e3 => ?_) (fun e3 => ?_)⟩
  · have q := q H (fun _ _ e => e)
    rw [if_neg e1, if_neg e2, if_pos e3] at q
    refine ⟨_, rfl, t, _, _, _, rfl, rfl, hT, atI_nat (j := 0) (t0 e1), rfl, _, rfl, if_bl (fun k => ?_) (fun k => ?_)⟩
    · have k2 : ¬ a = 0 := fun z => by
        rw [z] at k
        exact absurd k (by decide)
      rw [if_neg k2] at q
      exact ⟨_, rfl, t, _, _, _, rfl, rfl, hT, atI_nat (j := 1) (t1 (.inl e3)), q⟩
    · have k2 : a = 0 := by
        by_cases z : a = 0
        · exact z
        · have k3 : (!decide (V.int a = V.int 0)) = false := k
          rw [decide_eq_false (fun y => z (V.int.inj y))] at k3
          cases k3
      rw [if_pos k2] at q
      exact ⟨_, rfl, t, _, _, _, rfl, rfl, hT, atI_nat (j := 2) (t2 e3), q⟩
  refine ⟨_, rfl, (by show 2 ≤ sizeLine; decide), fun p np => ?_⟩
  have s1 := same_new (o := .tup [V.str "same", V.str "out"]) np
  have q := q _ s1
  rw [if_neg e1, if_neg e2, if_neg e3] at q
  refine ⟨p, _, rfl, .inr (SqT.of upd_same), rfl, rfl, _, rfl, if_in2 (fun e4 => ?_) (fun e4 => ?_)⟩
  · rw [if_pos e4] at q
    exact ⟨_, rfl, t, _, _, _, rfl, rfl, same_seqT s1 hT, atI_nat (j := 0) (t0 e1), q⟩
  · rw [if_neg e4] at q
    exact ⟨_, rfl, _, rfl, t, _, _, _, rfl, rfl, same_seqT s1 hT, atI_nat (j := 0) (t0 e1), _, rfl, t, _, _, _, rfl, rfl, same_seqT s1 hT, atI_nat (j := 1) (t1 (.inr ⟨e1, e2, fun z => e4 (.inl z), fun z => e4 (.inr z)⟩)), wd, a, b, rfl, q⟩
end
section
variable {P : Program} {w : World} {K : PySem.W.Frag} {mg : Str → Option Value} {base : Heap}
def sp_comings (K : PySem.W.Frag) : Sp := fun vs H Q _ => ∃ (r : Addr) (hs : List HR) (bs : List BR) (k : Nat), vs = [.ref r, nV k] ∧ RoomAt H r hs bs ∧ bs.length ≤ 400 ∧ ∀ (p : Addr) (H' : Hp), H p = none → H' p = some (.lst ((comingN bs k).map nV)) → Same H H' → Q (.ref p) H'
theorem ok_comings {f : Addr} {fd : FuncData} (F : Fun K "comings" "comings" s_comings f fd) {C : Addr} (T : Top K mg C) : FnOk P w K mg base CX0 1 f fd ["room", "hand"] (sp_comings K) := by
  refine F.ok sc_comings (fun vs H Q E h => ?_) (fun cdv A outer s H vs Q E hr h => ?_)
  · obtain ⟨r, hs, bs, k, rfl, _⟩ := h
    rfl
  obtain ⟨r, hs, bs, k, rfl, hR, lb, q⟩ := h
  obtain ⟨ha, ba, hv, bv, er, eh, eb, alh, alb⟩ := hR.ex
  have lbv := alb.length
  refine ⟨_, (pss_one (ps_ret (pe_lc (own := [("number", 2), ("belt", 3)]) (g := gTup K 2 (gCons (gName 2) (gCons (gName 3) gNil))) (by rfl) sc_comings.nd (pi_enumT K rfl (by rfl) T.m_enumerate (pa_cons (pe_ix (ix_tupK K rfl) (pv 0) pe_int (fun _ _ => rfl)) pa_nil)) (blkOk_by (own := [("number", 2), ("belt", 3)]) (N := N_comings) (sc := defScope s_comings) (by decide +kernel)) (fun _ _ _ _ _ => (pg_tupK K rfl rfl (pgs_cons (pg_name (i := 2) sc_comings.nd rfl (Or.inl rfl)) (pgs_cons (pg_name (i := 3) sc_comings.nd rfl (Or.inl rfl)) pgs_nil)))) (fun _ _ _ _ _ => pts_one (pt_cmpR op_eq (pe_ix (ix_tupK K rfl) (pv 3) pe_int (fun _ _ => rfl)) (pv 1) (nomark _))) (fun _ _ _ _ _ => (pv 2))))), ?_⟩
  refine ⟨_, rfl, r, _, _, _, rfl, rfl, SqT.of er, atI_nat (j := 1) rfl, ba, bv, rfl, SqT.of eb, fun D nD => lc_it (J := IteT K ba bv) (n := bv.length) (fun i H5 => H5 D = some (.lst (((List.range i).filter fun j => decide (bs[j]?.map BR.to = some k)).map nV)) ∧ Same H H5) ⟨upd_same, same_new nD⟩ ?_ ?_ ?_ ?_⟩
  · rintro i H5 hi ⟨hD, s5⟩
    exact ⟨SqT.of (s5 _ _ eb), hi⟩
  · rintro H5 ⟨hD, s5⟩
    exact ⟨SqT.of (s5 _ _ eb), rfl⟩
  · rintro i x H5 H6 hi ⟨hD, s5⟩ ⟨t, y, rfl, nt, rfl, ey⟩
    obtain ⟨b, eb2, ⟨t2, g, rfl, e1, e2⟩⟩ := alb.getL ey
    have s6 := s5.trans (same_new (o := .tup [V.int ((i : Nat) : Int), V.ref t2]) nt)
    have hD6 := same_new (o := .tup [V.int ((i : Nat) : Int), V.ref t2]) nt _ _ hD
    have few := filt_len (p := fun j => decide (bs[j]?.map BR.to = some k)) i
    refine ⟨t, _, rfl, SqT.of upd_same, rfl, _, _, rfl, _, _, rfl, rfl, rfl, _, rfl, t2, _, _, _, rfl, rfl, SqT.of (s6 _ _ e1), atI_nat (j := 1) rfl, _, rfl, rfl, _, rfl, if_bl (fun c => ?_) (fun c => ?_)⟩
    · have c : b.to = k := by have := V.int.inj (of_decide_eq_true c); omega
      refine ⟨_, rfl, _, hD6, by rw [List.length_map]; exact small1000 (by omega), ?_, Same.own s6 nD⟩
      rw [upd_same, filt_succ, if_pos (decide_eq_true (by rw [eb2, ← c]; rfl)), List.map_append]
      rfl
    · have c : ¬ b.to = k := fun z => of_decide_eq_false c (by rw [z])
      refine ⟨?_, s6⟩
      rw [filt_succ, if_neg fun z => c (by have := of_decide_eq_true z; rw [eb2] at this; exact Option.some.inj this), List.append_nil]
      exact hD6
  · rintro H5 ⟨hD, s5⟩
    refine q D H5 nD ?_ s5
    rw [hD, lbv]
    rfl
end
theorem soon_one {ls : List (Nat × Nat)} : ∀ {left o1 o2 : List Nat}, Soon ls left o1 → Soon ls left o2 → o1 = o2 := by
  intro left o1 o2 h
  induction h generalizing o2 with
  | nil =>
    intro h2
    cases h2 with
    | nil => rfl
    | cons a => cases a
  | cons a b c d ih =>
    intro h2
    cases h2 with
    | nil => cases a
    | @cons _ ord k2 a2 b2 c2 d2 =>
      have e := Nat.le_antisymm (c _ a2 b2) (c2 _ a b)
      subst e
      rw [ih d2]
theorem soon_len {ls : List (Nat × Nat)} {left ord : List Nat} (h : Soon ls left ord) : ord.length = left.length := by
  induction h with
  | nil => rfl
  | cons a b c d ih =>
    rw [List.length_cons, ih, List.length_erase_of_mem a]
    have := List.length_pos_of_mem a
    omega
theorem soon_mem {ls : List (Nat × Nat)} {left ord : List Nat} (h : Soon ls left ord) : ∀ x ∈ ord, x ∈ left := by
  induction h with
  | nil => exact fun _ z => nomatch z
  | cons a b c d ih =>
    intro x hx
    rcases List.mem_cons.mp hx with e | e
    · rw [e]; exact a
    · exact List.mem_of_mem_erase (ih x e)
/-- a tuple of whole numbers -/
def RowAt (H : Hp) (v : V) (m : List Int) : Prop := ∃ t : Addr, v = .ref t ∧ H t = some (.tup (m.map V.int))
theorem RowAt.keep {H H' : Hp} {v : V} {m : List Int} (a : RowAt H v m) (k : TK H H') : RowAt H' v m := by
  obtain ⟨t, e, h⟩ := a
  exact ⟨t, e, k _ _ h⟩
theorem gD_get {m : List Int} {k : Nat} (h : k < m.length) : m[k]? = some (gD m k) := by
  show _ = some (m.getD k 0)
  rw [List.getD_eq_getElem?_getD, List.getElem?_eq_getElem h]; rfl
theorem at_row {m : List Int} {k : Nat} (h : k < m.length) : atI (m.map V.int) ((k : Nat) : Int) = some (.int (gD m k)) := atI_nat (by rw [List.getElem?_map, gD_get h]; rfl)
theorem filt_map {α β : Type} (p : Option α → Bool) (g : Option α → β) (l : List α) : ∀ n, n ≤ l.length → ((List.range n).filter fun i => p l[i]?).map (fun i => g l[i]?) = ((l.take n).filter fun b => p (some b)).map fun b => g (some b)
  | 0, _ => rfl
  | n + 1, h => by
    have e : l[n]? = some l[n] := List.getElem?_eq_getElem (by omega)
    rw [filt_succ, List.map_append, filt_map p g l n (by omega), List.take_add_one, e, List.filter_append, List.map_append]
    congr 1
    cases k : p (some l[n])
    · rw [if_neg Bool.false_ne_true]
      simp [k]
    · rw [if_pos rfl]
      simp [k, e]
def valI (cur : List BR) (f : Nat → Int) (i : Nat) : Int := match cur[i]? with | some b => valB f b | none => 0
theorem coming_takes (cur : List BR) (f : Nat → Int) (k : Nat) : (comingN cur k).map (valI cur f) = takes cur f k := by
  have := filt_map (fun o => decide (o.map BR.to = some k)) (fun o : Option BR => match o with | some b => valB f b | none => 0) cur cur.length (Nat.le_refl _)
  rw [List.take_length] at this
  refine this.trans ?_
  unfold takes
  congr 1
  refine List.filter_congr fun b _ => ?_
  simp
theorem takes_len {cur : List BR} {f : Nat → Int} {k : Nat} : (takes cur f k).length = (cur.map BR.to).count k := by
  unfold takes
  rw [List.length_map, List.count_eq_countP, List.countP_map, List.countP_eq_length_filter]
  congr 1
theorem coming_mem {cur : List BR} {k i : Nat} (h : i ∈ comingN cur k) : ∃ b, cur[i]? = some b ∧ b.to = k := by
  unfold comingN at h
  have h := (List.mem_filter.mp h).2
  have h := of_decide_eq_true h
  cases e : cur[i]? with
  | none => rw [e] at h; cases h
  | some b => rw [e] at h; exact ⟨b, rfl, Option.some.inj h⟩
theorem coming_len {cur : List BR} {k : Nat} : (comingN cur k).length ≤ cur.length := filt_len _
/-- what made_by asks of a good hand and what it takes -/
theorem getD_map {xs : List Int} {j : Nat} (h : j < xs.length) : (xs.map V.int)[j]? = some (.int (xs.getD j 0)) := by
  rw [List.getElem?_map, List.getElem?_eq_getElem h, List.getD_eq_getElem?_getD, List.getElem?_eq_getElem h]; rfl
theorem needs_some {wd : Str} (h1 : wd ≠ "in") (h2 : wd ≠ "always") : 1 ≤ needs wd := by
  unfold needs
  rw [if_neg (by simp [h1, h2])]
  split
  · exact Int.le_refl _
  · split <;> decide
theorem needs_two {wd : Str} (h1 : wd ≠ "in") (h2 : wd ≠ "always") (h3 : wd ≠ "times") (h4 : wd ≠ "same") (h5 : wd ≠ "out") : 2 ≤ needs wd := by
  unfold needs
  rw [if_neg (by simp [h1, h2]), if_neg (by simp [h3, h4, h5])]
  split <;> decide
theorem needs_pick : needs "pick" = 3 := by decide +kernel
structure Args (h : HR) (rl ts : List V) (n a b c : Int) : Prop where
  r0 : rl[0]? = some (.str h.wd)
  r1 : h.wd = "always" ∨ h.wd = "times" → rl[1]? = some (.int n)
  t0 : h.wd ≠ "always" → ts[0]? = some (.int a)
  t1 : h.wd = "pick" ∨ (h.wd ≠ "always" ∧ h.wd ≠ "times" ∧ h.wd ≠ "same" ∧ h.wd ≠ "out") → ts[1]? = some (.int b)
  t2 : h.wd = "pick" → ts[2]? = some (.int c)
  big : -(2 ^ 64) < n ∧ n < 2 ^ 64
theorem args_of {h : HR} (g : GoodHand h) (w : h.wd ≠ "in") {xs : List Int} (hl : ((xs.length : Nat) : Int) = needs h.wd) : Args h (ruleL h) (xs.map V.int) (h.no.getD 0) (xs.getD 0 0) (xs.getD 1 0) (xs.getD 2 0) := by
  refine ⟨rfl, fun e => ?_, fun e => getD_map ?_, fun e => getD_map ?_, fun e => getD_map ?_, ?_⟩
  · have k : h.no.isSome = true := by
      rcases g.1 with k | k
      · exact k.no.mpr e.symm
      · exfalso
        rcases k.1 with z | z <;> rcases e with e | e <;> rw [z] at e <;> exact absurd e (by decide +kernel)
    obtain ⟨n, hn⟩ := Option.isSome_iff_exists.mp k
    show (V.str h.wd :: (match h.no with | none => [] | some n => [.int n]))[1]? = _
    rw [hn]
    rfl
  · have := needs_some w e
    omega
  · rcases e with e | ⟨e1, e2, e3, e4⟩
    · rw [e, needs_pick] at hl
      omega
    · have := needs_two w e1 e2 e3 e4
      omega
  · rw [e, needs_pick] at hl
    omega
  · cases e : h.no with
    | none => decide
    | some n =>
      rcases g.1 with k | k
      · have := k.big n e
        show -(2 ^ 64) < n ∧ n < 2 ^ 64
        omega
      · rw [k.2] at e
        cases e
section
variable {P : Program} {w : World} {K : PySem.W.Frag} {mg : Str → Option Value} {base : Heap}
structure BellOk (hs : List HR) (cur : List BR) : Prop where
  hands : hs.length ≤ 12
  belts : cur.length ≤ 20
  good : ∀ h ∈ hs, GoodHand h
  ends : ∀ b ∈ cur, b.one < hs.length ∧ b.to < hs.length
  count : ∀ k h, hs[k]? = some h → (((cur.map BR.to).count k : Nat) : Int) = needs h.wd
theorem dget_of {H : Hp} {a : Addr} {kvs : List (Key × V)} {k : Nat} {o : Option V} (e : H a = some (.dK kvs)) (h : valV kvs (kN k) = o) : DGet H a (nV k) o := h ▸ DGet.k (k := kN k) e
theorem dget0 {H : Hp} {a : Addr} {kvs : List (Key × V)} {k : Nat} {o : Option V} (e : H a = some (.dK kvs)) (h : valV kvs (kN k) = o) : DGet H a (.int (0 + ((k : Nat) : Int))) o := by
  rw [Int.zero_add]
  exact dget_of e h
end
/-- a list or a tuple of rows -/
def RowsAt (H : Hp) (a : Addr) (rows : List (List Int)) : Prop := ∃ rv : List V, (H a = some (.lst rv) ∨ H a = some (.tup rv)) ∧ All2 (RowAt H) rv rows
theorem RowsAt.same {H H' : Hp} {a : Addr} {rows : List (List Int)} (h : RowsAt H a rows) (s : Same H H') : RowsAt H' a rows := by
  obtain ⟨rv, e, al⟩ := h
  exact ⟨rv, e.imp (s _ _) (s _ _), al.imp fun _ _ z => z.keep (TK.same s)⟩
theorem either_stays {H H' : Hp} {a : Addr} {xs : List V} (s : Same H H') (h : H a = some (.lst xs) ∨ H a = some (.tup xs)) : H' a = H a := by
  rcases h with e | e <;> rw [s _ _ e, e]
theorem or_seq {K : PySem.W.Frag} {te : TE} {σ : L2.St} {H : Hp} {R : It → Hp → Prop} {a : Addr} {xs : List V} (ht : ∀ Q : VK, Q (.ref a) H → te σ H Q) (h : H a = some (.lst xs) ∨ H a = some (.tup xs))
    (k : ∀ J : It, (∀ i H', H' a = H a → i < xs.length → J.go i H') → (∀ H', H' a = H a → J.stop xs.length H') → (∀ i H' x H'', H' a = H a → J.yld i H' x H'' → xs[i]? = some x ∧ H'' = H') → R J H) :
    iList K te σ H R ∨ iTup K te σ H R := by
  rcases h with e | e
  · refine .inl (ht _ ⟨a, rfl, ⟨_, SqL.of e⟩, k _ (fun i H' q hi => ?_) (fun H' q => ?_) fun i H' x H'' q y => ?_⟩)
    · exact ⟨xs, _, SqL.of (q.trans e), List.getElem?_eq_getElem hi⟩
    · exact ⟨xs, SqL.of (q.trans e), Nat.le_refl _⟩
    · exact ⟨y.2 _ (SqL.of (q.trans e)), y.1⟩
  · refine .inr (ht _ ⟨a, rfl, ⟨_, SqT.of e⟩, k _ (fun i H' q hi => ?_) (fun H' q => ?_) fun i H' x H'' q y => ?_⟩)
    · exact ⟨xs, _, SqT.of (q.trans e), List.getElem?_eq_getElem hi⟩
    · exact ⟨xs, SqT.of (q.trans e), Nat.le_refl _⟩
    · exact ⟨y.2 _ (SqT.of (q.trans e)), y.1⟩
theorem map_to (bs : List BR) (ms : List (List Int)) : (stand bs ms).map BR.to = bs.map BR.to := by
  rw [List.map_map]
  exact List.map_congr_left fun b _ => stand_to ms b
theorem coming_stand (bs : List BR) (ms : List (List Int)) (k : Nat) : comingN (stand bs ms) k = comingN bs k := by
  unfold comingN
  rw [List.length_map]
  refine List.filter_congr fun i _ => ?_
  rw [List.getElem?_map]
  cases bs[i]? with
  | none => rfl
  | some b =>
    show decide (some (standB ms b).to = some k) = decide (some b.to = some k)
    rw [stand_to]
theorem RoomOk.bell {hs : List HR} {bs : List BR} (ok : RoomOk hs bs) (ms : List (List Int)) : BellOk hs (stand bs ms) := by
  refine ⟨ok.hands, by rw [List.length_map]; exact ok.many, ok.good, fun b hb => ?_, fun k h e => by rw [map_to]; exact ok.count k h e⟩
  obtain ⟨c, hc, rfl⟩ := List.mem_map.mp hb
  rw [stand_one, stand_to]
  exact ok.ends c hc
theorem RoomOk.rk {hs : List HR} {bs : List BR} (ok : RoomOk hs bs) : ∃ rk : Nat → Int, ∀ p ∈ looseOf bs, rk p.1 < rk p.2 := by
  obtain ⟨rk, h⟩ := ok.rank
  refine ⟨rk, fun p hp => ?_⟩
  obtain ⟨b, hb, rfl⟩ := List.mem_map.mp hp
  obtain ⟨h1, h2⟩ := List.mem_filter.mp hb
  exact h b h1 (List.isEmpty_iff.mp h2)
theorem out_lt {hs : List HR} {m : List Int} (hl : m.length = hs.length) : ∀ k ∈ doorsOf "out" hs, k < m.length := fun k hk => by
  obtain ⟨h, e, _⟩ := mem_doors.mp hk
  have := (List.getElem?_eq_some_iff.mp e).1
  omega
/-! ### two things alike (found == due, by kinds, as deep as need be) -/
def Lf (v : V) : Prop := (∃ a : Int, v = .int a) ∨ ∃ s : Str, v = .str s ∧ PyData.canLay0 (.str s) = true
def Al : Nat → Hp → V → V → Prop
  | 0, _, _, _ => False
  | n + 1, H, v, u => (Lf v ∧ v = u) ∨ ∃ (p q : Addr) (xs ys : List V), v = .ref p ∧ u = .ref q ∧ ((H p = some (.lst xs) ∧ H q = some (.lst ys)) ∨ (H p = some (.tup xs) ∧ H q = some (.tup ys))) ∧ xs.length ≤ 400 ∧ All2 (Al n H) xs ys
theorem Al.same {H H' : Hp} (s : Same H H') : ∀ {n : Nat} {v u : V}, Al n H v u → Al n H' v u
  | 0, _, _, h => h
  | n + 1, _, _, .inl h => .inl h
  | n + 1, _, _, .inr h => by
    obtain ⟨p, q, xs, ys, e1, e2, e3, e4, e5⟩ := h
    exact .inr ⟨p, q, xs, ys, e1, e2, e3.imp (fun z => ⟨s _ _ z.1, s _ _ z.2⟩) (fun z => ⟨s _ _ z.1, s _ _ z.2⟩), e4, e5.imp fun _ _ z => Al.same s z⟩
theorem Al.int {n : Nat} {H : Hp} {a : Int} : Al (n + 1) H (.int a) (.int a) := .inl ⟨.inl ⟨a, rfl⟩, rfl⟩
theorem Al.str {n : Nat} {H : Hp} {s : Str} (h : PyData.canLay0 (.str s) = true) : Al (n + 1) H (.str s) (.str s) := .inl ⟨.inr ⟨s, rfl, h⟩, rfl⟩
theorem Al.ints {n : Nat} {H : Hp} : ∀ m : List Int, All2 (Al (n + 1) H) (m.map V.int) (m.map V.int)
  | [] => .nil
  | _ :: m => .cons .int (Al.ints m)
theorem Al.tup {n : Nat} {H : Hp} {p q : Addr} {xs ys : List V} (h1 : H p = some (.tup xs)) (h2 : H q = some (.tup ys)) (l : xs.length ≤ 400) (a : All2 (Al n H) xs ys) : Al (n + 1) H (.ref p) (.ref q) := .inr ⟨p, q, xs, ys, rfl, rfl, .inr ⟨h1, h2⟩, l, a⟩
theorem Al.lst {n : Nat} {H : Hp} {p q : Addr} {xs ys : List V} (h1 : H p = some (.lst xs)) (h2 : H q = some (.lst ys)) (l : xs.length ≤ 400) (a : All2 (Al n H) xs ys) : Al (n + 1) H (.ref p) (.ref q) := .inr ⟨p, q, xs, ys, rfl, rfl, .inl ⟨h1, h2⟩, l, a⟩
def spA (n : Nat) : Sp := fun vs H Q _ => ∃ v u : V, vs = [v, u] ∧ Al n H v u ∧ ∀ H', Same H H' → Q (.bl true) H'
theorem kit_lst {K : PySem.W.Frag} : PySem.W.kitAny K (.type "list") [.type "list", .type "tuple"] = some true := by
  unfold PySem.W.kitAny
  rw [kit_ty (show kitB "list" "list" = some true by decide +kernel)]
theorem kit_tup {K : PySem.W.Frag} : PySem.W.kitAny K (.type "tuple") [.type "list", .type "tuple"] = some true := by
  unfold PySem.W.kitAny
  rw [kit_ty (show kitB "tuple" "list" = some false by decide +kernel)]
  unfold PySem.W.kitAny
  rw [kit_ty (show kitB "tuple" "tuple" = some true by decide +kernel)]
theorem kit_int {K : PySem.W.Frag} : PySem.W.kitAny K (.type "int") [.type "list", .type "tuple"] = some false := by
  unfold PySem.W.kitAny
  rw [kit_ty (show kitB "int" "list" = some false by decide +kernel)]
  unfold PySem.W.kitAny
  rw [kit_ty (show kitB "int" "tuple" = some false by decide +kernel)]
  rfl
theorem or_zip {K : PySem.W.Frag} {ta : TA} {σ : L2.St} {H : Hp} {R : It → Hp → Prop} {p q : Addr} {xs ys : List V} (ht : ∀ Q : List V → Hp → Prop, Q [.ref p, .ref q] H → ta σ H Q) (h : (H p = some (.lst xs) ∧ H q = some (.lst ys)) ∨ (H p = some (.tup xs) ∧ H q = some (.tup ys))) (hl : xs.length = ys.length)
    (k : ∀ J : It, (∀ i H', (H' p = H p ∧ H' q = H q) → i < xs.length → J.go i H') → (∀ H', (H' p = H p ∧ H' q = H q) → J.stop xs.length H') → (∀ i H' v H'', (H' p = H p ∧ H' q = H q) → J.yld i H' v H'' → ∃ T x y, v = .ref T ∧ H' T = none ∧ H'' = upd H' T (.tup [x, y]) ∧ xs[i]? = some x ∧ ys[i]? = some y) → R J H) :
    RZ.iZipA K ta σ H R := by
  rcases h with ⟨e1, e2⟩ | ⟨e1, e2⟩
  · refine ht _ ⟨p, q, xs, ys, rfl, .inl ⟨SqL.of e1, SqL.of e2, k _ (fun i H' st hi => ?_) (fun H' st => ?_) fun i H' v H'' st y => ?_⟩⟩
    · exact ⟨xs, ys, _, _, SqL.of (st.1.trans e1), SqL.of (st.2.trans e2), List.getElem?_eq_getElem hi, List.getElem?_eq_getElem (by omega)⟩
    · exact ⟨xs, ys, SqL.of (st.1.trans e1), SqL.of (st.2.trans e2), .inl (Nat.le_refl _)⟩
    · obtain ⟨T, x, z, q1, q2, q3, q4, q5⟩ := y
      exact ⟨T, x, z, q1, q2, q3, q4 _ (SqL.of (st.1.trans e1)), q5 _ (SqL.of (st.2.trans e2))⟩
  · refine ht _ ⟨p, q, xs, ys, rfl, .inr ⟨SqT.of e1, SqT.of e2, k _ (fun i H' st hi => ?_) (fun H' st => ?_) fun i H' v H'' st y => ?_⟩⟩
    · exact ⟨xs, ys, _, _, SqT.of (st.1.trans e1), SqT.of (st.2.trans e2), List.getElem?_eq_getElem hi, List.getElem?_eq_getElem (by omega)⟩
    · exact ⟨xs, ys, SqT.of (st.1.trans e1), SqT.of (st.2.trans e2), .inl (Nat.le_refl _)⟩
    · obtain ⟨T, x, z, q1, q2, q3, q4, q5⟩ := y
      exact ⟨T, x, z, q1, q2, q3, q4 _ (SqT.of (st.1.trans e1)), q5 _ (SqT.of (st.2.trans e2))⟩
theorem kit_str {K : PySem.W.Frag} : PySem.W.kitAny K (.type "str") [.type "list", .type "tuple"] = some false := by
  unfold PySem.W.kitAny
  rw [kit_ty (show kitB "str" "list" = some false by decide +kernel)]
  unfold PySem.W.kitAny
  rw [kit_ty (show kitB "str" "tuple" = some false by decide +kernel)]
  rfl
section
variable {P : Program} {w : World} {K : PySem.W.Frag} {mg : Str → Option Value} {base : Heap}
theorem alike_step {C : Addr} (T : Top K mg C) (n : Nat) (below : ∀ (f : Addr) (fd : FuncData), Fun K "_law_alike" "_law_alike" s_law_alike f fd → FnOk P w K mg base CX0 n f fd ["_law_found", "_law_due"] (spA n)) {f : Addr} {fd : FuncData} (F : Fun K "_law_alike" "_law_alike" s_law_alike f fd) :
    FnOk P w K mg base CX0 (n + 1) f fd ["_law_found", "_law_due"] (spA (n + 1)) := by
  obtain ⟨f_law_alike, fd_law_alike, F_law_alike, b_law_alike, m_law_alike⟩ := T.d_law_alike
  have G_law_alike := below f_law_alike fd_law_alike F_law_alike
  refine F.ok sc_law_alike (fun vs H Q E h => ?_) (fun cdv A outer s H vs Q E hr h => ?_)
  · obtain ⟨v, u, rfl, _⟩ := h
    rfl
  obtain ⟨v, u, rfl, al, q⟩ := h
  refine ⟨_, (pss_cons (ps_if (pt_val (pe_callB (call_isiTK K rfl) (by rfl) T.m_isinstance (by decide +kernel) (pa_cons (pv 1) (pa_cons (pe_tup (pa_cons (pe_bltn (v := .ty "list") (by rfl) T.m_list (by decide +kernel) rfl) (pa_cons (pe_bltn (v := .ty "tuple") (by rfl) T.m_tuple (by decide +kernel) rfl) pa_nil))) pa_nil)))) (pss_cons (ps_if (PW.pt (pw_or (pt_cmpR op_ne (pe_callB (call_isiKK K rfl) (by rfl) T.m_isinstance (by decide +kernel) (pa_cons (pv 0) (pa_cons (pe_bltn (v := .ty "list") (by rfl) T.m_list (by decide +kernel) rfl) pa_nil))) (pe_callB (call_isiKK K rfl) (by rfl) T.m_isinstance (by decide +kernel) (pa_cons (pv 1) (pa_cons (pe_bltn (v := .ty "list") (by rfl) T.m_list (by decide +kernel) rfl) pa_nil))) (nomark _)) (pw_or1 (pt_cmpR op_ne (pe_callB (call_isiKK K rfl) (by rfl) T.m_isinstance (by decide +kernel) (pa_cons (pv 0) (pa_cons (pe_bltn (v := .ty "tuple") (by rfl) T.m_tuple (by decide +kernel) rfl) pa_nil))) (pe_callB (call_isiKK K rfl) (by rfl) T.m_isinstance (by decide +kernel) (pa_cons (pv 1) (pa_cons (pe_bltn (v := .ty "tuple") (by rfl) T.m_tuple (by decide +kernel) rfl) pa_nil))) (nomark _))))) (pss_one (ps_ret pe_bl)) pss_nil)
      (pss_one (ps_ret (pe_and (pe_cmpR op_eq (pe_callB (call_len_seqK K rfl) (by rfl) T.m_len (by decide +kernel) (pa_cons (pv 0) pa_nil)) (pe_callB (call_len_seqK K rfl) (by rfl) T.m_len (by decide +kernel) (pa_cons (pv 1) pa_nil)) (nomark _)) (pe_one (pe_callB (cr_allK K rfl rfl) (by rfl) T.m_all (by decide +kernel) (pa_cons (pe_lc (own := [("_law_one", 2), ("_law_other", 3)]) (g := gTup K 2 (gCons (gName 2) (gCons (gName 3) gNil))) (tt := tYes) (by rfl) sc_law_alike.nd (pi_zipAK K rfl (by rfl) T.m_zip (pa_cons (pv 0) (pa_cons (pv 1) pa_nil))) (blkOk_by (own := [("_law_one", 2), ("_law_other", 3)]) (N := N_law_alike) (sc := defScope s_law_alike) (by decide +kernel)) (fun _ _ _ _ _ => (pg_tupK K rfl rfl (pgs_cons (pg_name (i := 2) sc_law_alike.nd rfl (Or.inl rfl)) (pgs_cons (pg_name (i := 3) sc_law_alike.nd rfl (Or.inl rfl)) pgs_nil)))) (fun _ _ _ _ _ => pts_nil) (fun _ _ _ _ _ => (pe_call G_law_alike (hr.mono (Nat.le_refl _)) (by rfl) m_law_alike F_law_alike.kp b_law_alike .nil pass0 (pa_cons (pv 2) (pa_cons (pv 3) pa_nil))))) pa_nil))))))) pss_nil)
      (pss_one (ps_ret (pe_and (pe_cmpR op_eq (pe_callB (call_isiKK K rfl) (by rfl) T.m_isinstance (by decide +kernel) (pa_cons (pv 0) (pa_cons (pe_bltn (v := .ty "bool") (by rfl) T.m_bool (by decide +kernel) rfl) pa_nil))) (pe_callB (call_isiKK K rfl) (by rfl) T.m_isinstance (by decide +kernel) (pa_cons (pv 1) (pa_cons (pe_bltn (v := .ty "bool") (by rfl) T.m_bool (by decide +kernel) rfl) pa_nil))) (nomark _)) (pe_one (pe_cmpR (op_eqDK K rfl hr.units) (pv 0) (pv 1) (nomark _))))))), ?_⟩
  refine ⟨_, rfl, (by show 2 ≤ sizeLine; decide), fun tp ntp => ?_⟩
  rcases al with ⟨lf, rfl⟩ | ⟨p, q2, xs, ys, rfl, rfl, kinds, few, al⟩
  · rcases lf with ⟨a, rfl⟩ | ⟨a, rfl, lay⟩
    · refine ⟨_, tp, _, _, _, false, rfl, upd_same, .cons (.ty "list") (.cons (.ty "tuple") .nil), .base (.int _), kit_int, _, rfl, if_bl (fun z => nomatch z) (fun _ => ?_)⟩
      refine ⟨_, rfl, _, _, _, _, false, rfl, .ty "bool", .base (.int _), kit_ty (by decide +kernel), _, rfl, _, _, _, _, false, rfl, .ty "bool", .base (.int _), kit_ty (by decide +kernel), rfl, _, rfl, if_bl (fun _ => ?_) (fun z => nomatch z)⟩
      refine ⟨_, rfl, _, rfl, _, _, .int a, .int a, rfl, rfl, ?_⟩
      rw [show PyData.eqv (.int a) (.int a) = true by simp [PyData.eqv]]
      exact q _ (same_new ntp)
    · refine ⟨_, tp, _, _, _, false, rfl, upd_same, .cons (.ty "list") (.cons (.ty "tuple") .nil), .base (.str _), kit_str, _, rfl, if_bl (fun z => nomatch z) (fun _ => ?_)⟩
      refine ⟨_, rfl, _, _, _, _, false, rfl, .ty "bool", .base (.str _), kit_ty (by decide +kernel), _, rfl, _, _, _, _, false, rfl, .ty "bool", .base (.str _), kit_ty (by decide +kernel), rfl, _, rfl, if_bl (fun _ => ?_) (fun z => nomatch z)⟩
      have sh : SeqAt.shaped (.str a) = true := by
        unfold SeqAt.shaped
        rw [lay]
        rfl
      refine ⟨_, rfl, _, rfl, _, _, .str a, .str a, sh, sh, ?_⟩
      rw [show PyData.eqv (.str a) (.str a) = true by simp [PyData.eqv]]
      exact q _ (same_new ntp)
  rcases kinds with ⟨hp, hq⟩ | ⟨hp, hq⟩
  · have hp1 := same_new (o := .tup [V.ty "list", V.ty "tuple"]) ntp _ _ hp
    have hq1 := same_new (o := .tup [V.ty "list", V.ty "tuple"]) ntp _ _ hq
    refine ⟨_, tp, _, _, _, true, rfl, upd_same, .cons (.ty "list") (.cons (.ty "tuple") .nil), .base (.lst hq1), kit_lst, _, rfl, if_bl (fun _ => ?_) (fun z => nomatch z)⟩
    refine ⟨_, rfl, _, _, _, _, true, rfl, .ty "list", .base (.lst hp1), kit_ty (by decide +kernel), _, rfl, _, _, _, _, true, rfl, .ty "list", .base (.lst hq1), kit_ty (by decide +kernel), rfl, _, rfl, if_bl (fun z => nomatch z) (fun _ => ?_)⟩
    refine ⟨_, rfl, _, _, _, _, false, rfl, .ty "tuple", .base (.lst hp1), kit_ty (by decide +kernel), _, rfl, _, _, _, _, false, rfl, .ty "tuple", .base (.lst hq1), kit_ty (by decide +kernel), rfl, _, rfl, if_bl (fun z => nomatch z) (fun _ => ?_)⟩
    refine ⟨_, rfl, p, _, rfl, .inl (SqL.of hp1), _, rfl, q2, _, rfl, .inl (SqL.of hq1), rfl, _, rfl, if_bl (fun _ => ?_) (fun z => ?_)⟩
    case refine_2 =>
      rw [al.length, decide_eq_true rfl] at z
      cases z
    dsimp only [tNext, tRet, tCB, tCons, tLc]
    refine or_zip (p := p) (q := q2) (xs := xs) (ys := ys) (fun Q q => ⟨_, rfl, _, rfl, q⟩) (.inl ⟨hp1, hq1⟩) al.length (fun J gj sj yj D nD => lc_it (J := J) (n := xs.length) (fun i H5 => H5 D = some (.lst ((List.replicate i true).map V.bl)) ∧ Same (upd H tp (.tup [V.ty "list", V.ty "tuple"])) H5) ⟨upd_same, same_new nD⟩ ?_ ?_ ?_ ?_)
    · rintro i H5 hi ⟨hD, s5⟩
      exact gj i H5 ⟨(s5 _ _ hp1).trans hp1.symm, (s5 _ _ hq1).trans hq1.symm⟩ hi
    · rintro H5 ⟨hD, s5⟩
      exact sj H5 ⟨(s5 _ _ hp1).trans hp1.symm, (s5 _ _ hq1).trans hq1.symm⟩
    · rintro i v H5 H6 hi ⟨hD, s5⟩ y
      obtain ⟨t, x, z, rfl, nt, rfl, ex, ez⟩ := yj i H5 v H6 ⟨(s5 _ _ hp1).trans hp1.symm, (s5 _ _ hq1).trans hq1.symm⟩ y
      obtain ⟨z', ez', ha⟩ := al.getL ex
      rw [ez] at ez'
      cases ez'
      have s6 := s5.trans (same_new (o := .tup [x, z]) nt)
      refine ⟨t, _, rfl, SqT.of upd_same, rfl, _, _, rfl, _, _, rfl, rfl, rfl, yes_in ⟨_, rfl, _, rfl, x, z, rfl, ha.same ((same_new ntp).trans s6), fun H7 s7 => ⟨_, s7 _ _ (same_new nt _ _ hD), ?_, ?_, Same.own (s6.trans s7) nD⟩⟩⟩
      · rw [List.length_map, List.length_replicate]; exact small1000 (by omega)
      · rw [upd_same, List.replicate_succ', List.map_append]; rfl
    · rintro H5 ⟨hD, s5⟩
      refine ⟨D, _, rfl, SqL.of hD, ?_⟩
      rw [show (List.replicate xs.length true).all id = true by simp]
      exact q _ ((same_new ntp).trans s5)
  · have hp1 := same_new (o := .tup [V.ty "list", V.ty "tuple"]) ntp _ _ hp
    have hq1 := same_new (o := .tup [V.ty "list", V.ty "tuple"]) ntp _ _ hq
    refine ⟨_, tp, _, _, _, true, rfl, upd_same, .cons (.ty "list") (.cons (.ty "tuple") .nil), .base (.tup hq1), kit_tup, _, rfl, if_bl (fun _ => ?_) (fun z => nomatch z)⟩
    refine ⟨_, rfl, _, _, _, _, false, rfl, .ty "list", .base (.tup hp1), kit_ty (by decide +kernel), _, rfl, _, _, _, _, false, rfl, .ty "list", .base (.tup hq1), kit_ty (by decide +kernel), rfl, _, rfl, if_bl (fun z => nomatch z) (fun _ => ?_)⟩
    refine ⟨_, rfl, _, _, _, _, true, rfl, .ty "tuple", .base (.tup hp1), kit_ty (by decide +kernel), _, rfl, _, _, _, _, true, rfl, .ty "tuple", .base (.tup hq1), kit_ty (by decide +kernel), rfl, _, rfl, if_bl (fun z => nomatch z) (fun _ => ?_)⟩
    refine ⟨_, rfl, p, _, rfl, .inr (SqT.of hp1), _, rfl, q2, _, rfl, .inr (SqT.of hq1), rfl, _, rfl, if_bl (fun _ => ?_) (fun z => ?_)⟩
    case refine_2 =>
      rw [al.length, decide_eq_true rfl] at z
      cases z
    dsimp only [tNext, tRet, tCB, tCons, tLc]
    refine or_zip (p := p) (q := q2) (xs := xs) (ys := ys) (fun Q q => ⟨_, rfl, _, rfl, q⟩) (.inr ⟨hp1, hq1⟩) al.length (fun J gj sj yj D nD => lc_it (J := J) (n := xs.length) (fun i H5 => H5 D = some (.lst ((List.replicate i true).map V.bl)) ∧ Same (upd H tp (.tup [V.ty "list", V.ty "tuple"])) H5) ⟨upd_same, same_new nD⟩ ?_ ?_ ?_ ?_)
    · rintro i H5 hi ⟨hD, s5⟩
      exact gj i H5 ⟨(s5 _ _ hp1).trans hp1.symm, (s5 _ _ hq1).trans hq1.symm⟩ hi
    · rintro H5 ⟨hD, s5⟩
      exact sj H5 ⟨(s5 _ _ hp1).trans hp1.symm, (s5 _ _ hq1).trans hq1.symm⟩
    · rintro i v H5 H6 hi ⟨hD, s5⟩ y
      obtain ⟨t, x, z, rfl, nt, rfl, ex, ez⟩ := yj i H5 v H6 ⟨(s5 _ _ hp1).trans hp1.symm, (s5 _ _ hq1).trans hq1.symm⟩ y
      obtain ⟨z', ez', ha⟩ := al.getL ex
      rw [ez] at ez'
      cases ez'
      have s6 := s5.trans (same_new (o := .tup [x, z]) nt)
      refine ⟨t, _, rfl, SqT.of upd_same, rfl, _, _, rfl, _, _, rfl, rfl, rfl, yes_in ⟨_, rfl, _, rfl, x, z, rfl, ha.same ((same_new ntp).trans s6), fun H7 s7 => ⟨_, s7 _ _ (same_new nt _ _ hD), ?_, ?_, Same.own (s6.trans s7) nD⟩⟩⟩
      · rw [List.length_map, List.length_replicate]; exact small1000 (by omega)
      · rw [upd_same, List.replicate_succ', List.map_append]; rfl
    · rintro H5 ⟨hD, s5⟩
      refine ⟨D, _, rfl, SqL.of hD, ?_⟩
      rw [show (List.replicate xs.length true).all id = true by simp]
      exact q _ ((same_new ntp).trans s5)
theorem ok_alike {C : Addr} (T : Top K mg C) : ∀ (n : Nat) (f : Addr) (fd : FuncData), Fun K "_law_alike" "_law_alike" s_law_alike f fd → FnOk P w K mg base CX0 n f fd ["_law_found", "_law_due"] (spA n)
  | 0, _, _, _ => ⟨fun _ _ _ _ ⟨_, _, _, h, _⟩ => h.elim, fun _ _ _ _ _ _ _ _ _ _ _ _ _ ⟨_, _, _, h, _⟩ => h.elim⟩
  | n + 1, _, _, F => alike_step T n (ok_alike T n) F
abbrev sp_law_alike (K : PySem.W.Frag) : Sp := spA 6
theorem ok_law_alike {f : Addr} {fd : FuncData} (F : Fun K "_law_alike" "_law_alike" s_law_alike f fd) {C : Addr} (T : Top K mg C) : FnOk P w K mg base CX0 6 f fd ["_law_found", "_law_due"] (sp_law_alike K) := ok_alike T 6 f fd F
end
/-! ### a room of doors alone -/
def insOf (ss : List Str) : List Nat := (List.range ss.length).filter fun j => decide (ss[j]? = some ("in" : Str))
theorem ins_mem {ss : List Str} {k : Nat} (h : k ∈ insOf ss) : ss[k]? = some ("in" : Str) := of_decide_eq_true (List.mem_filter.mp h).2
theorem ins_len {ss : List Str} : (insOf ss).length = ss.count ("in" : Str) := by
  unfold insOf
  have : ∀ n, n ≤ ss.length → ((List.range n).filter fun j => decide (ss[j]? = some ("in" : Str))).length = (ss.take n).count ("in" : Str) := by
    intro n
    induction n with
    | zero => intro _; rfl
    | succ n ih =>
      intro h
      have e : ss[n]? = some ss[n] := List.getElem?_eq_getElem (by omega)
      rw [filt_succ, List.length_append, ih (by omega), List.take_add_one, e, List.count_append]
      by_cases c : ss[n] = "in"
      · rw [if_pos (decide_eq_true (by rw [c]))]
        simp [c]
      · rw [if_neg (by simpa using c)]
        simp [c]
  rw [this _ (Nat.le_refl _), List.take_length]
abbrev doorH (s : Str) : HR := ⟨s, none, 0⟩
theorem door_good {s : Str} (h : s = "in" ∨ s = "out") : GoodHand (doorH s) := ⟨.inr ⟨h, rfl⟩, (show (0 : Int) ≤ 0 by decide), (show (0 : Int) ≤ 30 by decide)⟩
theorem in_out : ("in" : Str) ≠ "out" := by decide +kernel
/-- the belts of a room of doors, as far as hand i -/
structure DB (ss : List Str) (i : Nat) (bs : List BR) : Prop where
  one : ∀ b ∈ bs, ss[b.one]? = some ("in" : Str)
  to : ∀ b ∈ bs, ss[b.to]? = some ("out" : Str) ∧ b.to < i
  th : ∀ b ∈ bs, b.th.length ≤ 6 ∧ ∀ x ∈ b.th, Small x
  cnt : ∀ k, k < i → (bs.map BR.to).count k = if ss[k]? = some ("out" : Str) then 1 else 0
  len : bs.length ≤ i
theorem DB.nil {ss : List Str} : DB ss 0 [] := ⟨(fun _ z => nomatch z), (fun _ z => nomatch z), (fun _ z => nomatch z), fun k h => absurd h (Nat.not_lt_zero _), Nat.le_refl _⟩
theorem DB.none {ss : List Str} {i : Nat} {bs : List BR} (d : DB ss i bs) {k : Nat} (h : i ≤ k) : (bs.map BR.to).count k = 0 := by
  refine List.count_eq_zero.mpr fun hk => ?_
  obtain ⟨b, hb, e⟩ := List.mem_map.mp hk
  have := (d.to b hb).2
  omega
theorem DB.skip {ss : List Str} {i : Nat} {bs : List BR} (d : DB ss i bs) (h : ss[i]? ≠ some ("out" : Str)) : DB ss (i + 1) bs := by
  refine ⟨d.one, fun b hb => ⟨(d.to b hb).1, Nat.lt_succ_of_lt (d.to b hb).2⟩, d.th, fun k hk => ?_, Nat.le_succ_of_le d.len⟩
  by_cases e : k = i
  · subst e
    rw [d.none (Nat.le_refl _), if_neg h]
  · exact d.cnt k (by omega)
theorem DB.more {ss : List Str} {i : Nat} {bs : List BR} (d : DB ss i bs) (h : ss[i]? = some ("out" : Str)) {g : Nat} {th : List Int} (hg : ss[g]? = some ("in" : Str)) (ht : th.length ≤ 6 ∧ ∀ x ∈ th, Small x) : DB ss (i + 1) (bs ++ [⟨g, i, th⟩]) := by
  refine ⟨fun b hb => ?_, fun b hb => ?_, fun b hb => ?_, fun k hk => ?_, by rw [List.length_append]; exact Nat.succ_le_succ d.len⟩
  · rcases List.mem_append.mp hb with hb | hb
    · exact d.one b hb
    · obtain rfl : b = _ := by simpa using hb
      exact hg
  · rcases List.mem_append.mp hb with hb | hb
    · exact ⟨(d.to b hb).1, Nat.lt_succ_of_lt (d.to b hb).2⟩
    · obtain rfl : b = _ := by simpa using hb
      exact ⟨h, Nat.lt_succ_self _⟩
  · rcases List.mem_append.mp hb with hb | hb
    · exact d.th b hb
    · obtain rfl : b = _ := by simpa using hb
      exact ht
  · rw [List.map_append, List.count_append]
    by_cases e : k = i
    · subst e
      rw [d.none (Nat.le_refl _), if_pos h]
      simp
    · rw [d.cnt k (by omega)]
      have : ([(⟨g, i, th⟩ : BR)].map BR.to).count k = 0 := by
        refine List.count_eq_zero.mpr fun z => ?_
        have : k = i := by simpa using z
        exact e this
      rw [this, Nat.add_zero]
theorem DB.ok {ss : List Str} {bs : List BR} (d : DB ss ss.length bs) (hs : ∀ s ∈ ss, s = "in" ∨ s = "out") (l : ss.length ≤ 6) : RoomOk (ss.map doorH) bs := by
  have at_ : ∀ k, (ss.map doorH)[k]? = (ss[k]?).map doorH := fun k => List.getElem?_map ..
  refine ⟨by rw [List.length_map]; omega, fun h hh => ?_, fun b hb => ?_, fun b hb h e => ?_, fun b hb => ⟨Nat.le_trans (d.th b hb).1 (by decide), trivial⟩, ⟨fun k => if ss[k]? = some ("in" : Str) then 0 else 1, fun b hb _ => ?_⟩, fun k h e => ?_, Nat.le_trans d.len (by omega)⟩
  · obtain ⟨s, hm, rfl⟩ := List.mem_map.mp hh
    exact door_good (hs s hm)
  · rw [List.length_map]
    exact ⟨(List.getElem?_eq_some_iff.mp (d.one b hb)).1, (List.getElem?_eq_some_iff.mp (d.to b hb).1).1⟩
  · rw [at_, d.one b hb] at e
    cases e
    exact in_out
  · show (if ss[b.one]? = some ("in" : Str) then (0 : Int) else 1) < (if ss[b.to]? = some ("in" : Str) then (0 : Int) else 1)
    rw [if_pos (d.one b hb), if_neg (by rw [(d.to b hb).1]; exact fun z => in_out (Option.some.inj z).symm)]
    decide
  · rw [at_] at e
    cases q : ss[k]? with
    | none => rw [q] at e; cases e
    | some s =>
      rw [q] at e
      cases e
      have kl := (List.getElem?_eq_some_iff.mp q).1
      rw [d.cnt k kl, q]
      rcases hs s (List.mem_of_getElem? q) with z | z <;> rw [z]
      · rw [if_neg fun z => in_out (Option.some.inj z)]
        decide +kernel
      · rw [if_pos rfl]
        decide +kernel
section
variable {P : Program} {w : World} {K : PySem.W.Frag} {mg : Str → Option Value} {base : Heap}
def sp_law_doors_room (K : PySem.W.Frag) : Sp := fun vs H Q _ => ∃ f c : Addr, vs = [.ref f] ∧ Flow H f c ∧ ∀ (r : Addr) (hs : List HR) (bs : List BR) (H' : Hp), RoomAt H' r hs bs → RoomOk hs bs → (∀ b ∈ bs, b.th.length ≤ 6) → Flow H' f c → But f H H' → Q (.ref r) H'
theorem ok_law_doors_room {f : Addr} {fd : FuncData} (F : Fun K "_law_doors_room" "_law_doors_room" s_law_doors_room f fd) {C : Addr} (T : Top K mg C) : FnOk P w K mg base CX0 3 f fd ["_law_flow_here"] (sp_law_doors_room K) := by
  obtain ⟨f_law_pick, fd_law_pick, F_law_pick, b_law_pick, m_law_pick⟩ := T.d_law_pick
  have G_law_pick := ok_law_pick (P := P) (w := w) (base := base) F_law_pick T
  obtain ⟨f_law_shuffled, fd_law_shuffled, F_law_shuffled, b_law_shuffled, m_law_shuffled⟩ := T.d_law_shuffled
  have G_law_shuffled := ok_law_shuffled (P := P) (w := w) (base := base) F_law_shuffled T
  obtain ⟨f_law_thing, fd_law_thing, F_law_thing, b_law_thing, m_law_thing⟩ := T.d_law_thing
  have G_law_thing := ok_law_thing (P := P) (w := w) (base := base) F_law_thing T
  refine F.ok sc_law_doors_room (fun vs H Q E h => ?_) (fun cdv A outer s H vs Q E hr h => ?_)
  · obtain ⟨f, c, rfl, _⟩ := h
    rfl
  obtain ⟨f, c, rfl, hF, q⟩ := h
  let R1 : TS := fun D' σ' H' => D'.rt = Q ∧ ∃ (iv ov : Int) (sl : Addr) (ss : List Str), σ' = [some (.ref f), some (.int iv), some (.int ov), some (.ref sl), none, none, none, none, none, none] ∧ H' sl = some (.lst (ss.map V.str)) ∧ sl ≠ f ∧ ss.length ≤ 6 ∧ 0 ≤ iv ∧ iv ≤ 3 ∧ ss.count ("in" : Str) = iv.toNat ∧ (ss = [] ∨ 0 < iv) ∧ (∀ s ∈ ss, s = "in" ∨ s = "out") ∧ Flow H' f c ∧ But f H H'
  refine ⟨_, (pss_cons (ps_set (i := 1) sc_law_doors_room.nd rfl (Or.inl rfl) (pe_call G_law_pick (hr.mono (by decide)) (by rfl) m_law_pick F_law_pick.kp b_law_pick .nil pass0 (pa_cons (pv 0) (pa_cons pe_int pa_nil))))
      (pss_cons (ps_set (i := 2) sc_law_doors_room.nd rfl (Or.inl rfl) (pe_ix (ix_listK K rfl) (pe_lst (pa_cons pe_int (pa_cons (pe_op op_add pe_int (pe_call G_law_pick (hr.mono (by decide)) (by rfl) m_law_pick F_law_pick.kp b_law_pick .nil pass0 (pa_cons (pv 0) (pa_cons pe_int pa_nil)))) pa_nil))) (pe_callTy call_int1 (by rfl) T.m_int (by decide +kernel) (pa_cons (pe_cmpR op_gt (pv 1) pe_int (nomark _)) pa_nil)) (fun _ _ => rfl)))
      (pss_cons (ps_set (i := 3) sc_law_doors_room.nd rfl (Or.inl rfl) (pe_call G_law_shuffled (hr.mono (by decide)) (by rfl) m_law_shuffled F_law_shuffled.kp b_law_shuffled .nil pass0 (pa_cons (pv 0) (pa_cons (pe_op op_cat (pe_op op_rep (pe_lst (pa_cons pe_str pa_nil)) (pv 1)) (pe_op op_rep (pe_lst (pa_cons pe_str pa_nil)) (pv 2))) pa_nil))))
      (PSs.to (pss_cons (ps_setLc (i := 4) (own := [("_law_k", 5), ("_law_sort", 6)]) (g := gTup K 2 (gCons (gName 5) (gCons (gName 6) gNil))) (by rfl) sc_law_doors_room.nd rfl rfl (sw_true rfl rfl rfl (by decide +kernel)) (pi_enum (by rfl) T.m_enumerate (pa_cons (pv 3) pa_nil)) (blkOk_by (own := [("_law_k", 5), ("_law_sort", 6)]) (N := N_law_doors_room) (sc := defScope s_law_doors_room) (by decide +kernel)) (fun _ _ _ _ _ => (pg_tupK K rfl rfl (pgs_cons (pg_name (i := 5) sc_law_doors_room.nd rfl (Or.inl rfl)) (pgs_cons (pg_name (i := 6) sc_law_doors_room.nd rfl (Or.inl rfl)) pgs_nil)))) (fun _ _ _ _ _ => pts_one (pt_cmpR op_eq (pv 6) pe_str (nomark _))) (fun _ _ _ _ _ => (pv 5)))
      (pss_cons (ps_set (i := 7) sc_law_doors_room.nd rfl (Or.inl rfl) (pe_lst pa_nil))
      (pss_cons (ps_for PassesOwn.never rfl (pi_enum (by rfl) T.m_enumerate (pa_cons (pv 3) pa_nil)) (pg_tupK K rfl rfl (pgs_cons (pg_name (i := 5) sc_law_doors_room.nd rfl (Or.inl rfl)) (pgs_cons (pg_name (i := 6) sc_law_doors_room.nd rfl (Or.inl rfl)) pgs_nil)))
        (pss_one (ps_if (pt_cmpR op_eq (pv 6) pe_str (nomark _)) (pss_cons (ps_set (i := 8) sc_law_doors_room.nd rfl (Or.inl rfl) (pe_callTy (call_tuple_ofK K rfl) (by rfl) T.m_tuple (by decide +kernel) (pa_cons (pe_lc (own := [("_law_j", 9)]) (g := gName 9) (tt := tYes) (by rfl) sc_law_doors_room.nd (pi_range1 (by rfl) T.m_range (pa_cons (pe_call G_law_pick (hr.mono (by decide)) (by rfl) m_law_pick F_law_pick.kp b_law_pick .nil pass0 (pa_cons (pv 0) (pa_cons pe_int pa_nil))) pa_nil)) (blkOk_by (own := [("_law_j", 9)]) (N := N_law_doors_room) (sc := defScope s_law_doors_room) (by decide +kernel)) (fun _ _ _ _ _ => (pg_name (i := 9) sc_law_doors_room.nd rfl (Or.inl rfl))) (fun _ _ _ _ _ => pts_nil) (fun _ _ _ _ _ => (pe_call G_law_thing (hr.mono (by decide)) (by rfl) m_law_thing F_law_thing.kp b_law_thing .nil pass0 (pa_cons (pv 0) pa_nil)))) pa_nil)))
      (pss_one (ps_expr (pe_bmK K rfl PySem.F.plainAttrs_list PySem.F.slot_list_append PySem.F.type_list_append mt_append (pv 7) (pa_cons (pe_tup (pa_cons (pe_ix (ix_listK K rfl) (pv 4) (pe_call G_law_pick (hr.mono (by decide)) (by rfl) m_law_pick F_law_pick.kp b_law_pick .nil pass0 (pa_cons (pv 0) (pa_cons (pv 1) pa_nil))) (fun _ _ => rfl)) (pa_cons (pv 5) (pa_cons (pv 8) pa_nil)))) pa_nil))))) pss_nil)))
      (pss_one (ps_ret (pe_tup (pa_cons (pe_callTy (call_tuple_ofK K rfl) (by rfl) T.m_tuple (by decide +kernel) (pa_cons (pe_lc (own := [("_law_sort", 6)]) (g := gName 6) (tt := tYes) (by rfl) sc_law_doors_room.nd (pi_listK K rfl (pv 3)) (blkOk_by (own := [("_law_sort", 6)]) (N := N_law_doors_room) (sc := defScope s_law_doors_room) (by decide +kernel)) (fun _ _ _ _ _ => (pg_name (i := 6) sc_law_doors_room.nd rfl (Or.inl rfl))) (fun _ _ _ _ _ => pts_nil) (fun _ _ _ _ _ => (pe_tup (pa_cons (pe_tup (pa_cons (pv 6) pa_nil)) (pa_cons pe_int pa_nil))))) pa_nil)) (pa_cons (pe_callTy (call_tuple_ofK K rfl) (by rfl) T.m_tuple (by decide +kernel) (pa_cons (pv 7) pa_nil)) pa_nil)))))))) R1 ?tail1)))), ?_⟩
  case tail1 =>
    rintro D' σ' H1 ⟨eD, iv, ov, sl, ss, rfl, hsl, nsl, ls, i0, i3, ci, some_, hall, F1, B1⟩
    refine ⟨_, rfl, sl, _, rfl, SqL.of hsl, fun G nG => lc_it (n := ss.length) (fun i H5 => H5 G = some (.lst (((List.range i).filter fun j => decide (ss[j]? = some ("in" : Str))).map nV)) ∧ Same H1 H5) ⟨upd_same, same_new nG⟩ ?_ ?_ ?_ ?_⟩
    · rintro i H5 hi ⟨_, s5⟩
      exact ⟨_, _, SqL.of (s5 _ _ hsl), by rw [List.getElem?_map, List.getElem?_eq_getElem hi]; rfl⟩
    · rintro H5 ⟨_, s5⟩
      exact ⟨_, SqL.of (s5 _ _ hsl), by rw [List.length_map]; exact Nat.le_refl _⟩
    · rintro i x H5 H6 hi ⟨hG, s5⟩ ⟨t, y, rfl, nt, rfl, fy⟩
      obtain ⟨sd, ei⟩ : ∃ sd, ss[i]? = some sd := ⟨_, List.getElem?_eq_getElem hi⟩
      have ey : y = V.str sd := by
        have := fy _ (SqL.of (s5 _ _ hsl))
        rw [List.getElem?_map, ei] at this
        exact (Option.some.inj this).symm
      subst ey
      have hG6 := same_new (o := .tup [.int (i : Nat), V.str sd]) nt _ _ hG
      have few := filt_len (p := fun j => decide (ss[j]? = some ("in" : Str))) i
      refine ⟨t, _, rfl, SqT.of upd_same, rfl, _, _, rfl, _, _, rfl, rfl, rfl, _, rfl, rfl, _, rfl, if_str (fun e => ?_) (fun e => ?_)⟩
      · refine ⟨_, rfl, _, hG6, by rw [List.length_map]; exact small1000 (by omega), ?_, Same.own (s5.trans (same_new nt)) nG⟩
        rw [upd_same, filt_succ, if_pos (decide_eq_true (by rw [ei, e])), List.map_append]
        rfl
      · refine ⟨?_, s5.trans (same_new nt)⟩
        rw [filt_succ, if_neg (fun z => e (by have := of_decide_eq_true z; rw [ei] at this; exact Option.some.inj this)), List.append_nil]
        exact hG6
    · rintro H2 ⟨hG, s2⟩
      have hG : H2 G = some (.lst ((insOf ss).map nV)) := hG
      have F2 := F1.same s2
      have gf : G ≠ f := F1.ne nG
      refine ⟨(by show 0 ≤ sizeLine; decide), fun L nL => ?_⟩
      have lf : L ≠ f := F2.ne nL
      have lc : L ≠ c := F2.nec nL
      have ls_ : L ≠ sl := (ne_of_none (s2 _ _ hsl) nL).symm
      have lg : L ≠ G := (ne_of_none hG nL).symm
      refine ⟨_, rfl, sl, _, rfl, SqL.of (same_new nL _ _ (s2 _ _ hsl)), for_it (n := ss.length) (fun i σ H3 => ∃ (bv : List V) (bs : List BR) (v5 v6 v8 v9 : Option V), σ = [some (.ref f), some (.int iv), some (.int ov), some (.ref sl), some (.ref G), v5, v6, some (.ref L), v8, v9] ∧ H3 L = some (.lst bv) ∧ All2 (BeltAt H3) bv bs ∧ DB ss i bs ∧ H3 sl = some (.lst (ss.map V.str)) ∧ H3 G = some (.lst ((insOf ss).map nV)) ∧ Flow H3 f c ∧ But f H2 H3)
        ⟨[], [], _, _, _, _, rfl, upd_same, .nil, DB.nil, same_new nL _ _ (s2 _ _ hsl), same_new nL _ _ hG, F2.new nL, But.refl.new nL⟩ ?_ ?_ ?_ ?_⟩
      · rintro i σ H3 hi ⟨bv, bs, v5, v6, v8, v9, rfl, hL, al, db, hsl3, hG3, F3, B3⟩
        exact ⟨_, _, SqL.of hsl3, by rw [List.getElem?_map, List.getElem?_eq_getElem hi]; rfl⟩
      · rintro σ H3 ⟨bv, bs, v5, v6, v8, v9, rfl, hL, al, db, hsl3, hG3, F3, B3⟩
        exact ⟨_, SqL.of hsl3, by rw [List.length_map]; exact Nat.le_refl _⟩
      · rintro i x σ H3 H4 hi ⟨bv, bs, v5, v6, v8, v9, rfl, hL, al, db, hsl3, hG3, F3, B3⟩ ⟨t, y, rfl, nt, rfl, fy⟩
        obtain ⟨sd, ei⟩ : ∃ sd, ss[i]? = some sd := ⟨_, List.getElem?_eq_getElem hi⟩
        have ey : y = V.str sd := by
          have := fy _ (SqL.of hsl3)
          rw [List.getElem?_map, ei] at this
          exact (Option.some.inj this).symm
        subst ey
        have F4 := F3.new (o := .tup [.int (i : Nat), V.str sd]) nt
        have B4 := B3.new (o := .tup [.int (i : Nat), V.str sd]) nt
        have s4 := same_new (H := H3) (o := .tup [.int (i : Nat), V.str sd]) nt
        refine ⟨t, _, rfl, SqT.of upd_same, rfl, _, _, rfl, _, _, rfl, rfl, ?_⟩
        refine ⟨_, rfl, rfl, _, rfl, if_str (fun e => ?_) (fun e => ?_)⟩
        · refine ⟨_, rfl, f, c, 7, rfl, by decide, by decide +kernel, F4, fun tv H5 t0 t1 F5 B5 => ?_⟩
          refine ⟨_, rfl, by omega, by omega, fun M nM => lc_range (lo := 0) (n := tv.toNat) (fun j H6 => ∃ vs : List Int, vs.length = j ∧ H6 M = some (.lst (vs.map V.int)) ∧ (∀ y ∈ vs, Small y) ∧ Flow H6 f c ∧ But f H5 H6) ⟨[], rfl, upd_same, (fun _ z => nomatch z), F5.new nM, But.refl.new nM⟩ ?_ ?_⟩
          · rintro j H6 hj ⟨vs, lv, hM, sm, F6, B6⟩
            have mf : M ≠ f := F5.ne nM
            have mc : M ≠ c := F5.nec nM
            refine ⟨rfl, yes_in ⟨_, rfl, f, c, rfl, F6, fun y H7 sy F7 B7 => ⟨_, B7 _ _ hM mf, ?_, vs ++ [y], by rw [List.length_append, lv]; rfl, ?_, ?_, F7.lst mf mc, (B6.trans B7).own nM⟩⟩⟩
            · rw [List.length_map, lv]; exact small1000 (by omega)
            · rw [upd_same, List.map_append]; rfl
            · intro z hz
              rcases List.mem_append.mp hz with hz | hz
              · exact sm z hz
              · obtain rfl : z = y := by simpa using hz
                exact sy
          · rintro H6 ⟨vs, lv, hM, sm, F6, B6⟩
            refine ⟨M, _, rfl, .inl ⟨SqL.of hM, fun tp ntp => ?_⟩⟩
            have F7 := F6.new (o := .tup (vs.map V.int)) ntp
            have B7 : But f H3 (upd H6 tp (.tup (vs.map V.int))) := ((((But.of s4).trans B5).trans B6).new ntp)
            refine ⟨_, rfl, .inl ⟨rfl, _, SqL.of (B7 _ _ hL lf)⟩, _, rfl, _, rfl, _, rfl, f, c, iv, rfl, ?_, ?_, F7, fun gi H8 g0 g1 F8 B8 => ?_⟩
            · rcases some_ with z | z
              · rw [z] at hi; exact absurd hi (Nat.not_lt_zero _)
              · exact z
            · have : iv.natAbs.log2 ≤ iv.natAbs := Nat.log2_le_self _
              omega
            have gl : gi.toNat < (insOf ss).length := by rw [ins_len, ci]; omega
            obtain ⟨g, eg⟩ : ∃ g, (insOf ss)[gi.toNat]? = some g := ⟨_, List.getElem?_eq_getElem gl⟩
            have egi : atI ((insOf ss).map nV) gi = some (nV g) := by
              have : atI ((insOf ss).map nV) ((gi.toNat : Nat) : Int) = some (nV g) := atI_nat (by rw [List.getElem?_map, eg]; rfl)
              rwa [show ((gi.toNat : Nat) : Int) = gi by omega] at this
            have B38 := B7.trans B8
            refine ⟨G, _, _, _, rfl, rfl, SqL.of (B38 _ _ hG3 gf), egi, _, rfl, _, rfl, (by show 3 ≤ sizeLine; decide), fun bt nbt => ⟨L, _, _, rfl, rfl, same_new nbt _ _ (B38 _ _ hL lf), ?_, ?_⟩⟩
            · rw [al.length]
              have := db.len
              exact small1000 (by omega)
            have hL9 := same_new (o := .tup [nV g, .int (i : Nat), V.ref tp]) nbt _ _ (B38 _ _ hL lf)
            have k9 : TK H3 (upd H8 bt (.tup [nV g, .int (i : Nat), V.ref tp])) := (TK.but F3 B38).trans (TK.new nbt)
            refine ⟨bv ++ [.ref bt], bs ++ [⟨g, i, vs⟩], _, _, _, _, rfl, upd_same, ?_, db.more (by rw [ei, e]) (ins_mem (List.mem_of_getElem? eg)) ⟨by omega, sm⟩, ?_, ?_, (F8.new nbt).lst lf lc, ?_⟩
            · refine ((al.imp fun _ _ z => z.keep k9).snoc ⟨bt, tp, rfl, upd_same, same_new nbt _ _ (B8 _ _ upd_same (F6.ne ntp))⟩).imp fun _ _ z => z.keep (TK.lst hL9)
            · rw [upd_ne ls_.symm]; exact same_new nbt _ _ (B38 _ _ hsl3 nsl)
            · rw [upd_ne lg.symm]; exact same_new nbt _ _ (B38 _ _ hG3 gf)
            · exact ((B3.trans B38).new nbt).own nL
        · have k4 : TK H3 _ := TK.new (o := .tup [.int (i : Nat), V.str sd]) nt
          refine ⟨bv, bs, _, _, _, _, rfl, s4 _ _ hL, al.imp fun _ _ z => z.keep k4, db.skip (by rw [ei]; exact fun z => e (Option.some.inj z)), s4 _ _ hsl3, s4 _ _ hG3, F4, B4⟩
      · rintro σ H3 ⟨bv, bs, v5, v6, v8, v9, rfl, hL, al, db, hsl3, hG3, F3, B3⟩
        refine ⟨_, rfl, sl, rfl, ⟨_, SqL.of hsl3⟩, fun E nE => lc_list (K := K) (a := sl) (xs := ss.map V.str) (fun i H4 => ∃ hv, H4 E = some (.lst hv) ∧ All2 (HandAt H4) hv ((ss.take i).map doorH) ∧ Same H3 H4) ⟨[], upd_same, .nil, same_new nE⟩ (fun i H4 _ ⟨_, _, _, s4⟩ => SqL.of (s4 _ _ hsl3)) ?_ ?_⟩
        · rintro i x H4 hx ⟨hv, hE, alh, s4⟩
          have il := (List.getElem?_eq_some_iff.mp hx).1
          rw [List.length_map] at il
          obtain ⟨sd, ei⟩ : ∃ sd, ss[i]? = some sd := ⟨_, List.getElem?_eq_getElem il⟩
          rw [List.getElem?_map, ei] at hx
          cases hx
          refine ⟨rfl, yes_in ⟨_, rfl, (by show 1 ≤ sizeLine; decide), fun a1 na1 => ⟨(by show 2 ≤ sizeLine; decide), fun a2 na2 => ?_⟩⟩⟩
          have s6 : Same H4 _ := (same_new (o := .tup [V.str sd]) na1).trans (same_new (o := .tup [V.ref a1, V.int 0]) na2)
          refine ⟨hv, s6 _ _ hE, ?_, hv ++ [.ref a2], upd_same, ?_, Same.own (s4.trans s6) nE⟩
          · rw [alh.length, List.length_map, List.length_take]; exact small1000 (by omega)
          · rw [List.take_add_one, ei, List.map_append]
            exact ((alh.imp fun _ _ z => z.keep (TK.same s6)).snoc ⟨a2, a1, rfl, upd_same, same_new na2 _ _ upd_same⟩).imp fun _ _ z => z.keep (TK.lst (s6 _ _ hE))
        · rintro H4 ⟨hv, hE, alh, s4⟩
          rw [List.length_map, List.take_length] at alh
          refine ⟨E, _, rfl, .inl ⟨SqL.of hE, fun t1 nt1 => ⟨_, rfl, L, _, rfl, .inl ⟨SqL.of (same_new nt1 _ _ (s4 _ _ hL)), fun t2 nt2 => ⟨(by show 2 ≤ sizeLine; decide), fun t3 nt3 => ?_⟩⟩⟩⟩⟩
          have k : Same H4 (upd (upd (upd H4 t1 (.tup hv)) t2 (.tup bv)) t3 (.tup [V.ref t1, V.ref t2])) := ((same_new nt1).trans (same_new nt2)).trans (same_new nt3)
          rw [eD]
          refine q t3 (ss.map doorH) bs _ ⟨t1, t2, hv, bv, upd_same, same_new nt3 _ _ (same_new nt2 _ _ upd_same), same_new nt3 _ _ upd_same, alh.imp fun _ _ z => z.keep (TK.same k), al.imp fun _ _ z => (z.keep (TK.same s4)).keep (TK.same k)⟩ (db.ok hall ls) (fun b hb => (db.th b hb).1) (((F3.same s4)).same k) ((((B1.trans (But.of s2)).trans B3).trans (But.of s4)).trans (But.of k))
  refine ⟨_, rfl, f, c, 4, rfl, by decide, by decide +kernel, hF, fun iv H1 i0 i1 F1 B1 => ?_⟩
  refine ⟨_, rfl, f, c, 3, rfl, by decide, by decide +kernel, F1, fun ov H2 o0 o1 F2 B2 => ⟨_, _, rfl, rfl, (by show 2 ≤ sizeLine; decide), fun l nl => ?_⟩⟩
  obtain ⟨o, ho, oz, o2, o3⟩ : ∃ o : Int, atI [V.int 0, V.int (1 + ov)] (if decide (iv > 0) = true then 1 else 0) = some (.int o) ∧ (iv = 0 → o = 0) ∧ 0 ≤ o ∧ o ≤ 3 := by
    by_cases z : iv > 0
    · rw [decide_eq_true z]
      exact ⟨1 + ov, rfl, fun e => by omega, by omega, by omega⟩
    · rw [decide_eq_false z]
      exact ⟨0, rfl, fun _ => rfl, by omega, by omega⟩
  have F3 := F2.new (o := .lst [V.int 0, V.int (1 + ov)]) nl
  refine ⟨_, rfl, _, _, rfl, rfl, .inr ⟨_, rfl, l, _, _, _, rfl, rfl, SqL.of upd_same, ho, ?_⟩⟩
  refine ⟨_, rfl, (by show 1 ≤ sizeLine; decide), fun l1 nl1 => ⟨_, rfl, l1, iv, _, rfl, rfl, upd_same, by omega, by omega, little (by show 1 * iv.toNat ≤ 1000; omega), fun p1 np1 => ?_⟩⟩
  rw [flat_rep]
  have F4 := (F3.new (o := .lst [V.str "in"]) nl1).new (o := .lst (List.replicate iv.toNat (V.str "in"))) np1
  refine ⟨(by show 1 ≤ sizeLine; decide), fun l2 nl2 => ⟨_, rfl, l2, o, _, rfl, rfl, upd_same, by omega, by omega, little (by show 1 * o.toNat ≤ 1000; omega), fun p2 np2 => ?_⟩⟩
  rw [flat_rep]
  have F5 := (F4.new (o := .lst [V.str "out"]) nl2).new (o := .lst (List.replicate o.toNat (V.str "out"))) np2
  refine ⟨p1, p2, _, _, rfl, rfl, same_new np2 _ _ (same_new nl2 _ _ upd_same), upd_same, ?_, fun p3 np3 => ?_⟩
  · rw [List.length_replicate, List.length_replicate]; exact little (by omega)
  have F6 := F5.new (o := .lst (List.replicate iv.toNat (V.str "in") ++ List.replicate o.toNat (V.str "out"))) np3
  refine ⟨f, c, p3, _, rfl, SqL.of upd_same, F5.ne np3, ?_, F6, fun p ys H8 hp np hy F8 B8 => ?_⟩
  · rw [List.length_append, List.length_replicate, List.length_replicate]; omega
  have ez : List.replicate iv.toNat (V.str "in") ++ List.replicate o.toNat (V.str "out") = (List.replicate iv.toNat ("in" : Str) ++ List.replicate o.toNat ("out" : Str)).map V.str := by
    rw [List.map_append, List.map_replicate, List.map_replicate]
  rw [ez] at hp
  obtain ⟨ss, rfl, hss⟩ := perm_strs hp
  refine ⟨rfl, iv, o, p, ss, rfl, hy, F6.ne np, ?_, i0, by omega, ?_, ?_, ?_, F8, But.trans ((((((((B1.trans B2).new nl).new nl1).new np1).new nl2).new np2).new np3)) B8⟩
  · rw [hss.length_eq, List.length_append, List.length_replicate, List.length_replicate]; omega
  · rw [hss.count_eq, List.count_append, List.count_replicate, List.count_replicate, if_pos (beq_self_eq_true _), if_neg (by simpa using in_out.symm), Nat.add_zero]
  · by_cases z : 0 < iv
    · exact .inr z
    · refine .inl (List.eq_nil_of_length_eq_zero ?_)
      rw [hss.length_eq, List.length_append, List.length_replicate, List.length_replicate, oz (by omega)]
      show iv.toNat + 0 = 0
      omega
  · intro s hs
    rcases List.mem_append.mp (hss.mem_iff.mp hs) with hs | hs
    · exact .inl (List.mem_replicate.mp hs).2
    · exact .inr (List.mem_replicate.mp hs).2
def sp_law_any_room (K : PySem.W.Frag) : Sp := fun vs H Q _ => ∃ f c : Addr, vs = [.ref f] ∧ Flow H f c ∧ ∀ (r : Addr) (hs : List HR) (bs : List BR) (H' : Hp), RoomAt H' r hs bs → RoomOk hs bs → 0 < hs.length → (∀ b ∈ bs, b.th.length ≤ 6) → Flow H' f c → But f H H' → Q (.ref r) H'
theorem ok_law_any_room {f : Addr} {fd : FuncData} (F : Fun K "_law_any_room" "_law_any_room" s_law_any_room f fd) {C : Addr} (T : Top K mg C) : FnOk P w K mg base CX0 6 f fd ["_law_flow_here"] (sp_law_any_room K) := by
  obtain ⟨f_law_pick, fd_law_pick, F_law_pick, b_law_pick, m_law_pick⟩ := T.d_law_pick
  have G_law_pick := ok_law_pick (P := P) (w := w) (base := base) F_law_pick T
  obtain ⟨f_law_room, fd_law_room, F_law_room, b_law_room, m_law_room⟩ := T.d_law_room
  have G_law_room := ok_law_room (P := P) (w := w) (base := base) F_law_room T
  obtain ⟨f_law_doors_room, fd_law_doors_room, F_law_doors_room, b_law_doors_room, m_law_doors_room⟩ := T.d_law_doors_room
  have G_law_doors_room := ok_law_doors_room (P := P) (w := w) (base := base) F_law_doors_room T
  refine F.ok sc_law_any_room (fun vs H Q E h => ?_) (fun cdv A outer s H vs Q E hr h => ?_)
  · obtain ⟨f, c, rfl, _⟩ := h
    rfl
  obtain ⟨f, c, rfl, hF, q⟩ := h
  refine ⟨_, (pss_cons (ps_set (i := 1) sc_law_any_room.nd rfl (Or.inl rfl) (pe_call G_law_pick (hr.mono (by decide)) (by rfl) m_law_pick F_law_pick.kp b_law_pick .nil pass0 (pa_cons (pv 0) (pa_cons pe_int pa_nil))))
      (pss_cons (ps_if (pt_cmpR op_eq (pv 1) pe_int (nomark _)) (pss_cons (ps_set (i := 2) sc_law_any_room.nd rfl (Or.inl rfl) (pe_call G_law_doors_room (hr.mono (by decide)) (by rfl) m_law_doors_room F_law_doors_room.kp b_law_doors_room .nil pass0 (pa_cons (pv 0) pa_nil)))
      (pss_one (ps_if (pt_cmpR op_gt (pe_callB (call_len_seqK K rfl) (by rfl) T.m_len (by decide +kernel) (pa_cons (pe_ix (ix_tupK K rfl) (pv 2) pe_int (fun _ _ => rfl)) pa_nil)) pe_int (nomark _)) (pss_one (ps_ret (pv 2))) pss_nil))) pss_nil)
      (pss_one (ps_ret (pe_call G_law_room (hr.mono (by decide)) (by rfl) m_law_room F_law_room.kp b_law_room .nil pass0 (pa_cons (pv 0) (pa_cons (pe_ix (ix_listK K rfl) (pe_lst (pa_cons pe_int (pa_cons pe_int (pa_cons pe_int (pa_cons pe_int (pa_cons pe_int (pa_cons pe_int (pa_cons pe_int (pa_cons pe_int pa_nil))))))))) (pv 1) (fun _ _ => rfl)) pa_nil))))))), ?_⟩
  refine ⟨_, rfl, f, c, 8, rfl, by decide, by decide +kernel, hF, fun v H1 v0 v1 F1 B1 => ?_⟩
  have fin : ∀ (H2 : Hp), Flow H2 f c → But f H H2 → ∀ l, H2 l = none → ∃ (p : Addr) (xs : List V) (i : Int) (u : V), V.ref l = .ref p ∧ V.int v = .int i ∧ SqL K (upd H2 l (.lst [V.int 5, V.int 5, V.int 5, V.int 5, V.int 3, V.int 3, V.int 2, V.int 8])) p xs ∧ atI xs i = some u ∧ sp_law_room K [.ref f, u] (upd H2 l (.lst [V.int 5, V.int 5, V.int 5, V.int 5, V.int 3, V.int 3, V.int 2, V.int 8])) Q E0 := fun H2 F2 B2 l nl => by
    obtain ⟨mm, hmm, m1, m8⟩ : ∃ mm : Int, atI [V.int 5, V.int 5, V.int 5, V.int 5, V.int 3, V.int 3, V.int 2, V.int 8] v = some (.int mm) ∧ 1 ≤ mm ∧ mm ≤ 8 := by
      have : v = 0 ∨ v = 1 ∨ v = 2 ∨ v = 3 ∨ v = 4 ∨ v = 5 ∨ v = 6 ∨ v = 7 := by omega
      rcases this with rfl | rfl | rfl | rfl | rfl | rfl | rfl | rfl
      · exact ⟨5, rfl, by decide, by decide⟩
      · exact ⟨5, rfl, by decide, by decide⟩
      · exact ⟨5, rfl, by decide, by decide⟩
      · exact ⟨5, rfl, by decide, by decide⟩
      · exact ⟨3, rfl, by decide, by decide⟩
      · exact ⟨3, rfl, by decide, by decide⟩
      · exact ⟨2, rfl, by decide, by decide⟩
      · exact ⟨8, rfl, by decide, by decide⟩
    exact ⟨l, _, v, _, rfl, rfl, SqL.of upd_same, hmm, f, c, mm, rfl, m1, m8, F2.new nl, fun r hs bs H3 hR ok pos l6 F3 B3 => q r hs bs H3 hR ok pos l6 F3 ((B2.new nl).trans B3)⟩
  refine ⟨_, rfl, rfl, _, rfl, if_bl (fun _ => ?_) (fun _ => ?_)⟩
  · refine ⟨_, rfl, f, c, rfl, F1, fun r hs bs H2 hR ok l6 F2 B2 => ?_⟩
    obtain ⟨ha, ba, hv, bv, er, eh, eb, alh, alb⟩ := hR.ex
    refine ⟨_, rfl, r, _, _, _, rfl, rfl, SqT.of er, atI_nat (j := 0) rfl, ha, _, rfl, .inr (SqT.of eh), _, _, rfl, rfl, _, rfl, if_bl (fun z => ?_) (fun _ => ?_)⟩
    · exact ⟨_, rfl, q r hs bs H2 hR ok (by
        have z : ((hv.length : Nat) : Int) > 0 := of_decide_eq_true z
        have := alh.length
        omega) l6 F2 (B1.trans B2)⟩
    · exact ⟨_, rfl, (by show 8 ≤ sizeLine; decide), fun l nl => ⟨_, rfl, fin H2 F2 (B1.trans B2) l nl⟩⟩
  · exact ⟨_, rfl, (by show 8 ≤ sizeLine; decide), fun l nl => ⟨_, rfl, fin H1 F1 B1 l nl⟩⟩
end
section
variable {P : Program} {w : World} {K : PySem.W.Frag} {mg : Str → Option Value} {base : Heap}
/-! ### what the law reckons a hand makes -/
theorem five_of {h : HR} (g : GoodHand h) (n0 : h.wd ≠ "in") (n1 : h.wd ≠ "always") (n2 : h.wd ≠ "times") (n3 : h.wd ≠ "pick") (n4 : needs h.wd ≠ 1) : h.wd = "sum" ∨ h.wd = "gap" ∨ h.wd = "below" ∨ h.wd = "most" ∨ h.wd = "least" := by
  have o : h.wd ≠ "out" := fun z => by rw [z] at n4; exact n4 (by decide +kernel)
  have s : h.wd ≠ "same" := fun z => by rw [z] at n4; exact n4 (by decide +kernel)
  rcases g.1 with k | k
  · have := k.wd
    unfold nine at this
    simp only [List.mem_cons, List.not_mem_nil, or_false] at this
    rcases this with z | z | z | z | z | z | z | z | z
    · exact absurd z n1
    · exact absurd z s
    · exact absurd z n2
    · exact .inl z
    · exact .inr (.inl z)
    · exact .inr (.inr (.inl z))
    · exact .inr (.inr (.inr (.inl z)))
    · exact .inr (.inr (.inr (.inr z)))
    · exact absurd z n3
  · exact absurd k.1 (fun z => z.elim n0 o)
theorem one_of {h : HR} (g : GoodHand h) (n1 : h.wd ≠ "always") (n2 : h.wd ≠ "times") (n4 : needs h.wd = 1) : h.wd = "same" ∨ h.wd = "out" := by
  have n4' := n4
  unfold needs at n4
  by_cases a : h.wd ∈ (["in", "always"] : List Str)
  · rw [if_pos a] at n4; cases n4
  · rw [if_neg a] at n4
    by_cases b : h.wd ∈ (["out", "same", "times"] : List Str)
    · simp only [List.mem_cons, List.not_mem_nil, or_false] at b
      rcases b with b | b | b
      · exact .inr b
      · exact .inl b
      · exact absurd b n2
    · rw [if_neg b] at n4
      split at n4 <;> exact absurd n4 (by decide)
abbrev kv5 (a b : Int) : List (Key × V) := [(.inr "sum", .int (a + b)), (.inr "gap", .int (a - b)), (.inr "below", .int (if a < b then 1 else 0)), (.inr "most", .int (if b > a then b else a)), (.inr "least", .int (if b < a then b else a))]
theorem five_val {wd : Str} (h : wd = "sum" ∨ wd = "gap" ∨ wd = "below" ∨ wd = "most" ∨ wd = "least") (n a b c : Int) : valV (mergeK [] (kv5 a b)) (.inr wd) = some (.int (mk wd n a b c)) := by
  rcases h with e | e | e | e | e <;> subst e <;> rfl
def sp_law_made_by (K : PySem.W.Frag) : Sp := fun vs H Q _ => ∃ (r t : Addr) (h : HR) (xs : List Int), vs = [.ref r, .ref t] ∧ H r = some (.tup (ruleL h)) ∧ H t = some (.lst (xs.map V.int)) ∧ GoodHand h ∧ h.wd ≠ "in" ∧ ((xs.length : Nat) : Int) = needs h.wd ∧ ∀ H', Same H H' → Q (.int (mkR h xs)) H'
theorem ok_law_made_by {f : Addr} {fd : FuncData} (F : Fun K "_law_made_by" "_law_made_by" s_law_made_by f fd) {C : Addr} (T : Top K mg C) : FnOk P w K mg base CX0 1 f fd ["_law_rule_here", "_law_things"] (sp_law_made_by K) := by
  refine F.ok sc_law_made_by (fun vs H Q E h => ?_) (fun cdv A outer s H vs Q E hr h => ?_)
  · obtain ⟨r, t, h, xs, rfl, _⟩ := h
    rfl
  obtain ⟨r, t, h, xs, rfl, hr1, ht, g, win, hl, q⟩ := h
  have A := args_of g win hl
  unfold mkR at q
  obtain ⟨n, hn⟩ : ∃ n, n = h.no.getD 0 := ⟨_, rfl⟩
  obtain ⟨a, ha⟩ : ∃ a, a = xs.getD 0 0 := ⟨_, rfl⟩
  obtain ⟨b, hb⟩ : ∃ b, b = xs.getD 1 0 := ⟨_, rfl⟩
  obtain ⟨c, hc⟩ : ∃ c, c = xs.getD 2 0 := ⟨_, rfl⟩
  rw [← hn, ← ha, ← hb, ← hc] at q A
  have q1 := fun H' (s' : Same H H') => q H' s'
  refine ⟨_, (pss_cons (ps_if (pt_cmpR op_eq (pe_ix (ix_tupK K rfl) (pv 0) pe_int (fun _ _ => rfl)) pe_str (nomark _)) (pss_one (ps_ret (pe_ix (ix_tupK K rfl) (pv 0) pe_int (fun _ _ => rfl)))) pss_nil)
      (pss_cons (ps_set (i := 2) sc_law_made_by.nd rfl (Or.inl rfl) (pe_ix (ix_listK K rfl) (pv 1) pe_int (fun _ _ => rfl)))
      (pss_cons (ps_if (pt_cmpR op_eq (pe_ix (ix_tupK K rfl) (pv 0) pe_int (fun _ _ => rfl)) pe_str (nomark _)) (pss_one (ps_ret (pe_op op_mul (pe_ix (ix_tupK K rfl) (pv 0) pe_int (fun _ _ => rfl)) (pv 2)))) pss_nil)
      (pss_cons (ps_if (pt_cmpR op_eq (pe_ix (ix_tupK K rfl) (pv 0) pe_int (fun _ _ => rfl)) pe_str (nomark _)) (pss_one (ps_ret (pe_ix (ix_listK K rfl) (pe_lst (pa_cons (pe_ix (ix_listK K rfl) (pv 1) pe_int (fun _ _ => rfl)) (pa_cons (pe_ix (ix_listK K rfl) (pv 1) pe_int (fun _ _ => rfl)) pa_nil))) (pe_callTy call_int1 (by rfl) T.m_int (by decide +kernel) (pa_cons (pe_cmpR op_ne (pv 2) pe_int (nomark _)) pa_nil)) (fun _ _ => rfl)))) pss_nil)
      (pss_cons (ps_if (pt_cmpR op_eq (pe_callB (call_len_seqK K rfl) (by rfl) T.m_len (by decide +kernel) (pa_cons (pv 1) pa_nil)) pe_int (nomark _)) (pss_one (ps_ret (pv 2))) pss_nil)
      (pss_cons (ps_set (i := 3) sc_law_made_by.nd rfl (Or.inl rfl) (pe_ix (ix_listK K rfl) (pv 1) pe_int (fun _ _ => rfl)))
      (pss_cons (ps_set (i := 4) sc_law_made_by.nd rfl (Or.inl rfl) (pe_disp (pps_cons pe_str (pe_op op_add (pv 2) (pv 3)) (pps_cons pe_str (pe_op op_sub (pv 2) (pv 3)) (pps_cons pe_str (pe_callTy call_int1 (by rfl) T.m_int (by decide +kernel) (pa_cons (pe_cmpR op_lt (pv 2) (pv 3) (nomark _)) pa_nil)) (pps_cons pe_str (pe_callB (call_max2 rfl) (by rfl) T.m_max (by decide +kernel) (pa_cons (pv 2) (pa_cons (pv 3) pa_nil))) (pps_cons pe_str (pe_callB (call_min2 rfl) (by rfl) T.m_min (by decide +kernel) (pa_cons (pv 2) (pa_cons (pv 3) pa_nil))) pps_nil))))) (by rfl) (by rfl) (fun z => by cases z) (by decide)))
      (pss_one (ps_ret (pe_dget (hu_of hr) (pv 4) (pe_ix (ix_tupK K rfl) (pv 0) pe_int (fun _ _ => rfl)) (fun _ _ => rfl))))))))))), ?_⟩
  refine ⟨_, rfl, r, _, _, _, rfl, rfl, SqT.of hr1, atI_nat (j := 0) rfl, rfl, _, rfl, if_str (fun e1 => ?_) (fun e1 => ?_)⟩
  · have q := q1 H (fun _ _ e => e)
    unfold mk at q
    rw [if_pos e1] at q
    exact ⟨_, rfl, r, _, _, _, rfl, rfl, SqT.of hr1, atI_nat (j := 1) (A.r1 (.inl e1)), q⟩
  refine ⟨_, rfl, t, _, _, _, rfl, rfl, SqL.of ht, atI_nat (j := 0) (A.t0 e1), ?_⟩
  refine ⟨_, rfl, r, _, _, _, rfl, rfl, SqT.of hr1, atI_nat (j := 0) rfl, rfl, _, rfl, if_str (fun e2 => ?_) (fun e2 => ?_)⟩
  · have q := q1 H (fun _ _ e => e)
    unfold mk at q
    rw [if_neg e1, if_pos e2] at q
    exact ⟨_, rfl, r, _, _, _, rfl, rfl, SqT.of hr1, atI_nat (j := 1) (A.r1 (.inr e2)), _, rfl, _, _, rfl, rfl, .inl A.big, q⟩
  refine ⟨_, rfl, r, _, _, _, rfl, rfl, SqT.of hr1, atI_nat (j := 0) rfl, rfl, _, rfl, if_str (fun e3 => ?_) (fun e3 => ?_)⟩
  · refine ⟨_, rfl, t, _, _, _, rfl, rfl, SqL.of ht, atI_nat (j := 2) (A.t2 e3), _, rfl, t, _, _, _, rfl, rfl, SqL.of ht, atI_nat (j := 1) (A.t1 (.inl e3)), (by show 2 ≤ sizeLine; decide), fun p np => ?_⟩
    have q := q1 _ (same_new (o := .lst [V.int c, V.int b]) np)
    unfold mk at q
    rw [if_neg e1, if_neg e2, if_pos e3] at q
    by_cases z : a = 0
    · rw [if_pos z] at q
      refine ⟨_, rfl, rfl, .inr ⟨_, rfl, p, _, _, .int c, rfl, rfl, SqL.of upd_same, ?_, q⟩⟩
      rw [z]
      rfl
    · rw [if_neg z] at q
      refine ⟨_, rfl, rfl, .inr ⟨_, rfl, p, _, _, .int b, rfl, rfl, SqL.of upd_same, ?_, q⟩⟩
      rw [show (!decide (V.int a = V.int 0)) = true by rw [decide_eq_false fun y => z (V.int.inj y)]; rfl]
      rfl
  refine ⟨_, rfl, t, _, rfl, .inl (SqL.of ht), rfl, _, rfl, if_bl (fun e4 => ?_) (fun e4 => ?_)⟩
  · have e5 : needs h.wd = 1 := by
      have := V.int.inj (of_decide_eq_true e4)
      rw [List.length_map] at this
      omega
    have q := q1 H (fun _ _ e => e)
    unfold mk at q
    rw [if_neg e1, if_neg e2, if_neg e3, if_pos (one_of g e1 e2 e5)] at q
    exact ⟨_, rfl, q⟩
  have e5 : needs h.wd ≠ 1 := fun z => of_decide_eq_false e4 (by rw [List.length_map, hl, z])
  have f5 := five_of g win e1 e2 e3 e5
  have n1 : h.wd ≠ "same" := fun z => by rw [z] at f5; exact absurd f5 (by decide +kernel)
  have n2 : h.wd ≠ "out" := fun z => by rw [z] at f5; exact absurd f5 (by decide +kernel)
  refine ⟨_, rfl, t, _, _, _, rfl, rfl, SqL.of ht, atI_nat (j := 1) (A.t1 (.inr ⟨e1, e2, n1, n2⟩)), ?_⟩
  refine fun d nd => ⟨_, rfl, _, rfl, _, _, rfl, rfl, _, rfl, _, rfl, _, _, rfl, rfl, _, rfl, _, rfl, _, _, rfl, rfl, .inr ⟨_, rfl, _, rfl, _, rfl, _, _, rfl, _, rfl, _, rfl, _, _, rfl, upd_same, kv5 a b, ?_, (by show 5 ≤ 15; decide), ?_⟩⟩
  · by_cases z : a < b
    · simp [z, kV]
    · simp [z, kV]
  have s1 : Same H (upd (upd H d (.dK [])) d (.dK (mergeK [] (kv5 a b)))) := by rw [upd_upd]; exact same_new nd
  refine ⟨_, rfl, _, rfl, r, _, _, _, rfl, rfl, SqT.of (s1 _ _ hr1), atI_nat (j := 0) rfl, d, .int (mk h.wd n a b c), rfl, ?_, q1 _ s1⟩
  have := DGet.k (k := Sum.inr h.wd) (upd_same (H := upd H d (.dK [])) (a := d) (o := .dK (mergeK [] (kv5 a b))))
  rw [five_val f5 n a b c] at this
  exact this
end
/-! ### slices and sums of tuples, whatever they are -/
theorem slA_of {K : PySem.W.Frag} {H : Hp} {a : Addr} {xs : List V} {lo hi : Option Int} {Q : VK} (h : H a = some (.tup xs)) (k : ∀ (p : Addr) (H' : Hp), H' p = some (.tup (cutV xs lo hi)) → Same H H' → Q (.ref p) H') : rSlA K (.ref a) lo hi H Q := by
  refine ⟨a, xs, rfl, SqT.of h, fun z => k a H ?_ (Same.refl _), fun _ p np => k p _ upd_same (same_new np)⟩
  unfold cutV
  rw [z.1, z.2, List.drop_zero, Nat.sub_zero, List.take_length]
  exact h
theorem catA_of {K : PySem.W.Frag} {H : Hp} {a b : Addr} {xs ys : List V} {Q : VK} (h : H a = some (.tup xs)) (g : H b = some (.tup ys)) (l : xs.length + ys.length ≤ 1000) (k : ∀ (p : Addr) (H' : Hp), H' p = some (.tup (xs ++ ys)) → Same H H' → Q (.ref p) H') : rCatA K (.ref a) (.ref b) H Q := by
  refine ⟨a, b, xs, ys, rfl, rfl, SqT.of h, SqT.of g, little l, fun e => k b H ?_ (Same.refl _), fun _ e => k a H ?_ (Same.refl _), fun _ _ p np => k p _ upd_same (same_new np)⟩
  · rw [e]; exact g
  · rw [e, List.append_nil]; exact h
theorem cut_take (xs : List V) (k : Nat) : cutV xs none (some ((k : Nat) : Int)) = xs.take k := by
  unfold cutV
  rw [HT.sIx_nat, HT.sIx_none, List.drop_zero, Nat.sub_zero]
  by_cases h : k ≤ xs.length
  · rw [Nat.min_eq_left h]
  · rw [Nat.min_eq_right (by omega), List.take_length, List.take_of_length_le (by omega)]
theorem cut_part {xs : List V} {lo hi : Option Int} : ∀ x ∈ cutV xs lo hi, x ∈ xs := fun x hx => List.mem_of_mem_drop (List.mem_of_mem_take hx)
theorem cut_nats {ns : List Nat} {lo hi : Option Int} : ∃ ms : List Nat, cutV (ns.map nV) lo hi = ms.map nV ∧ ms.length ≤ ns.length ∧ ∀ x ∈ ms, x ∈ ns := by
  refine ⟨(ns.drop (HT.sIx (ns.map nV).length 0 lo)).take (HT.sIx (ns.map nV).length (ns.map nV).length hi - HT.sIx (ns.map nV).length 0 lo), ?_, ?_, fun x hx => List.mem_of_mem_drop (List.mem_of_mem_take hx)⟩
  · unfold cutV
    rw [List.map_take, List.map_drop]
  · rw [List.length_take, List.length_drop]
    omega
structure HOk (hs : List HR) : Prop where
  hands : hs.length ≤ 12
  good : ∀ h ∈ hs, GoodHand h
section
variable {P : Program} {w : World} {K : PySem.W.Frag} {mg : Str → Option Value} {base : Heap}
def sp_law_doors (K : PySem.W.Frag) : Sp := fun vs H Q _ => ∃ (r : Addr) (hs : List HR) (bs : List BR) (z : Str), vs = [.ref r, .str z] ∧ (z = "in" ∨ z = "out") ∧ RoomAt H r hs bs ∧ HOk hs ∧ ∀ (p : Addr) (H' : Hp), H p = none → H' p = some (.lst ((doorsOf z hs).map nV)) → Same H H' → Q (.ref p) H'
theorem ok_law_doors {f : Addr} {fd : FuncData} (F : Fun K "_law_doors" "_law_doors" s_law_doors f fd) {C : Addr} (T : Top K mg C) : FnOk P w K mg base CX0 1 f fd ["_law_room_here", "_law_word"] (sp_law_doors K) := by
  refine F.ok sc_law_doors (fun vs H Q E h => ?_) (fun cdv A outer s H vs Q E hr h => ?_)
  · obtain ⟨r, hs, bs, z, rfl, _⟩ := h
    rfl
  obtain ⟨r, hs, bs, z, rfl, hz, hR, ok, q⟩ := h
  have oz : SeqAt.shaped (.tuple [.str z]) = true := by rcases hz with rfl | rfl <;> exact one_shaped (by decide +kernel)
  obtain ⟨ha, ba, hv, bv, er, eh, eb, alh, alb⟩ := id hR.ex
  have lhv := alh.length
  have lh := ok.hands
  refine ⟨_, (pss_one (ps_ret (pe_lc (own := [("_law_k", 2), ("_law_hand", 3)]) (g := gTup K 2 (gCons (gName 2) (gCons (gName 3) gNil))) (by rfl) sc_law_doors.nd (pi_enumT K rfl (by rfl) T.m_enumerate (pa_cons (pe_ix (ix_tupK K rfl) (pv 0) pe_int (fun _ _ => rfl)) pa_nil)) (blkOk_by (own := [("_law_k", 2), ("_law_hand", 3)]) (N := N_law_doors) (sc := defScope s_law_doors) (by decide +kernel)) (fun _ _ _ _ _ => (pg_tupK K rfl rfl (pgs_cons (pg_name (i := 2) sc_law_doors.nd rfl (Or.inl rfl)) (pgs_cons (pg_name (i := 3) sc_law_doors.nd rfl (Or.inl rfl)) pgs_nil)))) (fun _ _ _ _ _ => pts_one (pt_cmpR (op_eqDK K rfl hr.units) (pe_ix (ix_tupK K rfl) (pv 3) pe_int (fun _ _ => rfl)) (pe_tup (pa_cons (pv 1) pa_nil)) (nomark _))) (fun _ _ _ _ _ => (pv 2))))), ?_⟩
  refine ⟨_, rfl, r, _, _, _, rfl, rfl, SqT.of er, atI_nat (j := 0) rfl, ha, hv, rfl, SqT.of eh, fun D nD => lc_it (J := IteT K ha hv) (n := hv.length) (fun i H5 => H5 D = some (.lst (((List.range i).filter fun j => decide (hs[j]?.map HR.wd = some z)).map nV)) ∧ Same H H5) ⟨upd_same, same_new nD⟩ ?_ ?_ ?_ ?_⟩
  · rintro i H5 hi ⟨hD, s5⟩
    exact ⟨SqT.of (s5 _ _ eh), hi⟩
  · rintro H5 ⟨hD, s5⟩
    exact ⟨SqT.of (s5 _ _ eh), rfl⟩
  · rintro i x H5 H6 hi ⟨hD, s5⟩ ⟨t, y, rfl, nt, rfl, ey⟩
    obtain ⟨hh, eb2, ⟨t2, g, rfl, e1, e2⟩⟩ := alh.getL ey
    have gh := ok.good _ (List.mem_of_getElem? eb2)
    have s6 := s5.trans (same_new (o := .tup [V.int ((i : Nat) : Int), V.ref t2]) nt)
    have hD6 := same_new (o := .tup [V.int ((i : Nat) : Int), V.ref t2]) nt _ _ hD
    have few := filt_len (p := fun j => decide (hs[j]?.map HR.wd = some z)) i
    refine ⟨t, _, rfl, SqT.of upd_same, rfl, _, _, rfl, _, _, rfl, rfl, rfl, _, rfl, t2, _, _, _, rfl, rfl, SqT.of (s6 _ _ e1), atI_nat (j := 0) rfl, ?_⟩
    generalize upd H5 t (.tup [V.int ((i : Nat) : Int), V.ref t2]) = H6 at s6 hD6 ⊢
    refine ⟨_, rfl, (by show 1 ≤ sizeLine; decide), fun o1 no1 => ?_⟩
    have s7 := s6.trans (same_new (o := .tup [V.str z]) no1)
    have hD7 := same_new (o := .tup [V.str z]) no1 _ _ hD6
    refine ⟨_, _, rule_dp (s7 _ _ e2), .tup (SqT.of upd_same) (.cons (.str _) .nil), rule_shaped gh.lay, oz, _, rfl, ?_⟩
    rw [rule_eqv, gh.door z hz]
    by_cases c : hh.wd = z
    · rw [decide_eq_true c]
      refine if_bl (fun _ => ⟨_, rfl, _, hD7, by rw [List.length_map]; exact small1000 (by omega), ?_, Same.own s7 nD⟩) (fun z => nomatch z)
      rw [upd_same, filt_succ, if_pos (decide_eq_true (by rw [eb2, ← c]; rfl)), List.map_append]
      rfl
    · rw [decide_eq_false c]
      refine if_bl (fun z => nomatch z) (fun _ => ⟨?_, s7⟩)
      rw [filt_succ, if_neg fun z => c (by have := of_decide_eq_true z; rw [eb2] at this; exact Option.some.inj this), List.append_nil]
      exact hD7
  · rintro H5 ⟨hD, s5⟩
    refine q D H5 nD ?_ s5
    rw [hD, lhv]
    rfl
end
def takenAt (b : BR) (ms : List (List Int)) (t : Nat) : Int := if t < b.th.length then gD b.th t else gD (ms.getD (t - b.th.length) []) b.one
/-! ### what hands make, by bells; rooms moved go on -/
/-- what a hand makes at a bell -/
def Vm (ms : List (List Int)) (s k : Nat) : Int := gD (ms.getD s []) k
theorem getD_at {ms : List (List Int)} {s : Nat} {m : List Int} (h : ms[s]? = some m) : ms.getD s [] = m := by
  rw [List.getD_eq_getElem?_getD, h]; rfl
theorem taken_at_eq {b : BR} {ms : List (List Int)} {s : Nat} (h : s ≤ ms.length) (m : List Int) (hm : ms[s]? = some m) : valB (gD m) (standB (ms.take s) b) = takenAt b ms s := by
  have ls : (ms.take s).length = s := by rw [List.length_take]; omega
  unfold takenAt
  by_cases e : b.th = []
  · rw [valB_nil ((stand_th _ b).mpr e), stand_one, e]
    rw [if_neg (by show ¬ s < 0; omega)]
    show gD m b.one = gD (ms.getD (s - 0) []) b.one
    rw [Nat.sub_zero, getD_at hm]
  · rw [stand_head _ e, ls]
    by_cases c : s < b.th.length
    · rw [if_pos c, List.getD_eq_getElem?_getD, List.getElem?_append_left c]
      show _ = b.th.getD s 0
      rw [List.getD_eq_getElem?_getD]
    · rw [if_neg c, List.getD_eq_getElem?_getD, List.getElem?_append_right (by omega), List.getElem?_map]
      have pos := List.length_pos_iff.mpr e
      rw [List.getElem?_take_of_lt (by omega)]
      have l : s - b.th.length < ms.length := by
        have := (List.getElem?_eq_some_iff.mp hm).1
        omega
      rw [List.getElem?_eq_getElem l, List.getD_eq_getElem?_getD, List.getElem?_eq_getElem l]
      rfl
theorem takes_stand {bs : List BR} {ms : List (List Int)} {s k : Nat} {m : List Int} (hm : ms[s]? = some m) : takes (stand bs (ms.take s)) (gD m) k = (bs.filter fun b => decide (b.to = k)).map fun b => takenAt b ms s := by
  have hl : s ≤ ms.length := Nat.le_of_lt (List.getElem?_eq_some_iff.mp hm).1
  unfold takes
  induction bs with
  | nil => rfl
  | cons b bs ih =>
    rw [show stand (b :: bs) (ms.take s) = standB (ms.take s) b :: stand bs (ms.take s) from rfl, List.filter_cons, List.filter_cons, stand_to]
    by_cases c : b.to = k
    · rw [if_pos (decide_eq_true c), if_pos (decide_eq_true c), List.map_cons, List.map_cons, ih, taken_at_eq hl m hm]
    · rw [if_neg (by rw [decide_eq_false c]; exact Bool.false_ne_true), if_neg (by rw [decide_eq_false c]; exact Bool.false_ne_true)]
      exact ih
theorem WS.hand {hs : List HR} {bs : List BR} {rows ms : List (List Int)} (a : WS hs bs rows ms) {s k : Nat} {h : HR} (sl : s < ms.length) (eh : hs[k]? = some h) (w : h.wd ≠ "in") : Vm ms s k = mkR h ((bs.filter fun b => decide (b.to = k)).map fun b => takenAt b ms s) := by
  have em : ms[s]? = some ms[s] := List.getElem?_eq_getElem sl
  have er : rows[s]? = some (rows[s]'(by rw [← a.len]; exact sl)) := List.getElem?_eq_getElem _
  have B := a.at_ s _ _ er em
  have q := B.hand k h eh w
  rw [takes_stand em] at q
  unfold Vm
  rw [getD_at em]
  show ms[s].getD k 0 = _
  rw [List.getD_eq_getElem?_getD, q]
  rfl
theorem WS.door {hs : List HR} {bs : List BR} {rows ms : List (List Int)} (a : WS hs bs rows ms) {s k j : Nat} (sl : s < ms.length) (ed : (doorsOf "in" hs)[j]? = some k) : Vm ms s k = gD (rows.getD s []) j := by
  have em : ms[s]? = some ms[s] := List.getElem?_eq_getElem sl
  have er : rows[s]? = some (rows[s]'(by rw [← a.len]; exact sl)) := List.getElem?_eq_getElem _
  have B := a.at_ s _ _ er em
  unfold Vm
  rw [getD_at em, getD_at er]
  show ms[s].getD k 0 = (rows[s]'_).getD j 0
  rw [List.getD_eq_getElem?_getD, List.getD_eq_getElem?_getD, B.door j k ed]
/-! ### NotReady begun; a method that may refuse -/
section
variable {P : Program} {w : World} {K : PySem.W.Frag} {mg : Str → Option Value} {base : Heap}
def sp_NsInit (K : PySem.W.Frag) (C : Addr) : Sp := fun vs H Q _ => ∃ (a : Addr) (x : V), vs = [.ref a, x] ∧ H a = some (exo a C none) ∧
  ∀ d, H d = none → d ≠ a → Q .non (upd (upd H d (exd d [("hand", x)])) a (exo a C (some d)))
theorem ok_NsInit {C CB fI : Addr} {fd : FuncData} (N : NsC K mg C CB fI fd) : FnOk P w K mg base CX0 1 fI fd ["self", "hand"] (sp_NsInit K C) := by
  refine N.F.ok sc_NotReady_init (fun vs H Q E h => ?_) (fun cdv A outer s H vs Q E hr h => ?_)
  · obtain ⟨a, x, rfl, _⟩ := h
    rfl
  obtain ⟨a, x, rfl, ha, q⟩ := h
  refine ⟨_, pss_one (ps_ost (pv 0) (pv 1)), ?_⟩
  refine ⟨_, rfl, _, rfl, a, C, rfl, N.T, N.nh, .inl ⟨ha, fun d nd da => q d nd da⟩⟩
end
abbrev nrA (K : PySem.W.Frag) : Addr := He.ga K "NotReady"
/-- o.m(..), the errors that may come out told by the slots -/
def tMethX (C : Addr) (m : Str) (sp : Sp) (E : L2.St → XK) (ta : TE) (t : TA) : TE := fun σ H Q => ta σ H fun x H1 => ∃ a dx fs, x = .ref a ∧ H1 a = some (.ins C dx fs) ∧ fs.lookup m = none ∧ t σ H1 fun vs H2 => sp (x :: vs) H2 Q (E σ)
section
open PySem.W PySem.Calls
theorem pe_methX {X : Cx} {CX : CXT} {k : Nat} {C f : Addr} {fd : FuncData} {ps : List Str} {m : Str} {sp : Sp} {E : L2.St → XK} {o e : Expr} {es : List Expr} {ta : TE} {t : TA} {apos pos : Pos} {pl : Sem Bool} (obj : PE X o ta) (cls : Cls X.K C) (meth : Meth X.K C m f) (prom : FnOk X.prog X.w X.K X.mg X.base CX k f fd ps sp) (room : Room k X.A) (bound : Binds X.K fd ps []) (pass : ∀ σ, PassesAt CX X σ (E σ)) (args : PA X (e :: es) t)
    (stars : starEach (e :: es) X.env = (false, eval e X.env) :: starEach es X.env := by rfl) (plain : (backTo pos (starEach es X.env)).any (·.1) = false := by rfl)
    (reads : eval (.Call (.Attribute o m apos) (e :: es) [] pos) X.env = (do
      let ov ← eval o X.env
      standAt apos.atName
      let (f, first) ← holding [ov] (getMethod ov m pl)
      callWith pos f first (backTo pos (starEach (e :: es) X.env)) (backToKw pos (keywordEach [] X.env))) := by rfl) :
    PE X (.Call (.Attribute o m apos) (e :: es) [] pos) (tMethX C m sp E ta t) := ⟨fun pins s σ H Q I h =>
  methodCall_KW (pl := pl) (thn (obj.run pins s σ H _ I h) fun u s1 ⟨x, H1, I1, rx, a, dx, fs, ex, ea, lk, q⟩ => by
    subst ex
    have eu : u = Value.ref a := rx
    subst eu
    refine getmeth_ok I1 ea cls meth lk (callWith_K (first := [.ref a]) (h₀ := X.base) I.ok.mod.kin meth.kp (thn (args.run pos pins s1 σ H1 _ I1 q) fun us s2 ⟨vs, H2, I2, r, q2⟩ => ⟨I2.kIn, ?_⟩) stars plain)
    exact run_fnS (us := .ref a :: us) (vs := .ref a :: vs) prom room bound (pass σ) I2 (.cons rfl r) q2) reads⟩
end
/-! ### isinstance of a caught error that has fields of its own -/
section
open PySem.W PySem.Calls
variable {prog : Program} {w : World} {A : Around} {K : PySem.W.Frag} {x D : Addr} {ox : Obj} {od : Option Obj}
/-- what the class says with a setter goes before what the instance says -/
theorem found_class (C : ExcC K D) : findObj K D od "__class__" = some (.bind (.builtin "getset_descriptor.__get__") (.builtin "object.__class__")) := by
  have some_cls : ∃ cd, clsIn K D = some cd := by
    obtain ⟨cd, h, _⟩ := any_some C.hd
    exact ⟨cd, h⟩
  obtain ⟨cd, h⟩ := some_cls
  unfold findObj
  simp only [h, C.ha, C.hn, C.ht, Option.bind_some]
/-- the built in reader of fields, asked for the class -/
theorem reader_class {E : Value → Shared → Prop} {Q : Value → Shared → Prop} {hp : Heap} {g : Array GenState} {d : Drawn} {t tk : Nat} {os : OsState} (C : ExcC K D) (X : K.In hp) (I : InstAt hp x ox D od) (q : Q (.ref D) ⟨hp, g, d, t, os⟩) :
    wpAny (model prog w) A (call (.builtin "BaseException.__getattribute__") [.ref x, .str "__class__" tk]) Q E ⟨hp, g, d, t, os⟩ := by
  have known := I.type (M := model prog w)
  refine wpAny_call (codeAny_call_builtin PySem.F.excAttr_ValueError.ga.plain PySem.F.entry_bexc_ga ?_)
  refine @check_slot (model prog w) _ _ ⟨hp, g, d, t, os⟩ "BaseException.__getattribute__" "BaseException" "__getattribute__" (.ref x) [.str "__class__" tk] [] _ (by decide +kernel) (by decide +kernel) (known.andThen (looks_subIn X C.hs)) (PySem.F.args_bexc_ga (.ref x) (.str "__class__" tk)) ?_
  unfold Builtin.«object.__getattribute__»
  refine wpAny_bind (wpAny_of_eq (a := ((Value.ref x : Value), [Value.str "__class__" tk])) (by first | rfl | (simp only [slotArgs]; rfl)) (wpAny_bind (wpAny_pure (wpAny_bind (known.at (wpAny_bind ((looks_find (M := model prog w) X I (found_class C)).at ?_)))))))
  refine wpAny_bind (wpAny_holding (wpAny_call (class_get (s := ⟨hp, g, d, t, os⟩) (ox := ox) (od := od) X I C.hm ?_)))
  refine wpAny_pure ?_
  exact q
theorem asked_class {E : Value → Shared → Prop} {Q : Option Value → Shared → Prop} {s : Shared} (C : ExcC K D) (X : K.In s.heap) (I : InstAt s.heap x ox D od) (q : Q (some (.ref D)) { s with toks := s.toks + 1 }) : wpAny (model prog w) A (getAttr? (.ref x) "__class__") Q E s := by
  obtain ⟨hp, g, d, t, os⟩ := s
  have other : (onTheHeap (Value.ref D) && Value.builtin "BaseException.__getattribute__" == Value.builtin "object.__getattribute__") = false := by
    rw [show (Value.builtin "BaseException.__getattribute__" == Value.builtin "object.__getattribute__") = false by decide +kernel]
    rfl
  unfold getAttr? getAttrBy? getAttrBy
  refine wpAny_bind (wpAny_mkText (wpAny_bind (wpAny_attempt (wpAny_holding (wpAny_bind ((I.type (M := model prog w)).at (wpAny_bind ((looks_findIn (M := model prog w) X C.hg).at ?_))))))))
  show wpAny _ _ (if (onTheHeap (Value.ref D) && Value.builtin "BaseException.__getattribute__" == Value.builtin "object.__getattribute__") = true then _ else _) _ _ _
  rw [other, if_neg Bool.false_ne_true]
  unfold getAttrByItsOwn hookBefore
  rw [if_pos (show onTheHeap (Value.ref D) = true from rfl)]
  refine wpAny_bind ((looks_findIn (M := model prog w) X C.hk).at (wpAny_bind (wpAny_attempt (wpAny_holding ?_))))
  unfold callGetattribute
  rw [show (false && onTheHeap (Value.builtin "BaseException.__getattribute__")) = false from rfl, if_neg Bool.false_ne_true]
  unfold boundAndCalled
  rw [PySem.F.excAttr_ValueError.ga.bind (.ref x)]
  refine wpAny_bind (wpAny_pure ?_)
  refine reader_class C X I ?_
  first
    | exact wpAny_pure (wpAny_pure q)
    | exact wpAny_pure q
    | exact wpAny_pure (wpAny_bind (wpAny_pure (wpAny_pure q)))
    | exact q
/-- isinstance's own question, for such an error -/
theorem kit_fields (C : ExcC K D) : KitX K (.ref x) (.ref D) (fun h => InstAt h x ox D od) := by
  have place : ∃ c' d' cd' sl', K.lookup D = some ⟨c', d', .cls cd', sl'⟩ := by
    obtain ⟨cd, h, _⟩ := any_some C.hd
    unfold clsIn at h
    split at h
    · rename_i c' d' cd' sl' ho
      exact ⟨_, _, _, _, ho⟩
    · cases h
  obtain ⟨c', d', cd', sl', ho⟩ := place
  refine ⟨fun _ _ _ I => I.type, fun _ _ X _ => ?_, fun h tp dd its n sl X htp => ?_, fun X I k => asked_class C X I k⟩
  · intro A' Q' E' s' k q
    unfold isType loadHead
    exact wpAny_bind (wpAny_loadPart (k _ _ (X _ _ ho)) (wpAny_pure q))
  · refine Bool.eq_false_iff.mpr fun z => ?_
    obtain rfl : D = tp := Value.ref.inj (beq_iff_eq.mp z)
    have := (X _ _ ho).symm.trans htp
    cases this
end
theorem call_isF {X : Cx} {a D : Addr} {cls : Value} {d : Option Addr} {oe : Obj} {pn : List (Addr × Obj)} (C : ExcC X.K D) (hz : Zc cls d oe) (hf : ∃ vs, oe.data = .fields vs) : CallR (X.suite a ((a, oe) :: pn)) (.builtin "isinstance") (fun xs H Q => cls = .ref D ∧ (∃ dd fs, d = some dd ∧ H dd = some (.xd fs)) ∧ rIsE X.K D a xs H Q) := by
  intro pins s σ H xs us Q I r h
  obtain ⟨rfl, ⟨dd, fs, rfl, hdd⟩, c, cv, b, rfl, hcv, e, q⟩ := h
  cases r with
  | cons rx rr =>
    cases rr with
    | cons rt rr =>
      cases rr
      cases rx
      have ec := hcv _ rt
      subst ec
      obtain ⟨at_, _⟩ := I.pin (a, oe) (List.mem_append.mpr (.inl List.mem_cons_self))
      obtain ⟨vs, hv⟩ := hf
      obtain ⟨mA, hns, _⟩ := (I.hok dd _ hdd : ObjOk X.prog X.w H s.heap dd (.xd fs))
      obtain ⟨od, ho, _⟩ := lookIn_ns hns
      have J : PySem.W.InstAt s.heap a oe D (some od) := ⟨at_, hz.1, by unfold PySem.W.notCls; rw [hv] <;> rfl, by rw [hz.2]; exact ho⟩
      exact PySem.W.kia_one (kit_fields C) I.kIn J e (fun z => nomatch z) fun tk => ⟨.bl b, H, I.kept (t' := tk) fun _ _ z => z, rfl, q⟩
theorem call_isFT {X : Cx} {a D : Addr} {cls : Value} {d : Option Addr} {oe : Obj} {pn : List (Addr × Obj)} (C : ExcC X.K D) (hz : Zc cls d oe) (hf : ∃ vs, oe.data = .fields vs) : CallR (X.suite a ((a, oe) :: pn)) (.builtin "isinstance") (fun xs H Q => cls = .ref D ∧ (∃ dd fs, d = some dd ∧ H dd = some (.xd fs)) ∧ ∃ (tp : Addr) (cs : List V) (us : List Value) (b : Bool), xs = [.ref a, .ref tp] ∧ H tp = some (.tup cs) ∧ Paired ClsV cs us ∧ PySem.W.kitAny X.K (.ref D) us = some b ∧ Q (.bl b) H) := by
  intro pins s σ H xs us Q I r h
  obtain ⟨rfl, ⟨dd, fs, rfl, hdd⟩, tp, cs, ws, b, rfl, hT, k, e, q⟩ := h
  cases r with
  | cons rx rr =>
    cases rr with
    | cons rt rr =>
      cases rr
      cases rx
      cases rt
      obtain ⟨at_, _⟩ := I.pin (a, oe) (List.mem_append.mpr (.inl List.mem_cons_self))
      obtain ⟨vs, hv⟩ := hf
      obtain ⟨mA, hns, _⟩ := (I.hok dd _ hdd : ObjOk X.prog X.w H s.heap dd (.xd fs))
      obtain ⟨od, ho, _⟩ := lookIn_ns hns
      have J : PySem.W.InstAt s.heap a oe D (some od) := ⟨at_, hz.1, by unfold PySem.W.notCls; rw [hv] <;> rfl, by rw [hz.2]; exact ho⟩
      obtain ⟨_, its, rv, o, h1, h2, n, h3⟩ := (show ObjOk X.prog X.w H s.heap tp (.tup cs) from I.hok tp _ hT)
      have e3 := ClsV.all k rv
      subst e3
      obtain ⟨oc, od2, dt, sl⟩ := o
      simp only at h2 h3
      subst h2 h3
      exact PySem.W.kia_tup (kit_fields C) I.kIn J h1 e (fun z => nomatch z) fun tk => ⟨.bl b, H, I.kept (t' := tk) fun _ _ z => z, rfl, q⟩
/-! ### errors whose context is None, and a call while one of them is handled -/
section
variable {P : Program} {w : World} {K : PySem.W.Frag} {mg : Str → Option Value} {base : Heap}
theorem okN60 {x qual : Str} {st : Stmt} {f : Addr} {fd : FuncData} {N ps : List Str} {k : Nat} {sp : Sp} (F : Fun K x qual st f fd) (S : FnScope N ps (defScope st)) (len : ∀ vs H Q E, sp vs H Q E → vs.length = ps.length)
    (body : ∀ (cdv : Value) (A : Around) (outer : List Env) (s : Shared) (H : Hp) (vs : List V) (Q : VK) (E : XK), Room k (A.deeper (envOfC qual (defScope st) s.heap.objs.size f cdv)) → sp vs H Q E →
      ∃ t, PSs (cxOf (L2N.CX P w) P w K mg base N qual (defScope st) f cdv A outer s H E) (defBody st) t ∧ t { nx := fun _ H' => Q .non H', rt := Q } (start N vs) H) : FnOk P w K mg base (L2N.CX P w) (k + 1) f fd ps sp := by
  rcases F.ex with ⟨_, _, _, _, _, _, c, _, _, rfl, at_, code⟩
  exact fn_of at_ code S len (body c)
end
theorem takesN {X : Cx} : L2N.Takes X (fun _ _ _ _ => False) := fun u s' x => by
  obtain ⟨_, _, _, _, _, _, _, _, _, _, _, _, _, _, _, _, none⟩ := x
  exact none.elim
theorem hot60 {X : Cx} {a : Addr} {oe : Obj} {cls : Value} {d : Option Addr} {pn : List (Addr × Obj)} (z : L2N.Zn cls d oe) (h : ∃ vs, oe.data = .fields vs) : L2H.HotC (X.suite a ((a, oe) :: pn)) := by
  obtain ⟨vs, e⟩ := h
  exact ⟨(a, oe), ⟨rfl, vs, e, z.2.2 vs e⟩, List.mem_cons_self ..⟩
section
open PySem.W PySem.Calls
/-- what stands when the class's own __init__ is done: its error, of no context -/
theorem made60 {X : Cx} {pins : List (Addr × Obj)} {σ : L2.St} {Q : XK} {H1 H2 : Hp} {before between after : Heap} {g1 g2 : Array GenState} {d1 d2 : Drawn} {t1 t2 : Nat} {o1 o2 : OsState} {x C d : Addr} {fs : List (Str × V)} (cls : OexC X.K C) (I : Inv X pins σ H1 ⟨before, g1, d1, t1, o1⟩) (fresh : before.objs.size ≤ x) (grows : ∀ b o, before.get? b = some o → between.get? b = some o)
    (un : Un (frs X.stack) [] (upd H1 x (exo x C none)) H2 between after) (hok : L2.HOk X.prog X.w H2 after) (same : o2 = o1) (bare : AllBare g2) (hx : H2 x = some (exo x C (some d))) (hd : H2 d = some (exd d fs)) (nd : H1 d = none) (q : Q (.ref C) (some d) (upd (del H2 x) d (.xd fs))) :
    L2N.MkP X pins σ Q (.ref x) ⟨after, g2, d2, t2, o2⟩ := by
  have e := mk_end0 (d2 := d2) (t2 := t2) I fresh grows un hok same bare hx hd nd
  obtain ⟨args, G, inv, sub, gone, here, off⟩ := e
  have ctx : PXN.CtxN ({ cls := .ref C, dict := some d, data := .fields #[.ref args, .none, .none, .none, .bool false, .none] } : Obj) := fun vs h => by
    cases h
    rfl
  exact ⟨x, _, _, _, _, _, some d, rfl, inv, sub, gone, here, ⟨rfl, rfl, ctx⟩, rfl, rfl, off, rfl, bare, raises_own cls.exC cls.tyC, q⟩
theorem pmk60 {X : Cx} {CX : CXT} {name : Str} {e : Expr} {es : List Expr} {ta : TA} {p pos : Pos} {C fI : Addr} {k : Nat} {fd : FuncData} {ps : List Str} {sp : Sp} (cls : OexC X.K C) (init : findIn X.K (.ref C) "__init__" = some (some (.ref fI))) (isf : typeIn X.K (.ref fI) = some (.type "function"))
    (prom : FnOk X.prog X.w X.K X.mg X.base CX k fI fd ps sp) (room : Room (k + 1) X.A) (bound : Binds X.K fd ps []) (pass : Passes CX X (fun _ _ _ => False)) (glob : Gl X name) (known : X.mg name = some (.ref C)) (args : PA X (e :: es) ta)
    (ndb : (name == ("__debug__" : Str)) = false := by decide) (stars : starEach (e :: es) X.env = (false, eval e X.env) :: starEach es X.env := by rfl) (plain : (backTo pos (starEach es X.env)).any (·.1) = false := by rfl) :
    L2N.PMk X (.Call (.Name name p) (e :: es) [] pos) (tMkO C sp [] ta) := fun pins s σ H Q I want => by
  obtain ⟨_, _, _, _, bm, _, _, _, _, _, _, _, _, _, _, place, ves⟩ := cls.cls
  refine wpAny_Call_Name_kw (ld_glob I glob known (callWith_K (h₀ := X.base) I.ok.mod.kin cls.kC (thn (args.run pos pins s σ H _ I want) fun us s1 told => ?_) stars plain) ndb)
  obtain ⟨vs, H1, I1, rel, few, go⟩ := told
  refine ⟨I1.kIn, ?_⟩
  obtain ⟨old, gs, dr, tk, os⟩ := s1
  -- the error's args at the heap's end, the error behind them
  have le : old.objs.size ≤ old.objs.size + 1 := Nat.le_succ _
  have grows : ∀ b o, old.get? b = some o → ((old.push (kdv_tup us)).push (HandSPX.excO C old.objs.size)).get? b = some o := fun b o h => Heap.get?_push_of_some _ (Heap.get?_push_of_some _ h)
  have at_ : ((old.push (kdv_tup us)).push (HandSPX.excO C old.objs.size)).get? (old.objs.size + 1) = some (HandSPX.excO C old.objs.size) := by heap_get
  have I2 := I1.laid (t' := tk) grows le (exo_ok at_)
  have all : Vals (V.ref (old.objs.size + 1) :: (vs ++ [])) (Value.ref (old.objs.size + 1) :: us) := by
    rw [List.append_nil]
    exact .cons rfl rel
  have spec := go (old.objs.size + 1) (I1.hok.fresh le)
  have count : (Value.ref (old.objs.size + 1) :: us ++ []).length = ps.length := by
    rw [List.append_nil, ← prom.len _ _ _ _ spec]
    exact all.length.symm
  have short : us.length ≤ sizeLine := by
    have := Paired.length rel
    rw [sizeLine_eq]
    omega
  have binds := bound _ (Value.ref (old.objs.size + 1) :: us) I2.kIn count
  rw [List.append_nil] at binds
  have runs := prom.run _ X.stack _ _ ⟨Value.ref (old.objs.size + 1) :: us, []⟩ _ _ _ (fun _ _ _ => False) (room.make C us []) (I2.env0.make C us []) binds all spec
  refine wpAny_call (HandSPX.call_own F.excBase_ValueError (fun Y => HandSPX.refsVE_contains Y bm ves) (I1.kIn _ _ place) (looks_findIn I1.kIn init) (fun self => bind_fn I1.kIn self isf) short (codeAny_mono runs fun r s' out => ?_))
  match r, out with
  | .error er, out => exact pass pins σ _ _ er s' I2 out
  | .ok .next, out => exact out.elim
  | .ok .brk, out => exact out.elim
  | .ok .cont, out => exact out.elim
  | .ok (.ret u), ⟨v, H2, same, bare, un, hok, rv, ev, d, fs, hx, hd, nd, q⟩ =>
    subst ev
    obtain ⟨after, g2, d2, t2, o2⟩ := s'
    exact ⟨rv, made60 cls I1 le grows un hok same bare hx hd nd q⟩
end
/-! ### _law_alike of two equal ints, while an error is handled -/
section
variable {P : Program} {w : World} {K : PySem.W.Frag} {mg : Str → Option Value} {base : Heap}
theorem rh60 {k : Nat} {A : Around} (r : L2H.RoomH k A) : A.units + 64 < cLine := by
  have := r.un
  omega
theorem ps_dead {X : Cx} {st : Stmt} : PS X st (fun _ _ _ => False) := ⟨fun _ _ _ _ _ _ h => h.elim⟩
def sp_hot60 : Sp := fun vs H Q _ => ∃ a : Int, vs = [.int a, .int a] ∧ ∀ H', Same H H' → Q (.bl true) H'
theorem ok_hot60 {f : Addr} {fd : FuncData} (F : Fun K "_law_alike" "_law_alike" s_law_alike f fd) {C : Addr} (T : Top K mg C) : L2H.FnH P w K mg base CX0 1 f fd ["_law_found", "_law_due"] sp_hot60 := by
  rcases F.ex with ⟨_, _, _, _, _, _, _, _, _, rfl, at_, code⟩
  refine L2H.fn_ofH at_ code sc_law_alike (fun vs H Q E h => ?_) fun A outer s H vs Q E p hot hr h => ?_
  · obtain ⟨a, rfl, _⟩ := h
    rfl
  obtain ⟨a, rfl, q⟩ := h
  refine ⟨_, (pss_cons (ps_if (pt_val (pe_callB (call_isiTK K rfl) (by rfl) T.m_isinstance (by decide +kernel) (pa_cons (pv 1) (pa_cons (pe_tup (pa_cons (pe_bltn (v := .ty "list") (by rfl) T.m_list (by decide +kernel) rfl) (pa_cons (pe_bltn (v := .ty "tuple") (by rfl) T.m_tuple (by decide +kernel) rfl) pa_nil))) pa_nil)))) (pss_cons ps_dead (pss_one ps_dead)) pss_nil)
    (pss_one (ps_ret (pe_and (pe_cmpR op_eq (pe_callB (call_isiKK K rfl) (by rfl) T.m_isinstance (by decide +kernel) (pa_cons (pv 0) (pa_cons (pe_bltn (v := .ty "bool") (by rfl) T.m_bool (by decide +kernel) rfl) pa_nil))) (pe_callB (call_isiKK K rfl) (by rfl) T.m_isinstance (by decide +kernel) (pa_cons (pv 1) (pa_cons (pe_bltn (v := .ty "bool") (by rfl) T.m_bool (by decide +kernel) rfl) pa_nil))) (nomark _)) (pe_one (pe_cmpR (op_eqDK K rfl (rh60 hr)) (pv 0) (pv 1) (nomark _))))))), ?_⟩
  refine ⟨_, rfl, (by show 2 ≤ sizeLine; decide), fun tp ntp => ?_⟩
  refine ⟨_, tp, _, _, _, false, rfl, upd_same, .cons (.ty "list") (.cons (.ty "tuple") .nil), .base (.int _), kit_int, _, rfl, if_bl (fun z => nomatch z) (fun _ => ?_)⟩
  refine ⟨_, rfl, _, _, _, _, false, rfl, .ty "bool", .base (.int _), kit_ty (by decide +kernel), _, rfl, _, _, _, _, false, rfl, .ty "bool", .base (.int _), kit_ty (by decide +kernel), rfl, _, rfl, if_bl (fun _ => ?_) (fun z => nomatch z)⟩
  refine ⟨_, rfl, _, rfl, _, _, .int a, .int a, rfl, rfl, ?_⟩
  rw [show PyData.eqv (.int a) (.int a) = true by simp [PyData.eqv]]
  exact q _ (same_new ntp)
end
def goingN (bs : List BR) (k : Nat) : List Nat := (List.range bs.length).filter fun i => decide (bs[i]?.map BR.one = some k)
section
variable {P : Program} {w : World} {K : PySem.W.Frag} {mg : Str → Option Value} {base : Heap}
def sp_goings (K : PySem.W.Frag) : Sp := fun vs H Q _ => ∃ (r : Addr) (hs : List HR) (bs : List BR) (k : Nat), vs = [.ref r, nV k] ∧ RoomAt H r hs bs ∧ bs.length ≤ 400 ∧ ∀ (p : Addr) (H' : Hp), H p = none → H' p = some (.lst ((goingN bs k).map nV)) → Same H H' → Q (.ref p) H'
theorem ok_goings {f : Addr} {fd : FuncData} (F : Fun K "goings" "goings" s_goings f fd) {C : Addr} (T : Top K mg C) : FnOk P w K mg base CX0 1 f fd ["room", "hand"] (sp_goings K) := by
  refine F.ok sc_goings (fun vs H Q E h => ?_) (fun cdv A outer s H vs Q E hr h => ?_)
  · obtain ⟨r, hs, bs, k, rfl, _⟩ := h
    rfl
  obtain ⟨r, hs, bs, k, rfl, hR, lb, q⟩ := h
  obtain ⟨ha, ba, hv, bv, er, eh, eb, alh, alb⟩ := hR.ex
  have lbv := alb.length
  refine ⟨_, (pss_one (ps_ret (pe_lc (own := [("number", 2), ("belt", 3)]) (g := gTup K 2 (gCons (gName 2) (gCons (gName 3) gNil))) (by rfl) sc_goings.nd (pi_enumT K rfl (by rfl) T.m_enumerate (pa_cons (pe_ix (ix_tupK K rfl) (pv 0) pe_int (fun _ _ => rfl)) pa_nil)) (blkOk_by (own := [("number", 2), ("belt", 3)]) (N := N_goings) (sc := defScope s_goings) (by decide +kernel)) (fun _ _ _ _ _ => (pg_tupK K rfl rfl (pgs_cons (pg_name (i := 2) sc_goings.nd rfl (Or.inl rfl)) (pgs_cons (pg_name (i := 3) sc_goings.nd rfl (Or.inl rfl)) pgs_nil)))) (fun _ _ _ _ _ => pts_one (pt_cmpR op_eq (pe_ix (ix_tupK K rfl) (pv 3) pe_int (fun _ _ => rfl)) (pv 1) (nomark _))) (fun _ _ _ _ _ => (pv 2))))), ?_⟩
  refine ⟨_, rfl, r, _, _, _, rfl, rfl, SqT.of er, atI_nat (j := 1) rfl, ba, bv, rfl, SqT.of eb, fun D nD => lc_it (J := IteT K ba bv) (n := bv.length) (fun i H5 => H5 D = some (.lst (((List.range i).filter fun j => decide (bs[j]?.map BR.one = some k)).map nV)) ∧ Same H H5) ⟨upd_same, same_new nD⟩ ?_ ?_ ?_ ?_⟩
  · rintro i H5 hi ⟨hD, s5⟩
    exact ⟨SqT.of (s5 _ _ eb), hi⟩
  · rintro H5 ⟨hD, s5⟩
    exact ⟨SqT.of (s5 _ _ eb), rfl⟩
  · rintro i x H5 H6 hi ⟨hD, s5⟩ ⟨t, y, rfl, nt, rfl, ey⟩
    obtain ⟨b, eb2, ⟨t2, g, rfl, e1, e2⟩⟩ := alb.getL ey
    have s6 := s5.trans (same_new (o := .tup [V.int ((i : Nat) : Int), V.ref t2]) nt)
    have hD6 := same_new (o := .tup [V.int ((i : Nat) : Int), V.ref t2]) nt _ _ hD
    have few := filt_len (p := fun j => decide (bs[j]?.map BR.one = some k)) i
    refine ⟨t, _, rfl, SqT.of upd_same, rfl, _, _, rfl, _, _, rfl, rfl, rfl, _, rfl, t2, _, _, _, rfl, rfl, SqT.of (s6 _ _ e1), atI_nat (j := 0) rfl, _, rfl, rfl, _, rfl, if_bl (fun c => ?_) (fun c => ?_)⟩
    · have c : b.one = k := by have := V.int.inj (of_decide_eq_true c); omega
      refine ⟨_, rfl, _, hD6, by rw [List.length_map]; exact small1000 (by omega), ?_, Same.own s6 nD⟩
      rw [upd_same, filt_succ, if_pos (decide_eq_true (by rw [eb2, ← c]; rfl)), List.map_append]
      rfl
    · have c : ¬ b.one = k := fun z => of_decide_eq_false c (by rw [z])
      refine ⟨?_, s6⟩
      rw [filt_succ, if_neg fun z => c (by have := of_decide_eq_true z; rw [eb2] at this; exact Option.some.inj this), List.append_nil]
      exact hD6
  · rintro H5 ⟨hD, s5⟩
    refine q D H5 nD ?_ s5
    rw [hD, lbv]
    rfl
end

/-! ### a Floor -/
/-- the lists of a Floor: (0, j) what lies on belt j, (1, k) what was given to hand k, (2, k) what hand k made; (3, _) lists that stay -/
abbrev Sl := Nat × Nat
abbrev ff (ra ga la ca oa da : Addr) : List (Str × V) := [("rules", .ref ra), ("given", .ref ga), ("lying", .ref la), ("coming", .ref ca), ("going", .ref oa), ("done", .ref da)]
def VS (hs : List HR) (bs : List BR) (s : Sl) : Prop := (s.1 = 0 ∧ s.2 < bs.length) ∨ (s.1 = 1 ∧ s.2 ∈ doorsOf "in" hs) ∨ (s.1 = 2 ∧ s.2 < hs.length)
/-- a list of numbers that stays -/
def NlAt (tg : Addr → Option Sl) (H : Hp) (v : V) (ns : List Nat) : Prop := ∃ t : Addr, v = .ref t ∧ H t = some (.lst (ns.map nV)) ∧ tg t = some (3, 0)
def RlAt (H : Hp) (v : V) (h : HR) : Prop := ∃ t : Addr, v = .ref t ∧ H t = some (.tup (ruleL h))
/-- what is tagged is a list -/
def Tg (H : Hp) (tg : Addr → Option Sl) : Prop := ∀ p s, tg p = some s → ∃ xs, H p = some (.lst xs)
/-- all tagged lists stand, and all that is no list -/
def Kp (tg : Addr → Option Sl) (H H' : Hp) : Prop := ∀ b o, H b = some o → (tg b ≠ none ∨ ∀ xs, o ≠ .lst xs) → H' b = some o
/-- all stands but what is tagged -/
def Bt (tg : Addr → Option Sl) (H H' : Hp) : Prop := ∀ b o, H b = some o → tg b = none → H' b = some o
theorem Kp.same {tg : Addr → Option Sl} {H H' : Hp} (s : Same H H') : Kp tg H H' := fun b o e _ => s b o e
theorem Kp.but {tg : Addr → Option Sl} {H H' : Hp} {f c : Addr} (F : Flow H f c) (b : But f H H') (n : tg f = none) : Kp tg H H' := fun x o e h => b x o e fun z => by
  obtain ⟨ns, i, a, q, r, e1, _⟩ := F
  rw [z] at e h
  rw [e1] at e
  rcases h with h | h
  · exact h n
  · exact h _ (Option.some.inj e).symm
theorem Kp.lst {tg : Addr → Option Sl} {H : Hp} {p : Addr} {xs ys : List V} (e : H p = some (.lst xs)) (n : tg p = none) : Kp tg H (upd H p (.lst ys)) := fun x o e1 h => by
  rw [upd_ne fun z => ?_]
  · exact e1
  · rw [z, e] at e1
    rcases h with h | h
    · exact h (by rw [z]; exact n)
    · exact h _ (Option.some.inj e1).symm
theorem Kp.trans {tg : Addr → Option Sl} {H H1 H2 : Hp} (a : Kp tg H H1) (b : Kp tg H1 H2) : Kp tg H H2 := fun x o e h => b x o (a x o e h) h
theorem Kp.tk {tg : Addr → Option Sl} {H H' : Hp} (a : Kp tg H H') : TK H H' := fun x xs e => a x _ e (.inr fun _ z => nomatch z)
theorem Bt.refl {tg : Addr → Option Sl} {H : Hp} : Bt tg H H := fun _ _ e _ => e
theorem Bt.trans {tg : Addr → Option Sl} {H H1 H2 : Hp} (a : Bt tg H H1) (b : Bt tg H1 H2) : Bt tg H H2 := fun x o e h => b x o (a x o e h) h
theorem Bt.same {tg : Addr → Option Sl} {H H1 H2 : Hp} (a : Bt tg H H1) (s : Same H1 H2) : Bt tg H H2 := fun x o e h => s x o (a x o e h)
theorem Bt.flow {tg : Addr → Option Sl} {H H' : Hp} {f c : Addr} (a : Bt tg H H') (F : Flow H f c) (n1 : tg f = none) (n2 : tg c = none) : Flow H' f c := by
  obtain ⟨ns, i, x, q, r, e1, e2, e⟩ := F
  exact ⟨ns, i, x, q, r, a _ _ e1 n1, a _ _ e2 n2, e⟩
theorem Tg.tup {H : Hp} {tg : Addr → Option Sl} {p : Addr} {o : HO} (g : Tg H tg) (e : H p = some o) (n : ∀ xs, o ≠ .lst xs) : tg p = none := by
  cases z : tg p with
  | none => rfl
  | some s =>
    obtain ⟨xs, h⟩ := g p s z
    rw [e] at h
    exact absurd (Option.some.inj h) (n xs)
theorem Tg.free {H : Hp} {tg : Addr → Option Sl} {p : Addr} (g : Tg H tg) (e : H p = none) : tg p = none := by
  cases z : tg p with
  | none => rfl
  | some s =>
    obtain ⟨xs, h⟩ := g p s z
    rw [e] at h
    cases h
theorem Bt.tk {tg : Addr → Option Sl} {H H' : Hp} (a : Bt tg H H') (g : Tg H tg) : TK H H' := fun x xs e => a x _ e (g.tup e fun _ z => nomatch z)
theorem Tg.kp {H H' : Hp} {tg : Addr → Option Sl} (g : Tg H tg) (k : Kp tg H H') : Tg H' tg := fun p s e => by
  obtain ⟨xs, h⟩ := g p s e
  exact ⟨xs, k p _ h (.inl (by rw [e]; exact fun z => nomatch z))⟩
/-- a Floor at F; cn: what is on its lists -/
structure FlA (C : Addr) (H : Hp) (F : Addr) (hs : List HR) (bs : List BR) (cn : Sl → List Int) (tg : Addr → Option Sl) (dx ra ga la ca oa da : Addr) (kvs : List (Key × V)) (A : Sl → Addr) (rv cv ov : List V) : Prop where
  hF : H F = some (.ins C dx (ff ra ga la ca oa da))
  hr : H ra = some (.lst rv)
  alr : All2 (RlAt H) rv hs
  hg : H ga = some (.dK kvs)
  gv : ∀ k, k < hs.length → valV kvs (kN k) = if k ∈ doorsOf "in" hs then some (.ref (A (1, k))) else none
  hl : H la = some (.lst ((List.range bs.length).map fun j => V.ref (A (0, j))))
  hc : H ca = some (.lst cv)
  alc : All2 (NlAt tg H) cv ((List.range hs.length).map (comingN bs))
  ho : H oa = some (.lst ov)
  alo : All2 (NlAt tg H) ov ((List.range hs.length).map (goingN bs))
  hd : H da = some (.lst ((List.range hs.length).map fun k => V.ref (A (2, k))))
  sl : ∀ s, VS hs bs s → H (A s) = some (.lst ((cn s).map V.int)) ∧ tg (A s) = some s
  tr : tg ra = some (3, 0)
  tl : tg la = some (3, 0)
  tc : tg ca = some (3, 0)
  to : tg oa = some (3, 0)
  td : tg da = some (3, 0)
  own : Tg H tg
def FlAt (C : Addr) (H : Hp) (F : Addr) (hs : List HR) (bs : List BR) (cn : Sl → List Int) (tg : Addr → Option Sl) : Prop := ∃ (dx ra ga la ca oa da : Addr) (kvs : List (Key × V)) (A : Sl → Addr) (rv cv ov : List V), FlA C H F hs bs cn tg dx ra ga la ca oa da kvs A rv cv ov
theorem FlA.kp {C : Addr} {H H' : Hp} {F : Addr} {hs : List HR} {bs : List BR} {cn : Sl → List Int} {tg : Addr → Option Sl} {dx ra ga la ca oa da : Addr} {kvs : List (Key × V)} {A : Sl → Addr} {rv cv ov : List V} (a : FlA C H F hs bs cn tg dx ra ga la ca oa da kvs A rv cv ov) (k : Kp tg H H') : FlA C H' F hs bs cn tg dx ra ga la ca oa da kvs A rv cv ov := by
  have kl : ∀ {p : Addr} {o : HO} {s : Sl}, H p = some o → tg p = some s → H' p = some o := fun e t => k _ _ e (.inl (by rw [t]; exact fun z => nomatch z))
  have nl : ∀ {v : V} {ns : List Nat}, NlAt tg H v ns → NlAt tg H' v ns := fun ⟨t, e, h, g⟩ => ⟨t, e, kl h g, g⟩
  exact ⟨k _ _ a.hF (.inr fun _ z => nomatch z), kl a.hr a.tr, a.alr.imp fun _ _ ⟨t, e, h⟩ => ⟨t, e, k.tk _ _ h⟩, k _ _ a.hg (.inr fun _ z => nomatch z), a.gv, kl a.hl a.tl, kl a.hc a.tc, a.alc.imp fun _ _ z => nl z, kl a.ho a.to, a.alo.imp fun _ _ z => nl z, kl a.hd a.td, fun s v => ⟨kl (a.sl s v).1 (a.sl s v).2, (a.sl s v).2⟩, a.tr, a.tl, a.tc, a.to, a.td, a.own.kp k⟩
theorem FlAt.kp {C : Addr} {H H' : Hp} {F : Addr} {hs : List HR} {bs : List BR} {cn : Sl → List Int} {tg : Addr → Option Sl} (a : FlAt C H F hs bs cn tg) (k : Kp tg H H') : FlAt C H' F hs bs cn tg := by
  obtain ⟨dx, ra, ga, la, ca, oa, da, kvs, A, rv, cv, ov, a⟩ := a
  exact ⟨dx, ra, ga, la, ca, oa, da, kvs, A, rv, cv, ov, a.kp k⟩
theorem FlAt.own {C : Addr} {H : Hp} {F : Addr} {hs : List HR} {bs : List BR} {cn : Sl → List Int} {tg : Addr → Option Sl} (a : FlAt C H F hs bs cn tg) : Tg H tg := by
  obtain ⟨dx, ra, ga, la, ca, oa, da, kvs, A, rv, cv, ov, a⟩ := a
  exact a.own
abbrev putS (cn : Sl → List Int) (s : Sl) (xs : List Int) : Sl → List Int := fun t => if t = s then xs else cn t
theorem FlA.put {C : Addr} {H : Hp} {F : Addr} {hs : List HR} {bs : List BR} {cn : Sl → List Int} {tg : Addr → Option Sl} {dx ra ga la ca oa da : Addr} {kvs : List (Key × V)} {A : Sl → Addr} {rv cv ov : List V} (a : FlA C H F hs bs cn tg dx ra ga la ca oa da kvs A rv cv ov) {s : Sl} (v : VS hs bs s) (xs : List Int) : FlA C (upd H (A s) (.lst (xs.map V.int))) F hs bs (putS cn s xs) tg dx ra ga la ca oa da kvs A rv cv ov ∧ Bt tg H (upd H (A s) (.lst (xs.map V.int))) := by
  obtain ⟨h0, t0⟩ := a.sl s v
  have s3 : s ≠ (3, 0) := fun e => by
    rw [e] at v
    rcases v with ⟨z, _⟩ | ⟨z, _⟩ | ⟨z, _⟩ <;> exact absurd z (by decide)
  have off : ∀ {p : Addr} {o : HO}, H p = some o → p ≠ A s → (upd H (A s) (.lst (xs.map V.int))) p = some o := fun e n => by rw [upd_ne n]; exact e
  have fx : ∀ {p : Addr} {o : HO}, H p = some o → tg p = some (3, 0) → (upd H (A s) (.lst (xs.map V.int))) p = some o := fun e t => off e fun z => by
    rw [z, t0] at t
    exact s3 (Option.some.inj t)
  have nx : ∀ {p : Addr} {o : HO}, H p = some o → (∀ ys, o ≠ .lst ys) → (upd H (A s) (.lst (xs.map V.int))) p = some o := fun e n => off e fun z => by
    rw [z, h0] at e
    exact n _ (Option.some.inj e).symm
  have nl : ∀ {v : V} {ns : List Nat}, NlAt tg H v ns → NlAt tg (upd H (A s) (.lst (xs.map V.int))) v ns := fun ⟨t, e, h, g⟩ => ⟨t, e, fx h g, g⟩
  refine ⟨⟨nx a.hF (fun _ z => nomatch z), fx a.hr a.tr, a.alr.imp fun _ _ ⟨t, e, h⟩ => ⟨t, e, nx h (fun _ z => nomatch z)⟩, nx a.hg (fun _ z => nomatch z), a.gv, fx a.hl a.tl, fx a.hc a.tc, a.alc.imp fun _ _ z => nl z, fx a.ho a.to, a.alo.imp fun _ _ z => nl z, fx a.hd a.td, fun u vu => ?_, a.tr, a.tl, a.tc, a.to, a.td, fun p u e => ?_⟩, fun b o e n => off e fun z => ?_⟩
  · obtain ⟨h1, t1⟩ := a.sl u vu
    refine ⟨?_, t1⟩
    by_cases z : u = s
    · subst z
      rw [upd_same]
      show _ = some (HO.lst ((if u = u then xs else cn u).map V.int))
      rw [if_pos rfl]
    · rw [off h1 fun y => z (by rw [y, t0] at t1; exact (Option.some.inj t1).symm)]
      show _ = some (HO.lst ((if u = s then xs else cn u).map V.int))
      rw [if_neg z]
  · obtain ⟨ys, h⟩ := a.own p u e
    by_cases z : p = A s
    · exact ⟨_, by rw [z, upd_same]⟩
    · exact ⟨ys, off h z⟩
  · rw [z, t0] at n
    cases n
structure Fp where
  dx : Addr
  ra : Addr
  ga : Addr
  la : Addr
  ca : Addr
  oa : Addr
  da : Addr
  kvs : List (Key × V)
  A : Sl → Addr
  rv : List V
  cv : List V
  ov : List V
abbrev FlB (C : Addr) (H : Hp) (F : Addr) (hs : List HR) (bs : List BR) (cn : Sl → List Int) (tg : Addr → Option Sl) (p : Fp) : Prop := FlA C H F hs bs cn tg p.dx p.ra p.ga p.la p.ca p.oa p.da p.kvs p.A p.rv p.cv p.ov
theorem FlAt.b {C : Addr} {H : Hp} {F : Addr} {hs : List HR} {bs : List BR} {cn : Sl → List Int} {tg : Addr → Option Sl} (a : FlAt C H F hs bs cn tg) : ∃ p, FlB C H F hs bs cn tg p := by
  obtain ⟨dx, ra, ga, la, ca, oa, da, kvs, A, rv, cv, ov, a⟩ := a
  exact ⟨⟨dx, ra, ga, la, ca, oa, da, kvs, A, rv, cv, ov⟩, a⟩
theorem FlA.at_ {C : Addr} {H : Hp} {F : Addr} {hs : List HR} {bs : List BR} {cn : Sl → List Int} {tg : Addr → Option Sl} {p : Fp} (a : FlB C H F hs bs cn tg p) : FlAt C H F hs bs cn tg := ⟨_, _, _, _, _, _, _, _, _, _, _, _, a⟩
/-- from which lists a hand takes -/
def srcs (hs : List HR) (bs : List BR) (k : Nat) : List Sl := if k ∈ doorsOf "in" hs then [(1, k)] else (comingN bs k).map fun j => (0, j)
theorem coming_lt {bs : List BR} {k j : Nat} (h : j ∈ comingN bs k) : j < bs.length := List.mem_range.mp (List.mem_filter.mp h).1
theorem going_lt {bs : List BR} {k j : Nat} (h : j ∈ goingN bs k) : j < bs.length := List.mem_range.mp (List.mem_filter.mp h).1
theorem srcs_vs {hs : List HR} {bs : List BR} {k : Nat} : ∀ s ∈ srcs hs bs k, VS hs bs s := fun s h => by
  unfold srcs at h
  by_cases c : k ∈ doorsOf "in" hs
  · rw [if_pos c] at h
    rw [List.mem_singleton.mp h]
    exact .inr (.inl ⟨rfl, c⟩)
  · rw [if_neg c] at h
    obtain ⟨j, hj, rfl⟩ := List.mem_map.mp h
    exact .inl ⟨rfl, coming_lt hj⟩
theorem srcs_nd {hs : List HR} {bs : List BR} {k : Nat} : (srcs hs bs k).Nodup := by
  unfold srcs
  by_cases c : k ∈ doorsOf "in" hs
  · rw [if_pos c]
    exact List.pairwise_singleton ..
  · rw [if_neg c]
    refine List.Pairwise.map _ (fun a b h e => h ?_) (List.nodup_range.filter _)
    exact congrArg Prod.snd e
theorem srcs_len {hs : List HR} {bs : List BR} {k : Nat} (lb : bs.length ≤ 20) : (srcs hs bs k).length ≤ 20 := by
  unfold srcs
  by_cases c : k ∈ doorsOf "in" hs
  · rw [if_pos c]; show 1 ≤ 20; decide
  · rw [if_neg c, List.length_map]
    have := filt_len (p := fun i => decide (bs[i]?.map BR.to = some k)) bs.length
    unfold comingN
    omega
/-- all is there that a hand takes -/
def rdy (hs : List HR) (bs : List BR) (cn : Sl → List Int) (k : Nat) : Bool := (srcs hs bs k).all fun s => decide ((((cn s).length : Nat) : Int) > 0)
theorem rg_ref {n j : Nat} {f : Nat → V} (h : j < n) : atI ((List.range n).map f) ((j : Nat) : Int) = some (f j) := atI_nat (by rw [List.getElem?_map, List.getElem?_range h]; rfl)
theorem nl_get {tg : Addr → Option Sl} {H : Hp} {cv : List V} {n k : Nat} {g : Nat → List Nat} (al : All2 (NlAt tg H) cv ((List.range n).map g)) (h : k < n) : ∃ t : Addr, cv[k]? = some (.ref t) ∧ H t = some (.lst ((g k).map nV)) ∧ tg t = some (3, 0) := by
  obtain ⟨x, ex, t, rfl, h1, h2⟩ := al.get (show ((List.range n).map g)[k]? = some (g k) by rw [List.getElem?_map, List.getElem?_range h]; rfl)
  exact ⟨t, ex, h1, h2⟩
section
variable {P : Program} {w : World} {K : PySem.W.Frag} {mg : Str → Option Value} {base : Heap}
def sp_Floor_sources (K : PySem.W.Frag) (C : Addr) : Sp := fun vs H Q _ => ∃ (F : Addr) (hs : List HR) (bs : List BR) (cn : Sl → List Int) (tg : Addr → Option Sl) (p : Fp) (k : Nat), vs = [.ref F, nV k] ∧ FlB C H F hs bs cn tg p ∧ k < hs.length ∧ bs.length ≤ 20 ∧
  ∀ (D : Addr) (H' : Hp), H D = none → H' D = some (.lst ((srcs hs bs k).map fun s => V.ref (p.A s))) → Same H H' → Q (.ref D) H'
theorem ok_Floor_sources {f : Addr} {fd : FuncData} (F : Fun K "sources" "Floor.sources" s_Floor_sources f fd) {C : Addr} (T : Top K mg C) : FnOk P w K mg base CX0 1 f fd ["self", "hand"] (sp_Floor_sources K C) := by
  refine F.ok sc_Floor_sources (fun vs H Q E h => ?_) (fun cdv A outer s H vs Q E hr h => ?_)
  · obtain ⟨F, hs, bs, cn, tg, p, k, rfl, _⟩ := h
    rfl
  obtain ⟨F, hs, bs, cn, tg, p, k, rfl, a, hk, lb, q⟩ := h
  refine ⟨_, (pss_cons (ps_if (pt_cmp (pc_din (hu_of hr) (pv 1) (pe_fldK K rfl (pv 0) rfl)) (by with_unfolding_all rfl)) (pss_one (ps_ret (pe_lst (pa_cons (pe_dget (hu_of hr) (pe_fldK K rfl (pv 0) rfl) (pv 1) (fun _ _ => rfl)) pa_nil)))) pss_nil)
      (pss_one (ps_ret (pe_lc (own := [("belt", 2)]) (g := gName 2) (tt := tYes) (by rfl) sc_Floor_sources.nd (pi_listK K rfl (pe_ix (ix_listK K rfl) (pe_fldK K rfl (pv 0) rfl) (pv 1) (fun _ _ => rfl))) (blkOk_by (own := [("belt", 2)]) (N := N_Floor_sources) (sc := defScope s_Floor_sources) (by decide +kernel)) (fun _ _ _ _ _ => (pg_name (i := 2) sc_Floor_sources.nd rfl (Or.inl rfl))) (fun _ _ _ _ _ => pts_nil) (fun _ _ _ _ _ => (pe_ix (ix_listK K rfl) (pe_fldK K rfl (pv 0) rfl) (pv 2) (fun _ _ => rfl))))))), ?_⟩
  refine ⟨_, rfl, _, rfl, F, C, p.dx, _, _, rfl, a.hF, T.cl, T.n_given, rfl, p.ga, _, rfl, dget_of a.hg (a.gv k hk), ?_⟩
  unfold srcs at q
  by_cases c : k ∈ doorsOf "in" hs
  · rw [if_pos c] at q ⊢
    refine ⟨_, rfl, if_bl (fun _ => ?_) (fun z => by cases z)⟩
    refine ⟨_, rfl, F, C, p.dx, _, _, rfl, a.hF, T.cl, T.n_given, rfl, _, rfl, p.ga, .ref (p.A (1, k)), rfl, dget_of a.hg (by rw [a.gv k hk, if_pos c]), (by show 1 ≤ sizeLine; decide), fun D nD => ?_⟩
    exact q D _ nD upd_same (same_new nD)
  · rw [if_neg c] at q ⊢
    refine ⟨_, rfl, if_bl (fun z => by cases z) (fun _ => ?_)⟩
    obtain ⟨t, et, ht, _⟩ := nl_get a.alc hk
    refine ⟨_, rfl, F, C, p.dx, _, _, rfl, a.hF, T.cl, T.n_coming, rfl, _, rfl, p.ca, _, _, _, rfl, rfl, SqL.of a.hc, atI_nat et, t, rfl, ⟨_, SqL.of ht⟩, fun D nD => lc_list (K := K) (a := t) (xs := (comingN bs k).map nV) (fun i H5 => H5 D = some (.lst ((((comingN bs k).take i).map fun j => ((0, j) : Sl)).map fun s => V.ref (p.A s))) ∧ Same H H5) ⟨upd_same, same_new nD⟩ (fun i H5 _ ⟨_, s5⟩ => SqL.of (s5 _ _ ht)) ?_ ?_⟩
    · rintro i x H5 hx ⟨hD, s5⟩
      rw [List.getElem?_map] at hx
      cases ej : (comingN bs k)[i]? with
      | none => rw [ej] at hx; cases hx
      | some j =>
      rw [ej] at hx
      obtain rfl : nV j = x := Option.some.inj hx
      have jl := coming_lt (List.mem_of_getElem? ej)
      have lc := filt_len (p := fun i => decide (bs[i]?.map BR.to = some k)) bs.length
      have lc : (comingN bs k).length ≤ bs.length := lc
      refine ⟨rfl, yes_in ⟨_, rfl, F, C, p.dx, _, _, rfl, s5 _ _ a.hF, T.cl, T.n_lying, rfl, _, rfl, p.la, _, _, _, rfl, rfl, SqL.of (s5 _ _ a.hl), rg_ref jl, _, hD, by rw [List.length_map, List.length_map, List.length_take]; exact small1000 (by omega), ?_, Same.own s5 nD⟩⟩
      rw [upd_same, List.take_add_one, ej, List.map_append, List.map_append]
      rfl
    · rintro H5 ⟨hD, s5⟩
      rw [List.length_map, List.take_length] at hD
      exact q D H5 nD hD s5
def sp_Floor_can_work (K : PySem.W.Frag) (C : Addr) : Sp := fun vs H Q _ => ∃ (F : Addr) (hs : List HR) (bs : List BR) (cn : Sl → List Int) (tg : Addr → Option Sl) (p : Fp) (k : Nat), vs = [.ref F, nV k] ∧ FlB C H F hs bs cn tg p ∧ k < hs.length ∧ bs.length ≤ 20 ∧
  ∀ H', Same H H' → Q (.bl (rdy hs bs cn k)) H'
theorem ok_Floor_can_work {f : Addr} {fd : FuncData} (F : Fun K "can_work" "Floor.can_work" s_Floor_can_work f fd) {C : Addr} (T : Top K mg C) : FnOk P w K mg base CX0 2 f fd ["self", "hand"] (sp_Floor_can_work K C) := by
  obtain ⟨f_Floor_sources, fd_Floor_sources, F_Floor_sources, b_Floor_sources, m_Floor_sources⟩ := T.d_Floor_sources
  have G_Floor_sources := ok_Floor_sources (P := P) (w := w) (base := base) F_Floor_sources T
  refine F.ok sc_Floor_can_work (fun vs H Q E h => ?_) (fun cdv A outer s H vs Q E hr h => ?_)
  · obtain ⟨F, hs, bs, cn, tg, p, k, rfl, _⟩ := h
    rfl
  obtain ⟨F, hs, bs, cn, tg, p, k, rfl, a, hk, lb, q⟩ := h
  have ls := srcs_len (hs := hs) (bs := bs) (k := k) lb
  refine ⟨_, (pss_one (ps_ret (pe_callB (cr_allK K rfl rfl) (by rfl) T.m_all (by decide +kernel) (pa_cons (pe_lc (own := [("things", 2)]) (g := gName 2) (tt := tYes) (by rfl) sc_Floor_can_work.nd (pi_listK K rfl (pe_meth (pv 0) T.cl m_Floor_sources G_Floor_sources (hr.mono (by decide)) b_Floor_sources .nil pass0 (pa_cons (pv 1) pa_nil))) (blkOk_by (own := [("things", 2)]) (N := N_Floor_can_work) (sc := defScope s_Floor_can_work) (by decide +kernel)) (fun _ _ _ _ _ => (pg_name (i := 2) sc_Floor_can_work.nd rfl (Or.inl rfl))) (fun _ _ _ _ _ => pts_nil) (fun _ _ _ _ _ => (pe_cmpR op_gt (pe_callB (call_len_seqK K rfl) (by rfl) T.m_len (by decide +kernel) (pa_cons (pv 2) pa_nil)) pe_int (nomark _)))) pa_nil)))), ?_⟩
  refine ⟨_, rfl, F, p.dx, _, rfl, a.hF, rfl, _, rfl, F, hs, bs, cn, tg, p, k, rfl, a, hk, lb, fun S H1 nS hS s1 => ⟨S, rfl, ⟨_, SqL.of hS⟩, fun D nD => lc_list (K := K) (a := S) (xs := (srcs hs bs k).map fun s => V.ref (p.A s)) (fun i H5 => H5 D = some (.lst ((((srcs hs bs k).take i).map fun s => decide ((((cn s).length : Nat) : Int) > 0)).map V.bl)) ∧ Same H1 H5) ⟨upd_same, same_new nD⟩ (fun i H5 _ ⟨_, s5⟩ => SqL.of (s5 _ _ hS)) ?_ ?_⟩⟩
  · rintro i x H5 hx ⟨hD, s5⟩
    rw [List.getElem?_map] at hx
    cases es : (srcs hs bs k)[i]? with
    | none => rw [es] at hx; cases hx
    | some s =>
    rw [es] at hx
    obtain rfl : V.ref (p.A s) = x := Option.some.inj hx
    obtain ⟨h1, _⟩ := a.sl s (srcs_vs s (List.mem_of_getElem? es))
    refine ⟨rfl, yes_in ⟨_, rfl, p.A s, _, rfl, .inl (SqL.of (s5 _ _ (s1 _ _ h1))), _, _, rfl, rfl, _, hD, by rw [List.length_map, List.length_map, List.length_take]; exact small1000 (by omega), ?_, Same.own s5 nD⟩⟩
    rw [upd_same, List.take_add_one, es, List.map_append, List.map_append, List.length_map]
    rfl
  · rintro H5 ⟨hD, s5⟩
    rw [List.length_map, List.take_length] at hD
    refine ⟨D, _, rfl, SqL.of hD, ?_⟩
    rw [List.all_map]
    exact q H5 (s1.trans s5)
def sp_Floor_ready (K : PySem.W.Frag) (C : Addr) : Sp := fun vs H Q _ => ∃ (F : Addr) (hs : List HR) (bs : List BR) (cn : Sl → List Int) (tg : Addr → Option Sl), vs = [.ref F] ∧ FlAt C H F hs bs cn tg ∧ hs.length ≤ 12 ∧ bs.length ≤ 20 ∧
  ∀ (D : Addr) (H' : Hp), H D = none → H' D = some (.lst (((List.range hs.length).filter (rdy hs bs cn)).map nV)) → Same H H' → Q (.ref D) H'
theorem ok_Floor_ready {f : Addr} {fd : FuncData} (F : Fun K "ready" "Floor.ready" s_Floor_ready f fd) {C : Addr} (T : Top K mg C) : FnOk P w K mg base CX0 3 f fd ["self"] (sp_Floor_ready K C) := by
  obtain ⟨f_Floor_can_work, fd_Floor_can_work, F_Floor_can_work, b_Floor_can_work, m_Floor_can_work⟩ := T.d_Floor_can_work
  have G_Floor_can_work := ok_Floor_can_work (P := P) (w := w) (base := base) F_Floor_can_work T
  refine F.ok sc_Floor_ready (fun vs H Q E h => ?_) (fun cdv A outer s H vs Q E hr h => ?_)
  · obtain ⟨F, hs, bs, cn, tg, rfl, _⟩ := h
    rfl
  obtain ⟨F, hs, bs, cn, tg, rfl, a, lh, lb, q⟩ := h
  obtain ⟨p, a⟩ := a.b
  have lr := a.alr.length
  refine ⟨_, (pss_one (ps_ret (pe_lc (own := [("hand", 1)]) (g := gName 1) (by rfl) sc_Floor_ready.nd (pi_range1 (by rfl) T.m_range (pa_cons (pe_callB (call_len_seqK K rfl) (by rfl) T.m_len (by decide +kernel) (pa_cons (pe_fldK K rfl (pv 0) rfl) pa_nil)) pa_nil)) (blkOk_by (own := [("hand", 1)]) (N := N_Floor_ready) (sc := defScope s_Floor_ready) (by decide +kernel)) (fun _ _ _ _ _ => (pg_name (i := 1) sc_Floor_ready.nd rfl (Or.inl rfl))) (fun _ _ _ _ _ => pts_one (pt_val (pe_meth (pv 0) T.cl m_Floor_can_work G_Floor_can_work (hr.mono (by decide)) b_Floor_can_work .nil pass0 (pa_cons (pv 1) pa_nil)))) (fun _ _ _ _ _ => (pv 1))))), ?_⟩
  refine ⟨_, rfl, F, C, p.dx, _, _, rfl, a.hF, T.cl, T.n_rules, rfl, p.ra, _, rfl, .inl (SqL.of a.hr), _, rfl, by omega, by omega, fun D nD => lc_range (lo := 0) (n := p.rv.length) (fun i H5 => H5 D = some (.lst (((List.range i).filter (rdy hs bs cn)).map nV)) ∧ Same H H5) ⟨upd_same, same_new nD⟩ ?_ ?_⟩
  · rintro i H5 hi ⟨hD, s5⟩
    have few := filt_len (p := rdy hs bs cn) i
    refine ⟨rfl, _, rfl, F, p.dx, _, rfl, s5 _ _ a.hF, rfl, _, rfl, F, hs, bs, cn, tg, p, i, by rw [Int.zero_add]; rfl, a.kp (Kp.same s5), by omega, lb, fun H6 s6 => ⟨_, rfl, if_bl (fun z => ?_) (fun z => ?_)⟩⟩
    · refine ⟨_, rfl, _, s6 _ _ hD, by rw [List.length_map]; exact small1000 (by omega), ?_, Same.own (s5.trans s6) nD⟩
      rw [upd_same, filt_succ, if_pos z, List.map_append, Int.zero_add]
      rfl
    · refine ⟨?_, s5.trans s6⟩
      rw [filt_succ, if_neg (by rw [z]; exact Bool.false_ne_true), List.append_nil]
      exact s6 _ _ hD
  · rintro H5 ⟨hD, s5⟩
    rw [lr] at hD
    exact q D H5 nD hD s5
def sp_Floor_made (K : PySem.W.Frag) (C : Addr) : Sp := fun vs H Q _ => ∃ (F : Addr) (hs : List HR) (bs : List BR) (cn : Sl → List Int) (tg : Addr → Option Sl) (k : Nat), vs = [.ref F, nV k] ∧ FlAt C H F hs bs cn tg ∧ k < hs.length ∧
  ∀ (D : Addr) (H' : Hp), H D = none → H' D = some (.lst ((cn (2, k)).map V.int)) → Same H H' → Q (.ref D) H'
theorem ok_Floor_made {f : Addr} {fd : FuncData} (F : Fun K "made" "Floor.made" s_Floor_made f fd) {C : Addr} (T : Top K mg C) : FnOk P w K mg base CX0 1 f fd ["self", "hand"] (sp_Floor_made K C) := by
  refine F.ok sc_Floor_made (fun vs H Q E h => ?_) (fun cdv A outer s H vs Q E hr h => ?_)
  · obtain ⟨F, hs, bs, cn, tg, k, rfl, _⟩ := h
    rfl
  obtain ⟨F, hs, bs, cn, tg, k, rfl, a, hk, q⟩ := h
  obtain ⟨p, a⟩ := a.b
  obtain ⟨h1, _⟩ := a.sl (2, k) (.inr (.inr ⟨rfl, hk⟩))
  refine ⟨_, (pss_one (ps_ret (pe_callTy (call_list_ofK K rfl) (by rfl) T.m_list (by decide +kernel) (pa_cons (pe_ix (ix_listK K rfl) (pe_fldK K rfl (pv 0) rfl) (pv 1) (fun _ _ => rfl)) pa_nil)))), ?_⟩
  refine ⟨_, rfl, F, C, p.dx, _, _, rfl, a.hF, T.cl, T.n_done, rfl, _, rfl, p.da, _, _, _, rfl, rfl, SqL.of a.hd, rg_ref hk, p.A (2, k), _, rfl, .inl (SqL.of h1), fun D nD => ?_⟩
  exact q D _ nD upd_same (same_new nD)
def sp_Floor_give (K : PySem.W.Frag) (C : Addr) : Sp := fun vs H Q _ => ∃ (F : Addr) (hs : List HR) (bs : List BR) (cn : Sl → List Int) (tg : Addr → Option Sl) (k : Nat) (z : Int), vs = [.ref F, nV k, .int z] ∧ FlAt C H F hs bs cn tg ∧ k < hs.length ∧ k ∈ doorsOf "in" hs ∧ (cn (1, k)).length ≤ 900 ∧
  ∀ H', FlAt C H' F hs bs (putS cn (1, k) (cn (1, k) ++ [z])) tg → Bt tg H H' → Q .non H'
theorem ok_Floor_give {f : Addr} {fd : FuncData} (F : Fun K "give" "Floor.give" s_Floor_give f fd) {C : Addr} (T : Top K mg C) : FnOk P w K mg base CX0 1 f fd ["self", "hand", "thing"] (sp_Floor_give K C) := by
  refine F.ok sc_Floor_give (fun vs H Q E h => ?_) (fun cdv A outer s H vs Q E hr h => ?_)
  · obtain ⟨F, hs, bs, cn, tg, k, z, rfl, _⟩ := h
    rfl
  obtain ⟨F, hs, bs, cn, tg, k, z, rfl, a, hk, kd, lz, q⟩ := h
  obtain ⟨p, a⟩ := a.b
  have v1 : VS hs bs (1, k) := .inr (.inl ⟨rfl, kd⟩)
  obtain ⟨h1, _⟩ := a.sl (1, k) v1
  obtain ⟨a2, b2⟩ := a.put v1 (cn (1, k) ++ [z])
  refine ⟨_, (pss_one (ps_expr (pe_bmK K rfl PySem.F.plainAttrs_list PySem.F.slot_list_append PySem.F.type_list_append mt_append (pe_dget (hu_of hr) (pe_fldK K rfl (pv 0) rfl) (pv 1) (fun _ _ => rfl)) (pa_cons (pv 2) pa_nil)))), ?_⟩
  refine ⟨_, rfl, F, C, p.dx, _, _, rfl, a.hF, T.cl, T.n_given, rfl, _, rfl, p.ga, .ref (p.A (1, k)), rfl, dget_of a.hg (by rw [a.gv k hk, if_pos kd]), .inl ⟨rfl, _, SqL.of h1⟩, _, rfl, p.A (1, k), _, _, rfl, rfl, h1, by rw [List.length_map]; exact small1000 (by omega), ?_⟩
  have := q _ a2.at_ b2
  rw [List.map_append] at this
  exact this
end
theorem nd_at {α : Type} {l : List α} (nd : l.Nodup) {i j : Nat} {a : α} (h1 : l[i]? = some a) (h2 : l[j]? = some a) : i = j := by
  have i1 := (List.getElem?_eq_some_iff.mp h1)
  have i2 := (List.getElem?_eq_some_iff.mp h2)
  obtain ⟨l1, e1⟩ := i1
  obtain ⟨l2, e2⟩ := i2
  exact (List.getElem_inj nd).mp (e1.trans e2.symm)
/-- what a hand makes of what it then takes -/
def wkV (hs : List HR) (bs : List BR) (cn : Sl → List Int) (k : Nat) : Int := if k ∈ doorsOf "in" hs then (cn (1, k)).getD 0 0 else match hs[k]? with
  | some h => mkR h ((comingN bs k).map fun j => (cn (0, j)).getD 0 0)
  | none => 0
def popC (hs : List HR) (bs : List BR) (cn : Sl → List Int) (k i : Nat) : Sl → List Int := fun s => if s ∈ (srcs hs bs k).take i then (cn s).tail else cn s
def putC (bs : List BR) (cn : Sl → List Int) (k : Nat) (z : Int) (i : Nat) : Sl → List Int := fun s => if s ∈ ((goingN bs k).take i).map (fun j => ((0, j) : Sl)) then cn s ++ [z] else cn s
/-- the lists behind its work -/
def wkC (hs : List HR) (bs : List BR) (cn : Sl → List Int) (k : Nat) : Sl → List Int := putS (putC bs (popC hs bs cn k (srcs hs bs k).length) k (wkV hs bs cn k) (goingN bs k).length) (2, k) (cn (2, k) ++ [wkV hs bs cn k])
theorem take_new {α : Type} [DecidableEq α] {l : List α} (nd : l.Nodup) {i : Nat} {x : α} (e : l[i]? = some x) : x ∉ l.take i ∧ ∀ y, y ∈ l.take (i + 1) ↔ y = x ∨ y ∈ l.take i := by
  have il := (List.getElem?_eq_some_iff.mp e).1
  have ex := (List.getElem?_eq_some_iff.mp e).2
  refine ⟨fun h => ?_, fun y => ?_⟩
  · obtain ⟨j, hj⟩ := List.getElem?_of_mem h
    have jl := (List.getElem?_eq_some_iff.mp hj).1
    rw [List.length_take] at jl
    rw [List.getElem?_take_of_lt (by omega)] at hj
    have := nd_at nd e hj
    omega
  · rw [List.take_add_one, e]
    constructor
    · intro h
      rcases List.mem_append.mp h with h | h
      · exact .inr h
      · exact .inl (List.mem_singleton.mp h)
    · rintro (h | h)
      · exact List.mem_append_right _ (List.mem_singleton.mpr h)
      · exact List.mem_append_left _ h
theorem popC_next {hs : List HR} {bs : List BR} {cn : Sl → List Int} {k i : Nat} {s : Sl} (e : (srcs hs bs k)[i]? = some s) : popC hs bs cn k i s = cn s ∧ putS (popC hs bs cn k i) s (cn s).tail = popC hs bs cn k (i + 1) := by
  obtain ⟨n, m⟩ := take_new srcs_nd e
  refine ⟨if_neg n, funext fun y => ?_⟩
  show (if y = s then (cn s).tail else if y ∈ (srcs hs bs k).take i then (cn y).tail else cn y) = if y ∈ (srcs hs bs k).take (i + 1) then (cn y).tail else cn y
  by_cases a : y = s
  · rw [if_pos a, if_pos ((m y).mpr (.inl a)), a]
  · rw [if_neg a]
    by_cases b : y ∈ (srcs hs bs k).take i
    · rw [if_pos b, if_pos ((m y).mpr (.inr b))]
    · rw [if_neg b, if_neg fun z => ((m y).mp z).elim a b]
theorem going_nd {bs : List BR} {k : Nat} : (goingN bs k).Nodup := List.nodup_range.filter _
theorem putC_next {bs : List BR} {cn : Sl → List Int} {k i j : Nat} {z : Int} (e : (goingN bs k)[i]? = some j) : putC bs cn k z i (0, j) = cn (0, j) ∧ putS (putC bs cn k z i) (0, j) (cn (0, j) ++ [z]) = putC bs cn k z (i + 1) := by
  obtain ⟨n, m⟩ := take_new going_nd e
  have mm : ∀ {i : Nat} {y : Sl}, y ∈ ((goingN bs k).take i).map (fun j => ((0, j) : Sl)) ↔ ∃ x ∈ (goingN bs k).take i, ((0, x) : Sl) = y := List.mem_map
  refine ⟨if_neg fun h => ?_, funext fun y => ?_⟩
  · obtain ⟨x, hx, ex⟩ := mm.mp h
    have := congrArg Prod.snd ex
    simp only at this
    rw [this] at hx
    exact n hx
  show (if y = (0, j) then cn (0, j) ++ [z] else if y ∈ ((goingN bs k).take i).map (fun j => ((0, j) : Sl)) then cn y ++ [z] else cn y) = if y ∈ ((goingN bs k).take (i + 1)).map (fun j => ((0, j) : Sl)) then cn y ++ [z] else cn y
  by_cases a : y = (0, j)
  · rw [if_pos a, if_pos (mm.mpr ⟨j, (m j).mpr (.inl rfl), a.symm⟩), a]
  · rw [if_neg a]
    by_cases b : y ∈ ((goingN bs k).take i).map (fun j => ((0, j) : Sl))
    · obtain ⟨x, hx, ex⟩ := mm.mp b
      rw [if_pos b, if_pos (mm.mpr ⟨x, (m x).mpr (.inr hx), ex⟩)]
    · rw [if_neg b, if_neg fun h => ?_]
      obtain ⟨x, hx, ex⟩ := mm.mp h
      rcases (m x).mp hx with w | w
      · exact a (by rw [← ex, w])
      · exact b (mm.mpr ⟨x, w, ex⟩)
theorem going_len {bs : List BR} {k : Nat} : (goingN bs k).length ≤ bs.length := filt_len _
theorem coming_need {hs : List HR} {bs : List BR} {k : Nat} {h : HR} (ok : RoomOk hs bs) (e : hs[k]? = some h) : (((comingN bs k).length : Nat) : Int) = needs h.wd := by
  rw [← ok.count k h e, ← takes_len (f := fun _ => 0), ← coming_takes, List.length_map]
section
variable {P : Program} {w : World} {K : PySem.W.Frag} {mg : Str → Option Value} {base : Heap}
def sp_Floor_work (K : PySem.W.Frag) (C : Addr) : Sp := fun vs H Q E => ∃ (F : Addr) (hs : List HR) (bs : List BR) (cn : Sl → List Int) (tg : Addr → Option Sl) (k : Nat), vs = [.ref F, nV k] ∧ FlAt C H F hs bs cn tg ∧ RoomOk hs bs ∧ k < hs.length ∧ (∀ s, VS hs bs s → (cn s).length ≤ 900) ∧
  (rdy hs bs cn k = true → ∀ H', FlAt C H' F hs bs (wkC hs bs cn k) tg → Bt tg H H' → Q (.int (wkV hs bs cn k)) H') ∧
  (rdy hs bs cn k = false → ∀ (d : Addr) (H' : Hp), H' d = some (.xd [("hand", nV k)]) → Same H H' → E (.ref (nrA K)) (some d) H')
theorem ok_Floor_work {f : Addr} {fd : FuncData} (F : Fun K "work" "Floor.work" s_Floor_work f fd) {C : Addr} (T : Top K mg C) : FnOk P w K mg base (L2N.CX P w) 3 f fd ["self", "hand"] (sp_Floor_work K C) := by
  obtain ⟨f_Floor_sources, fd_Floor_sources, F_Floor_sources, b_Floor_sources, m_Floor_sources⟩ := T.d_Floor_sources
  have G_Floor_sources := ok_Floor_sources (P := P) (w := w) (base := base) F_Floor_sources T
  obtain ⟨f_Floor_can_work, fd_Floor_can_work, F_Floor_can_work, b_Floor_can_work, m_Floor_can_work⟩ := T.d_Floor_can_work
  have G_Floor_can_work := ok_Floor_can_work (P := P) (w := w) (base := base) F_Floor_can_work T
  obtain ⟨f_made_by, fd_made_by, F_made_by, b_made_by, m_made_by⟩ := T.d_made_by
  have G_made_by := ok_made_by (P := P) (w := w) (base := base) F_made_by T
  obtain ⟨fdI, N⟩ := T.x_ns
  have GI := ok_NsInit (P := P) (w := w) (base := base) N
  refine okN60 F sc_Floor_work (fun vs H Q E h => ?_) (fun cdv A outer s H vs Q E hr h => ?_)
  · obtain ⟨F, hs, bs, cn, tg, k, rfl, _⟩ := h
    rfl
  obtain ⟨F, hs, bs, cn, tg, k, rfl, a, ok, hk, len, q, qn⟩ := h
  obtain ⟨p, a⟩ := a.b
  have lb := ok.many
  have ls := srcs_len (hs := hs) (bs := bs) (k := k) lb
  by_cases rd : rdy hs bs cn k = true
  case neg =>
    have rd : rdy hs bs cn k = false := by
      cases e : rdy hs bs cn k
      · rfl
      · exact absurd e rd
    refine ⟨_, (pss_cons (ps_if (pt_not (pt_val (pe_meth (pv 0) T.cl m_Floor_can_work G_Floor_can_work (hr.mono (by decide)) b_Floor_can_work .nil pass0 (pa_cons (pv 1) pa_nil)))) (pss_one (L2N.ps_raise rfl (L2N.takes_of rfl rfl rfl rfl) (pmk60 N.T N.iC N.tI GI (hr.mono (by decide)) N.b pass0 rfl N.gC (pa_cons (pv 1) pa_nil)))) pss_nil)
      (pss_cons (ps_set (i := 2) sc_Floor_work.nd rfl (Or.inl rfl) (pe_callTy (call_tuple_ofK K rfl) (by rfl) T.m_tuple (by decide +kernel) (pa_cons (pe_lc (own := [("things", 3)]) (g := gName 3) (tt := tYes) (by rfl) sc_Floor_work.nd (pi_listK K rfl (pe_meth (pv 0) T.cl m_Floor_sources G_Floor_sources (hr.mono (by decide)) b_Floor_sources .nil pass0 (pa_cons (pv 1) pa_nil))) (blkOk_by (own := [("things", 3)]) (N := N_Floor_work) (sc := defScope s_Floor_work) (by decide +kernel)) (fun _ _ _ _ _ => (pg_name (i := 3) sc_Floor_work.nd rfl (Or.inl rfl))) (fun _ _ _ _ _ => pts_nil) (fun _ _ _ _ _ => (pe_ix (ix_listK K rfl) (pv 3) pe_int (fun _ _ => rfl)))) pa_nil)))
      (pss_cons (ps_for (passes_of rfl) rfl (pi_listK K rfl (pe_meth (pv 0) T.cl m_Floor_sources G_Floor_sources (hr.mono (by decide)) b_Floor_sources .nil pass0 (pa_cons (pv 1) pa_nil))) (pg_name (i := 3) sc_Floor_work.nd rfl (Or.inl rfl))
        (pss_one (ps_expr (pe_bmK K rfl PySem.F.plainAttrs_list PySem.F.slot_list_pop PySem.F.type_list_pop mt_popAt (pv 3) (pa_cons pe_int pa_nil)))))
      (pss_cons (ps_set (i := 4) sc_Floor_work.nd rfl (Or.inl rfl) (pe_ifExp (pt_cmp (pc_din (hu_of hr) (pv 1) (pe_fldK K rfl (pv 0) rfl)) (by with_unfolding_all rfl)) (pe_ix (ix_tupK K rfl) (pv 2) pe_int (fun _ _ => rfl)) (pe_call G_made_by (hr.mono (by decide)) (by rfl) m_made_by F_made_by.kp b_made_by .nil pass0 (pa_cons (pe_ix (ix_listK K rfl) (pe_fldK K rfl (pv 0) rfl) (pv 1) (fun _ _ => rfl)) (pa_cons (pv 2) pa_nil)))))
      (pss_cons (ps_for (passes_of rfl) rfl (pi_listK K rfl (pe_ix (ix_listK K rfl) (pe_fldK K rfl (pv 0) rfl) (pv 1) (fun _ _ => rfl))) (pg_name (i := 5) sc_Floor_work.nd rfl (Or.inl rfl))
        (pss_one (ps_expr (pe_bmK K rfl PySem.F.plainAttrs_list PySem.F.slot_list_append PySem.F.type_list_append mt_append (pe_ix (ix_listK K rfl) (pe_fldK K rfl (pv 0) rfl) (pv 5) (fun _ _ => rfl)) (pa_cons (pv 4) pa_nil)))))
      (pss_cons (ps_expr (pe_bmK K rfl PySem.F.plainAttrs_list PySem.F.slot_list_append PySem.F.type_list_append mt_append (pe_ix (ix_listK K rfl) (pe_fldK K rfl (pv 0) rfl) (pv 1) (fun _ _ => rfl)) (pa_cons (pv 4) pa_nil)))
      (pss_one (ps_ret (pv 4))))))))), ?_⟩
    refine ⟨_, rfl, F, p.dx, _, rfl, a.hF, rfl, _, rfl, F, hs, bs, cn, tg, p, k, rfl, a, hk, lb, fun H1 s1 => ⟨_, rfl, ?_⟩⟩
    rw [rd]
    refine if_bl (fun _ => ?_) (fun z => nomatch z)
    refine ⟨_, rfl, ⟨by show 1 ≤ 1000; decide, fun x nx => ?_⟩⟩
    refine ⟨x, nV k, rfl, upd_same, fun d nd dx => ⟨rfl, d, _, by rw [upd_same], by rw [upd_ne dx, upd_same], ?_, ?_⟩⟩
    · rw [upd_ne dx] at nd; exact nd
    · have nd1 : H1 d = none := by rw [upd_ne dx] at nd; exact nd
      have keep : Same H1 (upd (del (upd (upd (upd H1 x (exo x (nrA K) none)) d (exd d [("hand", nV k)])) x (exo x (nrA K) (some d))) x) d (.xd [("hand", nV k)])) := fun b o e => by
        have b1 : b ≠ x := ne_of_none e nx
        have b2 : b ≠ d := ne_of_none e nd1
        rw [upd_ne b2, del_ne b1, upd_ne b1, upd_ne b2, upd_ne b1]
        exact e
      exact qn rd d _ upd_same (s1.trans keep)
  case pos =>
  have q := q rd
  have some1 : ∀ s ∈ srcs hs bs k, ∃ x r, cn s = x :: r := fun s hs' => by
    have := of_decide_eq_true (List.all_eq_true.mp rd s hs')
    cases e : cn s with
    | nil => rw [e] at this; exact absurd this (by show ¬ ((0 : Nat) : Int) > 0; omega)
    | cons x r => exact ⟨x, r, rfl⟩
  let hd : List Int := (srcs hs bs k).map fun s => (cn s).getD 0 0
  let R1 : TS := fun D' σ' H' => D'.rt = Q ∧ ∃ (t : Addr) (v3 : Option V), σ' = [some (.ref F), some (nV k), some (.ref t), v3, none, none] ∧ FlB C H' F hs bs cn tg p ∧ H' t = some (.tup (hd.map V.int)) ∧ Bt tg H H'
  let R2 : TS := fun D' σ' H' => D'.rt = Q ∧ ∃ (t : Addr) (v3 : Option V), σ' = [some (.ref F), some (nV k), some (.ref t), v3, none, none] ∧ FlB C H' F hs bs (popC hs bs cn k (srcs hs bs k).length) tg p ∧ H' t = some (.tup (hd.map V.int)) ∧ Bt tg H H'
  let R3 : TS := fun D' σ' H' => D'.rt = Q ∧ ∃ (t : Addr) (v3 : Option V), σ' = [some (.ref F), some (nV k), some (.ref t), v3, some (.int (wkV hs bs cn k)), none] ∧ FlB C H' F hs bs (popC hs bs cn k (srcs hs bs k).length) tg p ∧ Bt tg H H'
  let R4 : TS := fun D' σ' H' => D'.rt = Q ∧ ∃ (t : Addr) (v3 v5 : Option V), σ' = [some (.ref F), some (nV k), some (.ref t), v3, some (.int (wkV hs bs cn k)), v5] ∧ FlB C H' F hs bs (putC bs (popC hs bs cn k (srcs hs bs k).length) k (wkV hs bs cn k) (goingN bs k).length) tg p ∧ Bt tg H H'
  refine ⟨_, (pss_cons (ps_if (pt_not (pt_val (pe_meth (pv 0) T.cl m_Floor_can_work G_Floor_can_work (hr.mono (by decide)) b_Floor_can_work .nil pass0 (pa_cons (pv 1) pa_nil)))) (pss_one (L2N.ps_raise rfl (L2N.takes_of rfl rfl rfl rfl) (pmk60 N.T N.iC N.tI GI (hr.mono (by decide)) N.b pass0 rfl N.gC (pa_cons (pv 1) pa_nil)))) pss_nil)
      (pss_cons (ps_set (i := 2) sc_Floor_work.nd rfl (Or.inl rfl) (pe_callTy (call_tuple_ofK K rfl) (by rfl) T.m_tuple (by decide +kernel) (pa_cons (pe_lc (own := [("things", 3)]) (g := gName 3) (tt := tYes) (by rfl) sc_Floor_work.nd (pi_listK K rfl (pe_meth (pv 0) T.cl m_Floor_sources G_Floor_sources (hr.mono (by decide)) b_Floor_sources .nil pass0 (pa_cons (pv 1) pa_nil))) (blkOk_by (own := [("things", 3)]) (N := N_Floor_work) (sc := defScope s_Floor_work) (by decide +kernel)) (fun _ _ _ _ _ => (pg_name (i := 3) sc_Floor_work.nd rfl (Or.inl rfl))) (fun _ _ _ _ _ => pts_nil) (fun _ _ _ _ _ => (pe_ix (ix_listK K rfl) (pv 3) pe_int (fun _ _ => rfl)))) pa_nil)))
      (PSs.to (pss_cons (ps_for (passes_of rfl) rfl (pi_listK K rfl (pe_meth (pv 0) T.cl m_Floor_sources G_Floor_sources (hr.mono (by decide)) b_Floor_sources .nil pass0 (pa_cons (pv 1) pa_nil))) (pg_name (i := 3) sc_Floor_work.nd rfl (Or.inl rfl))
        (pss_one (ps_expr (pe_bmK K rfl PySem.F.plainAttrs_list PySem.F.slot_list_pop PySem.F.type_list_pop mt_popAt (pv 3) (pa_cons pe_int pa_nil)))))
      (PSs.to (pss_cons (ps_set (i := 4) sc_Floor_work.nd rfl (Or.inl rfl) (pe_ifExp (pt_cmp (pc_din (hu_of hr) (pv 1) (pe_fldK K rfl (pv 0) rfl)) (by with_unfolding_all rfl)) (pe_ix (ix_tupK K rfl) (pv 2) pe_int (fun _ _ => rfl)) (pe_call G_made_by (hr.mono (by decide)) (by rfl) m_made_by F_made_by.kp b_made_by .nil pass0 (pa_cons (pe_ix (ix_listK K rfl) (pe_fldK K rfl (pv 0) rfl) (pv 1) (fun _ _ => rfl)) (pa_cons (pv 2) pa_nil)))))
      (PSs.to (pss_cons (ps_for (passes_of rfl) rfl (pi_listK K rfl (pe_ix (ix_listK K rfl) (pe_fldK K rfl (pv 0) rfl) (pv 1) (fun _ _ => rfl))) (pg_name (i := 5) sc_Floor_work.nd rfl (Or.inl rfl))
        (pss_one (ps_expr (pe_bmK K rfl PySem.F.plainAttrs_list PySem.F.slot_list_append PySem.F.type_list_append mt_append (pe_ix (ix_listK K rfl) (pe_fldK K rfl (pv 0) rfl) (pv 5) (fun _ _ => rfl)) (pa_cons (pv 4) pa_nil)))))
      (PSs.to (pss_cons (ps_expr (pe_bmK K rfl PySem.F.plainAttrs_list PySem.F.slot_list_append PySem.F.type_list_append mt_append (pe_ix (ix_listK K rfl) (pe_fldK K rfl (pv 0) rfl) (pv 1) (fun _ _ => rfl)) (pa_cons (pv 4) pa_nil)))
      (pss_one (ps_ret (pv 4)))) R4 ?tail4)) R3 ?tail3)) R2 ?tail2)) R1 ?tail1))), ?_⟩
  case tail1 =>
    rintro D' σ' H1 ⟨eD, t, v3, rfl, a1, ht, b1⟩
    refine ⟨_, rfl, F, p.dx, _, rfl, a1.hF, rfl, _, rfl, F, hs, bs, cn, tg, p, k, rfl, a1, hk, lb, fun S H2 nS hS s2 => ?_⟩
    have tS : tg S = none := a1.own.free nS
    refine ⟨S, rfl, ⟨_, SqL.of hS⟩, for_list (K := K) (a := S) (xs := (srcs hs bs k).map fun s => V.ref (p.A s)) (fun i σ H5 => ∃ v3 : Option V, σ = [some (.ref F), some (nV k), some (.ref t), v3, none, none] ∧ FlB C H5 F hs bs (popC hs bs cn k i) tg p ∧ H5 S = some (.lst ((srcs hs bs k).map fun s => V.ref (p.A s))) ∧ H5 t = some (.tup (hd.map V.int)) ∧ Bt tg H H5) ⟨v3, rfl, ?_, hS, s2 _ _ ht, b1.same s2⟩ (fun i σ H5 _ ⟨_, _, _, h, _⟩ => SqL.of h) ?_ ?_⟩
    · have e0 : popC hs bs cn k 0 = cn := funext fun s => if_neg (by rw [List.take_zero]; exact fun z => nomatch z)
      rw [e0]
      exact a1.kp (Kp.same s2)
    · rintro i x σ H5 hx ⟨v3, rfl, a5, hS5, ht5, b5⟩
      rw [List.getElem?_map] at hx
      cases es : (srcs hs bs k)[i]? with
      | none => rw [es] at hx; cases hx
      | some s =>
      rw [es] at hx
      obtain rfl : V.ref (p.A s) = x := Option.some.inj hx
      have sm := List.mem_of_getElem? es
      have vs := srcs_vs s sm
      obtain ⟨e1, e2⟩ := popC_next (cn := cn) es
      obtain ⟨h1, t1⟩ := a5.sl s vs
      obtain ⟨x0, r0, e0⟩ := some1 s sm
      rw [e1, e0] at h1
      obtain ⟨a6, b6⟩ := a5.put vs (cn s).tail
      rw [e2, e0] at a6
      rw [e0] at b6
      refine ⟨_, rfl, .inl ⟨rfl, _, SqL.of h1⟩, p.A s, _, 0, 0, .int x0, rfl, rfl, h1, by decide, by decide, ?_, rfl, ?_⟩
      · rw [seqIndex_of (by decide) (by show (0 : Int) < (((V.int x0 :: r0.map V.int).length : Nat) : Int); rw [List.length_cons]; omega)]
        rfl
      exact ⟨_, rfl, a6, b6 _ _ hS5 tS, b6 _ _ ht5 (a5.own.tup ht5 fun _ z => nomatch z), b5.trans b6⟩
    · rintro σ H5 ⟨v3, rfl, a5, hS5, ht5, b5⟩
      rw [List.length_map] at a5
      exact ⟨eD, t, v3, rfl, a5, ht5, b5⟩
  case tail2 =>
    rintro D' σ' H1 ⟨eD, t, v3, rfl, a1, ht, b1⟩
    refine ⟨_, rfl, _, rfl, F, C, p.dx, _, _, rfl, a1.hF, T.cl, T.n_given, rfl, p.ga, _, rfl, dget_of a1.hg (a1.gv k hk), ?_⟩
    by_cases c : k ∈ doorsOf "in" hs
    · rw [if_pos c]
      refine ⟨_, rfl, if_bl (fun _ => ?_) (fun z => by cases z)⟩
      have ehd : hd = [(cn (1, k)).getD 0 0] := by
        show (srcs hs bs k).map _ = _
        unfold srcs
        rw [if_pos c]
        rfl
      have ev : wkV hs bs cn k = (cn (1, k)).getD 0 0 := if_pos c
      rw [ehd] at ht
      refine ⟨_, rfl, t, _, _, _, rfl, rfl, SqT.of ht, atI_nat (j := 0) rfl, ?_⟩
      exact ⟨eD, t, v3, by rw [ev]; rfl, a1, b1⟩
    · rw [if_neg c]
      refine ⟨_, rfl, if_bl (fun z => by cases z) (fun _ => ?_)⟩
      have eh : hs[k]? = some hs[k] := List.getElem?_eq_getElem hk
      have ehd : hd = (comingN bs k).map fun j => (cn (0, j)).getD 0 0 := by
        show (srcs hs bs k).map _ = _
        unfold srcs
        rw [if_neg c, List.map_map]
        rfl
      have ev : wkV hs bs cn k = mkR hs[k] ((comingN bs k).map fun j => (cn (0, j)).getD 0 0) := by
        unfold wkV
        rw [if_neg c, eh]
      have wn : hs[k].wd ≠ "in" := fun z => c (mem_doors.mpr ⟨_, eh, z⟩)
      rw [ehd] at ht
      obtain ⟨x, ex, tr, rfl, hrl⟩ := a1.alr.get eh
      have A := args_of (xs := (comingN bs k).map fun j => (cn (0, j)).getD 0 0) (ok.good _ (List.mem_of_getElem? eh)) wn (by rw [List.length_map]; exact coming_need ok eh)
      refine ⟨_, rfl, F, C, p.dx, _, _, rfl, a1.hF, T.cl, T.n_rules, rfl, _, rfl, p.ra, _, _, _, rfl, rfl, SqL.of a1.hr, atI_nat ex, _, rfl, tr, t, _, _, hs[k].wd, _, _, _, _, rfl, SqT.of hrl, SqT.of ht, A.r0, A.r1, A.t0, A.t1, A.t2, A.big, fun H2 s2 => ?_⟩
      exact ⟨eD, t, v3, by rw [ev]; rfl, a1.kp (Kp.same s2), b1.same s2⟩
  case tail3 =>
    rintro D' σ' H1 ⟨eD, t, v3, rfl, a1, b1⟩
    obtain ⟨l, el, hl, tl⟩ := nl_get a1.alo hk
    refine ⟨_, rfl, F, C, p.dx, _, _, rfl, a1.hF, T.cl, T.n_going, rfl, _, rfl, p.oa, _, _, _, rfl, rfl, SqL.of a1.ho, atI_nat el, l, rfl, ⟨_, SqL.of hl⟩, for_list (K := K) (a := l) (xs := (goingN bs k).map nV) (fun i σ H5 => ∃ v5 : Option V, σ = [some (.ref F), some (nV k), some (.ref t), v3, some (.int (wkV hs bs cn k)), v5] ∧ FlB C H5 F hs bs (putC bs (popC hs bs cn k (srcs hs bs k).length) k (wkV hs bs cn k) i) tg p ∧ H5 l = some (.lst ((goingN bs k).map nV)) ∧ Bt tg H H5) ⟨none, rfl, ?_, hl, b1⟩ (fun i σ H5 _ ⟨_, _, _, h, _⟩ => SqL.of h) ?_ ?_⟩
    · have e0 : putC bs (popC hs bs cn k (srcs hs bs k).length) k (wkV hs bs cn k) 0 = popC hs bs cn k (srcs hs bs k).length := funext fun s => if_neg (by rw [List.take_zero]; exact fun z => nomatch z)
      rw [e0]
      exact a1
    · rintro i x σ H5 hx ⟨v5, rfl, a5, hl5, b5⟩
      rw [List.getElem?_map] at hx
      cases ej : (goingN bs k)[i]? with
      | none => rw [ej] at hx; cases hx
      | some j =>
      rw [ej] at hx
      obtain rfl : nV j = x := Option.some.inj hx
      have jl := going_lt (List.mem_of_getElem? ej)
      have vs : VS hs bs (0, j) := .inl ⟨rfl, jl⟩
      obtain ⟨e1, e2⟩ := putC_next (cn := popC hs bs cn k (srcs hs bs k).length) (z := wkV hs bs cn k) ej
      obtain ⟨h1, t1⟩ := a5.sl (0, j) vs
      rw [e1] at h1
      obtain ⟨a6, b6⟩ := a5.put vs (popC hs bs cn k (srcs hs bs k).length (0, j) ++ [wkV hs bs cn k])
      rw [e2] at a6
      have ln : (popC hs bs cn k (srcs hs bs k).length (0, j)).length ≤ 900 := by
        unfold popC
        have := len (0, j) vs
        split
        · rw [List.length_tail]; omega
        · exact this
      refine ⟨_, rfl, F, C, p.dx, _, _, rfl, a5.hF, T.cl, T.n_lying, rfl, _, rfl, p.la, _, _, _, rfl, rfl, SqL.of a5.hl, rg_ref jl, .inl ⟨rfl, _, SqL.of h1⟩, _, rfl, p.A (0, j), _, _, rfl, rfl, h1, by rw [List.length_map]; exact small1000 (by omega), ?_⟩
      rw [List.map_append] at a6 b6
      refine ⟨_, rfl, a6, ?_, b5.trans b6⟩
      rw [upd_ne fun z => ?_]
      · exact hl5
      · rw [z, t1] at tl
        exact absurd (show (0 : Nat) = 3 from congrArg Prod.fst (Option.some.inj tl)) (by decide)
    · rintro σ H5 ⟨v5, rfl, a5, hl5, b5⟩
      rw [List.length_map] at a5
      exact ⟨eD, t, v3, v5, rfl, a5, b5⟩
  case tail4 =>
    rintro D' σ' H1 ⟨eD, t, v3, v5, rfl, a1, b1⟩
    have vs : VS hs bs (2, k) := .inr (.inr ⟨rfl, hk⟩)
    obtain ⟨h1, t1⟩ := a1.sl (2, k) vs
    have e2 : putC bs (popC hs bs cn k (srcs hs bs k).length) k (wkV hs bs cn k) (goingN bs k).length (2, k) = cn (2, k) := by
      have n1 : ((2, k) : Sl) ∉ ((goingN bs k).take (goingN bs k).length).map (fun j => ((0, j) : Sl)) := fun z => by
        obtain ⟨x, _, e⟩ := List.mem_map.mp z
        exact absurd (show (0 : Nat) = 2 from congrArg Prod.fst e) (by decide)
      have n2 : ((2, k) : Sl) ∉ (srcs hs bs k).take (srcs hs bs k).length := fun z => by
        rw [List.take_length] at z
        unfold srcs at z
        split at z
        · exact absurd (show (2 : Nat) = 1 from congrArg Prod.fst (List.mem_singleton.mp z)) (by decide)
        · obtain ⟨x, _, e⟩ := List.mem_map.mp z
          exact absurd (show (0 : Nat) = 2 from congrArg Prod.fst e) (by decide)
      show (if _ then _ else _) = _
      rw [if_neg n1]
      show (if _ then _ else _) = _
      rw [if_neg n2]
    rw [e2] at h1
    obtain ⟨a6, b6⟩ := a1.put vs (cn (2, k) ++ [wkV hs bs cn k])
    have ln := len (2, k) vs
    refine ⟨_, rfl, F, C, p.dx, _, _, rfl, a1.hF, T.cl, T.n_done, rfl, _, rfl, p.da, _, _, _, rfl, rfl, SqL.of a1.hd, rg_ref hk, .inl ⟨rfl, _, SqL.of h1⟩, _, rfl, p.A (2, k), _, _, rfl, rfl, h1, by rw [List.length_map]; exact small1000 (by omega), ?_⟩
    refine ⟨_, rfl, ?_⟩
    rw [eD]
    rw [List.map_append] at a6 b6
    exact q _ a6.at_ (b1.trans b6)
  refine ⟨_, rfl, F, p.dx, _, rfl, a.hF, rfl, _, rfl, F, hs, bs, cn, tg, p, k, rfl, a, hk, lb, fun H1 s1 => ⟨_, rfl, ?_⟩⟩
  rw [rd]
  refine if_bl (fun z => nomatch z) (fun _ => ?_)
  have a1 := a.kp (Kp.same s1)
  refine ⟨_, rfl, F, p.dx, _, rfl, a1.hF, rfl, _, rfl, F, hs, bs, cn, tg, p, k, rfl, a1, hk, lb, fun S H2 nS hS s2 => ⟨S, rfl, ⟨_, SqL.of hS⟩, fun D nD => lc_list (K := K) (a := S) (xs := (srcs hs bs k).map fun s => V.ref (p.A s)) (fun i H5 => H5 D = some (.lst ((((srcs hs bs k).take i).map fun s => (cn s).getD 0 0).map V.int)) ∧ Same H2 H5) ⟨upd_same, same_new nD⟩ (fun i H5 _ ⟨_, s5⟩ => SqL.of (s5 _ _ hS)) ?_ ?_⟩⟩
  · rintro i x H5 hx ⟨hD, s5⟩
    rw [List.getElem?_map] at hx
    cases es : (srcs hs bs k)[i]? with
    | none => rw [es] at hx; cases hx
    | some s =>
    rw [es] at hx
    obtain rfl : V.ref (p.A s) = x := Option.some.inj hx
    have sm := List.mem_of_getElem? es
    obtain ⟨x0, r0, e0⟩ := some1 s sm
    obtain ⟨h1, _⟩ := a1.sl s (srcs_vs s sm)
    rw [e0] at h1
    refine ⟨rfl, yes_in ⟨_, rfl, p.A s, _, _, _, rfl, rfl, SqL.of (s5 _ _ (s2 _ _ h1)), atI_nat (j := 0) rfl, _, hD, by rw [List.length_map, List.length_map, List.length_take]; exact small1000 (by omega), ?_, Same.own s5 nD⟩⟩
    rw [upd_same, List.take_add_one, es, List.map_append, List.map_append]
    show _ = some (HO.lst (_ ++ [V.int ((cn s).getD 0 0)]))
    rw [e0]
    rfl
  · rintro H5 ⟨hD, s5⟩
    rw [List.length_map, List.take_length] at hD
    refine ⟨D, _, rfl, .inl ⟨SqL.of hD, fun t nt => ?_⟩⟩
    have u := same_new (o := .tup (hd.map V.int)) nt
    exact ⟨rfl, t, _, rfl, a1.kp (Kp.same ((s2.trans s5).trans u)), upd_same, Bt.refl.same (((s1.trans s2).trans s5).trans u)⟩
end
/-! ### a dict, comprehended over a list -/
abbrev DSt (g : TG) (tt : TT) (tk tv : TE) (vs : List Nat) (σ : L2.St) (D : Addr) (x : V) (H' : Hp) (N : Hp → Prop) : Prop := g x (wipe σ vs) H' fun σ2 H2 => wipe σ2 vs = wipe σ vs ∧ tt σ2 H2 fun b H3 => if b = true then (tk σ2 H3 fun y H4 => tv σ2 H4 fun z H5 => ∃ kvs k, y = kV k ∧ H5 D = some (.dK kvs) ∧ kvs.length < sizeLine ∧ N (upd H5 D (.dK (putK kvs k z)))) else N H3
theorem dcl {K : PySem.W.Frag} {a : Addr} {xs : List V} {g : TG} {tt : TT} {tk tv : TE} {vs : List Nat} {σ : L2.St} {H1 : Hp} {D : Addr} {Qd : Hp → Prop} (Pv : Nat → Hp → Prop) (h0 : Pv 0 (upd H1 D (.dK []))) (hl : ∀ i H, Pv i H → SqL K H a xs) (hs : ∀ i x H, xs[i]? = some x → Pv i H → DSt g tt tk tv vs σ D x H (Pv (i + 1))) (hd : ∀ H, Pv xs.length H → Qd H) :
    ∃ W : Nat → Nat → Hp → Prop, (∃ m, W 0 m (upd H1 D (.dK []))) ∧ ∀ i m H, W i m H → ((Itl K a).stop i H ∧ Qd H) ∨ ((Itl K a).go i H ∧ ∃ Nx : Hp → Prop, (∀ H', Nx H' → ∃ m', m' < m ∧ W (i + 1) m' H') ∧ ∀ x H', (Itl K a).yld i H x H' → DSt g tt tk tv vs σ D x H' Nx) := by
  refine ⟨fun i m H => Pv i H ∧ i + m = xs.length, ⟨xs.length, h0, Nat.zero_add _⟩, fun i m H st => ?_⟩
  obtain ⟨here, total⟩ := st
  have seen := hl i H here
  cases m with
  | zero =>
    have : i = xs.length := by omega
    subst this
    exact .inl ⟨⟨xs, seen, Nat.le_refl _⟩, hd H here⟩
  | succ m =>
    have lt : i < xs.length := by omega
    refine .inr ⟨⟨xs, xs[i], seen, List.getElem?_eq_getElem lt⟩, Pv (i + 1), fun H' p' => ⟨m, Nat.lt_succ_self m, p', by omega⟩, fun x H' y => ?_⟩
    obtain ⟨rfl, y⟩ := y
    exact hs i x _ (y xs seen) here
/-! ### a Floor begun -/
theorem ins_tk59 {C p dx : Addr} {H : Hp} {fs gs : List (Str × V)} (h : H p = some (.ins C dx fs)) : TK H (upd H p (.ins C dx gs)) := fun x zs e => by
  rw [upd_ne (ne_of e h (fun z => nomatch z))]
  exact e
abbrev putT (tg : Addr → Option Sl) (p : Addr) (s : Sl) : Addr → Option Sl := fun q => if q = p then some s else tg q
def Gr (tg tg' : Addr → Option Sl) : Prop := ∀ q s, tg q = some s → tg' q = some s
theorem Gr.refl {tg : Addr → Option Sl} : Gr tg tg := fun _ _ e => e
theorem Gr.trans {t1 t2 t3 : Addr → Option Sl} (a : Gr t1 t2) (b : Gr t2 t3) : Gr t1 t3 := fun q s e => b q s (a q s e)
theorem Gr.put {tg : Addr → Option Sl} {p : Addr} {s : Sl} (n : tg p = none) : Gr tg (putT tg p s) := fun q u e => by
  show (if q = p then some s else tg q) = _
  by_cases z : q = p
  · rw [z, n] at e; cases e
  · rw [if_neg z]; exact e
theorem putT_at {tg : Addr → Option Sl} {p : Addr} {s : Sl} : putT tg p s p = some s := if_pos rfl
theorem Tg.same {H H' : Hp} {tg : Addr → Option Sl} (g : Tg H tg) (s : Same H H') : Tg H' tg := fun p u e => by
  obtain ⟨xs, h⟩ := g p u e
  exact ⟨xs, s _ _ h⟩
theorem Tg.new {H : Hp} {tg : Addr → Option Sl} {p : Addr} {s : Sl} {xs : List V} (g : Tg H tg) (n : H p = none) : Tg (upd H p (.lst xs)) (putT tg p s) := fun q u e => by
  by_cases z : q = p
  · exact ⟨xs, by rw [z, upd_same]⟩
  · have e : (if q = p then some s else tg q) = some u := e
    rw [if_neg z] at e
    obtain ⟨ys, h⟩ := g q u e
    exact ⟨ys, by rw [upd_ne z]; exact h⟩
theorem Tg.mark {H : Hp} {tg : Addr → Option Sl} {p : Addr} {s : Sl} {xs : List V} (g : Tg H tg) (h0 : H p = some (.lst xs)) : Tg H (putT tg p s) := fun q u e => by
  by_cases z : q = p
  · exact ⟨xs, by rw [z]; exact h0⟩
  · have e : (if q = p then some s else tg q) = some u := e
    rw [if_neg z] at e
    exact g q u e
theorem Tg.upd {H : Hp} {tg : Addr → Option Sl} {p : Addr} {o : HO} (g : Tg H tg) (n : tg p = none) : Tg (L2.upd H p o) tg := fun q u e => by
  obtain ⟨ys, h⟩ := g q u e
  exact ⟨ys, by rw [upd_ne fun z => by rw [z, n] at e; cases e]; exact h⟩
/-- how far a Floor is begun: all that stood ahead stands, F apart -/
structure I0 (C : Addr) (H0 H : Hp) (F dx r ha ba nl : Addr) (fs : List (Str × V)) (hs : List HR) (bs : List BR) (hv bv : List V) (tg : Addr → Option Sl) : Prop where
  hF : H F = some (.ins C dx fs)
  room : RoomAt H r hs bs
  eh : H ha = some (.tup hv)
  eb : H ba = some (.tup bv)
  alh : All2 (HandAt H) hv hs
  alb : All2 (BeltAt H) bv bs
  hn : H nl = some (.lst ((List.range hs.length).map nV))
  own : Tg H tg
  old : ∀ p o, H0 p = some o → tg p = none
  tn : tg nl = none
  tF : tg F = none
  bt : But F H0 H
/-- a step: what was made is kept, and put into a field of F -/
theorem I0.go {C : Addr} {H0 H H1 : Hp} {F dx r ha ba nl : Addr} {fs fs' : List (Str × V)} {hs : List HR} {bs : List BR} {hv bv : List V} {tg tg' : Addr → Option Sl} (i : I0 C H0 H F dx r ha ba nl fs hs bs hv bv tg) (s : Same H H1) (g : Tg H1 tg') (gr : ∀ p o, H p = some o → tg' p = tg p) : I0 C H0 (upd H1 F (.ins C dx fs')) F dx r ha ba nl fs' hs bs hv bv tg' := by
  have k : TK H (upd H1 F (.ins C dx fs')) := (TK.same s).trans (ins_tk59 (s _ _ i.hF))
  have tF : tg' F = none := (gr F _ i.hF).trans i.tF
  refine ⟨upd_same, i.room.keep k, k _ _ i.eh, k _ _ i.eb, i.alh.imp fun _ _ z => z.keep k, i.alb.imp fun _ _ z => z.keep k, by rw [upd_ne (ne_of i.hn i.hF fun z => nomatch z)]; exact s _ _ i.hn, g.upd tF, fun p o e => ?_, (gr nl _ i.hn).trans i.tn, tF, (i.bt.same s).upd⟩
  by_cases z : p = F
  · rw [z]; exact tF
  · exact (gr p _ (i.bt _ _ e z)).trans (i.old p o e)
theorem putK_le (kvs : List (Key × V)) (k : Key) (v : V) : (putK kvs k v).length ≤ kvs.length + 1 := by
  unfold putK
  split
  · rw [List.length_map]; exact Nat.le_succ _
  · rw [List.length_append]; exact Nat.le_refl _
theorem TK.dic {H : Hp} {p : Addr} {kvs lvs : List (Key × V)} (h : H p = some (.dK kvs)) : TK H (upd H p (.dK lvs)) := fun x zs e => by
  rw [upd_ne (ne_of e h (fun z => nomatch z))]
  exact e
/-- a list that is tagged -/
def Fx (H : Hp) (tg : Addr → Option Sl) (p : Addr) (xs : List V) (s : Sl) : Prop := H p = some (.lst xs) ∧ tg p = some s
/-- from one cut to the next: all stands but F, tags stay -/
structure Stp (F : Addr) (H H' : Hp) (tg tg' : Addr → Option Sl) : Prop where
  h : ∀ p o, H p = some o → p ≠ F → H' p = some o
  t : ∀ p o, H p = some o → tg' p = tg p
theorem Fx.go {F C dx : Addr} {fs : List (Str × V)} {H H' : Hp} {tg tg' : Addr → Option Sl} {p : Addr} {xs : List V} {s : Sl} (f : Fx H tg p xs s) (hF : H F = some (.ins C dx fs)) (k : Stp F H H' tg tg') : Fx H' tg' p xs s := ⟨k.h _ _ f.1 (ne_of f.1 hF fun z => nomatch z), (k.t _ _ f.1).trans f.2⟩
theorem Stp.tk {F C dx : Addr} {fs : List (Str × V)} {H H' : Hp} {tg tg' : Addr → Option Sl} (k : Stp F H H' tg tg') (hF : H F = some (.ins C dx fs)) : TK H H' := fun p xs e => k.h _ _ e (ne_of e hF fun z => nomatch z)
theorem Stp.nl {F C dx : Addr} {fs : List (Str × V)} {H H' : Hp} {tg tg' : Addr → Option Sl} {v : V} {ns : List Nat} (k : Stp F H H' tg tg') (hF : H F = some (.ins C dx fs)) (n : NlAt tg H v ns) : NlAt tg' H' v ns := by
  obtain ⟨t, e, h1, h2⟩ := n
  exact ⟨t, e, k.h _ _ h1 (ne_of h1 hF fun z => nomatch z), (k.t _ _ h1).trans h2⟩
/-- a store of a field behind new things -/
theorem stp_of {F C dx : Addr} {fs : List (Str × V)} {H H1 : Hp} {tg tg' : Addr → Option Sl} (s : Same H H1) (gr : ∀ p o, H p = some o → tg' p = tg p) : Stp F H (upd H1 F (.ins C dx fs)) tg tg' := ⟨fun p o e n => by rw [upd_ne n]; exact s _ _ e, gr⟩
def cn0 (bs : List BR) : Sl → List Int := fun s => if s.1 = 0 then (match bs[s.2]? with | some b => b.th | none => []) else []
section
variable {P : Program} {w : World} {K : PySem.W.Frag} {mg : Str → Option Value} {base : Heap}
def sp_Floor___init__ (K : PySem.W.Frag) (C : Addr) : Sp := fun vs H Q _ => ∃ (F r dx : Addr) (hs : List HR) (bs : List BR), vs = [.ref F, .ref r] ∧ H F = some (.ins C dx []) ∧ RoomAt H r hs bs ∧ RoomOk hs bs ∧
  ∀ (tg : Addr → Option Sl) (H' : Hp), FlAt C H' F hs bs (cn0 bs) tg → (∀ p o, H p = some o → tg p = none) → But F H H' → Q .non H'
theorem ok_Floor___init__ {f : Addr} {fd : FuncData} (F : Fun K "__init__" "Floor.__init__" s_Floor___init__ f fd) {C : Addr} (T : Top K mg C) : FnOk P w K mg base CX0 2 f fd ["self", "room"] (sp_Floor___init__ K C) := by
  obtain ⟨f_comings, fd_comings, F_comings, b_comings, m_comings⟩ := T.d_comings
  have G_comings := ok_comings (P := P) (w := w) (base := base) F_comings T
  obtain ⟨f_goings, fd_goings, F_goings, b_goings, m_goings⟩ := T.d_goings
  have G_goings := ok_goings (P := P) (w := w) (base := base) F_goings T
  refine F.ok sc_Floor___init__ (fun vs H Q E h => ?_) (fun cdv A outer s H vs Q E hr h => ?_)
  · obtain ⟨F, r, dx, hs, bs, rfl, _⟩ := h
    rfl
  obtain ⟨aI, mI, hI⟩ := T.x_in
  obtain ⟨F, r, dx, hs, bs, rfl, hF, hR, ok, q⟩ := h
  obtain ⟨ha, ba, hv, bv, er, eh, eb, alh, alb⟩ := id hR.ex
  have lh := ok.hands
  have lb := ok.many
  have lhv := alh.length
  have lbv := alb.length
  let sg : Addr → Option V → Option V → Option V → Option V → Option V → Option V → L2.St := fun nl v5 v6 v7 v8 v9 v10 => [some (.ref F), some (.ref r), some (.ref ha), some (.ref ba), some (.ref nl), v5, v6, v7, v8, v9, v10]
  let R1 : TS := fun D' σ' H' => D'.rt = Q ∧ (D'.nx = fun _ H2 => Q .non H2) ∧ ∃ (nl : Addr) (tg : Addr → Option Sl), σ' = sg nl none none none none none none ∧ I0 C H H' F dx r ha ba nl [] hs bs hv bv tg
  let R2 : TS := fun D' σ' H' => D'.rt = Q ∧ (D'.nx = fun _ H2 => Q .non H2) ∧ ∃ (nl ra : Addr) (rv : List V) (tg : Addr → Option Sl) (v5 v6 : Option V), σ' = sg nl v5 v6 none none none none ∧ I0 C H H' F dx r ha ba nl [("rules", .ref ra)] hs bs hv bv tg ∧ Fx H' tg ra rv (3, 0) ∧ All2 (RlAt H') rv hs
  let R3 : TS := fun D' σ' H' => D'.rt = Q ∧ (D'.nx = fun _ H2 => Q .non H2) ∧ ∃ (nl ra ga : Addr) (rv : List V) (kvs : List (Key × V)) (A1 : Nat → Addr) (tg : Addr → Option Sl) (v5 v6 v7 : Option V), σ' = sg nl v5 v6 v7 none none none ∧ I0 C H H' F dx r ha ba nl [("rules", .ref ra), ("given", .ref ga)] hs bs hv bv tg ∧ Fx H' tg ra rv (3, 0) ∧ All2 (RlAt H') rv hs ∧
    H' ga = some (.dK kvs) ∧ (∀ k, k < hs.length → valV kvs (kN k) = if k ∈ doorsOf "in" hs then some (.ref (A1 k)) else none) ∧ (∀ k ∈ doorsOf "in" hs, Fx H' tg (A1 k) [] (1, k))
  let R4 : TS := fun D' σ' H' => D'.rt = Q ∧ (D'.nx = fun _ H2 => Q .non H2) ∧ ∃ (nl ra ga la : Addr) (rv : List V) (kvs : List (Key × V)) (A1 A0 : Nat → Addr) (tg : Addr → Option Sl) (v5 v6 v7 v8 v9 v10 : Option V), σ' = sg nl v5 v6 v7 v8 v9 v10 ∧ I0 C H H' F dx r ha ba nl [("rules", .ref ra), ("given", .ref ga), ("lying", .ref la)] hs bs hv bv tg ∧ Fx H' tg ra rv (3, 0) ∧ All2 (RlAt H') rv hs ∧
    H' ga = some (.dK kvs) ∧ (∀ k, k < hs.length → valV kvs (kN k) = if k ∈ doorsOf "in" hs then some (.ref (A1 k)) else none) ∧ (∀ k ∈ doorsOf "in" hs, Fx H' tg (A1 k) [] (1, k)) ∧ Fx H' tg la ((List.range bs.length).map fun j => V.ref (A0 j)) (3, 0) ∧ (∀ j b, bs[j]? = some b → Fx H' tg (A0 j) (b.th.map V.int) (0, j))
  let R5 : TS := fun D' σ' H' => D'.rt = Q ∧ (D'.nx = fun _ H2 => Q .non H2) ∧ ∃ (nl ra ga la ca : Addr) (rv cv : List V) (kvs : List (Key × V)) (A1 A0 : Nat → Addr) (tg : Addr → Option Sl) (v5 v6 v7 v8 v9 v10 : Option V), σ' = sg nl v5 v6 v7 v8 v9 v10 ∧ I0 C H H' F dx r ha ba nl [("rules", .ref ra), ("given", .ref ga), ("lying", .ref la), ("coming", .ref ca)] hs bs hv bv tg ∧ Fx H' tg ra rv (3, 0) ∧ All2 (RlAt H') rv hs ∧
    H' ga = some (.dK kvs) ∧ (∀ k, k < hs.length → valV kvs (kN k) = if k ∈ doorsOf "in" hs then some (.ref (A1 k)) else none) ∧ (∀ k ∈ doorsOf "in" hs, Fx H' tg (A1 k) [] (1, k)) ∧ Fx H' tg la ((List.range bs.length).map fun j => V.ref (A0 j)) (3, 0) ∧ (∀ j b, bs[j]? = some b → Fx H' tg (A0 j) (b.th.map V.int) (0, j)) ∧ Fx H' tg ca cv (3, 0) ∧ All2 (NlAt tg H') cv ((List.range hs.length).map (comingN bs))
  let R6 : TS := fun D' σ' H' => D'.rt = Q ∧ (D'.nx = fun _ H2 => Q .non H2) ∧ ∃ (nl ra ga la ca oa : Addr) (rv cv ov : List V) (kvs : List (Key × V)) (A1 A0 : Nat → Addr) (tg : Addr → Option Sl) (v5 v6 v7 v8 v9 v10 : Option V), σ' = sg nl v5 v6 v7 v8 v9 v10 ∧ I0 C H H' F dx r ha ba nl [("rules", .ref ra), ("given", .ref ga), ("lying", .ref la), ("coming", .ref ca), ("going", .ref oa)] hs bs hv bv tg ∧ Fx H' tg ra rv (3, 0) ∧ All2 (RlAt H') rv hs ∧
    H' ga = some (.dK kvs) ∧ (∀ k, k < hs.length → valV kvs (kN k) = if k ∈ doorsOf "in" hs then some (.ref (A1 k)) else none) ∧ (∀ k ∈ doorsOf "in" hs, Fx H' tg (A1 k) [] (1, k)) ∧ Fx H' tg la ((List.range bs.length).map fun j => V.ref (A0 j)) (3, 0) ∧ (∀ j b, bs[j]? = some b → Fx H' tg (A0 j) (b.th.map V.int) (0, j)) ∧ Fx H' tg ca cv (3, 0) ∧ All2 (NlAt tg H') cv ((List.range hs.length).map (comingN bs)) ∧ Fx H' tg oa ov (3, 0) ∧ All2 (NlAt tg H') ov ((List.range hs.length).map (goingN bs))
  refine ⟨_, (pss_cons (ps_asg (pv 1) (pg_tupK K rfl rfl (pgs_cons (pg_name (i := 2) sc_Floor___init__.nd rfl (Or.inr rfl)) (pgs_cons (pg_name (i := 3) sc_Floor___init__.nd rfl (Or.inl rfl)) pgs_nil))))
      (pss_cons (ps_set (i := 4) sc_Floor___init__.nd rfl (Or.inl rfl) (pe_listRg rfl (by rfl) T.m_list (prg_1 (by rfl) T.m_range (pe_callB (call_len_seqK K rfl) (by rfl) T.m_len (by decide +kernel) (pa_cons (pv 2) pa_nil)))))
      (PSs.to (pss_cons (ps_fldK K rfl (pv 0) (pe_lc (own := [("rule", 5), ("moments", 6)]) (g := gTup K 2 (gCons (gName 5) (gCons (gName 6) gNil))) (tt := tYes) (by rfl) sc_Floor___init__.nd (pi_tupK K rfl (pv 2)) (blkOk_by (own := [("rule", 5), ("moments", 6)]) (N := N_Floor___init__) (sc := defScope s_Floor___init__) (by decide +kernel)) (fun _ _ _ _ _ => (pg_tupK K rfl rfl (pgs_cons (pg_name (i := 5) sc_Floor___init__.nd rfl (Or.inl rfl)) (pgs_cons (pg_name (i := 6) sc_Floor___init__.nd rfl (Or.inl rfl)) pgs_nil)))) (fun _ _ _ _ _ => pts_nil) (fun _ _ _ _ _ => (pv 5))) rfl)
      (PSs.to (pss_cons (ps_fldK K rfl (pv 0) (pe_dc (own := [("hand", 7)]) (g := gName 7) (by rfl) sc_Floor___init__.nd (pi_listK K rfl (pv 4)) (blkOk_by (own := [("hand", 7)]) (N := N_Floor___init__) (sc := defScope s_Floor___init__) (by decide +kernel)) (fun _ _ _ _ _ => (pg_name (i := 7) sc_Floor___init__.nd rfl (Or.inl rfl))) (fun _ _ _ _ _ => pts_one (pt_cmpR (op_eqDK K rfl hr.units) (pe_ix (ix_tupK K rfl) (pe_ix (ix_tupK K rfl) (pv 2) (pv 7) (fun _ _ => rfl)) pe_int (fun _ _ => rfl)) (pe_glob (v := .ref aI) (by rfl) mI rfl) (nomark _))) (fun _ _ _ _ _ => (pv 7)) (fun _ _ _ _ _ => (pe_lst pa_nil))) rfl)
      (PSs.to (pss_cons (ps_fldK K rfl (pv 0) (pe_lc (own := [("giver", 8), ("taker", 9), ("things", 10)]) (g := gTup K 3 (gCons (gName 8) (gCons (gName 9) (gCons (gName 10) gNil)))) (tt := tYes) (by rfl) sc_Floor___init__.nd (pi_tupK K rfl (pv 3)) (blkOk_by (own := [("giver", 8), ("taker", 9), ("things", 10)]) (N := N_Floor___init__) (sc := defScope s_Floor___init__) (by decide +kernel)) (fun _ _ _ _ _ => (pg_tupK K rfl rfl (pgs_cons (pg_name (i := 8) sc_Floor___init__.nd rfl (Or.inl rfl)) (pgs_cons (pg_name (i := 9) sc_Floor___init__.nd rfl (Or.inl rfl)) (pgs_cons (pg_name (i := 10) sc_Floor___init__.nd rfl (Or.inl rfl)) pgs_nil))))) (fun _ _ _ _ _ => pts_nil) (fun _ _ _ _ _ => (pe_callTy (call_list_ofK K rfl) (by rfl) T.m_list (by decide +kernel) (pa_cons (pv 10) pa_nil)))) rfl)
      (PSs.to (pss_cons (ps_fldK K rfl (pv 0) (pe_lc (own := [("hand", 7)]) (g := gName 7) (tt := tYes) (by rfl) sc_Floor___init__.nd (pi_listK K rfl (pv 4)) (blkOk_by (own := [("hand", 7)]) (N := N_Floor___init__) (sc := defScope s_Floor___init__) (by decide +kernel)) (fun _ _ _ _ _ => (pg_name (i := 7) sc_Floor___init__.nd rfl (Or.inl rfl))) (fun _ _ _ _ _ => pts_nil) (fun _ _ _ _ _ => (pe_call G_comings (hr.mono (by decide)) (by rfl) m_comings F_comings.kp b_comings .nil pass0 (pa_cons (pv 1) (pa_cons (pv 7) pa_nil))))) rfl)
      (PSs.to (pss_cons (ps_fldK K rfl (pv 0) (pe_lc (own := [("hand", 7)]) (g := gName 7) (tt := tYes) (by rfl) sc_Floor___init__.nd (pi_listK K rfl (pv 4)) (blkOk_by (own := [("hand", 7)]) (N := N_Floor___init__) (sc := defScope s_Floor___init__) (by decide +kernel)) (fun _ _ _ _ _ => (pg_name (i := 7) sc_Floor___init__.nd rfl (Or.inl rfl))) (fun _ _ _ _ _ => pts_nil) (fun _ _ _ _ _ => (pe_call G_goings (hr.mono (by decide)) (by rfl) m_goings F_goings.kp b_goings .nil pass0 (pa_cons (pv 1) (pa_cons (pv 7) pa_nil))))) rfl)
      (PSs.to (pss_one (ps_fldK K rfl (pv 0) (pe_lc (own := [("hand", 7)]) (g := gName 7) (tt := tYes) (by rfl) sc_Floor___init__.nd (pi_listK K rfl (pv 4)) (blkOk_by (own := [("hand", 7)]) (N := N_Floor___init__) (sc := defScope s_Floor___init__) (by decide +kernel)) (fun _ _ _ _ _ => (pg_name (i := 7) sc_Floor___init__.nd rfl (Or.inl rfl))) (fun _ _ _ _ _ => pts_nil) (fun _ _ _ _ _ => (pe_lst pa_nil))) rfl)) R6 ?tail6)) R5 ?tail5)) R4 ?tail4)) R3 ?tail3)) R2 ?tail2)) R1 ?tail1))), ?_⟩
  case tail1 =>
    rintro D' σ' H1 ⟨eD, eN, nl, tg, rfl, i⟩
    refine ⟨_, rfl, ha, rfl, ⟨_, SqT.of i.eh⟩, fun D nD => lc_tup (K := K) (a := ha) (xs := hv) (fun j H5 => ∃ rv : List V, H5 D = some (.lst rv) ∧ All2 (RlAt H5) rv (hs.take j) ∧ Same H1 H5) ⟨[], upd_same, .nil, same_new nD⟩ (fun j H5 _ ⟨_, _, _, s5⟩ => SqT.of (s5 _ _ i.eh)) ?_ ?_⟩
    · rintro j x H5 hx ⟨rv, hD, al, s5⟩
      obtain ⟨hh, eb2, ⟨t2, g, rfl, e1, e2⟩⟩ := i.alh.getL hx
      have il := (List.getElem?_eq_some_iff.mp eb2).1
      have lr := al.length
      rw [List.length_take] at lr
      refine ⟨t2, _, rfl, SqT.of (s5 _ _ e1), rfl, _, _, rfl, _, _, rfl, rfl, rfl, yes_in ⟨_, rfl, rv, hD, small1000 (by omega), rv ++ [.ref g], upd_same, ?_, Same.own s5 nD⟩⟩
      rw [List.take_add_one, eb2]
      exact (al.snoc ⟨g, rfl, s5 _ _ e2⟩).imp fun _ _ ⟨t, e, h⟩ => ⟨t, e, TK.lst hD _ _ h⟩
    rintro H5 ⟨rv, hD, al, s5⟩
    rw [lhv, List.take_length] at al
    have tD : tg D = none := i.own.free nD
    have gr : ∀ p o, H1 p = some o → putT tg D (3, 0) p = tg p := fun p o e => if_neg (ne_of_none e nD)
    refine ⟨_, rfl, F, C, dx, _, rfl, s5 _ _ i.hF, T.cl, T.n_rules, (by show 0 < 1000; decide), ?_⟩
    have st : Stp F H5 (upd H5 F (.ins C dx [("rules", .ref D)])) (putT tg D (3, 0)) (putT tg D (3, 0)) := stp_of (Same.refl _) fun _ _ _ => rfl
    exact ⟨eD, eN, nl, D, rv, putT tg D (3, 0), _, _, rfl, i.go s5 ((i.own.same s5).mark hD) gr, Fx.go ⟨hD, putT_at⟩ (s5 _ _ i.hF) st, al.imp fun _ _ ⟨t, e, h⟩ => ⟨t, e, st.tk (s5 _ _ i.hF) _ _ h⟩⟩
  case tail2 =>
    rintro D' σ' H1 ⟨eD, eN, nl, ra, rv, tg, v5, v6, rfl, i, hra, alr⟩
    refine ⟨_, rfl, nl, rfl, ⟨_, SqL.of i.hn⟩, fun D nD => dcl (K := K) (a := nl) (xs := (List.range hs.length).map nV) (fun j H5 => ∃ (kvs : List (Key × V)) (A1 : Nat → Addr) (tg5 : Addr → Option Sl), H5 D = some (.dK kvs) ∧ (∀ k, valV kvs (kN k) = if k < j ∧ k ∈ doorsOf "in" hs then some (.ref (A1 k)) else none) ∧ kvs.length ≤ j ∧ (∀ k ∈ doorsOf "in" hs, k < j → Fx H5 tg5 (A1 k) [] (1, k)) ∧ Tg H5 tg5 ∧ (∀ p o, H1 p = some o → tg5 p = tg p) ∧ Same H1 H5) ⟨[], fun _ => 0, tg, upd_same, (fun k => (if_neg fun z => absurd z.1 (Nat.not_lt_zero _)).symm), Nat.le_refl _, (fun k _ z => absurd z (Nat.not_lt_zero _)), i.own.upd (i.own.free nD), (fun _ _ _ => rfl), same_new nD⟩ (fun j H5 ⟨_, _, _, _, _, _, _, _, _, s5⟩ => SqL.of (s5 _ _ i.hn)) ?_ ?_⟩
    · rintro j x H5 hx ⟨kvs, A1, tg5, hD, gv, lk, fx, own, gr, s5⟩
      rw [List.getElem?_map] at hx
      have jl : j < hs.length := by
        refine Classical.byContradiction fun z => ?_
        rw [List.getElem?_eq_none (by rw [List.length_range]; omega)] at hx
        cases hx
      rw [List.getElem?_range jl] at hx
      obtain rfl : nV j = x := Option.some.inj hx
      have eh1 : hs[j]? = some hs[j] := List.getElem?_eq_getElem jl
      obtain ⟨x, ex, ⟨t2, g, rfl, e1, e2⟩⟩ := i.alh.get eh1
      have gh := ok.good _ (List.mem_of_getElem? eh1)
      unfold DSt
      refine ⟨rfl, _, rfl, _, rfl, ha, _, _, _, rfl, rfl, SqT.of (s5 _ _ i.eh), atI_nat ex, t2, _, _, _, rfl, rfl, SqT.of (s5 _ _ e1), atI_nat (j := 0) rfl, ?_⟩
      refine ⟨_, _, rule_dp (s5 _ _ e2), .tup (hI _) (.cons (.str _) .nil), rule_shaped gh.lay, one_shaped (by decide +kernel), _, rfl, ?_⟩
      rw [rule_eqv, gh.door "in" (.inl rfl)]
      by_cases c : hs[j].wd = "in"
      · have jd : j ∈ doorsOf "in" hs := mem_doors.mpr ⟨_, eh1, c⟩
        rw [decide_eq_true c]
        refine if_bl (fun _ => ⟨_, rfl, (by show 0 ≤ sizeLine; decide), fun p np => ?_⟩) (fun z => nomatch z)
        have u := same_new (o := .lst []) np
        have pD : p ≠ D := fun z => by rw [z, hD] at np; cases np
        have tp : tg5 p = none := own.free np
        have gp := Gr.put (s := (1, j)) tp
        have dk : ∀ {q : Addr} {xs : List V}, (upd H5 p (.lst [])) q = some (.lst xs) → (upd (upd H5 p (.lst [])) D (.dK (putK kvs (kN j) (.ref p)))) q = some (.lst xs) := fun {q xs} e => by
          rw [upd_ne fun z => ?_]
          · exact e
          · rw [z, u _ _ hD] at e
            cases e
        refine ⟨kvs, kN j, rfl, u _ _ hD, small1000 (by omega), putK kvs (kN j) (.ref p), fun k => if k = j then p else A1 k, putT tg5 p (1, j), upd_same, fun k => ?_, Nat.le_trans (putK_le ..) (by omega), fun k kd kl => ?_, ?_, fun q o e => ?_, Same.own (s5.trans u) nD⟩
        · rw [valV_put]
          by_cases z : k = j
          · subst z
            rw [if_pos rfl, if_pos ⟨Nat.lt_succ_self _, jd⟩]
            show _ = some (V.ref (if k = k then p else A1 k))
            rw [if_pos rfl]
          · rw [if_neg fun y => z (kN_inj y), gv k]
            show _ = if k < j + 1 ∧ k ∈ doorsOf "in" hs then some (V.ref (if k = j then p else A1 k)) else none
            rw [if_neg z]
            by_cases y : k < j ∧ k ∈ doorsOf "in" hs
            · rw [if_pos y, if_pos ⟨by omega, y.2⟩]
            · rw [if_neg y, if_neg fun w => y ⟨by omega, w.2⟩]
        · by_cases z : k = j
          · subst z
            show Fx _ _ (if k = k then p else A1 k) _ _
            rw [if_pos rfl]
            exact ⟨dk upd_same, putT_at⟩
          · show Fx _ _ (if k = j then p else A1 k) _ _
            rw [if_neg z]
            obtain ⟨f1, f2⟩ := fx k kd (by omega)
            exact ⟨dk (u _ _ f1), gp _ _ f2⟩
        · refine (own.new np).upd ?_
          show (if D = p then _ else tg5 D) = none
          rw [if_neg pD.symm]
          exact own.tup hD fun _ z => nomatch z
        · show (if q = p then _ else tg5 q) = _
          rw [if_neg (ne_of_none (s5 _ _ e) np)]
          exact gr q o e
      · have jd : j ∉ doorsOf "in" hs := fun z => by
          obtain ⟨h, e, w⟩ := mem_doors.mp z
          rw [eh1] at e
          cases e
          exact c w
        rw [decide_eq_false c]
        refine if_bl (fun z => nomatch z) (fun _ => ?_)
        refine ⟨kvs, A1, tg5, hD, fun k => ?_, by omega, fun k kd kl => fx k kd ?_, own, gr, s5⟩
        · rw [gv k]
          by_cases y : k < j ∧ k ∈ doorsOf "in" hs
          · rw [if_pos y, if_pos ⟨by omega, y.2⟩]
          · rw [if_neg y, if_neg fun w => y ⟨?_, w.2⟩]
            have : k ≠ j := fun z => jd (z ▸ w.2)
            omega
        · have : k ≠ j := fun z => jd (z ▸ kd)
          omega
    · rintro H5 ⟨kvs, A1, tg5, hD, gv, lk, fx, own, gr, s5⟩
      rw [List.length_map, List.length_range] at gv fx
      refine ⟨_, rfl, F, C, dx, _, rfl, s5 _ _ i.hF, T.cl, T.n_given, (by show 1 < 1000; decide), ?_⟩
      have st : Stp F H1 (upd H5 F (.ins C dx [("rules", .ref ra), ("given", .ref D)])) tg tg5 := stp_of s5 gr
      have s2 : Stp F H5 (upd H5 F (.ins C dx [("rules", .ref ra), ("given", .ref D)])) tg5 tg5 := stp_of (Same.refl _) fun _ _ _ => rfl
      have hF5 := s5 _ _ i.hF
      refine ⟨eD, eN, nl, ra, D, rv, kvs, A1, tg5, _, _, _, rfl, i.go s5 own gr, Fx.go hra i.hF st, alr.imp fun _ _ ⟨t, e, h⟩ => ⟨t, e, st.tk i.hF _ _ h⟩, s2.h _ _ hD (ne_of hD hF5 fun z => nomatch z), fun k hk => ?_, fun k kd => Fx.go (fx k kd (by obtain ⟨h, e, _⟩ := mem_doors.mp kd; exact (List.getElem?_eq_some_iff.mp e).1)) hF5 s2⟩
      rw [gv k]
      by_cases y : k ∈ doorsOf "in" hs
      · rw [if_pos ⟨hk, y⟩, if_pos y]
      · rw [if_neg y, if_neg fun w => y w.2]
  case tail3 =>
    rintro D' σ' H1 ⟨eD, eN, nl, ra, ga, rv, kvs, A1, tg, v5, v6, v7, rfl, i, hra, alr, hga, gv, fx1⟩
    refine ⟨_, rfl, ba, rfl, ⟨_, SqT.of i.eb⟩, fun D nD => lc_tup (K := K) (a := ba) (xs := bv) (fun j H5 => ∃ (A0 : Nat → Addr) (tg5 : Addr → Option Sl), H5 D = some (.lst ((List.range j).map fun k => V.ref (A0 k))) ∧ (∀ k b, k < j → bs[k]? = some b → Fx H5 tg5 (A0 k) (b.th.map V.int) (0, k)) ∧ Tg H5 tg5 ∧ (∀ p o, H1 p = some o → tg5 p = tg p) ∧ tg5 D = none ∧ Same H1 H5) ⟨fun _ => 0, tg, upd_same, (fun k _ z => absurd z (Nat.not_lt_zero _)), i.own.upd (i.own.free nD), (fun _ _ _ => rfl), i.own.free nD, same_new nD⟩ (fun j H5 _ ⟨_, _, _, _, _, _, _, s5⟩ => SqT.of (s5 _ _ i.eb)) ?_ ?_⟩
    · rintro j x H5 hx ⟨A0, tg5, hD, fx, own, gr, tD, s5⟩
      obtain ⟨b, eb2, ⟨t, g, rfl, e1, e2⟩⟩ := i.alb.getL hx
      have jl := (List.getElem?_eq_some_iff.mp eb2).1
      refine ⟨t, _, rfl, SqT.of (s5 _ _ e1), rfl, _, _, rfl, _, _, rfl, _, _, rfl, rfl, rfl, yes_in ⟨_, rfl, g, _, rfl, .inr (SqT.of (s5 _ _ e2)), fun p np => ?_⟩⟩
      have u := same_new (o := .lst (b.th.map V.int)) np
      have pD : p ≠ D := fun z => by rw [z, hD] at np; cases np
      have gp := Gr.put (s := (0, j)) (own.free np)
      have dk : ∀ {q : Addr} {xs ys : List V}, q ≠ D → (upd H5 p (.lst (b.th.map V.int))) q = some (.lst xs) → (upd (upd H5 p (.lst (b.th.map V.int))) D (.lst ys)) q = some (.lst xs) := fun n e => by rw [upd_ne n]; exact e
      refine ⟨_, u _ _ hD, by rw [List.length_map, List.length_range]; exact small1000 (by omega), fun k => if k = j then p else A0 k, putT tg5 p (0, j), ?_, fun k b' kl e => ?_, (own.new np).upd ?_, fun q o e => ?_, ?_, Same.own (s5.trans u) nD⟩
      · rw [upd_same, List.range_succ, List.map_append]
        refine congrArg (fun z => some (HO.lst z)) ?_
        refine congr (congrArg _ (List.map_congr_left fun k hk => ?_)) ?_
        · show V.ref (A0 k) = V.ref (if k = j then p else A0 k)
          rw [if_neg (Nat.ne_of_lt (List.mem_range.mp hk))]
        · show [V.ref p] = [V.ref (if j = j then p else A0 j)]
          rw [if_pos rfl]
      · by_cases z : k = j
        · subst z
          rw [eb2] at e
          cases e
          show Fx _ _ (if k = k then p else A0 k) _ _
          rw [if_pos rfl]
          exact ⟨dk pD upd_same, putT_at⟩
        · show Fx _ _ (if k = j then p else A0 k) _ _
          rw [if_neg z]
          obtain ⟨f1, f2⟩ := fx k b' (by omega) e
          exact ⟨dk (fun y => by rw [y, tD] at f2; cases f2) (u _ _ f1), gp _ _ f2⟩
      · show (if D = p then _ else tg5 D) = none
        rw [if_neg pD.symm]
        exact tD
      · show (if q = p then _ else tg5 q) = _
        rw [if_neg (ne_of_none (s5 _ _ e) np)]
        exact gr q o e
      · show (if D = p then _ else tg5 D) = none
        rw [if_neg pD.symm]
        exact tD
    · rintro H5 ⟨A0, tg5, hD, fx, own, gr, tD, s5⟩
      rw [lbv] at hD fx
      have hF5 := s5 _ _ i.hF
      refine ⟨_, rfl, F, C, dx, _, rfl, hF5, T.cl, T.n_lying, (by show 2 < 1000; decide), ?_⟩
      have gr' : ∀ p o, H1 p = some o → putT tg5 D (3, 0) p = tg p := fun p o e => (if_neg (ne_of_none e nD)).trans (gr p o e)
      have st : Stp F H1 (upd H5 F (.ins C dx [("rules", .ref ra), ("given", .ref ga), ("lying", .ref D)])) tg (putT tg5 D (3, 0)) := stp_of s5 gr'
      have s2 : Stp F H5 (upd H5 F (.ins C dx [("rules", .ref ra), ("given", .ref ga), ("lying", .ref D)])) (putT tg5 D (3, 0)) (putT tg5 D (3, 0)) := stp_of (Same.refl _) fun _ _ _ => rfl
      exact ⟨eD, eN, nl, ra, ga, D, rv, kvs, A1, A0, putT tg5 D (3, 0), _, _, _, _, _, _, rfl, i.go s5 (own.mark hD) gr', Fx.go hra i.hF st, alr.imp fun _ _ ⟨t, e, h⟩ => ⟨t, e, st.tk i.hF _ _ h⟩, st.h _ _ hga (ne_of hga i.hF fun z => nomatch z), gv, fun k kd => Fx.go (fx1 k kd) i.hF st, Fx.go ⟨hD, putT_at⟩ hF5 s2, fun j b e => by
        obtain ⟨f1, f2⟩ := fx j b (List.getElem?_eq_some_iff.mp e).1 e
        exact Fx.go ⟨f1, Gr.put tD _ _ f2⟩ hF5 s2⟩
  case tail4 =>
    rintro D' σ' H1 ⟨eD, eN, nl, ra, ga, la, rv, kvs, A1, A0, tg, v5, v6, v7, v8, v9, v10, rfl, i, hra, alr, hga, gv, fx1, hla, fx0⟩
    refine ⟨_, rfl, nl, rfl, ⟨_, SqL.of i.hn⟩, fun D nD => lc_list (K := K) (a := nl) (xs := (List.range hs.length).map nV) (fun j H5 => ∃ (nv : List V) (tg5 : Addr → Option Sl), H5 D = some (.lst nv) ∧ All2 (NlAt tg5 H5) nv ((List.range j).map (comingN bs)) ∧ Tg H5 tg5 ∧ (∀ p o, H1 p = some o → tg5 p = tg p) ∧ tg5 D = none ∧ Same H1 H5) ⟨[], tg, upd_same, .nil, i.own.upd (i.own.free nD), (fun _ _ _ => rfl), i.own.free nD, same_new nD⟩ (fun j H5 _ ⟨_, _, _, _, _, _, _, s5⟩ => SqL.of (s5 _ _ i.hn)) ?_ ?_⟩
    · rintro j x H5 hx ⟨nv, tg5, hD, al, own, gr, tD, s5⟩
      rw [List.getElem?_map] at hx
      have jl : j < hs.length := by
        refine Classical.byContradiction fun z => ?_
        rw [List.getElem?_eq_none (by rw [List.length_range]; omega)] at hx
        cases hx
      rw [List.getElem?_range jl] at hx
      obtain rfl : nV j = x := Option.some.inj hx
      have lnv := al.length
      rw [List.length_map, List.length_range] at lnv
      refine ⟨rfl, yes_in ⟨_, rfl, _, rfl, r, hs, bs, j, rfl, i.room.keep (TK.same s5), by omega, fun p H6 np hp s6 => ?_⟩⟩
      have pD : p ≠ D := fun z => by rw [z, hD] at np; cases np
      have tp := own.free np
      have gp := Gr.put (s := (3, 0)) tp
      refine ⟨nv, s6 _ _ hD, small1000 (by omega), nv ++ [.ref p], putT tg5 p (3, 0), upd_same, ?_, ((own.same s6).mark hp).upd ?_, fun q o e => ?_, ?_, Same.own (s5.trans s6) nD⟩
      · rw [List.range_succ, List.map_append]
        have old : All2 (NlAt (putT tg5 p (3, 0)) (upd H6 D (.lst (nv ++ [.ref p])))) nv ((List.range j).map (comingN bs)) := al.imp fun v ns ⟨t, e, h1, h2⟩ => ⟨t, e, by rw [upd_ne fun y => by rw [y, tD] at h2; cases h2]; exact s6 _ _ h1, gp _ _ h2⟩
        exact old.snoc ⟨p, rfl, by rw [upd_ne pD]; exact hp, putT_at⟩
      · show (if D = p then _ else tg5 D) = none
        rw [if_neg pD.symm]
        exact tD
      · show (if q = p then _ else tg5 q) = _
        rw [if_neg (ne_of_none (s5 _ _ e) np)]
        exact gr q o e
      · show (if D = p then _ else tg5 D) = none
        rw [if_neg pD.symm]
        exact tD
    · rintro H5 ⟨nv, tg5, hD, al, own, gr, tD, s5⟩
      rw [List.length_map, List.length_range] at al
      have hF5 := s5 _ _ i.hF
      refine ⟨_, rfl, F, C, dx, _, rfl, hF5, T.cl, T.n_coming, (by show 3 < 1000; decide), ?_⟩
      have gr' : ∀ p o, H1 p = some o → putT tg5 D (3, 0) p = tg p := fun p o e => (if_neg (ne_of_none e nD)).trans (gr p o e)
      have st : Stp F H1 (upd H5 F (.ins C dx [("rules", .ref ra), ("given", .ref ga), ("lying", .ref la), ("coming", .ref D)])) tg (putT tg5 D (3, 0)) := stp_of s5 gr'
      have s2 : Stp F H5 (upd H5 F (.ins C dx [("rules", .ref ra), ("given", .ref ga), ("lying", .ref la), ("coming", .ref D)])) (putT tg5 D (3, 0)) (putT tg5 D (3, 0)) := stp_of (Same.refl _) fun _ _ _ => rfl
      exact ⟨eD, eN, nl, ra, ga, la, D, rv, nv, kvs, A1, A0, putT tg5 D (3, 0), _, _, _, _, _, _, rfl, i.go s5 (own.mark hD) gr', Fx.go hra i.hF st, alr.imp fun _ _ ⟨t, e, h⟩ => ⟨t, e, st.tk i.hF _ _ h⟩, st.h _ _ hga (ne_of hga i.hF fun z => nomatch z), gv, fun k kd => Fx.go (fx1 k kd) i.hF st, Fx.go hla i.hF st, fun j b e => Fx.go (fx0 j b e) i.hF st, Fx.go ⟨hD, putT_at⟩ hF5 s2, al.imp fun _ _ ⟨t, e, h1, h2⟩ => s2.nl hF5 ⟨t, e, h1, Gr.put tD _ _ h2⟩⟩
  case tail5 =>
    rintro D' σ' H1 ⟨eD, eN, nl, ra, ga, la, ca, rv, cv, kvs, A1, A0, tg, v5, v6, v7, v8, v9, v10, rfl, i, hra, alr, hga, gv, fx1, hla, fx0, hca, alc⟩
    refine ⟨_, rfl, nl, rfl, ⟨_, SqL.of i.hn⟩, fun D nD => lc_list (K := K) (a := nl) (xs := (List.range hs.length).map nV) (fun j H5 => ∃ (nv : List V) (tg5 : Addr → Option Sl), H5 D = some (.lst nv) ∧ All2 (NlAt tg5 H5) nv ((List.range j).map (goingN bs)) ∧ Tg H5 tg5 ∧ (∀ p o, H1 p = some o → tg5 p = tg p) ∧ tg5 D = none ∧ Same H1 H5) ⟨[], tg, upd_same, .nil, i.own.upd (i.own.free nD), (fun _ _ _ => rfl), i.own.free nD, same_new nD⟩ (fun j H5 _ ⟨_, _, _, _, _, _, _, s5⟩ => SqL.of (s5 _ _ i.hn)) ?_ ?_⟩
    · rintro j x H5 hx ⟨nv, tg5, hD, al, own, gr, tD, s5⟩
      rw [List.getElem?_map] at hx
      have jl : j < hs.length := by
        refine Classical.byContradiction fun z => ?_
        rw [List.getElem?_eq_none (by rw [List.length_range]; omega)] at hx
        cases hx
      rw [List.getElem?_range jl] at hx
      obtain rfl : nV j = x := Option.some.inj hx
      have lnv := al.length
      rw [List.length_map, List.length_range] at lnv
      refine ⟨rfl, yes_in ⟨_, rfl, _, rfl, r, hs, bs, j, rfl, i.room.keep (TK.same s5), by omega, fun p H6 np hp s6 => ?_⟩⟩
      have pD : p ≠ D := fun z => by rw [z, hD] at np; cases np
      have tp := own.free np
      have gp := Gr.put (s := (3, 0)) tp
      refine ⟨nv, s6 _ _ hD, small1000 (by omega), nv ++ [.ref p], putT tg5 p (3, 0), upd_same, ?_, ((own.same s6).mark hp).upd ?_, fun q o e => ?_, ?_, Same.own (s5.trans s6) nD⟩
      · rw [List.range_succ, List.map_append]
        have old : All2 (NlAt (putT tg5 p (3, 0)) (upd H6 D (.lst (nv ++ [.ref p])))) nv ((List.range j).map (goingN bs)) := al.imp fun v ns ⟨t, e, h1, h2⟩ => ⟨t, e, by rw [upd_ne fun y => by rw [y, tD] at h2; cases h2]; exact s6 _ _ h1, gp _ _ h2⟩
        exact old.snoc ⟨p, rfl, by rw [upd_ne pD]; exact hp, putT_at⟩
      · show (if D = p then _ else tg5 D) = none
        rw [if_neg pD.symm]
        exact tD
      · show (if q = p then _ else tg5 q) = _
        rw [if_neg (ne_of_none (s5 _ _ e) np)]
        exact gr q o e
      · show (if D = p then _ else tg5 D) = none
        rw [if_neg pD.symm]
        exact tD
    · rintro H5 ⟨nv, tg5, hD, al, own, gr, tD, s5⟩
      rw [List.length_map, List.length_range] at al
      have hF5 := s5 _ _ i.hF
      refine ⟨_, rfl, F, C, dx, _, rfl, hF5, T.cl, T.n_going, (by show 4 < 1000; decide), ?_⟩
      have gr' : ∀ p o, H1 p = some o → putT tg5 D (3, 0) p = tg p := fun p o e => (if_neg (ne_of_none e nD)).trans (gr p o e)
      have st : Stp F H1 (upd H5 F (.ins C dx [("rules", .ref ra), ("given", .ref ga), ("lying", .ref la), ("coming", .ref ca), ("going", .ref D)])) tg (putT tg5 D (3, 0)) := stp_of s5 gr'
      have s2 : Stp F H5 (upd H5 F (.ins C dx [("rules", .ref ra), ("given", .ref ga), ("lying", .ref la), ("coming", .ref ca), ("going", .ref D)])) (putT tg5 D (3, 0)) (putT tg5 D (3, 0)) := stp_of (Same.refl _) fun _ _ _ => rfl
      exact ⟨eD, eN, nl, ra, ga, la, ca, D, rv, cv, nv, kvs, A1, A0, putT tg5 D (3, 0), _, _, _, _, _, _, rfl, i.go s5 (own.mark hD) gr', Fx.go hra i.hF st, alr.imp fun _ _ ⟨t, e, h⟩ => ⟨t, e, st.tk i.hF _ _ h⟩, st.h _ _ hga (ne_of hga i.hF fun z => nomatch z), gv, fun k kd => Fx.go (fx1 k kd) i.hF st, Fx.go hla i.hF st, fun j b e => Fx.go (fx0 j b e) i.hF st, Fx.go hca i.hF st, alc.imp fun _ _ z => st.nl i.hF z, Fx.go ⟨hD, putT_at⟩ hF5 s2, al.imp fun _ _ ⟨t, e, h1, h2⟩ => s2.nl hF5 ⟨t, e, h1, Gr.put tD _ _ h2⟩⟩
  case tail6 =>
    rintro D' σ' H1 ⟨eD, eN, nl, ra, ga, la, ca, oa, rv, cv, ov, kvs, A1, A0, tg, v5, v6, v7, v8, v9, v10, rfl, i, hra, alr, hga, gv, fx1, hla, fx0, hca, alc, hoa, alo⟩
    refine ⟨_, rfl, nl, rfl, ⟨_, SqL.of i.hn⟩, fun D nD => lc_list (K := K) (a := nl) (xs := (List.range hs.length).map nV) (fun j H5 => ∃ (A2 : Nat → Addr) (tg5 : Addr → Option Sl), H5 D = some (.lst ((List.range j).map fun k => V.ref (A2 k))) ∧ (∀ k, k < j → Fx H5 tg5 (A2 k) [] (2, k)) ∧ Tg H5 tg5 ∧ (∀ p o, H1 p = some o → tg5 p = tg p) ∧ tg5 D = none ∧ Same H1 H5) ⟨fun _ => 0, tg, upd_same, (fun k z => absurd z (Nat.not_lt_zero _)), i.own.upd (i.own.free nD), (fun _ _ _ => rfl), i.own.free nD, same_new nD⟩ (fun j H5 _ ⟨_, _, _, _, _, _, _, s5⟩ => SqL.of (s5 _ _ i.hn)) ?_ ?_⟩
    · rintro j x H5 hx ⟨A2, tg5, hD, fx, own, gr, tD, s5⟩
      have jl := (List.getElem?_eq_some_iff.mp hx).1
      rw [List.length_map, List.length_range] at jl
      refine ⟨rfl, yes_in ⟨(by show 0 ≤ sizeLine; decide), fun p np => ?_⟩⟩
      have u := same_new (o := .lst []) np
      have pD : p ≠ D := fun z => by rw [z, hD] at np; cases np
      have gp := Gr.put (s := (2, j)) (own.free np)
      have dk : ∀ {q : Addr} {xs ys : List V}, q ≠ D → (upd H5 p (.lst [])) q = some (.lst xs) → (upd (upd H5 p (.lst [])) D (.lst ys)) q = some (.lst xs) := fun n e => by rw [upd_ne n]; exact e
      refine ⟨_, u _ _ hD, by rw [List.length_map, List.length_range]; exact small1000 (by omega), fun k => if k = j then p else A2 k, putT tg5 p (2, j), ?_, fun k kl => ?_, (own.new np).upd ?_, fun q o e => ?_, ?_, Same.own (s5.trans u) nD⟩
      · rw [upd_same, List.range_succ, List.map_append]
        refine congrArg (fun z => some (HO.lst z)) ?_
        refine congr (congrArg _ (List.map_congr_left fun k hk => ?_)) ?_
        · show V.ref (A2 k) = V.ref (if k = j then p else A2 k)
          rw [if_neg (Nat.ne_of_lt (List.mem_range.mp hk))]
        · show [V.ref p] = [V.ref (if j = j then p else A2 j)]
          rw [if_pos rfl]
      · by_cases z : k = j
        · subst z
          show Fx _ _ (if k = k then p else A2 k) _ _
          rw [if_pos rfl]
          exact ⟨dk pD upd_same, putT_at⟩
        · show Fx _ _ (if k = j then p else A2 k) _ _
          rw [if_neg z]
          obtain ⟨f1, f2⟩ := fx k (by omega)
          exact ⟨dk (fun y => by rw [y, tD] at f2; cases f2) (u _ _ f1), gp _ _ f2⟩
      · show (if D = p then _ else tg5 D) = none
        rw [if_neg pD.symm]
        exact tD
      · show (if q = p then _ else tg5 q) = _
        rw [if_neg (ne_of_none (s5 _ _ e) np)]
        exact gr q o e
      · show (if D = p then _ else tg5 D) = none
        rw [if_neg pD.symm]
        exact tD
    · rintro H5 ⟨A2, tg5, hD, fx, own, gr, tD, s5⟩
      rw [List.length_map, List.length_range] at hD fx
      have hF5 := s5 _ _ i.hF
      refine ⟨_, rfl, F, C, dx, _, rfl, hF5, T.cl, T.n_done, (by show 5 < 1000; decide), ?_⟩
      have gr' : ∀ p o, H1 p = some o → putT tg5 D (3, 0) p = tg p := fun p o e => (if_neg (ne_of_none e nD)).trans (gr p o e)
      have st : Stp F H1 (upd H5 F (.ins C dx [("rules", .ref ra), ("given", .ref ga), ("lying", .ref la), ("coming", .ref ca), ("going", .ref oa), ("done", .ref D)])) tg (putT tg5 D (3, 0)) := stp_of s5 gr'
      have s2 : Stp F H5 (upd H5 F (.ins C dx [("rules", .ref ra), ("given", .ref ga), ("lying", .ref la), ("coming", .ref ca), ("going", .ref oa), ("done", .ref D)])) (putT tg5 D (3, 0)) (putT tg5 D (3, 0)) := stp_of (Same.refl _) fun _ _ _ => rfl
      have I := i.go (fs' := [("rules", .ref ra), ("given", .ref ga), ("lying", .ref la), ("coming", .ref ca), ("going", .ref oa), ("done", .ref D)]) s5 (own.mark hD) gr'
      have hra' := Fx.go hra i.hF st
      have hla' := Fx.go hla i.hF st
      have hca' := Fx.go hca i.hF st
      have hoa' := Fx.go hoa i.hF st
      have hD' := Fx.go (tg := putT tg5 D (3, 0)) ⟨hD, putT_at⟩ hF5 s2
      show D'.nx _ _
      rw [eN]
      refine q (putT tg5 D (3, 0)) _ ⟨dx, ra, ga, la, ca, oa, D, kvs, fun s => if s.1 = 0 then A0 s.2 else if s.1 = 1 then A1 s.2 else A2 s.2, rv, cv, ov, I.hF, hra'.1, alr.imp fun _ _ ⟨t, e, h⟩ => ⟨t, e, st.tk i.hF _ _ h⟩, st.h _ _ hga (ne_of hga i.hF fun z => nomatch z), gv, hla'.1, hca'.1, alc.imp fun _ _ z => st.nl i.hF z, hoa'.1, alo.imp fun _ _ z => st.nl i.hF z, hD'.1, ?_, hra'.2, hla'.2, hca'.2, hoa'.2, hD'.2, I.own⟩ I.old I.bt
      rintro ⟨a, j⟩ (⟨rfl, jl⟩ | ⟨rfl, jd⟩ | ⟨rfl, jl⟩)
      · have eb1 : bs[j]? = some bs[j] := List.getElem?_eq_getElem jl
        obtain ⟨f1, f2⟩ := Fx.go (fx0 j _ eb1) i.hF st
        refine ⟨?_, f2⟩
        have e : cn0 bs (0, j) = bs[j].th := by
          show (match bs[j]? with | some b => b.th | none => []) = _
          rw [eb1]
        rw [e]
        exact f1
      · obtain ⟨f1, f2⟩ := Fx.go (fx1 j jd) i.hF st
        exact ⟨f1, f2⟩
      · obtain ⟨f1, f2⟩ := fx j jl
        exact Fx.go ⟨f1, Gr.put tD _ _ f2⟩ hF5 s2
  refine ⟨_, rfl, r, _, rfl, SqT.of er, rfl, _, _, rfl, _, _, rfl, rfl, ?_⟩
  refine ⟨_, rfl, ha, _, rfl, .inr (SqT.of eh), _, rfl, ⟨by omega, by omega, by omega, by omega, by omega⟩, fun nl nnl => ?_⟩
  have u := same_new (o := .lst (rgV 0 ((hv.length : Nat) : Int))) nnl
  have e0 : rgV 0 ((hv.length : Nat) : Int) = (List.range hs.length).map nV := by
    unfold rgV
    rw [Int.sub_zero, Int.toNat_natCast, lhv]
    refine List.map_congr_left fun j _ => ?_
    rw [Int.zero_add]
  refine ⟨rfl, rfl, nl, fun _ => none, rfl, ⟨u _ _ hF, hR.keep (TK.same u), u _ _ eh, u _ _ eb, alh.imp fun _ _ z => z.keep (TK.same u), alb.imp fun _ _ z => z.keep (TK.same u), by rw [upd_same, e0], (fun _ _ z => nomatch z), (fun _ _ _ => rfl), rfl, rfl, But.of u⟩⟩
end
/-! ### the law's own lists -/
def VM (hs : List HR) (bs : List BR) (s : Sl) : Prop := (s.1 = 0 ∧ s.2 < bs.length) ∨ (s.1 = 1 ∧ s.2 < hs.length) ∨ (s.1 = 2 ∧ s.2 < hs.length)
theorem VS.vm {hs : List HR} {bs : List BR} {s : Sl} (v : VS hs bs s) : VM hs bs s := by
  rcases v with h | ⟨h1, h2⟩ | h
  · exact .inl h
  · obtain ⟨_, e, _⟩ := mem_doors.mp h2
    exact .inr (.inl ⟨h1, (List.getElem?_eq_some_iff.mp e).1⟩)
  · exact .inr (.inr h)
structure Mdl (H : Hp) (mp : Addr) (hs : List HR) (bs : List BR) (cn : Sl → List Int) (tm : Addr → Option Sl) (l0 l1 l2 : Addr) (A : Sl → Addr) : Prop where
  hm : H mp = some (.lst [.ref l0, .ref l1, .ref l2])
  h0 : H l0 = some (.lst ((List.range bs.length).map fun j => V.ref (A (0, j))))
  h1 : H l1 = some (.lst ((List.range hs.length).map fun k => V.ref (A (1, k))))
  h2 : H l2 = some (.lst ((List.range hs.length).map fun k => V.ref (A (2, k))))
  sl : ∀ s, VM hs bs s → H (A s) = some (.lst ((cn s).map V.int)) ∧ tm (A s) = some s
  tm_ : tm mp = some (3, 1)
  t0 : tm l0 = some (3, 1)
  t1 : tm l1 = some (3, 1)
  t2 : tm l2 = some (3, 1)
  own : Tg H tm
section
variable {H H' : Hp} {mp l0 l1 l2 : Addr} {hs : List HR} {bs : List BR} {cn : Sl → List Int} {tm : Addr → Option Sl} {A : Sl → Addr}
theorem Mdl.kp (m : Mdl H mp hs bs cn tm l0 l1 l2 A) (k : Kp tm H H') : Mdl H' mp hs bs cn tm l0 l1 l2 A := by
  have kl : ∀ {p : Addr} {o : HO} {s : Sl}, H p = some o → tm p = some s → H' p = some o := fun e t => k _ _ e (.inl (by rw [t]; exact fun z => nomatch z))
  exact ⟨kl m.hm m.tm_, kl m.h0 m.t0, kl m.h1 m.t1, kl m.h2 m.t2, fun s v => ⟨kl (m.sl s v).1 (m.sl s v).2, (m.sl s v).2⟩, m.tm_, m.t0, m.t1, m.t2, m.own.kp k⟩
theorem VM.no3 {s : Sl} (v : VM hs bs s) : s ≠ (3, 1) := fun z => by
  rw [z] at v
  rcases v with ⟨h, _⟩ | ⟨h, _⟩ | ⟨h, _⟩ <;> exact absurd h (by show ¬ (3 : Nat) = _; decide)
theorem Mdl.ne3 (m : Mdl H mp hs bs cn tm l0 l1 l2 A) {s : Sl} (v : VM hs bs s) {p : Addr} (t : tm p = some (3, 1)) : p ≠ A s := fun z => by
  rw [z, (m.sl s v).2] at t
  exact v.no3 (Option.some.inj t)
theorem Mdl.put (m : Mdl H mp hs bs cn tm l0 l1 l2 A) {s : Sl} (v : VM hs bs s) (xs : List Int) : Mdl (upd H (A s) (.lst (xs.map V.int))) mp hs bs (putS cn s xs) tm l0 l1 l2 A ∧ Bt tm H (upd H (A s) (.lst (xs.map V.int))) := by
  have st := m.sl s v
  refine ⟨⟨by rw [upd_ne (m.ne3 v m.tm_)]; exact m.hm, by rw [upd_ne (m.ne3 v m.t0)]; exact m.h0, by rw [upd_ne (m.ne3 v m.t1)]; exact m.h1, by rw [upd_ne (m.ne3 v m.t2)]; exact m.h2, fun u w => ?_, m.tm_, m.t0, m.t1, m.t2, fun p u e => ?_⟩, fun p o e n => ?_⟩
  · by_cases z : u = s
    · rw [z, upd_same]
      exact ⟨by rw [show putS cn s xs s = xs from if_pos rfl], st.2⟩
    · have uw := m.sl u w
      have ne : A u ≠ A s := fun y => by
        have := uw.2
        rw [y, st.2] at this
        exact z (Option.some.inj this).symm
      rw [upd_ne ne, show putS cn s xs u = cn u from if_neg z]
      exact uw
  · by_cases z : p = A s
    · rw [z, upd_same]; exact ⟨_, rfl⟩
    · rw [upd_ne z]; exact m.own p u e
  · rw [upd_ne fun z => by rw [z, st.2] at n; cases n]; exact e
end
/-- what is marked here is not marked there -/
def Ds (tg tm : Addr → Option Sl) : Prop := ∀ p, tm p ≠ none → tg p = none
theorem Ds.floor {tg tm : Addr → Option Sl} {H H' : Hp} (d : Ds tg tm) (g : Tg H tg) (b : Bt tg H H') : Kp tm H H' := fun p o e h => by
  rcases h with h | h
  · exact b _ _ e (d p h)
  · exact b _ _ e (g.tup e h)
theorem Ds.model {tg tm : Addr → Option Sl} {H H' : Hp} (d : Ds tg tm) (g : Tg H tm) (b : Bt tm H H') : Kp tg H H' := fun p o e h => by
  rcases h with h | h
  · exact b _ _ e (Classical.byContradiction fun z => h (d p z))
  · exact b _ _ e (g.tup e h)
/-- new lists, one for each of what is gone over -/
structure Mk60 (H1 H5 : Hp) (D : Addr) (tm tm5 : Addr → Option Sl) (A1 : Nat → Addr) (ct : Nat → List Int) (c i : Nat) : Prop where
  hD : H5 D = some (.lst ((List.range i).map fun j => V.ref (A1 j)))
  at_ : ∀ j, j < i → H5 (A1 j) = some (.lst ((ct j).map V.int)) ∧ tm5 (A1 j) = some (c, j)
  own : Tg H5 tm5
  gr : ∀ p o, H1 p = some o → tm5 p = tm p
  tD : tm5 D = none
  sm : Same H1 H5
theorem Mk60.start {H1 : Hp} {D : Addr} {tm : Addr → Option Sl} {A1 : Nat → Addr} {ct : Nat → List Int} {c : Nat} (own : Tg H1 tm) (nD : H1 D = none) : Mk60 H1 (upd H1 D (.lst [])) D tm tm A1 ct c 0 :=
  ⟨upd_same, fun _ z => absurd z (Nat.not_lt_zero _), own.upd (own.free nD), fun _ _ _ => rfl, own.free nD, same_new nD⟩
theorem Mk60.step {H1 H5 : Hp} {D p : Addr} {tm tm5 : Addr → Option Sl} {A1 : Nat → Addr} {ct : Nat → List Int} {c i : Nat} (m : Mk60 H1 H5 D tm tm5 A1 ct c i) (nD : H1 D = none) (np : H5 p = none) :
    Mk60 H1 (upd (upd H5 p (.lst ((ct i).map V.int))) D (.lst (((List.range i).map fun j => V.ref (A1 j)) ++ [V.ref p]))) D tm (putT tm5 p (c, i)) (fun j => if j = i then p else A1 j) ct c (i + 1) := by
  have pD : p ≠ D := fun z => by rw [z, m.hD] at np; cases np
  have u := same_new (o := .lst ((ct i).map V.int)) np
  have tp : tm5 p = none := m.own.free np
  have tD : putT tm5 p (c, i) D = none := by
    show (if D = p then some (c, i) else tm5 D) = none
    rw [if_neg pD.symm]
    exact m.tD
  refine ⟨?_, fun j hj => ?_, (m.own.new np).upd tD, fun q o e => ?_, tD, Same.own (m.sm.trans u) nD⟩
  · rw [upd_same, List.range_succ, List.map_append]
    refine congrArg (fun l => some (HO.lst l)) (congr (congrArg _ (List.map_congr_left fun j hj => ?_)) ?_)
    · have := List.mem_range.mp hj
      exact congrArg V.ref (if_neg (by omega)).symm
    · exact congrArg (fun x => [V.ref x]) (if_pos rfl).symm
  · show upd (upd H5 p _) D _ (if j = i then p else A1 j) = _ ∧ putT tm5 p (c, i) (if j = i then p else A1 j) = _
    by_cases z : j = i
    · rw [if_pos z, upd_ne pD, upd_same, z]
      exact ⟨rfl, putT_at⟩
    · rw [if_neg z]
      obtain ⟨a1, a2⟩ := m.at_ j (by omega)
      have jD : A1 j ≠ D := fun y => by rw [y, m.tD] at a2; cases a2
      exact ⟨by rw [upd_ne jD]; exact u _ _ a1, Gr.put tp _ _ a2⟩
  · show (if q = p then some (c, i) else tm5 q) = _
    rw [if_neg (ne_of_none (m.sm _ _ e) np)]
    exact m.gr q o e
section
variable {P : Program} {w : World} {K : PySem.W.Frag} {mg : Str → Option Value} {base : Heap}
def sp_law_model (K : PySem.W.Frag) : Sp := fun vs H Q _ => ∃ (r : Addr) (hs : List HR) (bs : List BR), vs = [.ref r] ∧ RoomAt H r hs bs ∧ RoomOk hs bs ∧
  ∀ (mp : Addr) (tm : Addr → Option Sl) (l0 l1 l2 : Addr) (A : Sl → Addr) (H' : Hp), Mdl H' mp hs bs (cn0 bs) tm l0 l1 l2 A → (∀ p o, H p = some o → tm p = none) → Same H H' → Q (.ref mp) H'
theorem ok_law_model {f : Addr} {fd : FuncData} (F : Fun K "_law_model" "_law_model" s_law_model f fd) {C : Addr} (T : Top K mg C) : FnOk P w K mg base CX0 1 f fd ["_law_room_here"] (sp_law_model K) := by
  refine F.ok sc_law_model (fun vs H Q E h => ?_) (fun cdv A outer s H vs Q E hr h => ?_)
  · obtain ⟨r, hs, bs, rfl, _⟩ := h
    rfl
  obtain ⟨r, hs, bs, rfl, hR, ok, q⟩ := h
  obtain ⟨ha, ba, hv, bv, er, eh, eb, alh, alb⟩ := hR.ex
  have lhv := alh.length
  have lbv := alb.length
  have lh := ok.hands
  have lb := ok.many
  let ct : Nat → List Int := fun j => match bs[j]? with | some b => b.th | none => []
  have own0 : Tg H (fun _ => none) := fun _ _ e => nomatch e
  refine ⟨_, (pss_one (ps_ret (pe_lst (pa_cons (pe_lc (own := [("_law_one", 1), ("_law_to", 2), ("_law_things", 3)]) (g := gTup K 3 (gCons (gName 1) (gCons (gName 2) (gCons (gName 3) gNil)))) (tt := tYes) (by rfl) sc_law_model.nd (pi_tupK K rfl (pe_ix (ix_tupK K rfl) (pv 0) pe_int (fun _ _ => rfl))) (blkOk_by (own := [("_law_one", 1), ("_law_to", 2), ("_law_things", 3)]) (N := N_law_model) (sc := defScope s_law_model) (by decide +kernel)) (fun _ _ _ _ _ => (pg_tupK K rfl rfl (pgs_cons (pg_name (i := 1) sc_law_model.nd rfl (Or.inl rfl)) (pgs_cons (pg_name (i := 2) sc_law_model.nd rfl (Or.inl rfl)) (pgs_cons (pg_name (i := 3) sc_law_model.nd rfl (Or.inl rfl)) pgs_nil))))) (fun _ _ _ _ _ => pts_nil) (fun _ _ _ _ _ => (pe_callTy (call_list_ofK K rfl) (by rfl) T.m_list (by decide +kernel) (pa_cons (pv 3) pa_nil)))) (pa_cons (pe_lc (own := [("_law_hand", 4)]) (g := gName 4) (tt := tYes) (by rfl) sc_law_model.nd (pi_tupK K rfl (pe_ix (ix_tupK K rfl) (pv 0) pe_int (fun _ _ => rfl))) (blkOk_by (own := [("_law_hand", 4)]) (N := N_law_model) (sc := defScope s_law_model) (by decide +kernel)) (fun _ _ _ _ _ => (pg_name (i := 4) sc_law_model.nd rfl (Or.inl rfl))) (fun _ _ _ _ _ => pts_nil) (fun _ _ _ _ _ => (pe_lst pa_nil))) (pa_cons (pe_lc (own := [("_law_hand", 4)]) (g := gName 4) (tt := tYes) (by rfl) sc_law_model.nd (pi_tupK K rfl (pe_ix (ix_tupK K rfl) (pv 0) pe_int (fun _ _ => rfl))) (blkOk_by (own := [("_law_hand", 4)]) (N := N_law_model) (sc := defScope s_law_model) (by decide +kernel)) (fun _ _ _ _ _ => (pg_name (i := 4) sc_law_model.nd rfl (Or.inl rfl))) (fun _ _ _ _ _ => pts_nil) (fun _ _ _ _ _ => (pe_lst pa_nil))) pa_nil)))))), ?_⟩
  refine ⟨_, rfl, r, _, _, _, rfl, rfl, SqT.of er, atI_nat (j := 1) rfl, ba, rfl, ⟨_, SqT.of eb⟩, fun D0 n0 => lc_tup (K := K) (a := ba) (xs := bv) (fun i H5 => ∃ (tm5 : Addr → Option Sl) (A0 : Nat → Addr), Mk60 H H5 D0 (fun _ => none) tm5 A0 ct 0 i) ⟨_, fun _ => 0, Mk60.start own0 n0⟩ (fun i H5 _ ⟨_, _, m⟩ => SqT.of (m.sm _ _ eb)) ?_ ?_⟩
  · rintro i x H5 hx ⟨tm5, A0, m⟩
    obtain ⟨b, eb2, ⟨t2, g, rfl, e1, e2⟩⟩ := alb.getL hx
    have il := (List.getElem?_eq_some_iff.mp eb2).1
    have ec : ct i = b.th := by show (match bs[i]? with | some b => b.th | none => []) = _; rw [eb2]
    refine ⟨t2, _, rfl, SqT.of (m.sm _ _ e1), rfl, _, _, rfl, _, _, rfl, _, _, rfl, rfl, rfl, yes_in ⟨_, rfl, g, _, rfl, .inr (SqT.of (m.sm _ _ e2)), fun p np => ?_⟩⟩
    have st := m.step n0 np
    rw [ec] at st
    exact ⟨_, same_new np _ _ m.hD, by rw [List.length_map, List.length_range]; exact small1000 (by omega), _, _, st⟩
  rintro H2 ⟨tm2, A0, m0⟩
  rw [lbv] at m0
  have s2 := m0.sm
  refine ⟨_, rfl, r, _, _, _, rfl, rfl, SqT.of (s2 _ _ er), atI_nat (j := 0) rfl, ha, rfl, ⟨_, SqT.of (s2 _ _ eh)⟩, fun D1 n1 => lc_tup (K := K) (a := ha) (xs := hv) (fun i H5 => ∃ (tm5 : Addr → Option Sl) (A1 : Nat → Addr), Mk60 H2 H5 D1 tm2 tm5 A1 (fun _ => []) 1 i) ⟨_, fun _ => 0, Mk60.start m0.own n1⟩ (fun i H5 _ ⟨_, _, m⟩ => SqT.of (m.sm _ _ (s2 _ _ eh))) ?_ ?_⟩
  · rintro i x H5 hx ⟨tm5, A1, m⟩
    have il := (List.getElem?_eq_some_iff.mp hx).1
    refine ⟨rfl, yes_in ⟨(by show 0 ≤ sizeLine; decide), fun p np => ?_⟩⟩
    exact ⟨_, same_new np _ _ m.hD, by rw [List.length_map, List.length_range]; exact small1000 (by omega), _, _, m.step n1 np⟩
  rintro H3 ⟨tm3, A1, m1⟩
  rw [lhv] at m1
  have s3 := s2.trans m1.sm
  refine ⟨_, rfl, r, _, _, _, rfl, rfl, SqT.of (s3 _ _ er), atI_nat (j := 0) rfl, ha, rfl, ⟨_, SqT.of (s3 _ _ eh)⟩, fun D2 n2 => lc_tup (K := K) (a := ha) (xs := hv) (fun i H5 => ∃ (tm5 : Addr → Option Sl) (A2 : Nat → Addr), Mk60 H3 H5 D2 tm3 tm5 A2 (fun _ => []) 2 i) ⟨_, fun _ => 0, Mk60.start m1.own n2⟩ (fun i H5 _ ⟨_, _, m⟩ => SqT.of (m.sm _ _ (s3 _ _ eh))) ?_ ?_⟩
  · rintro i x H5 hx ⟨tm5, A2, m⟩
    have il := (List.getElem?_eq_some_iff.mp hx).1
    refine ⟨rfl, yes_in ⟨(by show 0 ≤ sizeLine; decide), fun p np => ?_⟩⟩
    exact ⟨_, same_new np _ _ m.hD, by rw [List.length_map, List.length_range]; exact small1000 (by omega), _, _, m.step n2 np⟩
  rintro H4 ⟨tm4, A2, m2⟩
  rw [lhv] at m2
  have s4 := s3.trans m2.sm
  refine ⟨(by show 3 ≤ sizeLine; decide), fun mp nm => ?_⟩
  have u := same_new (o := .lst [V.ref D0, V.ref D1, V.ref D2]) nm
  have d0 := m2.sm _ _ (m1.sm _ _ m0.hD)
  have d1 := m2.sm _ _ m1.hD
  have d2 := m2.hD
  have x0 : tm4 D0 = none := (m2.gr _ _ (m1.sm _ _ m0.hD)).trans ((m1.gr _ _ m0.hD).trans m0.tD)
  have x1 : tm4 D1 = none := (m2.gr _ _ m1.hD).trans m1.tD
  have x2 : tm4 D2 = none := m2.tD
  have xm : tm4 mp = none := m2.own.free nm
  let tm : Addr → Option Sl := fun p => if p = mp ∨ p = D0 ∨ p = D1 ∨ p = D2 then some (3, 1) else tm4 p
  have tms : ∀ p s, tm4 p = some s → tm p = some s := fun p s e => by
    refine (if_neg fun z => ?_).trans e
    rcases z with rfl | rfl | rfl | rfl
    · rw [xm] at e; cases e
    · rw [x0] at e; cases e
    · rw [x1] at e; cases e
    · rw [x2] at e; cases e
  have old : ∀ p o, H p = some o → tm4 p = none := fun p o e => (m2.gr _ _ (s3 _ _ e)).trans ((m1.gr _ _ (s2 _ _ e)).trans (m0.gr _ _ e))
  refine q mp tm D0 D1 D2 (fun s => if s.1 = 0 then A0 s.2 else if s.1 = 1 then A1 s.2 else A2 s.2) _ ⟨upd_same, u _ _ d0, u _ _ d1, u _ _ d2, fun s v => ?_, if_pos (.inl rfl), if_pos (.inr (.inl rfl)), if_pos (.inr (.inr (.inl rfl))), if_pos (.inr (.inr (.inr rfl))), fun p s e => ?_⟩ (fun p o e => ?_) (s4.trans u)
  · obtain ⟨c, j⟩ := s
    rcases v with ⟨h, l⟩ | ⟨h, l⟩ | ⟨h, l⟩
    · obtain rfl : c = 0 := h
      have l : j < bs.length := l
      obtain ⟨a1, a2⟩ := m0.at_ j l
      have b1 := m1.sm _ _ a1
      have c2 := (m2.gr _ _ b1).trans ((m1.gr _ _ a1).trans a2)
      exact ⟨u _ _ (m2.sm _ _ b1), tms _ _ c2⟩
    · obtain rfl : c = 1 := h
      have l : j < hs.length := l
      obtain ⟨a1, a2⟩ := m1.at_ j l
      exact ⟨u _ _ (m2.sm _ _ a1), tms _ _ ((m2.gr _ _ a1).trans a2)⟩
    · obtain rfl : c = 2 := h
      have l : j < hs.length := l
      obtain ⟨a1, a2⟩ := m2.at_ j l
      exact ⟨u _ _ a1, tms _ _ a2⟩
  · by_cases z : p = mp ∨ p = D0 ∨ p = D1 ∨ p = D2
    · rcases z with rfl | rfl | rfl | rfl
      · exact ⟨_, upd_same⟩
      · exact ⟨_, u _ _ d0⟩
      · exact ⟨_, u _ _ d1⟩
      · exact ⟨_, u _ _ d2⟩
    · have e : tm4 p = some s := (if_neg z).symm.trans e
      obtain ⟨xs, h⟩ := m2.own p s e
      exact ⟨xs, u _ _ h⟩
  · refine (if_neg fun z => ?_).trans (old p o e)
    rcases z with rfl | rfl | rfl | rfl
    · rw [s4 _ _ e] at nm; cases nm
    · rw [e] at n0; cases n0
    · rw [s2 _ _ e] at n1; cases n1
    · rw [s3 _ _ e] at n2; cases n2
end
/-! ### who is ready, by the law's own lists -/
/-- what of belts lacks -/
def lckB (bs : List BR) (cn : Sl → List Int) (k j : Nat) : Bool := decide (bs[j]?.map BR.to = some k) && decide ((((cn (0, j)).length : Nat) : Int) = 0)
theorem rdy_door {hs : List HR} {bs : List BR} {cn : Sl → List Int} {k : Nat} (h : k ∈ doorsOf "in" hs) : rdy hs bs cn k = !decide ((((cn (1, k)).length : Nat) : Int) = 0) := by
  unfold rdy srcs
  rw [if_pos h, List.all_cons, List.all_nil, Bool.and_true]
  by_cases z : (((cn (1, k)).length : Nat) : Int) = 0
  · rw [decide_eq_true z, decide_eq_false (by omega)]; rfl
  · rw [decide_eq_false z, decide_eq_true (by omega)]; rfl
theorem rdy_hand {hs : List HR} {bs : List BR} {cn : Sl → List Int} {k : Nat} (h : k ∉ doorsOf "in" hs) : rdy hs bs cn k = !((List.range bs.length).map (lckB bs cn k)).any id := by
  have e : ∀ l : List Nat, (((l.filter fun i => decide (bs[i]?.map BR.to = some k)).map fun j => ((0, j) : Sl)).all fun s => decide ((((cn s).length : Nat) : Int) > 0)) = !(l.map (lckB bs cn k)).any id := by
    intro l
    induction l with
    | nil => rfl
    | cons j l ih =>
      rw [List.map_cons, List.any_cons, List.filter_cons]
      by_cases t : bs[j]?.map BR.to = some k
      · have et : decide (bs[j]?.map BR.to = some k) = true := decide_eq_true t
        rw [if_pos et, List.map_cons, List.all_cons, ih]
        show _ = !(lckB bs cn k j || _)
        unfold lckB
        rw [et, Bool.true_and]
        by_cases z : (((cn (0, j)).length : Nat) : Int) = 0
        · rw [decide_eq_true z, decide_eq_false (by omega)]; rfl
        · rw [decide_eq_false z, decide_eq_true (by omega)]; rfl
      · have et : decide (bs[j]?.map BR.to = some k) = false := decide_eq_false t
        rw [if_neg (by rw [et]; exact Bool.false_ne_true), ih]
        show _ = !(lckB bs cn k j || _)
        unfold lckB
        rw [et]
        rfl
  unfold rdy srcs
  rw [if_neg h]
  exact e (List.range bs.length)
section
variable {P : Program} {w : World} {K : PySem.W.Frag} {mg : Str → Option Value} {base : Heap}
def sp_law_model_ready (K : PySem.W.Frag) : Sp := fun vs H Q _ => ∃ (r mp : Addr) (hs : List HR) (bs : List BR) (cn : Sl → List Int) (tm : Addr → Option Sl) (l0 l1 l2 : Addr) (A : Sl → Addr), vs = [.ref r, .ref mp] ∧ RoomAt H r hs bs ∧ RoomOk hs bs ∧ Mdl H mp hs bs cn tm l0 l1 l2 A ∧
  ∀ (p : Addr) (H' : Hp), H p = none → H' p = some (.lst (((List.range hs.length).filter (rdy hs bs cn)).map nV)) → Same H H' → Q (.ref p) H'
theorem ok_law_model_ready {f : Addr} {fd : FuncData} (F : Fun K "_law_model_ready" "_law_model_ready" s_law_model_ready f fd) {C : Addr} (T : Top K mg C) : FnOk P w K mg base CX0 1 f fd ["_law_room_here", "_law_model_here"] (sp_law_model_ready K) := by
  refine F.ok sc_law_model_ready (fun vs H Q E h => ?_) (fun cdv A outer s H vs Q E hr h => ?_)
  · obtain ⟨r, mp, hs, bs, cn, tm, l0, l1, l2, A, rfl, _⟩ := h
    rfl
  obtain ⟨r, mp, hs, bs, cn, tm, l0, l1, l2, A, rfl, hR, ok, m, q⟩ := h
  obtain ⟨ha, ba, hv, bv, er, eh, eb, alh, alb⟩ := hR.ex
  have lhv := alh.length
  have lbv := alb.length
  have lh := ok.hands
  have lb := ok.many
  refine ⟨_, (pss_cons (ps_set (i := 2) sc_law_model_ready.nd rfl (Or.inl rfl) (pe_lst pa_nil))
      (pss_cons (ps_for PassesOwn.never rfl (pi_enumT K rfl (by rfl) T.m_enumerate (pa_cons (pe_ix (ix_tupK K rfl) (pv 0) pe_int (fun _ _ => rfl)) pa_nil)) (pg_tupK K rfl rfl (pgs_cons (pg_name (i := 3) sc_law_model_ready.nd rfl (Or.inr rfl)) (pgs_cons (pg_name (i := 4) sc_law_model_ready.nd rfl (Or.inl rfl)) pgs_nil)))
        (pss_cons (ps_if (pt_cmpR (op_eqDK K rfl hr.units) (pe_ix (ix_tupK K rfl) (pv 4) pe_int (fun _ _ => rfl)) (pe_tup (pa_cons pe_str pa_nil)) (nomark _)) (pss_one (ps_set (i := 5) sc_law_model_ready.nd rfl (Or.inl rfl) (pe_cmpR op_eq (pe_callB (call_len_seqK K rfl) (by rfl) T.m_len (by decide +kernel) (pa_cons (pe_ix (ix_listK K rfl) (pe_ix (ix_listK K rfl) (pv 1) pe_int (fun _ _ => rfl)) (pv 3) (fun _ _ => rfl)) pa_nil)) pe_int (nomark _)))) (pss_one (ps_set (i := 5) sc_law_model_ready.nd rfl (Or.inl rfl) (pe_callB (cr_anyK K rfl rfl) (by rfl) T.m_any (by decide +kernel) (pa_cons (pe_lc (own := [("_law_belt", 6), ("_law_lying", 7)]) (g := gTup K 2 (gCons (gName 6) (gCons (gName 7) gNil))) (tt := tYes) (by rfl) sc_law_model_ready.nd (pi_zipTL K rfl (by rfl) T.m_zip (pa_cons (pe_ix (ix_tupK K rfl) (pv 0) pe_int (fun _ _ => rfl)) (pa_cons (pe_ix (ix_listK K rfl) (pv 1) pe_int (fun _ _ => rfl)) pa_nil))) (blkOk_by (own := [("_law_belt", 6), ("_law_lying", 7)]) (N := N_law_model_ready) (sc := defScope s_law_model_ready) (by decide +kernel)) (fun _ _ _ _ _ => (pg_tupK K rfl rfl (pgs_cons (pg_name (i := 6) sc_law_model_ready.nd rfl (Or.inl rfl)) (pgs_cons (pg_name (i := 7) sc_law_model_ready.nd rfl (Or.inl rfl)) pgs_nil)))) (fun _ _ _ _ _ => pts_nil) (fun _ _ _ _ _ => (pe_and (pe_cmpR op_eq (pe_ix (ix_tupK K rfl) (pv 6) pe_int (fun _ _ => rfl)) (pv 3) (nomark _)) (pe_one (pe_cmpR op_eq (pe_callB (call_len_seqK K rfl) (by rfl) T.m_len (by decide +kernel) (pa_cons (pv 7) pa_nil)) pe_int (nomark _)))))) pa_nil)))))
      (pss_one (ps_if (pt_not (pt_val (pv 5))) (pss_one (ps_expr (pe_bmK K rfl PySem.F.plainAttrs_list PySem.F.slot_list_append PySem.F.type_list_append mt_append (pv 2) (pa_cons (pv 3) pa_nil)))) pss_nil))))
      (pss_one (ps_ret (pv 2))))), ?_⟩
  refine ⟨(by show 0 ≤ sizeLine; decide), fun L nL => ?_⟩
  have u0 := same_new (o := .lst []) nL
  refine ⟨_, rfl, r, _, _, _, rfl, rfl, SqT.of (u0 _ _ er), atI_nat (j := 0) rfl, ha, hv, rfl, SqT.of (u0 _ _ eh), for_it (J := IteT K ha hv) (n := hv.length) (fun i σ H5 => ∃ v3 v4 v5 v6 v7 : Option V, σ = [some (.ref r), some (.ref mp), some (.ref L), v3, v4, v5, v6, v7] ∧ H5 L = some (.lst (((List.range i).filter (rdy hs bs cn)).map nV)) ∧ Same H H5) ⟨none, none, none, none, none, rfl, upd_same, u0⟩ ?_ ?_ ?_ ?_⟩
  · rintro i σ H5 hi ⟨v3, v4, v5, v6, v7, rfl, hL, s5⟩
    exact ⟨SqT.of (s5 _ _ eh), hi⟩
  · rintro σ H5 ⟨v3, v4, v5, v6, v7, rfl, hL, s5⟩
    exact ⟨SqT.of (s5 _ _ eh), rfl⟩
  · rintro i x σ H5 H6 hi ⟨v3, v4, v5, v6, v7, rfl, hL, s5⟩ ⟨t, y, rfl, nt, rfl, ey⟩
    obtain ⟨hh, ehi, ⟨t2, rr, rfl, e1, e2⟩⟩ := alh.getL ey
    have il := (List.getElem?_eq_some_iff.mp ehi).1
    have gh := ok.good _ (List.mem_of_getElem? ehi)
    have u6 := same_new (o := .tup [V.int ((i : Nat) : Int), V.ref t2]) nt
    have s6 := s5.trans u6
    have hL6 := u6 _ _ hL
    have ht6 : (upd H5 t (.tup [V.int ((i : Nat) : Int), V.ref t2])) t = some (.tup [V.int ((i : Nat) : Int), V.ref t2]) := upd_same
    generalize upd H5 t (.tup [V.int ((i : Nat) : Int), V.ref t2]) = H6 at s6 hL6 ht6 ⊢
    have few := filt_len (p := rdy hs bs cn) i
    refine ⟨t, _, rfl, SqT.of ht6, rfl, _, _, rfl, _, _, rfl, rfl, ?_⟩
    refine ⟨_, rfl, t2, _, _, _, rfl, rfl, SqT.of (s6 _ _ e1), atI_nat (j := 0) rfl, (by show 1 ≤ sizeLine; decide), fun o1 no1 => ?_⟩
    have s7 := s6.trans (same_new (o := .tup [V.str "in"]) no1)
    have hL7 := same_new (o := .tup [V.str "in"]) no1 _ _ hL6
    refine ⟨_, _, rule_dp (s7 _ _ e2), .tup (SqT.of upd_same) (.cons (.str _) .nil), rule_shaped gh.lay, one_shaped (by decide +kernel), _, rfl, ?_⟩
    rw [rule_eqv, gh.door "in" (.inl rfl)]
    generalize upd H6 o1 (.tup [V.str "in"]) = H7 at s7 hL7 ⊢
    have m7 := m.kp (Kp.same s7)
    by_cases cc : hh.wd = "in"
    · have kd : i ∈ doorsOf "in" hs := mem_doors.mpr ⟨_, ehi, cc⟩
      rw [decide_eq_true cc]
      refine if_bl (fun _ => ?_) (fun z => nomatch z)
      have v : VM hs bs (1, i) := .inr (.inl ⟨rfl, il⟩)
      refine ⟨_, rfl, mp, _, _, _, rfl, rfl, SqL.of m7.hm, atI_nat (j := 1) rfl, _, rfl, l1, _, _, _, rfl, rfl, SqL.of m7.h1, rg_ref il, A (1, i), _, rfl, .inl (SqL.of (m7.sl _ v).1), rfl, ?_⟩
      have eb : decide (V.int ((((cn (1, i)).map V.int).length : Nat) : Int) = V.int 0) = !rdy hs bs cn i := by
        rw [rdy_door kd, Bool.not_not, List.length_map]
        exact decide_eq_decide.mpr ⟨fun z => V.int.inj z, fun z => congrArg V.int z⟩
      refine ⟨_, rfl, _, rfl, if_bl (fun z => ?_) (fun z => ?_)⟩
      · have rd : rdy hs bs cn i = true := by
          have z : (!decide (V.int ((((cn (1, i)).map V.int).length : Nat) : Int) = V.int 0)) = true := z
          rw [eb, Bool.not_not] at z
          exact z
        refine ⟨_, rfl, .inl ⟨rfl, _, SqL.of hL7⟩, _, rfl, L, _, _, rfl, rfl, hL7, by rw [List.length_map]; exact small1000 (by omega), ?_⟩
        refine ⟨_, _, _, _, _, rfl, ?_, Same.own s7 nL⟩
        rw [upd_same, filt_succ, if_pos rd, List.map_append]
        rfl
      · have rd : ¬ rdy hs bs cn i = true := by
          have z : (!decide (V.int ((((cn (1, i)).map V.int).length : Nat) : Int) = V.int 0)) = false := z
          rw [eb, Bool.not_not] at z
          rw [z]
          exact Bool.false_ne_true
        refine ⟨_, _, _, _, _, rfl, ?_, s7⟩
        rw [filt_succ, if_neg rd, List.append_nil]
        exact hL7
    · have kd : i ∉ doorsOf "in" hs := fun z => by
        obtain ⟨h, e, w1⟩ := mem_doors.mp z
        rw [ehi] at e
        exact cc (by rw [Option.some.inj e]; exact w1)
      rw [decide_eq_false cc]
      refine if_bl (fun z => nomatch z) (fun _ => ?_)
      refine ⟨_, rfl, r, _, _, _, rfl, rfl, SqT.of (s7 _ _ er), atI_nat (j := 1) rfl, _, rfl, mp, _, _, _, rfl, rfl, SqL.of m7.hm, atI_nat (j := 0) rfl, ba, l0, _, _, rfl, SqT.of (s7 _ _ eb), SqL.of m7.h0, fun D nD => lc_it (n := bv.length) (fun j H8 => H8 D = some (.lst (((List.range j).map (lckB bs cn i)).map V.bl)) ∧ Same H7 H8) ⟨upd_same, same_new nD⟩ ?_ ?_ ?_ ?_⟩
      · rintro j H8 hj ⟨hD, s8⟩
        exact ⟨SqT.of (s8 _ _ (s7 _ _ eb)), SqL.of (s8 _ _ m7.h0), hj, by rw [List.length_map, List.length_range]; omega⟩
      · rintro H8 ⟨hD, s8⟩
        exact ⟨SqT.of (s8 _ _ (s7 _ _ eb)), SqL.of (s8 _ _ m7.h0), Nat.le_refl _, by rw [List.length_map, List.length_range]; omega, .inl rfl⟩
      · rintro j x H8 H9 hj ⟨hD, s8⟩ ⟨T', x1, y1, rfl, nT, rfl, hx1, hy1⟩
        obtain ⟨b, ebj, ⟨t3, g, rfl, b1, b2⟩⟩ := alb.getL hx1
        have jl := (List.getElem?_eq_some_iff.mp ebj).1
        rw [List.getElem?_map, List.getElem?_range jl] at hy1
        obtain rfl : V.ref (A (0, j)) = y1 := Option.some.inj hy1
        have v : VM hs bs (0, j) := .inl ⟨rfl, jl⟩
        have u9 := same_new (o := .tup [V.ref t3, V.ref (A (0, j))]) nT
        have hT : (upd H8 T' (.tup [V.ref t3, V.ref (A (0, j))])) T' = some (.tup [V.ref t3, V.ref (A (0, j))]) := upd_same
        have hD9 := u9 _ _ hD
        have s9 := s8.trans u9
        generalize upd H8 T' (.tup [V.ref t3, V.ref (A (0, j))]) = H9 at hT hD9 s9 ⊢
        refine ⟨T', _, rfl, SqT.of hT, rfl, _, _, rfl, _, _, rfl, rfl, rfl, yes_in ?_⟩
        refine ⟨_, rfl, t3, _, _, _, rfl, rfl, SqT.of ((s7.trans s9) _ _ b1), atI_nat (j := 1) rfl, _, rfl, rfl, _, rfl, ?_⟩
        have e1 : lckB bs cn i j = (decide (V.int ((b.to : Nat) : Int) = V.int ((i : Nat) : Int)) && decide (V.int ((((cn (0, j)).map V.int).length : Nat) : Int) = V.int 0)) := by
          unfold lckB
          rw [ebj, List.length_map]
          refine congr (congrArg _ (decide_eq_decide.mpr ⟨fun z => ?_, fun z => ?_⟩)) (decide_eq_decide.mpr ⟨fun z => congrArg V.int z, fun z => V.int.inj z⟩)
          · have z : b.to = i := Option.some.inj z
            rw [z]
          · have z := V.int.inj z
            exact congrArg some (by omega)
        have put : ∀ z : Bool, z = lckB bs cn i j → upd H9 D (.lst (((List.range j).map (lckB bs cn i)).map V.bl ++ [V.bl z])) D = some (.lst (((List.range (j + 1)).map (lckB bs cn i)).map V.bl)) := fun z e => by
          rw [upd_same, List.range_succ, List.map_append, List.map_append, e]
          rfl
        refine if_bl (fun c => ?_) (fun c => ?_)
        · refine ⟨_, rfl, _, _, rfl, .inl (SqL.of (s9 _ _ (m7.sl _ v).1)), rfl, _, hD9, by rw [List.length_map, List.length_map, List.length_range]; exact small1000 (by omega), put _ ?_, Same.own s9 nD⟩
          rw [e1]
          have c : decide (V.int ((b.to : Nat) : Int) = V.int ((i : Nat) : Int)) = true := c
          rw [c, Bool.true_and]
        · refine ⟨_, hD9, by rw [List.length_map, List.length_map, List.length_range]; exact small1000 (by omega), put _ ?_, Same.own s9 nD⟩
          rw [e1]
          have c : decide (V.int ((b.to : Nat) : Int) = V.int ((i : Nat) : Int)) = false := c
          rw [c, Bool.false_and]
      · rintro H8 ⟨hD, s8⟩
        rw [lbv] at hD
        have s78 := s7.trans s8
        have hL8 := s8 _ _ hL7
        have er2 := rdy_hand (bs := bs) (cn := cn) kd
        refine ⟨D, _, rfl, SqL.of hD, _, rfl, _, rfl, if_bl (fun z => ?_) (fun z => ?_)⟩
        · have rd : rdy hs bs cn i = true := er2.trans z
          refine ⟨_, rfl, .inl ⟨rfl, _, SqL.of hL8⟩, _, rfl, L, _, _, rfl, rfl, hL8, by rw [List.length_map]; exact small1000 (by omega), ?_⟩
          refine ⟨_, _, _, _, _, rfl, ?_, Same.own s78 nL⟩
          rw [upd_same, filt_succ, if_pos rd, List.map_append]
          rfl
        · have rd : ¬ rdy hs bs cn i = true := by
            rw [er2.trans z]
            exact Bool.false_ne_true
          refine ⟨_, _, _, _, _, rfl, ?_, s78⟩
          rw [filt_succ, if_neg rd, List.append_nil]
          exact hL8
  · rintro σ H5 ⟨v3, v4, v5, v6, v7, rfl, hL, s5⟩
    rw [lhv] at hL
    exact ⟨_, rfl, q L H5 nL hL s5⟩
end
/-! ### a work, by the law's own lists -/
def popB (bs : List BR) (cn : Sl → List Int) (k i : Nat) : Sl → List Int := fun s => if s.1 = 0 ∧ s.2 < i ∧ bs[s.2]?.map BR.to = some k then (cn s).tail else cn s
def putB (bs : List BR) (cn : Sl → List Int) (k : Nat) (z : Int) (i : Nat) : Sl → List Int := fun s => if s.1 = 0 ∧ s.2 < i ∧ bs[s.2]?.map BR.one = some k then cn s ++ [z] else cn s
theorem popB_zero {bs : List BR} {cn : Sl → List Int} {k : Nat} : popB bs cn k 0 = cn := funext fun s => if_neg fun z => absurd z.2.1 (Nat.not_lt_zero _)
theorem putB_zero {bs : List BR} {cn : Sl → List Int} {k : Nat} {z : Int} : putB bs cn k z 0 = cn := funext fun s => if_neg fun z => absurd z.2.1 (Nat.not_lt_zero _)
theorem popB_no {bs : List BR} {cn : Sl → List Int} {k i : Nat} (h : ¬ bs[i]?.map BR.to = some k) : popB bs cn k (i + 1) = popB bs cn k i := by
  funext s
  unfold popB
  by_cases z : s.1 = 0 ∧ s.2 < i ∧ bs[s.2]?.map BR.to = some k
  · rw [if_pos z, if_pos ⟨z.1, by omega, z.2.2⟩]
  · rw [if_neg z, if_neg fun y => ?_]
    by_cases e : s.2 = i
    · exact h (e ▸ y.2.2)
    · exact z ⟨y.1, by omega, y.2.2⟩
theorem putB_no {bs : List BR} {cn : Sl → List Int} {k i : Nat} {x : Int} (h : ¬ bs[i]?.map BR.one = some k) : putB bs cn k x (i + 1) = putB bs cn k x i := by
  funext s
  unfold putB
  by_cases z : s.1 = 0 ∧ s.2 < i ∧ bs[s.2]?.map BR.one = some k
  · rw [if_pos z, if_pos ⟨z.1, by omega, z.2.2⟩]
  · rw [if_neg z, if_neg fun y => ?_]
    by_cases e : s.2 = i
    · exact h (e ▸ y.2.2)
    · exact z ⟨y.1, by omega, y.2.2⟩
theorem popB_yes {bs : List BR} {cn : Sl → List Int} {k i : Nat} (h : bs[i]?.map BR.to = some k) : popB bs cn k i (0, i) = cn (0, i) ∧ putS (popB bs cn k i) (0, i) (cn (0, i)).tail = popB bs cn k (i + 1) := by
  refine ⟨if_neg fun z => absurd z.2.1 (Nat.lt_irrefl _), funext fun s => ?_⟩
  show (if s = (0, i) then (cn (0, i)).tail else popB bs cn k i s) = popB bs cn k (i + 1) s
  by_cases e : s = (0, i)
  · rw [if_pos e, e]
    exact (if_pos ⟨rfl, Nat.lt_succ_self _, h⟩).symm
  · rw [if_neg e]
    unfold popB
    by_cases z : s.1 = 0 ∧ s.2 < i ∧ bs[s.2]?.map BR.to = some k
    · rw [if_pos z, if_pos ⟨z.1, by omega, z.2.2⟩]
    · rw [if_neg z, if_neg fun y => z ⟨y.1, ?_, y.2.2⟩]
      have : s.2 ≠ i := fun w => e (Prod.ext y.1 w)
      omega
theorem putB_yes {bs : List BR} {cn : Sl → List Int} {k i : Nat} {x : Int} (h : bs[i]?.map BR.one = some k) : putB bs cn k x i (0, i) = cn (0, i) ∧ putS (putB bs cn k x i) (0, i) (cn (0, i) ++ [x]) = putB bs cn k x (i + 1) := by
  refine ⟨if_neg fun z => absurd z.2.1 (Nat.lt_irrefl _), funext fun s => ?_⟩
  show (if s = (0, i) then cn (0, i) ++ [x] else putB bs cn k x i s) = putB bs cn k x (i + 1) s
  by_cases e : s = (0, i)
  · rw [if_pos e, e]
    exact (if_pos ⟨rfl, Nat.lt_succ_self _, h⟩).symm
  · rw [if_neg e]
    unfold putB
    by_cases z : s.1 = 0 ∧ s.2 < i ∧ bs[s.2]?.map BR.one = some k
    · rw [if_pos z, if_pos ⟨z.1, by omega, z.2.2⟩]
    · rw [if_neg z, if_neg fun y => z ⟨y.1, ?_, y.2.2⟩]
      have : s.2 ≠ i := fun w => e (Prod.ext y.1 w)
      omega
theorem at_lt {α β : Type} {l : List α} {f : α → β} {i : Nat} {y : β} (h : l[i]?.map f = some y) : i < l.length := by
  refine Classical.byContradiction fun z => ?_
  rw [List.getElem?_eq_none (by omega)] at h
  cases h
theorem popB_all {hs : List HR} {bs : List BR} {cn : Sl → List Int} {k : Nat} (h : k ∉ doorsOf "in" hs) : popB bs cn k bs.length = popC hs bs cn k (srcs hs bs k).length := by
  funext s
  unfold popB popC
  rw [List.take_length]
  have e : (s.1 = 0 ∧ s.2 < bs.length ∧ bs[s.2]?.map BR.to = some k) ↔ s ∈ srcs hs bs k := by
    unfold srcs
    rw [if_neg h, List.mem_map]
    constructor
    · intro z
      exact ⟨s.2, List.mem_filter.mpr ⟨List.mem_range.mpr z.2.1, decide_eq_true z.2.2⟩, Prod.ext z.1.symm rfl⟩
    · rintro ⟨j, hj, rfl⟩
      obtain ⟨j1, j2⟩ := List.mem_filter.mp hj
      exact ⟨rfl, List.mem_range.mp j1, of_decide_eq_true j2⟩
  by_cases z : s.1 = 0 ∧ s.2 < bs.length ∧ bs[s.2]?.map BR.to = some k
  · rw [if_pos z, if_pos (e.mp z)]
  · rw [if_neg z, if_neg fun y => z (e.mpr y)]
theorem putB_all {bs : List BR} {cn : Sl → List Int} {k : Nat} {x : Int} : putB bs cn k x bs.length = putC bs cn k x (goingN bs k).length := by
  funext s
  unfold putB putC
  rw [List.take_length]
  have e : (s.1 = 0 ∧ s.2 < bs.length ∧ bs[s.2]?.map BR.one = some k) ↔ s ∈ (goingN bs k).map fun j => ((0, j) : Sl) := by
    rw [List.mem_map]
    constructor
    · intro z
      exact ⟨s.2, List.mem_filter.mpr ⟨List.mem_range.mpr z.2.1, decide_eq_true z.2.2⟩, Prod.ext z.1.symm rfl⟩
    · rintro ⟨j, hj, rfl⟩
      obtain ⟨j1, j2⟩ := List.mem_filter.mp hj
      exact ⟨rfl, List.mem_range.mp j1, of_decide_eq_true j2⟩
  by_cases z : s.1 = 0 ∧ s.2 < bs.length ∧ bs[s.2]?.map BR.one = some k
  · rw [if_pos z, if_pos (e.mp z)]
  · rw [if_neg z, if_neg fun y => z (e.mpr y)]
theorem len_ge {xs : List Int} : xs.tail.length ≤ xs.length := by rw [List.length_tail]; omega
section
variable {P : Program} {w : World} {K : PySem.W.Frag} {mg : Str → Option Value} {base : Heap}
def sp_law_model_work (K : PySem.W.Frag) : Sp := fun vs H Q _ => ∃ (r mp : Addr) (hs : List HR) (bs : List BR) (cn : Sl → List Int) (tm : Addr → Option Sl) (l0 l1 l2 : Addr) (A : Sl → Addr) (k : Nat), vs = [.ref r, .ref mp, nV k] ∧ RoomAt H r hs bs ∧ RoomOk hs bs ∧ Mdl H mp hs bs cn tm l0 l1 l2 A ∧ k < hs.length ∧ rdy hs bs cn k = true ∧ (∀ s, VM hs bs s → (cn s).length ≤ 900) ∧
  ∀ H', Mdl H' mp hs bs (wkC hs bs cn k) tm l0 l1 l2 A → Bt tm H H' → Q (.int (wkV hs bs cn k)) H'
theorem ok_law_model_work {f : Addr} {fd : FuncData} (F : Fun K "_law_model_work" "_law_model_work" s_law_model_work f fd) {C : Addr} (T : Top K mg C) : FnOk P w K mg base CX0 2 f fd ["_law_room_here", "_law_model_here", "_law_k"] (sp_law_model_work K) := by
  obtain ⟨f_law_made_by, fd_law_made_by, F_law_made_by, b_law_made_by, m_law_made_by⟩ := T.d_law_made_by
  have G_law_made_by := ok_law_made_by (P := P) (w := w) (base := base) F_law_made_by T
  refine F.ok sc_law_model_work (fun vs H Q E h => ?_) (fun cdv A outer s H vs Q E hr h => ?_)
  · obtain ⟨r, mp, hs, bs, cn, tm, l0, l1, l2, A, k, rfl, _⟩ := h
    rfl
  obtain ⟨r, mp, hs, bs, cn, tm, l0, l1, l2, A, k, rfl, hR, ok, m, hk, rd, len, q⟩ := h
  obtain ⟨ha, ba, hv, bv, er, eh, eb, alh, alb⟩ := id hR.ex
  have lhv := alh.length
  have lbv := alb.length
  have lh := ok.hands
  have lb := ok.many
  have some1 : ∀ s ∈ srcs hs bs k, ∃ x r, cn s = x :: r := fun s hs' => by
    have := of_decide_eq_true (List.all_eq_true.mp rd s hs')
    cases e : cn s with
    | nil => rw [e] at this; exact absurd this (by show ¬ ((0 : Nat) : Int) > 0; omega)
    | cons x r => exact ⟨x, r, rfl⟩
  have ehk : hs[k]? = some hs[k] := List.getElem?_eq_getElem hk
  obtain ⟨xk, exk, ⟨tk, rk, rfl, k1, k2⟩⟩ := alh.get ehk
  have gk := ok.good _ (List.getElem_mem hk)
  let R1 : TS := fun D' σ' H' => D'.rt = Q ∧ ∃ v4 v5 v6 : Option V, σ' = [some (.ref r), some (.ref mp), some (nV k), some (.int (wkV hs bs cn k)), v4, v5, v6] ∧ Mdl H' mp hs bs (popC hs bs cn k (srcs hs bs k).length) tm l0 l1 l2 A ∧ Bt tm H H'
  let R2 : TS := fun D' σ' H' => D'.rt = Q ∧ ∃ v4 v5 v6 : Option V, σ' = [some (.ref r), some (.ref mp), some (nV k), some (.int (wkV hs bs cn k)), v4, v5, v6] ∧ Mdl H' mp hs bs (putC bs (popC hs bs cn k (srcs hs bs k).length) k (wkV hs bs cn k) (goingN bs k).length) tm l0 l1 l2 A ∧ Bt tm H H'
  have lpop : ∀ s, VM hs bs s → (popC hs bs cn k (srcs hs bs k).length s).length ≤ 900 := fun s v => by
    unfold popC
    split
    · exact Nat.le_trans len_ge (len s v)
    · exact len s v
  refine ⟨_, (pss_cons (ps_if (pt_cmpR (op_eqDK K rfl hr.units) (pe_ix (ix_tupK K rfl) (pe_ix (ix_tupK K rfl) (pe_ix (ix_tupK K rfl) (pv 0) pe_int (fun _ _ => rfl)) (pv 2) (fun _ _ => rfl)) pe_int (fun _ _ => rfl)) (pe_tup (pa_cons pe_str pa_nil)) (nomark _)) (pss_one (ps_set (i := 3) sc_law_model_work.nd rfl (Or.inl rfl) (pe_bmK K rfl PySem.F.plainAttrs_list PySem.F.slot_list_pop PySem.F.type_list_pop mt_popAt (pe_ix (ix_listK K rfl) (pe_ix (ix_listK K rfl) (pv 1) pe_int (fun _ _ => rfl)) (pv 2) (fun _ _ => rfl)) (pa_cons pe_int pa_nil)))) (pss_cons (ps_setLc (i := 4) (own := [("_law_b", 5), ("_law_belt", 6)]) (g := gTup K 2 (gCons (gName 5) (gCons (gName 6) gNil))) (by rfl) sc_law_model_work.nd rfl rfl (sw_true rfl rfl rfl (by decide +kernel)) (pi_enumT K rfl (by rfl) T.m_enumerate (pa_cons (pe_ix (ix_tupK K rfl) (pv 0) pe_int (fun _ _ => rfl)) pa_nil)) (blkOk_by (own := [("_law_b", 5), ("_law_belt", 6)]) (N := N_law_model_work) (sc := defScope s_law_model_work) (by decide +kernel)) (fun _ _ _ _ _ => (pg_tupK K rfl rfl (pgs_cons (pg_name (i := 5) sc_law_model_work.nd rfl (Or.inl rfl)) (pgs_cons (pg_name (i := 6) sc_law_model_work.nd rfl (Or.inl rfl)) pgs_nil)))) (fun _ _ _ _ _ => pts_one (pt_cmpR op_eq (pe_ix (ix_tupK K rfl) (pv 6) pe_int (fun _ _ => rfl)) (pv 2) (nomark _))) (fun _ _ _ _ _ => (pe_bmK K rfl PySem.F.plainAttrs_list PySem.F.slot_list_pop PySem.F.type_list_pop mt_popAt (pe_ix (ix_listK K rfl) (pe_ix (ix_listK K rfl) (pv 1) pe_int (fun _ _ => rfl)) (pv 5) (fun _ _ => rfl)) (pa_cons pe_int pa_nil))))
      (pss_one (ps_set (i := 3) sc_law_model_work.nd rfl (Or.inl rfl) (pe_call G_law_made_by (hr.mono (by decide)) (by rfl) m_law_made_by F_law_made_by.kp b_law_made_by .nil pass0 (pa_cons (pe_ix (ix_tupK K rfl) (pe_ix (ix_tupK K rfl) (pe_ix (ix_tupK K rfl) (pv 0) pe_int (fun _ _ => rfl)) (pv 2) (fun _ _ => rfl)) pe_int (fun _ _ => rfl)) (pa_cons (pv 4) pa_nil)))))))
      (PSs.to (pss_cons (ps_for PassesOwn.never rfl (pi_enumT K rfl (by rfl) T.m_enumerate (pa_cons (pe_ix (ix_tupK K rfl) (pv 0) pe_int (fun _ _ => rfl)) pa_nil)) (pg_tupK K rfl rfl (pgs_cons (pg_name (i := 5) sc_law_model_work.nd rfl (Or.inl rfl)) (pgs_cons (pg_name (i := 6) sc_law_model_work.nd rfl (Or.inl rfl)) pgs_nil)))
        (pss_one (ps_if (pt_cmpR op_eq (pe_ix (ix_tupK K rfl) (pv 6) pe_int (fun _ _ => rfl)) (pv 2) (nomark _)) (pss_one (ps_expr (pe_bmK K rfl PySem.F.plainAttrs_list PySem.F.slot_list_append PySem.F.type_list_append mt_append (pe_ix (ix_listK K rfl) (pe_ix (ix_listK K rfl) (pv 1) pe_int (fun _ _ => rfl)) (pv 5) (fun _ _ => rfl)) (pa_cons (pv 3) pa_nil)))) pss_nil)))
      (PSs.to (pss_cons (ps_expr (pe_bmK K rfl PySem.F.plainAttrs_list PySem.F.slot_list_append PySem.F.type_list_append mt_append (pe_ix (ix_listK K rfl) (pe_ix (ix_listK K rfl) (pv 1) pe_int (fun _ _ => rfl)) (pv 2) (fun _ _ => rfl)) (pa_cons (pv 3) pa_nil)))
      (pss_one (ps_ret (pv 3)))) R2 ?tail2)) R1 ?tail1)), ?_⟩
  case tail2 =>
    rintro D' σ' H1 ⟨eD, v4, v5, v6, rfl, m1, b1⟩
    have v : VM hs bs (2, k) := .inr (.inr ⟨rfl, hk⟩)
    have e2 : putC bs (popC hs bs cn k (srcs hs bs k).length) k (wkV hs bs cn k) (goingN bs k).length (2, k) = cn (2, k) := by
      have n1 : ((2, k) : Sl) ∉ ((goingN bs k).take (goingN bs k).length).map (fun j => ((0, j) : Sl)) := fun z => by
        obtain ⟨x, _, e⟩ := List.mem_map.mp z
        exact absurd (show (0 : Nat) = 2 from congrArg Prod.fst e) (by decide)
      have n2 : ((2, k) : Sl) ∉ (srcs hs bs k).take (srcs hs bs k).length := fun z => by
        rw [List.take_length] at z
        unfold srcs at z
        split at z
        · exact absurd (show (2 : Nat) = 1 from congrArg Prod.fst (List.mem_singleton.mp z)) (by decide)
        · obtain ⟨x, _, e⟩ := List.mem_map.mp z
          exact absurd (show (0 : Nat) = 2 from congrArg Prod.fst e) (by decide)
      show (if _ then _ else _) = _
      rw [if_neg n1]
      show (if _ then _ else _) = _
      rw [if_neg n2]
    obtain ⟨h1, t1⟩ := m1.sl (2, k) v
    rw [e2] at h1
    obtain ⟨m2, b2⟩ := m1.put v (cn (2, k) ++ [wkV hs bs cn k])
    have ln := len _ v
    refine ⟨_, rfl, mp, _, _, _, rfl, rfl, SqL.of m1.hm, atI_nat (j := 2) rfl, _, rfl, l2, _, _, _, rfl, rfl, SqL.of m1.h2, rg_ref hk, .inl ⟨rfl, _, SqL.of h1⟩, _, rfl, A (2, k), _, _, rfl, rfl, h1, by rw [List.length_map]; exact small1000 (by omega), ?_⟩
    refine ⟨_, rfl, ?_⟩
    rw [eD]
    rw [List.map_append] at m2 b2
    exact q _ m2 (b1.trans b2)
  case tail1 =>
    rintro D' σ' H1 ⟨eD, v4, v5, v6, rfl, m1, b1⟩
    have k1 := b1.tk m.own
    have alb1 := alb.imp fun _ _ z => z.keep k1
    refine ⟨_, rfl, r, _, _, _, rfl, rfl, SqT.of (k1 _ _ er), atI_nat (j := 1) rfl, ba, bv, rfl, SqT.of (k1 _ _ eb), for_it (J := IteT K ba bv) (n := bv.length) (fun i σ H5 => ∃ v5 v6 : Option V, σ = [some (.ref r), some (.ref mp), some (nV k), some (.int (wkV hs bs cn k)), v4, v5, v6] ∧ Mdl H5 mp hs bs (putB bs (popC hs bs cn k (srcs hs bs k).length) k (wkV hs bs cn k) i) tm l0 l1 l2 A ∧ Bt tm H1 H5) ⟨v5, v6, rfl, by rw [putB_zero]; exact m1, Bt.refl⟩ ?_ ?_ ?_ ?_⟩
    · rintro i σ H5 hi ⟨v5, v6, rfl, m5, b5⟩
      exact ⟨SqT.of (b5.tk m1.own _ _ (k1 _ _ eb)), hi⟩
    · rintro σ H5 ⟨v5, v6, rfl, m5, b5⟩
      exact ⟨SqT.of (b5.tk m1.own _ _ (k1 _ _ eb)), rfl⟩
    · rintro i x σ H5 H6 hi ⟨v5, v6, rfl, m5, b5⟩ ⟨t, y, rfl, nt, rfl, ey⟩
      obtain ⟨b, ebi, ⟨t2, g, rfl, e1, e2⟩⟩ := alb1.getL ey
      have il := (List.getElem?_eq_some_iff.mp ebi).1
      have u6 := same_new (o := .tup [V.int ((i : Nat) : Int), V.ref t2]) nt
      have ht6 : (upd H5 t (.tup [V.int ((i : Nat) : Int), V.ref t2])) t = some (.tup [V.int ((i : Nat) : Int), V.ref t2]) := upd_same
      have m6 := m5.kp (Kp.same u6)
      have b6 := b5.same u6
      generalize upd H5 t (.tup [V.int ((i : Nat) : Int), V.ref t2]) = H6 at ht6 m6 b6 ⊢
      have v : VM hs bs (0, i) := .inl ⟨rfl, il⟩
      refine ⟨t, _, rfl, SqT.of ht6, rfl, _, _, rfl, _, _, rfl, rfl, ?_⟩
      refine ⟨_, rfl, t2, _, _, _, rfl, rfl, SqT.of (b6.tk m1.own _ _ e1), atI_nat (j := 0) rfl, _, rfl, rfl, _, rfl, if_bl (fun c => ?_) (fun c => ?_)⟩
      · have c : b.one = k := by have := V.int.inj (of_decide_eq_true c); omega
        have cy : bs[i]?.map BR.one = some k := by rw [ebi, ← c]; rfl
        obtain ⟨y1, y2⟩ := putB_yes (cn := popC hs bs cn k (srcs hs bs k).length) (x := wkV hs bs cn k) cy
        obtain ⟨h1, t1⟩ := m6.sl (0, i) v
        rw [y1] at h1
        obtain ⟨m7, b7⟩ := m6.put v (popC hs bs cn k (srcs hs bs k).length (0, i) ++ [wkV hs bs cn k])
        rw [y2] at m7
        rw [List.map_append] at m7 b7
        have ln := lpop _ v
        refine ⟨_, rfl, mp, _, _, _, rfl, rfl, SqL.of m6.hm, atI_nat (j := 0) rfl, _, rfl, l0, _, _, _, rfl, rfl, SqL.of m6.h0, rg_ref il, .inl ⟨rfl, _, SqL.of h1⟩, _, rfl, A (0, i), _, _, rfl, rfl, h1, by rw [List.length_map]; exact small1000 (by omega), ?_⟩
        exact ⟨_, _, rfl, m7, b6.trans b7⟩
      · have c : ¬ b.one = k := fun z => of_decide_eq_false c (by rw [z])
        have cy : ¬ bs[i]?.map BR.one = some k := fun z => c (by rw [ebi] at z; exact Option.some.inj z)
        rw [← putB_no cy] at m6
        exact ⟨_, _, rfl, m6, b6⟩
    · rintro σ H5 ⟨v5, v6, rfl, m5, b5⟩
      rw [lbv, putB_all] at m5
      exact ⟨eD, v4, v5, v6, rfl, m5, b1.trans b5⟩
  refine ⟨_, rfl, r, _, _, _, rfl, rfl, SqT.of er, atI_nat (j := 0) rfl, _, rfl, ha, _, _, _, rfl, rfl, SqT.of eh, atI_nat exk, tk, _, _, _, rfl, rfl, SqT.of k1, atI_nat (j := 0) rfl, (by show 1 ≤ sizeLine; decide), fun o1 no1 => ?_⟩
  have s1 := same_new (o := .tup [V.str "in"]) no1
  refine ⟨_, _, rule_dp (s1 _ _ k2), .tup (SqT.of upd_same) (.cons (.str _) .nil), rule_shaped gk.lay, one_shaped (by decide +kernel), _, rfl, ?_⟩
  rw [rule_eqv, gk.door "in" (.inl rfl)]
  generalize upd H o1 (.tup [V.str "in"]) = H1 at s1 ⊢
  have m1 := m.kp (Kp.same s1)
  by_cases cc : hs[k].wd = "in"
  · have kd : k ∈ doorsOf "in" hs := mem_doors.mpr ⟨_, ehk, cc⟩
    rw [decide_eq_true cc]
    refine if_bl (fun _ => ?_) (fun z => nomatch z)
    have v : VM hs bs (1, k) := .inr (.inl ⟨rfl, hk⟩)
    have es : srcs hs bs k = [(1, k)] := by unfold srcs; rw [if_pos kd]
    obtain ⟨x0, r0, e0⟩ := some1 (1, k) (by rw [es]; exact List.mem_singleton.mpr rfl)
    obtain ⟨h1, t1⟩ := m1.sl (1, k) v
    obtain ⟨m2, b2⟩ := m1.put v (cn (1, k)).tail
    rw [e0] at h1 m2 b2
    have ev : wkV hs bs cn k = x0 := by
      unfold wkV
      rw [if_pos kd, e0]
      rfl
    have ep : popC hs bs cn k (srcs hs bs k).length = putS cn (1, k) r0 := by
      funext s
      unfold popC putS
      rw [List.take_length, es]
      by_cases z : s = (1, k)
      · rw [if_pos (List.mem_singleton.mpr z), if_pos z, z, e0]; rfl
      · rw [if_neg (fun y => z (List.mem_singleton.mp y)), if_neg z]
    refine ⟨_, rfl, mp, _, _, _, rfl, rfl, SqL.of m1.hm, atI_nat (j := 1) rfl, _, rfl, l1, _, _, _, rfl, rfl, SqL.of m1.h1, rg_ref hk, .inl ⟨rfl, _, SqL.of h1⟩, A (1, k), _, 0, 0, .int x0, rfl, rfl, h1, by decide, by decide, ?_, rfl, ?_⟩
    · rw [seqIndex_of (by decide) (by show (0 : Int) < (((V.int x0 :: r0.map V.int).length : Nat) : Int); rw [List.length_cons]; omega)]
      rfl
    · refine ⟨rfl, _, _, _, by rw [ev]; rfl, ?_, (Bt.refl.same s1).trans b2⟩
      rw [ep]
      exact m2
  · have kd : k ∉ doorsOf "in" hs := fun z => by
      obtain ⟨h, e, w1⟩ := mem_doors.mp z
      rw [ehk] at e
      exact cc (by rw [Option.some.inj e]; exact w1)
    rw [decide_eq_false cc]
    refine if_bl (fun z => nomatch z) (fun _ => ?_)
    have t0 : TK H H1 := TK.same s1
    have alb1 := alb.imp fun _ _ z => z.keep t0
    have bown : ∀ {H5 : Hp} {D : Addr} {o : HO}, Bt tm H1 H5 → H1 D = none → Bt tm H1 (upd H5 D o) := fun b nD x o e n => by
      rw [upd_ne (ne_of_none e nD)]; exact b x o e n
    refine ⟨_, rfl, r, _, _, _, rfl, rfl, SqT.of (s1 _ _ er), atI_nat (j := 1) rfl, ba, bv, rfl, SqT.of (s1 _ _ eb), fun D nD => lc_it (J := IteT K ba bv) (n := bv.length) (fun i H5 => H5 D = some (.lst ((((List.range i).filter fun j => decide (bs[j]?.map BR.to = some k)).map fun j => (cn (0, j)).getD 0 0).map V.int)) ∧ Mdl H5 mp hs bs (popB bs cn k i) tm l0 l1 l2 A ∧ Bt tm H1 H5) ⟨upd_same, by rw [popB_zero]; exact m1.kp (Kp.same (same_new nD)), Bt.refl.same (same_new nD)⟩ ?_ ?_ ?_ ?_⟩
    · rintro i H5 hi ⟨hD, m5, b5⟩
      exact ⟨SqT.of (b5.tk m1.own _ _ (s1 _ _ eb)), hi⟩
    · rintro H5 ⟨hD, m5, b5⟩
      exact ⟨SqT.of (b5.tk m1.own _ _ (s1 _ _ eb)), rfl⟩
    · rintro i x H5 H6 hi ⟨hD, m5, b5⟩ ⟨t, y, rfl, nt, rfl, ey⟩
      obtain ⟨b, ebi, ⟨t2, g, rfl, e1, e2⟩⟩ := alb1.getL ey
      have il := (List.getElem?_eq_some_iff.mp ebi).1
      have tD : tm D = none := m1.own.free nD
      have u6 := same_new (o := .tup [V.int ((i : Nat) : Int), V.ref t2]) nt
      have ht6 : (upd H5 t (.tup [V.int ((i : Nat) : Int), V.ref t2])) t = some (.tup [V.int ((i : Nat) : Int), V.ref t2]) := upd_same
      have m6 := m5.kp (Kp.same u6)
      have b6 := b5.same u6
      have hD6 := u6 _ _ hD
      generalize upd H5 t (.tup [V.int ((i : Nat) : Int), V.ref t2]) = H6 at ht6 m6 b6 hD6 ⊢
      have v : VM hs bs (0, i) := .inl ⟨rfl, il⟩
      have few := filt_len (p := fun j => decide (bs[j]?.map BR.to = some k)) i
      refine ⟨t, _, rfl, SqT.of ht6, rfl, _, _, rfl, _, _, rfl, rfl, rfl, _, rfl, t2, _, _, _, rfl, rfl, SqT.of (b6.tk m1.own _ _ e1), atI_nat (j := 1) rfl, _, rfl, rfl, _, rfl, if_bl (fun c => ?_) (fun c => ?_)⟩
      · have c : b.to = k := by have := V.int.inj (of_decide_eq_true c); omega
        have cy : bs[i]?.map BR.to = some k := by rw [ebi, ← c]; rfl
        obtain ⟨y1, y2⟩ := popB_yes (cn := cn) cy
        have sm : ((0, i) : Sl) ∈ srcs hs bs k := by
          unfold srcs
          rw [if_neg kd]
          exact List.mem_map.mpr ⟨i, List.mem_filter.mpr ⟨List.mem_range.mpr il, decide_eq_true cy⟩, rfl⟩
        obtain ⟨x0, r0, e0⟩ := some1 _ sm
        obtain ⟨h1, t1⟩ := m6.sl (0, i) v
        rw [y1, e0] at h1
        obtain ⟨m7, b7⟩ := m6.put v (cn (0, i)).tail
        rw [y2] at m7
        rw [e0] at m7 b7
        have hD7 := b7 _ _ hD6 tD
        refine ⟨_, rfl, mp, _, _, _, rfl, rfl, SqL.of m6.hm, atI_nat (j := 0) rfl, _, rfl, l0, _, _, _, rfl, rfl, SqL.of m6.h0, rg_ref il, .inl ⟨rfl, _, SqL.of h1⟩, A (0, i), _, 0, 0, .int x0, rfl, rfl, h1, by decide, by decide, ?_, rfl, _, hD7, by rw [List.length_map, List.length_map]; exact small1000 (by omega), ?_, m7.kp (Kp.lst hD7 tD), bown (b6.trans b7) nD⟩
        · rw [seqIndex_of (by decide) (by show (0 : Int) < (((V.int x0 :: r0.map V.int).length : Nat) : Int); rw [List.length_cons]; omega)]
          rfl
        · rw [upd_same, filt_succ, if_pos (decide_eq_true cy), List.map_append, List.map_append]
          show _ = some (HO.lst (_ ++ [V.int ((cn (0, i)).getD 0 0)]))
          rw [e0]
          rfl
      · have c : ¬ b.to = k := fun z => of_decide_eq_false c (by rw [z])
        have cy : ¬ bs[i]?.map BR.to = some k := fun z => c (by rw [ebi] at z; exact Option.some.inj z)
        rw [← popB_no cy] at m6
        refine ⟨?_, m6, b6⟩
        rw [filt_succ, if_neg fun z => cy (of_decide_eq_true z), List.append_nil]
        exact hD6
    · rintro H2 ⟨hD, m2, b2⟩
      rw [lbv] at hD m2
      rw [popB_all kd] at m2
      have hD : H2 D = some (.lst (((comingN bs k).map fun j => (cn (0, j)).getD 0 0).map V.int)) := hD
      have K2 : TK H H2 := t0.trans (b2.tk m1.own)
      have ev : wkV hs bs cn k = mkR hs[k] ((comingN bs k).map fun j => (cn (0, j)).getD 0 0) := by
        unfold wkV
        rw [if_neg kd, ehk]
      refine ⟨_, rfl, r, _, _, _, rfl, rfl, SqT.of (K2 _ _ er), atI_nat (j := 0) rfl, _, rfl, ha, _, _, _, rfl, rfl, SqT.of (K2 _ _ eh), atI_nat exk, tk, _, _, _, rfl, rfl, SqT.of (K2 _ _ k1), atI_nat (j := 0) rfl, _, rfl, rk, D, hs[k], (comingN bs k).map fun j => (cn (0, j)).getD 0 0, rfl, K2 _ _ k2, hD, gk, cc, by rw [List.length_map]; exact coming_need ok ehk, fun H3 s3 => ?_⟩
      exact ⟨rfl, _, _, _, by rw [ev]; rfl, m2.kp (Kp.same s3), ((Bt.refl.same s1).trans b2).same s3⟩
end
/-! ### a work refused -/
section
variable {P : Program} {w : World} {K : PySem.W.Frag} {mg : Str → Option Value} {base : Heap}
def sp_law_refused (K : PySem.W.Frag) (C : Addr) : Sp := fun vs H Q _ => ∃ (F : Addr) (hs : List HR) (bs : List BR) (cn : Sl → List Int) (tg : Addr → Option Sl) (k : Nat), vs = [.ref F, nV k] ∧ FlAt C H F hs bs cn tg ∧ RoomOk hs bs ∧ k < hs.length ∧ (∀ s, VS hs bs s → (cn s).length ≤ 900) ∧ rdy hs bs cn k = false ∧ ∀ H', Same H H' → Q (.bl true) H'
theorem ok_law_refused {f : Addr} {fd : FuncData} (F : Fun K "_law_refused" "_law_refused" s_law_refused f fd) {C : Addr} (T : Top K mg C) : FnOk P w K mg base CX0 7 f fd ["_law_floor", "_law_k"] (sp_law_refused K C) := by
  obtain ⟨f_Floor_work, fd_Floor_work, F_Floor_work, b_Floor_work, m_Floor_work⟩ := T.d_Floor_work
  have G_Floor_work := ok_Floor_work (P := P) (w := w) (base := base) F_Floor_work T
  obtain ⟨f_law_alike, fd_law_alike, F_law_alike, b_law_alike, m_law_alike⟩ := T.d_law_alike
  have G_law_alike := ok_law_alike (P := P) (w := w) (base := base) F_law_alike T
  obtain ⟨fdI, N⟩ := T.x_ns
  have GI := ok_NsInit (P := P) (w := w) (base := base) N
  refine F.ok sc_law_refused (fun vs H Q E h => ?_) (fun cdv A outer s H vs Q E hr h => ?_)
  · obtain ⟨F, hs, bs, cn, tg, k, rfl, _⟩ := h
    rfl
  obtain ⟨F, hs, bs, cn, tg, k, rfl, fa, ok, hk, len, rd, q⟩ := h
  obtain ⟨p, a⟩ := fa.b
  refine ⟨_, (pss_cons (ps_set (i := 2) sc_law_refused.nd rfl (Or.inl rfl) pe_bl)
      (pss_cons (L2N.ps_try_as (i := 3) rfl rfl sc_law_refused.nd rfl rfl ⟨rfl, by decide, .inl N.gB⟩ takesN
        (fun W pn xe tk _ => (pss_one (ps_expr (pe_methX (pv 0) T.cl m_Floor_work G_Floor_work (hr.mono (by decide)) b_Floor_work (fun σ => L2N.passAt tk σ) (pa_cons (pv 1) pa_nil)))))
        (fun a oe cls d pn hz hf => (pss_one (ps_if (PW.pt (pw_and (pt_val (pe_callB (call_isF N.is_ hz.zc hf) (by rfl) T.m_isinstance (by decide +kernel) (pa_cons (pv 3) (pa_cons (pe_glob (v := .ref (He.ga K "NotReady")) (by rfl) N.gC rfl) pa_nil)))) (pw_and1 (pt_val (pe_callB (call_isF N.is_ hz.zc hf) (by rfl) T.m_isinstance (by decide +kernel) (pa_cons (pv 3) (pa_cons (pe_bltn (v := .ty "ValueError") (by rfl) T.m_ValueError (by decide +kernel) rfl) pa_nil))))))) (pss_one (ps_set (i := 2) sc_law_refused.nd rfl (Or.inl rfl) (pe_and (L2H.pe_callH (E := fun _ => E0) (ok_hot60 (P := P) (w := w) (base := base) F_law_alike T) (L2H.roomH_mark (hr.mono (show 1 ≤ 6 by decide)) _) (hot60 hz hf) (by rfl) m_law_alike F_law_alike.kp b_law_alike (fun _ _ _ _ _ _ _ h => h.elim) (pa_cons (pe_xf N.xf N.nh hz.zc hf (pv 3)) (pa_cons (pv 1) pa_nil))) (pe_one (pe_not (pe_callB (call_isFT N.is_ hz.zc hf) (by rfl) T.m_isinstance (by decide +kernel) (pa_cons (pv 3) (pa_cons (pe_tup (pa_cons (pe_glob (v := .ref (He.ga K "NoText")) (by rfl) T.x_NoText rfl) (pa_cons (pe_glob (v := .ref (He.ga K "NoRoom")) (by rfl) T.x_NoRoom rfl) (pa_cons (pe_glob (v := .ref (He.ga K "NoFormula")) (by rfl) T.x_NoFormula rfl) (pa_cons (pe_glob (v := .ref (He.ga K "NoShift")) (by rfl) T.x_NoShift rfl) (pa_cons (pe_glob (v := .ref (He.ga K "NoName")) (by rfl) T.x_NoName rfl) (pa_cons (pe_glob (v := .ref (He.ga K "NoRow")) (by rfl) T.x_NoRow rfl) pa_nil))))))) pa_nil)))))))) pss_nil))))
      (pss_one (ps_ret (pv 2))))), ?_⟩
  refine ⟨_, rfl, F, p.dx, _, rfl, a.hF, rfl, _, rfl, ?_⟩
  dsimp only [tNil]
  refine ⟨F, hs, bs, cn, tg, k, rfl, fa, ok, hk, len, (fun z => by rw [rd] at z; cases z), fun _ d H1 hd s1 => ?_⟩
  refine ⟨true, N.te, fun _ x nx => ?_, fun z => nomatch z⟩
  refine ⟨_, rfl, rfl, ⟨d, _, rfl, hd⟩, V.ref (nrA K), .ref (nrA K), true, rfl, fun u r => r, N.k1, _, rfl, if_bl (fun _ => ?_) (fun z => nomatch z)⟩
  refine ⟨_, rfl, rfl, ⟨d, _, rfl, hd⟩, V.ty "ValueError", .type "ValueError", true, rfl, fun u r => r, N.k2, _, rfl, if_bl (fun _ => ?_) (fun z => nomatch z)⟩
  refine ⟨_, rfl, rfl, rfl, d, _, nV k, rfl, hd, rfl, _, rfl, ?_⟩
  dsimp only [tNil]
  refine ⟨_, rfl, fun H2 s2 => ?_⟩
  refine ⟨_, rfl, if_bl (fun _ => ?_) (fun z => nomatch z)⟩
  refine ⟨_, rfl, (by show 6 ≤ sizeLine; decide), fun tp ntp => ?_⟩
  have u1 := same_new (o := .tup [V.ref (He.ga K "NoText"), V.ref (He.ga K "NoRoom"), V.ref (He.ga K "NoFormula"), V.ref (He.ga K "NoShift"), V.ref (He.ga K "NoName"), V.ref (He.ga K "NoRow")]) ntp
  refine ⟨rfl, ⟨d, _, rfl, u1 _ _ (s2 _ _ hd)⟩, tp, _, _, false, rfl, upd_same, .cons (.own _) (.cons (.own _) (.cons (.own _) (.cons (.own _) (.cons (.own _) (.cons (.own _) .nil))))), N.ko, _, rfl, ?_⟩
  exact ⟨_, rfl, q _ ((s1.trans s2).trans u1)⟩
end
/-! ### a deed, by the Floor and by the law's own lists -/
structure Both (C : Addr) (H : Hp) (f c r F mp : Addr) (hs : List HR) (bs : List BR) (cn : Sl → List Int) (tg tm : Addr → Option Sl) (l0 l1 l2 : Addr) (A : Sl → Addr) : Prop where
  fl : Flow H f c
  hR : RoomAt H r hs bs
  ok : RoomOk hs bs
  pos : 0 < hs.length
  fa : FlAt C H F hs bs cn tg
  m : Mdl H mp hs bs cn tm l0 l1 l2 A
  ds : Ds tg tm
  tf : tg f = none
  tc : tg c = none
  mf : tm f = none
  mc : tm c = none
theorem FlAt.tg {C : Addr} {H : Hp} {F : Addr} {hs : List HR} {bs : List BR} {cn : Sl → List Int} {tg : Addr → Option Sl} (a : FlAt C H F hs bs cn tg) : Tg H tg := by
  obtain ⟨p, b⟩ := a.b
  exact b.own
section
variable {C : Addr} {H H' : Hp} {f c r F mp l0 l1 l2 : Addr} {hs : List HR} {bs : List BR} {cn cn' : Sl → List Int} {tg tm : Addr → Option Sl} {A : Sl → Addr}
theorem Both.same (b : Both C H f c r F mp hs bs cn tg tm l0 l1 l2 A) (s : Same H H') : Both C H' f c r F mp hs bs cn tg tm l0 l1 l2 A :=
  { b with fl := b.fl.same s, hR := b.hR.keep (TK.same s), fa := b.fa.kp (Kp.same s), m := b.m.kp (Kp.same s) }
theorem Both.pick (b : Both C H f c r F mp hs bs cn tg tm l0 l1 l2 A) (F' : Flow H' f c) (u : But f H H') : Both C H' f c r F mp hs bs cn tg tm l0 l1 l2 A :=
  { b with fl := F', hR := b.hR.keep (TK.but b.fl u), fa := b.fa.kp (Kp.but b.fl u b.tf), m := b.m.kp (Kp.but b.fl u b.mf) }
theorem Both.mf_ {H1 : Hp} (b : Both C H f c r F mp hs bs cn tg tm l0 l1 l2 A) (m1 : Mdl H1 mp hs bs cn' tm l0 l1 l2 A) (b1 : Bt tm H H1) (fa2 : FlAt C H' F hs bs cn' tg) (b2 : Bt tg H1 H') : Both C H' f c r F mp hs bs cn' tg tm l0 l1 l2 A := by
  have g1 := (b.fa.kp (b.ds.model b.m.own b1)).tg
  exact ⟨b2.flow (b1.flow b.fl b.mf b.mc) b.tf b.tc, (b.hR.keep (b1.tk b.m.own)).keep (b2.tk g1), b.ok, b.pos, fa2, m1.kp (b.ds.floor g1 b2), b.ds, b.tf, b.tc, b.mf, b.mc⟩
theorem Both.fm_ {H1 : Hp} (b : Both C H f c r F mp hs bs cn tg tm l0 l1 l2 A) (fa1 : FlAt C H1 F hs bs cn' tg) (b1 : Bt tg H H1) (m2 : Mdl H' mp hs bs cn' tm l0 l1 l2 A) (b2 : Bt tm H1 H') : Both C H' f c r F mp hs bs cn' tg tm l0 l1 l2 A := by
  have g1 := (b.m.kp (b.ds.floor b.fa.tg b1)).own
  exact ⟨b2.flow (b1.flow b.fl b.tf b.tc) b.mf b.mc, (b.hR.keep (b1.tk b.fa.tg)).keep (b2.tk g1), b.ok, b.pos, fa1.kp (b.ds.model g1 b2), m2, b.ds, b.tf, b.tc, b.mf, b.mc⟩
end
theorem sum_ge {xs : List Int} (h : ∀ x ∈ xs, 0 ≤ x) : 0 ≤ xs.sum := by
  induction xs with
  | nil => exact Int.le_refl _
  | cons x xs ih =>
    have h1 := h x (List.mem_cons_self ..)
    have h2 := ih fun y hy => h y (List.mem_cons_of_mem _ hy)
    rw [List.sum_cons]
    omega
/-- lists grow by one at most -/
def Grow (cn cn' : Sl → List Int) : Prop := ∀ s, (cn' s).length ≤ (cn s).length + 1
theorem grow_give {cn : Sl → List Int} {s : Sl} {z : Int} : Grow cn (putS cn s (cn s ++ [z])) := fun u => by
  unfold putS
  split
  · rename_i e
    rw [e, List.length_append]
    exact Nat.le_refl _
  · omega
theorem grow_work {hs : List HR} {bs : List BR} {cn : Sl → List Int} {k : Nat} : Grow cn (wkC hs bs cn k) := fun u => by
  have p : ∀ i s, (popC hs bs cn k i s).length ≤ (cn s).length := fun i s => by
    unfold popC
    split
    · exact len_ge
    · exact Nat.le_refl _
  have g : ∀ z i s, (putC bs (popC hs bs cn k (srcs hs bs k).length) k z i s).length ≤ (cn s).length + 1 := fun z i s => by
    have := p (srcs hs bs k).length s
    unfold putC
    split
    · rw [List.length_append]
      show _ + 1 ≤ _
      omega
    · omega
  unfold wkC putS
  split
  · rename_i e
    rw [e, List.length_append]
    exact Nat.le_refl _
  · exact g _ _ u
theorem door_lt60 {hs : List HR} {z : Str} {k : Nat} (h : k ∈ doorsOf z hs) : k < hs.length := by
  obtain ⟨_, e, _⟩ := mem_doors.mp h
  exact (List.getElem?_eq_some_iff.mp e).1
theorem nats_flat (ns : List Nat) : (ns.map nV).all flatV = true := List.all_eq_true.mpr fun x hx => by
  obtain ⟨n, _, rfl⟩ := List.mem_map.mp hx
  rfl
theorem inV_nats {ns : List Nat} {k : Nat} : inV (nV k) (ns.map nV) = true ↔ k ∈ ns := by
  unfold inV
  rw [List.any_eq_true]
  constructor
  · rintro ⟨x, hx, e⟩
    obtain ⟨n, hn, rfl⟩ := List.mem_map.mp hx
    have e : (((n : Nat) : Int) == ((k : Nat) : Int)) = true := e
    have : n = k := by have := eq_of_beq e; omega
    rw [← this]; exact hn
  · exact fun h => ⟨nV k, List.mem_map.mpr ⟨k, h, rfl⟩, (show (((k : Nat) : Int) == ((k : Nat) : Int)) = true from beq_self_eq_true _)⟩
theorem in_nats {ns : List Nat} {k : Nat} : (nV k ∈ ns.map nV) ↔ k ∈ ns := by
  constructor
  · intro h
    obtain ⟨x, hx, e⟩ := List.mem_map.mp h
    have : x = k := by have := V.int.inj e; omega
    rw [← this]; exact hx
  · exact fun h => List.mem_map.mpr ⟨k, h, rfl⟩
/-- all else stands -/
def Fr (tg tm : Addr → Option Sl) (f : Addr) (H H' : Hp) : Prop := ∀ b o, H b = some o → tg b = none → tm b = none → b ≠ f → H' b = some o
section
variable {tg tm : Addr → Option Sl} {f : Addr} {H H1 H2 : Hp}
theorem Fr.refl : Fr tg tm f H H := fun _ _ e _ _ _ => e
theorem Fr.same (a : Fr tg tm f H H1) (s : Same H1 H2) : Fr tg tm f H H2 := fun b o e t m n => s _ _ (a b o e t m n)
theorem Fr.but (a : Fr tg tm f H H1) (s : But f H1 H2) : Fr tg tm f H H2 := fun b o e t m n => s _ _ (a b o e t m n) n
theorem Fr.gt (a : Fr tg tm f H H1) (s : Bt tg H1 H2) : Fr tg tm f H H2 := fun b o e t m n => s _ _ (a b o e t m n) t
theorem Fr.mt (a : Fr tg tm f H H1) (s : Bt tm H1 H2) : Fr tg tm f H H2 := fun b o e t m n => s _ _ (a b o e t m n) m
end
section
variable {P : Program} {w : World} {K : PySem.W.Frag} {mg : Str → Option Value} {base : Heap}
def sp_law_deed_right (K : PySem.W.Frag) (C : Addr) : Sp := fun vs H Q _ => ∃ (f c r F mp : Addr) (hs : List HR) (bs : List BR) (cn : Sl → List Int) (tg tm : Addr → Option Sl) (l0 l1 l2 : Addr) (A : Sl → Addr), vs = [.ref f, .ref r, .ref F, .ref mp] ∧ Both C H f c r F mp hs bs cn tg tm l0 l1 l2 A ∧ (∀ s, (cn s).length ≤ 800) ∧
  ∀ (cn' : Sl → List Int) (H' : Hp), Both C H' f c r F mp hs bs cn' tg tm l0 l1 l2 A → Grow cn cn' → Fr tg tm f H H' → Q (.bl true) H'
theorem ok_law_deed_right {f : Addr} {fd : FuncData} (F : Fun K "_law_deed_right" "_law_deed_right" s_law_deed_right f fd) {C : Addr} (T : Top K mg C) : FnOk P w K mg base CX0 8 f fd ["_law_flow_here", "_law_room_here", "_law_floor", "_law_model_here"] (sp_law_deed_right K C) := by
  obtain ⟨f_law_doors, fd_law_doors, F_law_doors, b_law_doors, m_law_doors⟩ := T.d_law_doors
  have G_law_doors := ok_law_doors (P := P) (w := w) (base := base) F_law_doors T
  obtain ⟨f_law_model_ready, fd_law_model_ready, F_law_model_ready, b_law_model_ready, m_law_model_ready⟩ := T.d_law_model_ready
  have G_law_model_ready := ok_law_model_ready (P := P) (w := w) (base := base) F_law_model_ready T
  obtain ⟨f_law_pick, fd_law_pick, F_law_pick, b_law_pick, m_law_pick⟩ := T.d_law_pick
  have G_law_pick := ok_law_pick (P := P) (w := w) (base := base) F_law_pick T
  obtain ⟨f_law_alike, fd_law_alike, F_law_alike, b_law_alike, m_law_alike⟩ := T.d_law_alike
  have G_law_alike := ok_law_alike (P := P) (w := w) (base := base) F_law_alike T
  obtain ⟨f_Floor_work, fd_Floor_work, F_Floor_work, b_Floor_work, m_Floor_work⟩ := T.d_Floor_work
  have G_Floor_work := ok_Floor_work (P := P) (w := w) (base := base) F_Floor_work T
  obtain ⟨f_Floor_give, fd_Floor_give, F_Floor_give, b_Floor_give, m_Floor_give⟩ := T.d_Floor_give
  have G_Floor_give := ok_Floor_give (P := P) (w := w) (base := base) F_Floor_give T
  obtain ⟨f_law_refused, fd_law_refused, F_law_refused, b_law_refused, m_law_refused⟩ := T.d_law_refused
  have G_law_refused := ok_law_refused (P := P) (w := w) (base := base) F_law_refused T
  obtain ⟨f_law_model_work, fd_law_model_work, F_law_model_work, b_law_model_work, m_law_model_work⟩ := T.d_law_model_work
  have G_law_model_work := ok_law_model_work (P := P) (w := w) (base := base) F_law_model_work T
  obtain ⟨f_law_thing, fd_law_thing, F_law_thing, b_law_thing, m_law_thing⟩ := T.d_law_thing
  have G_law_thing := ok_law_thing (P := P) (w := w) (base := base) F_law_thing T
  refine F.ok sc_law_deed_right (fun vs H Q E h => ?_) (fun cdv A outer s H vs Q E hr h => ?_)
  · obtain ⟨f, c, r, F, mp, hs, bs, cn, tg, tm, l0, l1, l2, A, rfl, _⟩ := h
    rfl
  obtain ⟨f, c, r, F, mp, hs, bs, cn, tg, tm, l0, l1, l2, A, rfl, B, len, q⟩ := h
  have lh := B.ok.hands
  have lb := B.ok.many
  have pos := B.pos
  let sg : Option V → Option V → Option V → Option V → Option V → L2.St := fun v4 v5 v6 v7 v8 => [some (.ref f), some (.ref r), some (.ref F), some (.ref mp), v4, v5, v6, v7, v8]
  let R1 : TS := fun D' σ' H' => D'.rt = Q ∧ ∃ v4 v5 v6 v7 : Option V, σ' = sg v4 v5 v6 v7 none ∧ Both C H' f c r F mp hs bs cn tg tm l0 l1 l2 A ∧ Fr tg tm f H H'
  let R2 : TS := fun D' σ' H' => D'.rt = Q ∧ ∃ (v4 v5 v7 : Option V) (k : Nat) (D : Addr), σ' = sg v4 v5 (some (nV k)) v7 (some (.ref D)) ∧ Both C H' f c r F mp hs bs cn tg tm l0 l1 l2 A ∧ k < hs.length ∧ H' D = some (.lst (((List.range hs.length).filter (rdy hs bs cn)).map nV)) ∧ Fr tg tm f H H'
  refine ⟨_, (pss_cons (ps_set (i := 4) sc_law_deed_right.nd rfl (Or.inl rfl) (pe_call G_law_doors (hr.mono (by decide)) (by rfl) m_law_doors F_law_doors.kp b_law_doors .nil pass0 (pa_cons (pv 1) (pa_cons pe_str pa_nil))))
      (pss_cons (ps_if (PW.pt (pw_and (pt_cmpR op_gt (pe_callB (call_len_seqK K rfl) (by rfl) T.m_len (by decide +kernel) (pa_cons (pv 4) pa_nil)) pe_int (nomark _)) (pw_and (pt_cmpR op_lt (pe_callB (cr_sumK K rfl rfl) (by rfl) T.m_sum (by decide +kernel) (pa_cons (pe_lc (own := [("_law_one", 5)]) (g := gName 5) (tt := tYes) (by rfl) sc_law_deed_right.nd (pi_listK K rfl (pe_ix (ix_listK K rfl) (pv 3) pe_int (fun _ _ => rfl))) (blkOk_by (own := [("_law_one", 5)]) (N := N_law_deed_right) (sc := defScope s_law_deed_right) (by decide +kernel)) (fun _ _ _ _ _ => (pg_name (i := 5) sc_law_deed_right.nd rfl (Or.inl rfl))) (fun _ _ _ _ _ => pts_nil) (fun _ _ _ _ _ => (pe_callB (call_len_seqK K rfl) (by rfl) T.m_len (by decide +kernel) (pa_cons (pv 5) pa_nil)))) pa_nil)) pe_int (nomark _)) (pw_and1 (pt_cmpR op_eq (pe_call G_law_pick (hr.mono (by decide)) (by rfl) m_law_pick F_law_pick.kp b_law_pick .nil pass0 (pa_cons (pv 0) (pa_cons pe_int pa_nil))) pe_int (nomark _)))))) (pss_cons (ps_par (i := 6) (j := 7) rfl sc_law_deed_right.nd rfl rfl (by decide) rfl rfl (pa_cons (pe_ix (ix_listK K rfl) (pv 4) (pe_call G_law_pick (hr.mono (by decide)) (by rfl) m_law_pick F_law_pick.kp b_law_pick .nil pass0 (pa_cons (pv 0) (pa_cons (pe_callB (call_len_seqK K rfl) (by rfl) T.m_len (by decide +kernel) (pa_cons (pv 4) pa_nil)) pa_nil))) (fun _ _ => rfl)) (pa_cons (pe_call G_law_thing (hr.mono (by decide)) (by rfl) m_law_thing F_law_thing.kp b_law_thing .nil pass0 (pa_cons (pv 0) pa_nil)) pa_nil)) (by rfl))
      (pss_cons (ps_expr (pe_bmK K rfl PySem.F.plainAttrs_list PySem.F.slot_list_append PySem.F.type_list_append mt_append (pe_ix (ix_listK K rfl) (pe_ix (ix_listK K rfl) (pv 3) pe_int (fun _ _ => rfl)) (pv 6) (fun _ _ => rfl)) (pa_cons (pv 7) pa_nil)))
      (pss_one (ps_ret (pe_cmpR op_isN (pe_meth (pv 2) T.cl m_Floor_give G_Floor_give (hr.mono (by decide)) b_Floor_give .nil pass0 (pa_cons (pv 6) (pa_cons (pv 7) pa_nil))) pe_non (nomark _)))))) pss_nil)
      (PSs.to (pss_cons (ps_set (i := 8) sc_law_deed_right.nd rfl (Or.inl rfl) (pe_call G_law_model_ready (hr.mono (by decide)) (by rfl) m_law_model_ready F_law_model_ready.kp b_law_model_ready .nil pass0 (pa_cons (pv 1) (pa_cons (pv 3) pa_nil))))
      (pss_cons (ps_set (i := 6) sc_law_deed_right.nd rfl (Or.inl rfl) (pe_call G_law_pick (hr.mono (by decide)) (by rfl) m_law_pick F_law_pick.kp b_law_pick .nil pass0 (pa_cons (pv 0) (pa_cons (pe_callB (call_len_seqK K rfl) (by rfl) T.m_len (by decide +kernel) (pa_cons (pe_ix (ix_tupK K rfl) (pv 1) pe_int (fun _ _ => rfl)) pa_nil)) pa_nil))))
      (pss_cons (ps_if (PW.pt (pw_and (pt_cmpR op_gt (pe_callB (call_len_seqK K rfl) (by rfl) T.m_len (by decide +kernel) (pa_cons (pv 8) pa_nil)) pe_int (nomark _)) (pw_and1 (pt_cmpR op_gt (pe_call G_law_pick (hr.mono (by decide)) (by rfl) m_law_pick F_law_pick.kp b_law_pick .nil pass0 (pa_cons (pv 0) (pa_cons pe_int pa_nil))) pe_int (nomark _))))) (pss_one (ps_set (i := 6) sc_law_deed_right.nd rfl (Or.inl rfl) (pe_ix (ix_listK K rfl) (pv 8) (pe_call G_law_pick (hr.mono (by decide)) (by rfl) m_law_pick F_law_pick.kp b_law_pick .nil pass0 (pa_cons (pv 0) (pa_cons (pe_callB (call_len_seqK K rfl) (by rfl) T.m_len (by decide +kernel) (pa_cons (pv 8) pa_nil)) pa_nil))) (fun _ _ => rfl)))) pss_nil)
      (PSs.to (pss_cons (ps_if (pt_cmpR (op_notIn_seqK K rfl) (pv 6) (pv 8) (by with_unfolding_all rfl)) (pss_one (ps_ret (pe_call G_law_refused (hr.mono (by decide)) (by rfl) m_law_refused F_law_refused.kp b_law_refused .nil pass0 (pa_cons (pv 2) (pa_cons (pv 6) pa_nil))))) pss_nil)
      (pss_one (ps_ret (pe_call G_law_alike (hr.mono (by decide)) (by rfl) m_law_alike F_law_alike.kp b_law_alike .nil pass0 (pa_cons (pe_methX (pv 2) T.cl m_Floor_work G_Floor_work (hr.mono (by decide)) b_Floor_work (fun σ => L2N.passAt takesN σ) (pa_cons (pv 6) pa_nil)) (pa_cons (pe_call G_law_model_work (hr.mono (by decide)) (by rfl) m_law_model_work F_law_model_work.kp b_law_model_work .nil pass0 (pa_cons (pv 1) (pa_cons (pv 3) (pa_cons (pv 6) pa_nil)))) pa_nil)))))) R2 ?tail2)))) R1 ?tail1))), ?_⟩
  case tail2 =>
    rintro D' σ' H1 ⟨eD, v4, v5, v7, k, D, rfl, B1, hk, hD, fr⟩
    have iv := inV_nats (k := k) (ns := (List.range hs.length).filter (rdy hs bs cn))
    obtain ⟨p, a⟩ := B1.fa.b
    refine ⟨_, rfl, _, rfl, D, _, rfl, .inl (SqL.of hD), rfl, nats_flat _, _, rfl, if_bl (fun z => ?_) (fun z => ?_)⟩
    · have rd : rdy hs bs cn k = false := by
        cases e : rdy hs bs cn k with
        | false => rfl
        | true =>
          have z : (!inV (nV k) (((List.range hs.length).filter (rdy hs bs cn)).map nV)) = true := z
          rw [iv.mpr (List.mem_filter.mpr ⟨List.mem_range.mpr hk, e⟩)] at z
          cases z
      refine ⟨_, rfl, _, rfl, F, hs, bs, cn, tg, k, rfl, B1.fa, B1.ok, hk, (fun s _ => Nat.le_trans (len s) (by decide)), rd, fun H2 s2 => ?_⟩
      rw [eD]
      exact q cn H2 (B1.same s2) (fun s => Nat.le_succ _) (fr.same s2)
    · have rd : rdy hs bs cn k = true := by
        have z : (!inV (nV k) (((List.range hs.length).filter (rdy hs bs cn)).map nV)) = false := z
        have z : inV (nV k) (((List.range hs.length).filter (rdy hs bs cn)).map nV) = true := by
          cases e : inV (nV k) (((List.range hs.length).filter (rdy hs bs cn)).map nV) with
          | true => rfl
          | false => rw [e] at z; cases z
        exact (List.mem_filter.mp (iv.mp z)).2
      refine ⟨_, rfl, F, p.dx, _, rfl, a.hF, rfl, _, rfl, ?_⟩
      dsimp only [tNil]
      refine ⟨F, hs, bs, cn, tg, k, rfl, B1.fa, B1.ok, hk, (fun s _ => Nat.le_trans (len s) (by decide)), (fun _ H2 fa2 b2 => ?_), fun z => by rw [rd] at z; cases z⟩
      have m2 := B1.m.kp (B1.ds.floor B1.fa.tg b2)
      refine ⟨_, rfl, _, rfl, _, rfl, r, mp, hs, bs, cn, tm, l0, l1, l2, A, k, rfl, B1.hR.keep (b2.tk B1.fa.tg), B1.ok, m2, hk, rd, (fun s _ => Nat.le_trans (len s) (by decide)), fun H3 m3 b3 => ?_⟩
      refine ⟨_, _, rfl, Al.int, fun H4 s4 => ?_⟩
      rw [eD]
      exact q _ H4 ((B1.fm_ fa2 b2 m3 b3).same s4) grow_work (((fr.gt b2).mt b3).same s4)
  case tail1 =>
    rintro D' σ' H1 ⟨eD, v4, v5, v6, v7, rfl, B1, fr⟩
    refine ⟨_, rfl, _, rfl, r, mp, hs, bs, cn, tm, l0, l1, l2, A, rfl, B1.hR, B1.ok, B1.m, fun D H2 nD hD s2 => ?_⟩
    have B2 := B1.same s2
    have Df : D ≠ f := B1.fl.ne nD
    obtain ⟨ha, ba, hv, bv, er, eh, eb, alh, alb⟩ := B2.hR.ex
    have lhv := alh.length
    refine ⟨_, rfl, _, rfl, r, _, _, _, rfl, rfl, SqT.of er, atI_nat (j := 0) rfl, ha, _, rfl, .inr (SqT.of eh), f, c, _, rfl, by omega, log_small (by omega), B2.fl, fun v H3 v0 v1 F3 u3 => ?_⟩
    have B3 := B2.pick F3 u3
    have hD3 := u3 _ _ hD Df
    obtain ⟨k, rfl⟩ : ∃ k : Nat, v = ((k : Nat) : Int) := ⟨v.toNat, by omega⟩
    have hk : k < hs.length := by omega
    refine ⟨_, rfl, D, _, rfl, .inl (SqL.of hD3), _, _, rfl, rfl, _, rfl, if_bl (fun z => ?_) (fun _ => if_bl (fun z => nomatch z) (fun _ => ⟨eD, _, _, _, k, D, rfl, B3, hk, hD3, (fr.same s2).but u3⟩))⟩
    refine ⟨_, rfl, f, c, 3, rfl, by decide, by decide +kernel, B3.fl, fun v H4 v0 v1 F4 u4 => ?_⟩
    have B4 := B3.pick F4 u4
    have hD4 := u4 _ _ hD3 Df
    refine ⟨_, _, rfl, rfl, _, rfl, if_bl (fun _ => ?_) (fun _ => ⟨eD, _, _, _, k, D, rfl, B4, hk, hD4, ((fr.same s2).but u3).but u4⟩)⟩
    have z : (((((List.range hs.length).filter (rdy hs bs cn)).map nV).length : Nat) : Int) > 0 := of_decide_eq_true z
    rw [List.length_map] at z
    have few := filt_len (p := rdy hs bs cn) hs.length
    refine ⟨_, rfl, _, rfl, _, rfl, D, _, rfl, .inl (SqL.of hD4), f, c, ((((List.range hs.length).filter (rdy hs bs cn)).length : Nat) : Int), by rw [List.length_map]; rfl, by omega, log_small (by omega), B4.fl, fun v H5 v0 v1 F5 u5 => ?_⟩
    have B5 := B4.pick F5 u5
    have hD5 := u5 _ _ hD4 Df
    obtain ⟨vn, rfl⟩ : ∃ vn : Nat, v = ((vn : Nat) : Int) := ⟨v.toNat, by omega⟩
    obtain ⟨j, ej⟩ : ∃ j, ((List.range hs.length).filter (rdy hs bs cn))[vn]? = some j := ⟨_, List.getElem?_eq_getElem (by omega)⟩
    have jl := List.mem_range.mp (List.mem_filter.mp (List.mem_of_getElem? ej)).1
    refine ⟨D, _, _, _, rfl, rfl, SqL.of hD5, atI_nat (show (((List.range hs.length).filter (rdy hs bs cn)).map nV)[vn]? = some (nV j) by rw [List.getElem?_map, ej]; rfl), ?_⟩
    exact ⟨eD, _, _, _, j, D, rfl, B5, jl, hD5, (((fr.same s2).but u3).but u4).but u5⟩
  refine ⟨_, rfl, r, hs, bs, "in", rfl, .inl rfl, B.hR, ⟨B.ok.hands, B.ok.good⟩, fun L H1 nL hL s1 => ?_⟩
  have B1 := B.same s1
  have Lf : L ≠ f := B.fl.ne nL
  have Ltm : tm L = none := B.m.own.free nL
  have ld : (doorsOf "in" hs).length ≤ 12 := by
    have := doors_len (z := "in") (hs := hs)
    omega
  refine ⟨_, rfl, L, _, rfl, .inl (SqL.of hL), _, _, rfl, rfl, _, rfl, if_bl (fun z => ?_) (fun _ => if_bl (fun z => nomatch z) (fun _ => ⟨rfl, _, _, _, _, rfl, B1, Fr.refl.same s1⟩))⟩
  have z : ((((doorsOf "in" hs).map nV).length : Nat) : Int) > 0 := of_decide_eq_true z
  rw [List.length_map] at z
  refine ⟨_, rfl, mp, _, _, _, rfl, rfl, SqL.of B1.m.hm, atI_nat (j := 1) rfl, l1, rfl, ⟨_, SqL.of B1.m.h1⟩, fun D nD => lc_list (K := K) (a := l1) (xs := (List.range hs.length).map fun k => V.ref (A (1, k))) (fun i H5 => H5 D = some (.lst (((List.range i).map fun k => (((cn (1, k)).length : Nat) : Int)).map V.int)) ∧ Same H1 H5) ⟨upd_same, same_new nD⟩ (fun i H5 _ ⟨_, s5⟩ => SqL.of (s5 _ _ B1.m.h1)) ?_ ?_⟩
  · rintro i x H5 hx ⟨hD, s5⟩
    rw [List.getElem?_map] at hx
    have il : i < hs.length := by
      refine Classical.byContradiction fun z => ?_
      rw [List.getElem?_eq_none (by rw [List.length_range]; omega)] at hx
      cases hx
    rw [List.getElem?_range il] at hx
    obtain rfl : V.ref (A (1, i)) = x := Option.some.inj hx
    have v : VM hs bs (1, i) := .inr (.inl ⟨rfl, il⟩)
    refine ⟨rfl, yes_in ⟨_, rfl, _, _, rfl, .inl (SqL.of (s5 _ _ (B1.m.sl _ v).1)), _, hD, by rw [List.length_map, List.length_map, List.length_range]; exact small1000 (by omega), ?_, Same.own s5 nD⟩⟩
    rw [upd_same, List.range_succ, List.map_append, List.map_append, List.length_map]
    rfl
  rintro H2 ⟨hD, s2⟩
  have B2 := B1.same s2
  refine ⟨_, _, rfl, SqL.of hD, _, _, rfl, rfl, _, rfl, if_bl (fun _ => ?_) (fun _ => if_bl (fun z => nomatch z) (fun _ => ⟨rfl, _, _, _, _, rfl, B2, (Fr.refl.same s1).same s2⟩))⟩
  refine ⟨_, rfl, f, c, 3, rfl, by decide, by decide +kernel, B2.fl, fun v H3 v0 v1 F3 u3 => ⟨rfl, _, rfl, if_bl (fun _ => ?_) (fun _ => ⟨rfl, _, _, _, _, rfl, B2.pick F3 u3, ((Fr.refl.same s1).same s2).but u3⟩)⟩⟩
  have B3 := B2.pick F3 u3
  have hL3 := u3 _ _ (s2 _ _ hL) Lf
  refine ⟨_, rfl, _, rfl, _, rfl, L, _, rfl, .inl (SqL.of hL3), f, c, (((doorsOf "in" hs).length : Nat) : Int), by rw [List.length_map]; rfl, by omega, log_small (by omega), B3.fl, fun v H4 v0 v1 F4 u4 => ?_⟩
  have B4 := B3.pick F4 u4
  have hL4 := u4 _ _ hL3 Lf
  obtain ⟨vn, rfl⟩ : ∃ vn : Nat, v = ((vn : Nat) : Int) := ⟨v.toNat, by omega⟩
  obtain ⟨k, ek⟩ : ∃ k, (doorsOf "in" hs)[vn]? = some k := ⟨_, List.getElem?_eq_getElem (by omega)⟩
  have kd := List.mem_of_getElem? ek
  have kl := door_lt60 kd
  refine ⟨L, _, _, _, rfl, rfl, SqL.of hL4, atI_nat (show ((doorsOf "in" hs).map nV)[vn]? = some (nV k) by rw [List.getElem?_map, ek]; rfl), _, rfl, f, c, rfl, B4.fl, fun x H5 sx F5 u5 => ?_⟩
  have B5 := B4.pick F5 u5
  have v : VM hs bs (1, k) := .inr (.inl ⟨rfl, kl⟩)
  obtain ⟨h1, t1⟩ := B5.m.sl (1, k) v
  obtain ⟨m6, b6⟩ := B5.m.put v (cn (1, k) ++ [x])
  have ln := len (1, k)
  rw [List.map_append] at m6 b6
  refine ⟨_, _, rfl, ?_⟩
  refine ⟨_, rfl, mp, _, _, _, rfl, rfl, SqL.of B5.m.hm, atI_nat (j := 1) rfl, _, rfl, l1, _, _, _, rfl, rfl, SqL.of B5.m.h1, rg_ref kl, .inl ⟨rfl, _, SqL.of h1⟩, _, rfl, A (1, k), _, _, rfl, rfl, h1, by rw [List.length_map]; exact small1000 (by omega), ?_⟩
  have fa6 := B5.fa.kp (B5.ds.model B5.m.own b6)
  obtain ⟨p, a6⟩ := fa6.b
  refine ⟨_, rfl, F, p.dx, _, rfl, a6.hF, rfl, _, rfl, _, rfl, F, hs, bs, cn, tg, k, x, rfl, fa6, kl, kd, by omega, fun H7 fa7 b7 => ⟨rfl, ?_⟩⟩
  rw [decide_eq_true rfl]
  exact q _ H7 (B5.mf_ m6 b6 fa7 b7) grow_give (((((((Fr.refl.same s1).same s2).but u3).but u4).but u5).mt b6).gt b7)
end
/-! ### the class of own errors, looked at in the head -/
def oexB (K : PySem.W.Frag) (C : Addr) : Bool := match K.lookup C with
  | some o => (match o.cls, o.data, o.slots.toList with
    | .type t, .cls cd, [_, _, _, _, some (.builtin n), _] => decide (t = "type") && (decide (n = "ValueError.__new__") && (!cd.hasDel && (cd.hasDict && (match cd.mro with
      | .ref C' :: bm => decide (C' = C) && PySem.HandSPX.refsVE bm
      | _ => false))))
    | _, _, _ => false)
  | none => false
theorem oexB_ok {K : PySem.W.Frag} {C : Addr} (h : oexB K C = true) : ∃ nm q N bs bm sn sub ab col dd k0 k1 k2 k3 k5, K.lookup C = some (excClassObj nm q C N bs bm true sn sub ab col dd k0 k1 k2 k3 k5 "ValueError.__new__") ∧ PySem.HandSPX.refsVE bm = true := by
  unfold oexB at h
  split at h
  · rename_i o ho
    split at h
    · rename_i t cd k0 k1 k2 k3 n k5 e1 e2 hs
      simp only [Bool.and_eq_true, decide_eq_true_eq, Bool.not_eq_true'] at h
      obtain ⟨q1, q2, q3, q4, q5⟩ := h
      split at q5
      · rename_i C' bm e3
        simp only [Bool.and_eq_true, decide_eq_true_eq] at q5
        obtain ⟨oc, od, odt, osl⟩ := o
        obtain ⟨nm, bs, mro, ns, qn, hd, sn, sub, ab, col, del⟩ := cd
        obtain ⟨l⟩ := osl
        dsimp only at e1 e2 e3 hs q3 q4
        have hs : l = [k0, k1, k2, k3, some (.builtin n), k5] := hs
        rw [e1, e2, e3, hs, q1, q2, q3, q4, q5.1] at ho
        exact ⟨nm, qn, ns, bs, bm, sn, sub, ab, col, od, k0, k1, k2, k3, k5, ho, q5.2⟩
      · cases q5
    · cases h
  · cases h
/-- all that is asked of the class named x, its __init__ at f -/
def ownB (K : PySem.W.Frag) (C f : Addr) : List Bool := [oexB K C,
  decide (PySem.W.findIn K (.ref C) "__setattr__" = some (some (.builtin "object.__setattr__"))),
  decide (PySem.W.subIn K (.ref C) (.type "BaseException") = some true),
  decide (PySem.W.typeIn K (.ref C) = some (.type "type")),
  PySem.W.keepIn K (.ref C),
  decide (PySem.W.findIn K (.ref C) "__init__" = some (some (.ref f))),
  decide (PySem.W.typeIn K (.ref f) = some (.type "function")),
  decide (PySem.W.findIn K (.ref C) "__getattribute__" = some (some (.builtin "BaseException.__getattribute__"))),
  decide (PySem.W.findIn K (.ref C) "__getattr__" = some none),
  PySem.W.hasDictIn K C,
  decide (PySem.W.findIn K (.ref C) "__class__" = some (some (.builtin "object.__class__"))),
  decide (PySem.W.specialIn K (.builtin "object.__class__") "__get__" = some (some (.builtin "getset_descriptor.__get__"))),
  decide (PySem.W.takesIn K (.builtin "object.__class__") = some true),
  decide (PySem.W.mroIn K C (.type "object") = some true),
  decide (PySem.W.kitOne K (.ref C) (.ref C) = some true),
  decide (PySem.W.kitOne K (.ref C) (.type "ValueError") = some true),
  decide (PySem.W.findIn K (.ref C) "hand" = some none)]
def nsB (K : PySem.W.Frag) : Bool := (ownB K (He.ga K "NotReady") (He.fAd K ("NotReady", some "__init__"))).all id && decide (PySem.W.exmOne K (.ref (He.ga K "NotReady")) (.ref (He.ga K "BeltError")) = some true) && decide (PySem.W.kitAny K (.ref (He.ga K "NotReady")) [.ref (He.ga K "NoText"), .ref (He.ga K "NoRoom"), .ref (He.ga K "NoFormula"), .ref (He.ga K "NoShift"), .ref (He.ga K "NoName"), .ref (He.ga K "NoRow")] = some false)
theorem nsB_ok {K : PySem.W.Frag} {mg : Str → Option Value} {fd : FuncData} (h : nsB K = true) (gC : mg "NotReady" = some (.ref (He.ga K "NotReady"))) (gB : mg "BeltError" = some (.ref (He.ga K "BeltError"))) (F : Fun K "__init__" "NotReady.__init__" s_NotReady_init (He.fAd K ("NotReady", some "__init__")) fd) (b : Binds K fd ["self", "hand"] []) : NsC K mg (He.ga K "NotReady") (He.ga K "BeltError") (He.fAd K ("NotReady", some "__init__")) fd := by
  unfold nsB at h
  obtain ⟨h, ko⟩ := Bool.and_eq_true_iff.mp h
  have ko := of_decide_eq_true ko
  revert ko
  generalize He.ga K "NotReady" = C at *
  generalize He.ga K "BeltError" = CB at *
  intro ko
  generalize He.fAd K ("NotReady", some "__init__") = f at *
  obtain ⟨h, te⟩ := Bool.and_eq_true_iff.mp h
  have all := List.all_eq_true.mp h
  have at_ : ∀ (i : Nat) (z : Bool), (ownB K C f)[i]? = some z → z = true := fun i z e => all z (List.mem_of_getElem? e)
  have d : ∀ {p : Prop} [Decidable p], decide p = true → p := fun h => of_decide_eq_true h
  have w1 := d (at_ 1 _ rfl)
  have w2 := d (at_ 2 _ rfl)
  have w3 := d (at_ 3 _ rfl)
  have w4 := at_ 4 _ rfl
  have w7 := d (at_ 7 _ rfl)
  have w8 := d (at_ 8 _ rfl)
  have w9 := at_ 9 _ rfl
  exact ⟨gC, gB, ⟨oexB_ok (at_ 0 _ rfl), w1, w2, w3, w4⟩, d (at_ 16 _ rfl), d (at_ 5 _ rfl), d (at_ 6 _ rfl), F, b, of_decide_eq_true te, ⟨w7, w8, w2, w9⟩, ⟨w7, w8, w2, w9, d (at_ 10 _ rfl), d (at_ 11 _ rfl), d (at_ 12 _ rfl), d (at_ 13 _ rfl)⟩, d (at_ 14 _ rfl), d (at_ 15 _ rfl), ko⟩
theorem made_same {C p dx : Addr} {H H' : Hp} (np : H p = none) (ndx : H dx = none) (ne : dx ≠ p) (b : But p (upd (upd H dx (.own p)) p (.ins C dx [])) H') : Same H H' := fun x o e => by
  have xp : x ≠ p := ne_of_none e np
  have xd : x ≠ dx := ne_of_none e ndx
  exact b _ _ (by rw [upd_ne xp, upd_ne xd]; exact e) xp
theorem al_nats {n : Nat} {H : Hp} (ns : List Nat) : All2 (Al (n + 1) H) (ns.map nV) (ns.map nV) := by
  have := Al.ints (n := n) (H := H) (ns.map fun n => ((n : Nat) : Int))
  rw [List.map_map] at this
  exact this
theorem rng_eq {g : Nat → Addr} {j : Nat} {x : V} (h : j < 3) (e : ((List.range 3).map fun i => V.ref (g i))[j]? = some x) : V.ref (g j) = x := by
  rw [List.getElem?_map, List.getElem?_range h] at e
  exact Option.some.inj e
theorem cn0_len {hs : List HR} {bs : List BR} (ok : RoomOk hs bs) (s : Sl) : (cn0 bs s).length ≤ 30 := by
  unfold cn0
  split
  · split
    · rename_i b e
      exact (ok.th b (List.mem_of_getElem? e)).1
    · exact Nat.zero_le _
  · exact Nat.zero_le _
/-- one of the floors, with its room and its lists -/
structure E61 where
  r : Addr
  F : Addr
  mp : Addr
  hs : List HR
  bs : List BR
  cn : Sl → List Int
  g : Addr → Option Sl
  t : Addr → Option Sl
  l0 : Addr
  l1 : Addr
  l2 : Addr
  A : Sl → Addr
abbrev BothE (C : Addr) (H : Hp) (f c : Addr) (e : E61) : Prop := Both C H f c e.r e.F e.mp e.hs e.bs e.cn e.g e.t e.l0 e.l1 e.l2 e.A
/-- what is marked by one is marked by no other -/
structure Far (a b : E61) : Prop where
  gg : Ds a.g b.g
  tt : Ds a.t b.t
  gt : Ds a.g b.t
  tg : Ds a.t b.g
theorem Far.keep {C : Addr} {H H' : Hp} {f c : Addr} {a b : E61} (fr : Fr a.g a.t f H H') (A : BothE C H f c a) (B : BothE C H f c b) (d : Far a b) (F' : Flow H' f c) : BothE C H' f c b := by
  obtain ⟨_, _, _, _, _, ef, ec, _⟩ := B.fl
  have kp : ∀ (u : Addr → Option Sl), Ds a.g u → Ds a.t u → u f = none → Kp u H H' := fun u d1 d2 nf x o e h => by
    rcases h with h | h
    · exact fr x o e (d1 x h) (d2 x h) fun z => h (z ▸ nf)
    · exact fr x o e (A.fa.tg.tup e h) (A.m.own.tup e h) fun z => by
        rw [z] at e
        rw [ef] at e
        exact h _ (Option.some.inj e).symm
  have kg := kp b.g d.gg d.tg B.tf
  have kt := kp b.t d.gt d.tt B.mf
  exact ⟨F', B.hR.keep kg.tk, B.ok, B.pos, B.fa.kp kg, B.m.kp kt, B.ds, B.tf, B.tc, B.mf, B.mc⟩
def setE61 (es : Nat → E61) (k : Nat) (cn : Sl → List Int) : Nat → E61 := fun i => if i = k then { es k with cn := cn } else es i
/-- three floors by turns -/
structure Tri (C : Addr) (H : Hp) (f c lr lf lm : Addr) (es : Nat → E61) (n : Nat) : Prop where
  both : ∀ i, i < 3 → BothE C H f c (es i)
  far : ∀ i j, i < 3 → j < 3 → i ≠ j → Far (es i) (es j)
  len : ∀ i, i < 3 → ∀ s, ((es i).cn s).length ≤ n
  hr : H lr = some (.lst ((List.range 3).map fun i => V.ref (es i).r))
  hf : H lf = some (.lst ((List.range 3).map fun i => V.ref (es i).F))
  hm : H lm = some (.lst ((List.range 3).map fun i => V.ref (es i).mp))
  off : ∀ i, i < 3 → ((es i).g lr = none ∧ (es i).t lr = none) ∧ ((es i).g lf = none ∧ (es i).t lf = none) ∧ (es i).g lm = none ∧ (es i).t lm = none
  nf : lr ≠ f ∧ lf ≠ f ∧ lm ≠ f
section
variable {C : Addr} {H H' : Hp} {f c lr lf lm : Addr} {es : Nat → E61} {n k : Nat}
theorem Tri.same (t : Tri C H f c lr lf lm es n) (s : Same H H') : Tri C H' f c lr lf lm es n :=
  { t with both := fun i h => (t.both i h).same s, hr := s _ _ t.hr, hf := s _ _ t.hf, hm := s _ _ t.hm }
theorem Tri.pick (t : Tri C H f c lr lf lm es n) (F' : Flow H' f c) (u : But f H H') : Tri C H' f c lr lf lm es n :=
  { t with both := fun i h => (t.both i h).pick F' u, hr := u _ _ t.hr t.nf.1, hf := u _ _ t.hf t.nf.2.1, hm := u _ _ t.hm t.nf.2.2 }
theorem Tri.deed (t : Tri C H f c lr lf lm es n) (hk : k < 3) {cn : Sl → List Int} (b : BothE C H' f c { es k with cn := cn }) (g : Grow (es k).cn cn) (fr : Fr (es k).g (es k).t f H H') : Tri C H' f c lr lf lm (setE61 es k cn) (n + 1) := by
  have e0 : ∀ i, (setE61 es k cn i).r = (es i).r ∧ (setE61 es k cn i).F = (es i).F ∧ (setE61 es k cn i).mp = (es i).mp ∧ (setE61 es k cn i).g = (es i).g ∧ (setE61 es k cn i).t = (es i).t := fun i => by
    unfold setE61
    by_cases z : i = k
    · rw [if_pos z, z]; exact ⟨rfl, rfl, rfl, rfl, rfl⟩
    · rw [if_neg z]; exact ⟨rfl, rfl, rfl, rfl, rfl⟩
  have o := t.off k hk
  refine ⟨fun i h => ?_, fun i j hi hj ne => ?_, fun i h s => ?_, ?_, ?_, ?_, fun i h => ?_, t.nf⟩
  · unfold setE61
    by_cases z : i = k
    · rw [if_pos z]; exact b
    · rw [if_neg z]; exact (t.far k i hk h fun y => z y.symm).keep fr (t.both k hk) (t.both i h) b.fl
  · have d := t.far i j hi hj ne
    exact ⟨by rw [(e0 i).2.2.2.1, (e0 j).2.2.2.1]; exact d.gg, by rw [(e0 i).2.2.2.2, (e0 j).2.2.2.2]; exact d.tt, by rw [(e0 i).2.2.2.1, (e0 j).2.2.2.2]; exact d.gt, by rw [(e0 i).2.2.2.2, (e0 j).2.2.2.1]; exact d.tg⟩
  · unfold setE61
    by_cases z : i = k
    · rw [if_pos z]
      exact Nat.le_trans (g s) (Nat.succ_le_succ (t.len k hk s))
    · rw [if_neg z]; exact Nat.le_trans (t.len i h s) (Nat.le_succ _)
  · rw [fr _ _ t.hr o.1.1 o.1.2 t.nf.1]
    exact congrArg (fun l => some (HO.lst l)) (List.map_congr_left fun i _ => by rw [(e0 i).1])
  · rw [fr _ _ t.hf o.2.1.1 o.2.1.2 t.nf.2.1]
    exact congrArg (fun l => some (HO.lst l)) (List.map_congr_left fun i _ => by rw [(e0 i).2.1])
  · rw [fr _ _ t.hm o.2.2.1 o.2.2.2 t.nf.2.2]
    exact congrArg (fun l => some (HO.lst l)) (List.map_congr_left fun i _ => by rw [(e0 i).2.2.1])
  · rw [(e0 i).2.2.2.1, (e0 i).2.2.2.2]; exact t.off i h
end
section
variable {P : Program} {w : World} {K : PySem.W.Frag} {mg : Str → Option Value} {base : Heap}
def sp_law_floor_right (K : PySem.W.Frag) (C : Addr) : Sp := fun vs H Q _ => ∃ (f c r F mp : Addr) (hs : List HR) (bs : List BR) (cn : Sl → List Int) (tg tm : Addr → Option Sl) (l0 l1 l2 : Addr) (A : Sl → Addr), vs = [.ref r, .ref F, .ref mp] ∧ Both C H f c r F mp hs bs cn tg tm l0 l1 l2 A ∧ (∀ s, (cn s).length ≤ 300) ∧
  ∀ H', Same H H' → Q (.bl true) H'
theorem ok_law_floor_right {f : Addr} {fd : FuncData} (F : Fun K "_law_floor_right" "_law_floor_right" s_law_floor_right f fd) {C : Addr} (T : Top K mg C) : FnOk P w K mg base CX0 7 f fd ["_law_room_here", "_law_floor", "_law_model_here"] (sp_law_floor_right K C) := by
  obtain ⟨f_law_alike, fd_law_alike, F_law_alike, b_law_alike, m_law_alike⟩ := T.d_law_alike
  have G_law_alike := ok_law_alike (P := P) (w := w) (base := base) F_law_alike T
  obtain ⟨f_Floor_ready, fd_Floor_ready, F_Floor_ready, b_Floor_ready, m_Floor_ready⟩ := T.d_Floor_ready
  have G_Floor_ready := ok_Floor_ready (P := P) (w := w) (base := base) F_Floor_ready T
  obtain ⟨f_law_model_ready, fd_law_model_ready, F_law_model_ready, b_law_model_ready, m_law_model_ready⟩ := T.d_law_model_ready
  have G_law_model_ready := ok_law_model_ready (P := P) (w := w) (base := base) F_law_model_ready T
  obtain ⟨f_Floor_made, fd_Floor_made, F_Floor_made, b_Floor_made, m_Floor_made⟩ := T.d_Floor_made
  have G_Floor_made := ok_Floor_made (P := P) (w := w) (base := base) F_Floor_made T
  refine F.ok sc_law_floor_right (fun vs H Q E h => ?_) (fun cdv A outer s H vs Q E hr h => ?_)
  · obtain ⟨f, c, r, F, mp, hs, bs, cn, tg, tm, l0, l1, l2, A, rfl, _⟩ := h
    rfl
  obtain ⟨f, c, r, F, mp, hs, bs, cn, tg, tm, l0, l1, l2, A, rfl, B, len, q⟩ := h
  have lh := B.ok.hands
  have lb := B.ok.many
  obtain ⟨p, a⟩ := B.fa.b
  have few := filt_len (p := rdy hs bs cn) hs.length
  refine ⟨_, (pss_cons (ps_if (pt_not (pt_val (pe_call G_law_alike (hr.mono (by decide)) (by rfl) m_law_alike F_law_alike.kp b_law_alike .nil pass0 (pa_cons (pe_meth0 (pv 1) T.cl m_Floor_ready G_Floor_ready (hr.mono (by decide)) b_Floor_ready .nil pass0) (pa_cons (pe_call G_law_model_ready (hr.mono (by decide)) (by rfl) m_law_model_ready F_law_model_ready.kp b_law_model_ready .nil pass0 (pa_cons (pv 0) (pa_cons (pv 2) pa_nil))) pa_nil))))) (pss_one (ps_ret pe_bl)) pss_nil)
      (pss_one (ps_ret (pe_callB (cr_allK K rfl rfl) (by rfl) T.m_all (by decide +kernel) (pa_cons (pe_lc (own := [("_law_k", 3)]) (g := gName 3) (tt := tYes) (by rfl) sc_law_floor_right.nd (pi_range1 (by rfl) T.m_range (pa_cons (pe_callB (call_len_seqK K rfl) (by rfl) T.m_len (by decide +kernel) (pa_cons (pe_ix (ix_tupK K rfl) (pv 0) pe_int (fun _ _ => rfl)) pa_nil)) pa_nil)) (blkOk_by (own := [("_law_k", 3)]) (N := N_law_floor_right) (sc := defScope s_law_floor_right) (by decide +kernel)) (fun _ _ _ _ _ => (pg_name (i := 3) sc_law_floor_right.nd rfl (Or.inl rfl))) (fun _ _ _ _ _ => pts_nil) (fun _ _ _ _ _ => (pe_call G_law_alike (hr.mono (by decide)) (by rfl) m_law_alike F_law_alike.kp b_law_alike .nil pass0 (pa_cons (pe_meth (pv 1) T.cl m_Floor_made G_Floor_made (hr.mono (by decide)) b_Floor_made .nil pass0 (pa_cons (pv 3) pa_nil)) (pa_cons (pe_ix (ix_listK K rfl) (pe_ix (ix_listK K rfl) (pv 2) pe_int (fun _ _ => rfl)) (pv 3) (fun _ _ => rfl)) pa_nil))))) pa_nil))))), ?_⟩
  refine ⟨_, rfl, F, p.dx, _, rfl, a.hF, rfl, F, hs, bs, cn, tg, rfl, B.fa, lh, lb, fun D H1 nD hD s1 => ?_⟩
  have B1 := B.same s1
  refine ⟨_, rfl, _, rfl, r, mp, hs, bs, cn, tm, l0, l1, l2, A, rfl, B1.hR, B1.ok, B1.m, fun E H2 nE hE s2 => ?_⟩
  refine ⟨_, _, rfl, Al.lst (s2 _ _ hD) hE (by rw [List.length_map]; omega) (al_nats _), fun H3 s3 => ⟨_, rfl, if_bl (fun z => nomatch z) (fun _ => ?_)⟩⟩
  have B3 := (B1.same s2).same s3
  have s03 := (s1.trans s2).trans s3
  obtain ⟨ha, ba, hv, bv, er, eh, eb, alh, alb⟩ := B3.hR.ex
  have lhv := alh.length
  refine ⟨_, rfl, r, _, _, _, rfl, rfl, SqT.of er, atI_nat (j := 0) rfl, ha, _, rfl, .inr (SqT.of eh), _, rfl, by omega, by omega, fun G nG => lc_range (lo := 0) (n := hv.length) (fun i H5 => H5 G = some (.lst ((List.replicate i true).map V.bl)) ∧ Same H3 H5) ⟨upd_same, same_new nG⟩ ?_ ?_⟩
  · rintro k H5 hk ⟨hG, s5⟩
    have kl : k < hs.length := by omega
    have B5 := B3.same s5
    obtain ⟨p5, a5⟩ := B5.fa.b
    have v : VM hs bs (2, k) := .inr (.inr ⟨rfl, kl⟩)
    refine ⟨rfl, yes_in ⟨_, rfl, F, p5.dx, _, rfl, a5.hF, rfl, _, rfl, F, hs, bs, cn, tg, k, by rw [Int.zero_add]; rfl, B5.fa, kl, fun D6 H6 n6 h6 s6 => ?_⟩⟩
    have B6 := B5.same s6
    have ln := len (2, k)
    refine ⟨_, rfl, mp, _, _, _, rfl, rfl, SqL.of B6.m.hm, atI_nat (j := 2) rfl, _, rfl, l2, _, _, _, rfl, rfl, SqL.of B6.m.h2, (by rw [Int.zero_add]; exact rg_ref kl), _, _, rfl, Al.lst h6 (B6.m.sl _ v).1 (by rw [List.length_map]; omega) (Al.ints _), fun H7 s7 => ?_⟩
    have s57 := s6.trans s7
    refine ⟨_, s57 _ _ hG, by rw [List.length_map, List.length_replicate]; exact small1000 (by omega), ?_, Same.own (s5.trans s57) nG⟩
    rw [upd_same, List.replicate_succ', List.map_append]
    rfl
  · rintro H5 ⟨hG, s5⟩
    refine ⟨G, _, rfl, SqL.of hG, ?_⟩
    rw [show (List.replicate hv.length true).all id = true by simp]
    exact q _ (s03.trans s5)
def sp_law (K : PySem.W.Frag) : Sp := fun vs H Q _ => ∃ (a : Addr) (ns : List Int), vs = [.ref a] ∧ SqL K H a (ns.map V.int) ∧ ns.length ≤ 63 ∧ ∀ H', Q (.bl true) H'
theorem ok_law {f : Addr} {fd : FuncData} (F : Fun K "law" "law" s_law f fd) {C : Addr} (T : Top K mg C) : FnOk P w K mg base CX0 9 f fd ["_law_script"] (sp_law K) := by
  obtain ⟨f_law_flow, fd_law_flow, F_law_flow, b_law_flow, m_law_flow⟩ := T.d_law_flow
  have G_law_flow := ok_law_flow (P := P) (w := w) (base := base) F_law_flow T
  obtain ⟨f_law_any_room, fd_law_any_room, F_law_any_room, b_law_any_room, m_law_any_room⟩ := T.d_law_any_room
  have G_law_any_room := ok_law_any_room (P := P) (w := w) (base := base) F_law_any_room T
  obtain ⟨f_law_floor_right, fd_law_floor_right, F_law_floor_right, b_law_floor_right, m_law_floor_right⟩ := T.d_law_floor_right
  have G_law_floor_right := ok_law_floor_right (P := P) (w := w) (base := base) F_law_floor_right T
  obtain ⟨f_law_room, fd_law_room, F_law_room, b_law_room, m_law_room⟩ := T.d_law_room
  have G_law_room := ok_law_room (P := P) (w := w) (base := base) F_law_room T
  obtain ⟨f_Floor___init__, fd_Floor___init__, F_Floor___init__, b_Floor___init__, m_Floor___init__⟩ := T.d_Floor___init__
  have G_Floor___init__ := ok_Floor___init__ (P := P) (w := w) (base := base) F_Floor___init__ T
  obtain ⟨f_law_model, fd_law_model, F_law_model, b_law_model, m_law_model⟩ := T.d_law_model
  have G_law_model := ok_law_model (P := P) (w := w) (base := base) F_law_model T
  obtain ⟨f_law_pick, fd_law_pick, F_law_pick, b_law_pick, m_law_pick⟩ := T.d_law_pick
  have G_law_pick := ok_law_pick (P := P) (w := w) (base := base) F_law_pick T
  obtain ⟨f_law_deed_right, fd_law_deed_right, F_law_deed_right, b_law_deed_right, m_law_deed_right⟩ := T.d_law_deed_right
  have G_law_deed_right := ok_law_deed_right (P := P) (w := w) (base := base) F_law_deed_right T
  obtain ⟨f_law_alike, fd_law_alike, F_law_alike, b_law_alike, m_law_alike⟩ := T.d_law_alike
  have G_law_alike := ok_law_alike (P := P) (w := w) (base := base) F_law_alike T
  obtain ⟨f_Floor_ready, fd_Floor_ready, F_Floor_ready, b_Floor_ready, m_Floor_ready⟩ := T.d_Floor_ready
  have G_Floor_ready := ok_Floor_ready (P := P) (w := w) (base := base) F_Floor_ready T
  obtain ⟨f_law_model_ready, fd_law_model_ready, F_law_model_ready, b_law_model_ready, m_law_model_ready⟩ := T.d_law_model_ready
  have G_law_model_ready := ok_law_model_ready (P := P) (w := w) (base := base) F_law_model_ready T
  refine F.ok sc_law (fun vs H Q E h => ?_) (fun cdv A outer s H vs Q E hr h => ?_)
  · obtain ⟨a, ns, rfl, _⟩ := h
    rfl
  obtain ⟨a, ns, rfl, hS, hlen, q⟩ := h
  let sg : Addr → Addr → Addr → Addr → Addr → Option V → Option V → Option V → Option V → Option V → L2.St := fun f r lr lf lm v5 v7 v8 v9 v10 => [some (.ref a), some (.ref f), some (.ref r), some (.ref lr), some (.ref lf), v5, some (.ref lm), v7, v8, v9, v10]
  let R1 : TS := fun D' σ' H' => D'.rt = Q ∧ ∃ (f c r lr lf lm : Addr) (es : Nat → E61) (v5 : Option V), σ' = sg f r lr lf lm v5 none none none none ∧ (es 0).r = r ∧ Tri C H' f c lr lf lm es 30
  let R2 : TS := fun D' σ' H' => D'.rt = Q ∧ ∃ (f c r lr lf lm : Addr) (es : Nat → E61) (v5 v7 v8 v9 v10 : Option V), σ' = sg f r lr lf lm v5 v7 v8 v9 v10 ∧ (es 0).r = r ∧ Tri C H' f c lr lf lm es 100
  let R3 : TS := fun D' σ' H' => D'.rt = Q ∧ ∃ (f c r lr lf lm : Addr) (hs : List HR) (bs : List BR) (v5 v7 v8 v9 v10 : Option V), σ' = sg f r lr lf lm v5 v7 v8 v9 v10 ∧ Flow H' f c ∧ RoomAt H' r hs bs ∧ RoomOk hs bs ∧ 0 < hs.length
  refine ⟨_, (pss_cons (ps_set (i := 1) sc_law.nd rfl (Or.inl rfl) (pe_call G_law_flow (hr.mono (by decide)) (by rfl) m_law_flow F_law_flow.kp b_law_flow .nil pass0 (pa_cons (pv 0) pa_nil)))
      (pss_cons (ps_set (i := 2) sc_law.nd rfl (Or.inl rfl) (pe_call G_law_any_room (hr.mono (by decide)) (by rfl) m_law_any_room F_law_any_room.kp b_law_any_room .nil pass0 (pa_cons (pv 1) pa_nil)))
      (pss_cons (ps_set (i := 3) sc_law.nd rfl (Or.inl rfl) (pe_lst (pa_cons (pv 2) (pa_cons (pv 2) (pa_cons (pe_call G_law_room (hr.mono (by decide)) (by rfl) m_law_room F_law_room.kp b_law_room .nil pass0 (pa_cons (pv 1) (pa_cons pe_int pa_nil))) pa_nil)))))
      (pss_cons (ps_setLc (i := 4) (own := [("_law_one", 5)]) (g := gName 5) (tt := tYes) (by rfl) sc_law.nd rfl rfl (sw_true rfl rfl rfl (by decide +kernel)) (pi_listK K rfl (pv 3)) (blkOk_by (own := [("_law_one", 5)]) (N := N_law) (sc := defScope s_law) (by decide +kernel)) (fun _ _ _ _ _ => (pg_name (i := 5) sc_law.nd rfl (Or.inl rfl))) (fun _ _ _ _ _ => pts_nil) (fun _ _ _ _ _ => (pe_make m_Floor___init__ G_Floor___init__ (hr.mono (by decide)) (by rfl) T.mgC b_Floor___init__ .nil pass0 (pa_cons (pv 5) pa_nil))))
      (pss_cons (ps_setLc (i := 6) (own := [("_law_one", 5)]) (g := gName 5) (tt := tYes) (by rfl) sc_law.nd rfl rfl (sw_true rfl rfl rfl (by decide +kernel)) (pi_listK K rfl (pv 3)) (blkOk_by (own := [("_law_one", 5)]) (N := N_law) (sc := defScope s_law) (by decide +kernel)) (fun _ _ _ _ _ => (pg_name (i := 5) sc_law.nd rfl (Or.inl rfl))) (fun _ _ _ _ _ => pts_nil) (fun _ _ _ _ _ => (pe_call G_law_model (hr.mono (by decide)) (by rfl) m_law_model F_law_model.kp b_law_model .nil pass0 (pa_cons (pv 5) pa_nil))))
      (PSs.to (pss_cons (ps_for PassesOwn.never rfl (pi_range1 (by rfl) T.m_range (pa_cons (pe_op op_add pe_int (pe_call G_law_pick (hr.mono (by decide)) (by rfl) m_law_pick F_law_pick.kp b_law_pick .nil pass0 (pa_cons (pv 1) (pa_cons pe_int pa_nil)))) pa_nil)) (pg_name (i := 7) sc_law.nd rfl (Or.inl rfl))
        (pss_cons (ps_set (i := 8) sc_law.nd rfl (Or.inl rfl) (pe_call G_law_pick (hr.mono (by decide)) (by rfl) m_law_pick F_law_pick.kp b_law_pick .nil pass0 (pa_cons (pv 1) (pa_cons pe_int pa_nil))))
      (pss_cons (ps_if (pt_not (pt_val (pe_call G_law_deed_right (hr.mono (by decide)) (by rfl) m_law_deed_right F_law_deed_right.kp b_law_deed_right .nil pass0 (pa_cons (pv 1) (pa_cons (pe_ix (ix_listK K rfl) (pv 3) (pv 8) (fun _ _ => rfl)) (pa_cons (pe_ix (ix_listK K rfl) (pv 4) (pv 8) (fun _ _ => rfl)) (pa_cons (pe_ix (ix_listK K rfl) (pv 6) (pv 8) (fun _ _ => rfl)) pa_nil))))))) (pss_one (ps_ret pe_bl)) pss_nil)
      (pss_one (ps_for PassesOwn.never rfl (pi_zip3 K rfl (by rfl) T.m_zip (pa_cons (pv 3) (pa_cons (pv 4) (pa_cons (pv 6) pa_nil)))) (pg_tupK K rfl rfl (pgs_cons (pg_name (i := 5) sc_law.nd rfl (Or.inl rfl)) (pgs_cons (pg_name (i := 9) sc_law.nd rfl (Or.inl rfl)) (pgs_cons (pg_name (i := 10) sc_law.nd rfl (Or.inl rfl)) pgs_nil))))
        (pss_one (ps_if (pt_not (pt_val (pe_call G_law_alike (hr.mono (by decide)) (by rfl) m_law_alike F_law_alike.kp b_law_alike .nil pass0 (pa_cons (pe_meth0 (pv 9) T.cl m_Floor_ready G_Floor_ready (hr.mono (by decide)) b_Floor_ready .nil pass0) (pa_cons (pe_call G_law_model_ready (hr.mono (by decide)) (by rfl) m_law_model_ready F_law_model_ready.kp b_law_model_ready .nil pass0 (pa_cons (pv 5) (pa_cons (pv 10) pa_nil))) pa_nil))))) (pss_one (ps_ret pe_bl)) pss_nil)))))))
      (PSs.to (pss_cons (ps_for PassesOwn.never rfl (pi_zip3 K rfl (by rfl) T.m_zip (pa_cons (pv 3) (pa_cons (pv 4) (pa_cons (pv 6) pa_nil)))) (pg_tupK K rfl rfl (pgs_cons (pg_name (i := 5) sc_law.nd rfl (Or.inl rfl)) (pgs_cons (pg_name (i := 9) sc_law.nd rfl (Or.inl rfl)) (pgs_cons (pg_name (i := 10) sc_law.nd rfl (Or.inl rfl)) pgs_nil))))
        (pss_one (ps_if (pt_not (pt_val (pe_call G_law_floor_right (hr.mono (by decide)) (by rfl) m_law_floor_right F_law_floor_right.kp b_law_floor_right .nil pass0 (pa_cons (pv 5) (pa_cons (pv 9) (pa_cons (pv 10) pa_nil)))))) (pss_one (ps_ret pe_bl)) pss_nil)))
      (PSs.to (pss_one (ps_ret (pe_call G_law_floor_right (hr.mono (by decide)) (by rfl) m_law_floor_right F_law_floor_right.kp b_law_floor_right .nil pass0 (pa_cons (pv 2) (pa_cons (pe_make m_Floor___init__ G_Floor___init__ (hr.mono (by decide)) (by rfl) T.mgC b_Floor___init__ .nil pass0 (pa_cons (pv 2) pa_nil)) (pa_cons (pe_call G_law_model (hr.mono (by decide)) (by rfl) m_law_model F_law_model.kp b_law_model .nil pass0 (pa_cons (pv 2) pa_nil)) pa_nil)))))) R3 ?tail3)) R2 ?tail2)) R1 ?tail1)))))), ?_⟩
  case tail3 =>
    rintro D' σ' H1 ⟨eD, f, c, r, lr, lf, lm, hs, bs, v5, v7, v8, v9, v10, rfl, F1, hR, ok, pos⟩
    refine ⟨_, rfl, _, rfl, fun F dx nF ndx ne => ?_⟩
    have sm : ∀ b o, H1 b = some o → upd (upd H1 dx (.own F)) F (.ins C dx []) b = some o := fun b o e => by
      rw [upd_ne (ne_of_none e nF), upd_ne (ne_of_none e ndx)]; exact e
    refine ⟨F, r, dx, hs, bs, rfl, upd_same, hR.keep (TK.same sm), ok, fun tg H3 fa3 old b3 => ⟨rfl, ?_⟩⟩
    have s3 := made_same nF ndx ne b3
    have free : ∀ b o, H1 b = some o → tg b = none := fun b o e => old b o (sm b o e)
    obtain ⟨_, _, _, _, _, ef, ec, _⟩ := id F1
    refine ⟨_, rfl, r, hs, bs, rfl, hR.keep (TK.same s3), ok, fun mp tm l0 l1 l2 A H4 m4 old4 s4 => ?_⟩
    have far : Ds tg tm := fun p n => by
      refine fa3.tg.free ?_
      cases e : H3 p with
      | none => rfl
      | some o => exact absurd (old4 p o e) n
    have B : Both C H4 f c r F mp hs bs (cn0 bs) tg tm l0 l1 l2 A := ⟨(F1.same s3).same s4, (hR.keep (TK.same s3)).keep (TK.same s4), ok, pos, fa3.kp (Kp.same s4), m4, far, free _ _ ef, free _ _ ec, old4 _ _ (s3 _ _ ef), old4 _ _ (s3 _ _ ec)⟩
    refine ⟨f, c, r, F, mp, hs, bs, cn0 bs, tg, tm, l0, l1, l2, A, rfl, B, (fun s => Nat.le_trans (cn0_len ok s) (by decide)), fun H5 s5 => ?_⟩
    rw [eD]
    exact q _
  case tail2 =>
    rintro D' σ' H1 ⟨eD, f, c, r, lr, lf, lm, es, v5, v7, v8, v9, v10, rfl, e0, t⟩
    refine ⟨_, rfl, _, rfl, _, rfl, lr, lf, lm, _, _, _, rfl, SqL.of t.hr, SqL.of t.hf, SqL.of t.hm, for_it (n := 3) (fun j σ H8 => ∃ v5 v9 v10 : Option V, σ = sg f r lr lf lm v5 v7 v8 v9 v10 ∧ Same H1 H8) ⟨v5, v9, v10, rfl, Same.refl _⟩ ?_ ?_ ?_ ?_⟩
    · rintro j σ H8 hj ⟨v5, v9, v10, rfl, s8⟩
      exact ⟨SqL.of (s8 _ _ t.hr), SqL.of (s8 _ _ t.hf), SqL.of (s8 _ _ t.hm), hj, hj, hj⟩
    · rintro σ H8 ⟨v5, v9, v10, rfl, s8⟩
      exact ⟨SqL.of (s8 _ _ t.hr), SqL.of (s8 _ _ t.hf), SqL.of (s8 _ _ t.hm), Nat.le_refl _, Nat.le_refl _, Nat.le_refl _, .inl rfl⟩
    · rintro j x σ H8 H9 hj ⟨v5, v9, v10, rfl, s8⟩ ⟨T', x1, y1, z1, rfl, nT, rfl, hx1, hy1, hz1⟩
      obtain rfl := rng_eq hj hx1
      obtain rfl := rng_eq hj hy1
      obtain rfl := rng_eq hj hz1
      have u9 := same_new (o := .tup [V.ref (es j).r, V.ref (es j).F, V.ref (es j).mp]) nT
      have s9 := s8.trans u9
      have B := (t.same s9).both j hj
      refine ⟨T', _, rfl, SqT.of upd_same, rfl, _, _, rfl, _, _, rfl, _, _, rfl, rfl, ?_⟩
      refine ⟨_, rfl, _, rfl, _, rfl, f, c, (es j).r, (es j).F, (es j).mp, (es j).hs, (es j).bs, (es j).cn, (es j).g, (es j).t, (es j).l0, (es j).l1, (es j).l2, (es j).A, rfl, B, (fun s => Nat.le_trans (t.len j hj s) (by decide)), fun H10 s10 => ⟨_, rfl, if_bl (fun z => nomatch z) (fun _ => ?_)⟩⟩
      exact ⟨_, _, _, rfl, s9.trans s10⟩
    · rintro σ H8 ⟨v5, v9, v10, rfl, s8⟩
      have B := (t.same s8).both 0 (by decide)
      rw [← e0]
      exact ⟨eD, f, c, _, lr, lf, lm, _, _, v5, v7, v8, v9, v10, rfl, B.fl, B.hR, B.ok, B.pos⟩
  case tail1 =>
    rintro D' σ' H1 ⟨eD, f, c, r, lr, lf, lm, es, v5, rfl, e0, t⟩
    refine ⟨_, rfl, f, c, 30, rfl, by decide, by decide +kernel, (t.both 0 (by decide)).fl, fun v H2 v0 v1 F2 u2 => ?_⟩
    refine ⟨_, _, rfl, rfl, _, rfl, by omega, by omega, for_range (lo := 0) (n := (1 + v).toNat) (fun i σ H5 => ∃ (es : Nat → E61) (v5 v7 v8 v9 v10 : Option V), σ = sg f r lr lf lm v5 v7 v8 v9 v10 ∧ (es 0).r = r ∧ Tri C H5 f c lr lf lm es (30 + i)) ⟨es, v5, none, none, none, none, rfl, e0, t.pick F2 u2⟩ ?_ ?_⟩
    · rintro i σ H5 hi ⟨es, v5, v7, v8, v9, v10, rfl, e0, t⟩
      refine ⟨_, rfl, f, c, 3, rfl, by decide, by decide +kernel, (t.both 0 (by decide)).fl, fun v H6 v0 v1 F6 u6 => ?_⟩
      have t6 := t.pick F6 u6
      obtain ⟨k, rfl⟩ : ∃ k : Nat, v = ((k : Nat) : Int) := ⟨v.toNat, by omega⟩
      have hk : k < 3 := by omega
      refine ⟨_, rfl, _, rfl, _, rfl, lr, _, _, _, rfl, rfl, SqL.of t6.hr, rg_ref hk, _, rfl, _, rfl, lf, _, _, _, rfl, rfl, SqL.of t6.hf, rg_ref hk, _, rfl, _, rfl, lm, _, _, _, rfl, rfl, SqL.of t6.hm, rg_ref hk, f, c, (es k).r, (es k).F, (es k).mp, (es k).hs, (es k).bs, (es k).cn, (es k).g, (es k).t, (es k).l0, (es k).l1, (es k).l2, (es k).A, rfl, t6.both k hk, (fun s => Nat.le_trans (t6.len k hk s) (by omega)), fun cn' H7 b7 g7 fr7 => ⟨_, rfl, if_bl (fun z => nomatch z) (fun _ => ?_)⟩⟩
      have t7 := t6.deed hk b7 g7 fr7
      have e7 : (setE61 es k cn' 0).r = r := by
        unfold setE61
        by_cases z : 0 = k
        · rw [if_pos z]
          show (es k).r = r
          rw [← z]; exact e0
        · rw [if_neg z]; exact e0
      generalize setE61 es k cn' = es7 at t7 e7
      refine ⟨_, rfl, _, rfl, _, rfl, lr, lf, lm, _, _, _, rfl, SqL.of t7.hr, SqL.of t7.hf, SqL.of t7.hm, for_it (n := 3) (fun j σ H8 => ∃ v5 v7 v8 v9 v10 : Option V, σ = sg f r lr lf lm v5 v7 v8 v9 v10 ∧ Same H7 H8) ⟨_, _, _, _, _, rfl, Same.refl _⟩ ?_ ?_ ?_ ?_⟩
      · rintro j σ H8 hj ⟨v5, v7, v8, v9, v10, rfl, s8⟩
        exact ⟨SqL.of (s8 _ _ t7.hr), SqL.of (s8 _ _ t7.hf), SqL.of (s8 _ _ t7.hm), hj, hj, hj⟩
      · rintro σ H8 ⟨v5, v7, v8, v9, v10, rfl, s8⟩
        exact ⟨SqL.of (s8 _ _ t7.hr), SqL.of (s8 _ _ t7.hf), SqL.of (s8 _ _ t7.hm), Nat.le_refl _, Nat.le_refl _, Nat.le_refl _, .inl rfl⟩
      · rintro j x σ H8 H9 hj ⟨v5, v7, v8, v9, v10, rfl, s8⟩ ⟨T', x1, y1, z1, rfl, nT, rfl, hx1, hy1, hz1⟩
        obtain rfl := rng_eq hj hx1
        obtain rfl := rng_eq hj hy1
        obtain rfl := rng_eq hj hz1
        have u9 := same_new (o := .tup [V.ref (es7 j).r, V.ref (es7 j).F, V.ref (es7 j).mp]) nT
        have s9 := s8.trans u9
        have B := (t7.same s9).both j hj
        obtain ⟨p, a9⟩ := B.fa.b
        have few := filt_len (p := rdy (es7 j).hs (es7 j).bs (es7 j).cn) (es7 j).hs.length
        have lh := B.ok.hands
        refine ⟨T', _, rfl, SqT.of upd_same, rfl, _, _, rfl, _, _, rfl, _, _, rfl, rfl, ?_⟩
        refine ⟨_, rfl, (es7 j).F, p.dx, _, rfl, a9.hF, rfl, (es7 j).F, (es7 j).hs, (es7 j).bs, (es7 j).cn, (es7 j).g, rfl, B.fa, B.ok.hands, B.ok.many, fun D H10 nD hD s10 => ?_⟩
        have B10 := B.same s10
        refine ⟨_, rfl, _, rfl, (es7 j).r, (es7 j).mp, (es7 j).hs, (es7 j).bs, (es7 j).cn, (es7 j).t, (es7 j).l0, (es7 j).l1, (es7 j).l2, (es7 j).A, rfl, B10.hR, B10.ok, B10.m, fun E H11 nE hE s11 => ?_⟩
        refine ⟨_, _, rfl, Al.lst (s11 _ _ hD) hE (by rw [List.length_map]; omega) (al_nats _), fun H12 s12 => ⟨_, rfl, if_bl (fun z => nomatch z) (fun _ => ?_)⟩⟩
        exact ⟨_, _, _, _, _, rfl, ((s9.trans s10).trans s11).trans s12⟩
      · rintro σ H8 ⟨v5, v7, v8, v9, v10, rfl, s8⟩
        exact ⟨es7, _, _, _, _, _, rfl, e7, t7.same s8⟩
    · rintro σ H5 ⟨es, v5, v7, v8, v9, v10, rfl, e0, t⟩
      exact ⟨eD, f, c, r, lr, lf, lm, es, v5, v7, v8, v9, v10, rfl, e0, { t with len := fun i h s => Nat.le_trans (t.len i h s) (by omega) }⟩
  refine ⟨_, rfl, a, ns, rfl, hS, fun f c H1 nf nc F1 s1 => ?_⟩
  refine ⟨_, rfl, f, c, rfl, F1, fun r hs bs H2 hR ok pos l6 F2 B2 => ?_⟩
  refine ⟨_, rfl, _, rfl, _, rfl, f, c, 3, rfl, by decide, by decide, F2, fun r2 hs2 bs2 H3 hR2 ok2 pos2 l62 F3 B3 => ⟨(by show 3 ≤ sizeLine; decide), fun lr nlr => ?_⟩⟩
  have s4 := same_new (o := .lst [V.ref r, V.ref r, V.ref r2]) nlr
  have hlr : upd H3 lr (.lst [V.ref r, V.ref r, V.ref r2]) lr = some (.lst [V.ref r, V.ref r, V.ref r2]) := upd_same
  have lrf : lr ≠ f := F3.ne nlr
  have F4 := F3.same s4
  have hR4 := (hR.keep (TK.but F2 B3)).keep (TK.same s4)
  have hR24 := hR2.keep (TK.same s4)
  generalize upd H3 lr (.lst [V.ref r, V.ref r, V.ref r2]) = H4 at hlr F4 hR4 hR24 ⊢
  let rs : Nat → Addr := fun i => if i = 2 then r2 else r
  let hss : Nat → List HR := fun i => if i = 2 then hs2 else hs
  let bss : Nat → List BR := fun i => if i = 2 then bs2 else bs
  have elr : [V.ref r, V.ref r, V.ref r2] = (List.range 3).map fun i => V.ref (rs i) := rfl
  have room : ∀ i, RoomAt H4 (rs i) (hss i) (bss i) ∧ RoomOk (hss i) (bss i) ∧ 0 < (hss i).length := fun i => by
    show RoomAt H4 (if i = 2 then r2 else r) (if i = 2 then hs2 else hs) (if i = 2 then bs2 else bs) ∧ RoomOk (if i = 2 then hs2 else hs) (if i = 2 then bs2 else bs) ∧ 0 < (if i = 2 then hs2 else hs).length
    by_cases z : i = 2
    · rw [if_pos z, if_pos z, if_pos z]; exact ⟨hR24, ok2, pos2⟩
    · rw [if_neg z, if_neg z, if_neg z]; exact ⟨hR4, ok, pos⟩
  rw [elr] at hlr
  refine ⟨_, rfl, lr, rfl, ⟨_, SqL.of hlr⟩, fun D nD => lc_list (K := K) (a := lr) (xs := (List.range 3).map fun i => V.ref (rs i)) (fun i H5 => ∃ (Fs : Nat → Addr) (gs : Nat → Addr → Option Sl), H5 D = some (.lst ((List.range i).map fun j => V.ref (Fs j))) ∧ (∀ j, j < i → FlAt C H5 (Fs j) (hss j) (bss j) (cn0 (bss j)) (gs j) ∧ gs j D = none ∧ ∀ p o, H4 p = some o → gs j p = none) ∧ (∀ j k, j < i → k < i → j ≠ k → Ds (gs j) (gs k)) ∧ Same H4 H5) ⟨fun _ => 0, fun _ _ => none, upd_same, (fun _ z => absurd z (Nat.not_lt_zero _)), (fun _ _ z => absurd z (Nat.not_lt_zero _)), same_new nD⟩ (fun i H5 _ ⟨_, _, _, _, _, s5⟩ => SqL.of (s5 _ _ hlr)) ?_ ?_⟩
  · rintro i x H5 hx ⟨Fs, gs, hD, fs, ds, s5⟩
    have i3 : i < 3 := by
      have := (List.getElem?_eq_some_iff.mp hx).1
      rwa [List.length_map, List.length_range] at this
    obtain rfl := rng_eq i3 hx
    refine ⟨rfl, yes_in ⟨_, rfl, fun F dx nF ndx ne => ?_⟩⟩
    have sm : ∀ b o, H5 b = some o → upd (upd H5 dx (.own F)) F (.ins C dx []) b = some o := fun b o e => by
      rw [upd_ne (ne_of_none e nF), upd_ne (ne_of_none e ndx)]; exact e
    refine ⟨F, rs i, dx, hss i, bss i, rfl, upd_same, ((room i).1.keep (TK.same s5)).keep (TK.same sm), (room i).2.1, fun tg H6 fa6 old b6 => ⟨rfl, ?_⟩⟩
    have s6 := made_same nF ndx ne b6
    have free : ∀ b o, H5 b = some o → tg b = none := fun b o e => old b o (sm b o e)
    have hD6 := s6 _ _ hD
    have tD := free _ _ hD
    refine ⟨_, hD6, by rw [List.length_map, List.length_range]; exact small1000 (by omega), fun j => if j = i then F else Fs j, fun j => if j = i then tg else gs j, ?_, fun j hj => ?_, fun j k hj hk ne => ?_, Same.own (s5.trans s6) nD⟩
    · rw [upd_same, List.range_succ, List.map_append]
      refine congrArg (fun l => some (HO.lst l)) (congr (congrArg _ (List.map_congr_left fun j hj => ?_)) ?_)
      · have := List.mem_range.mp hj
        exact congrArg V.ref (if_neg (by omega)).symm
      · exact congrArg (fun x => [V.ref x]) (if_pos rfl).symm
    · show FlAt C _ (if j = i then F else Fs j) _ _ _ (if j = i then tg else gs j) ∧ (if j = i then tg else gs j) D = none ∧ ∀ p o, H4 p = some o → (if j = i then tg else gs j) p = none
      by_cases z : j = i
      · rw [if_pos z, if_pos z, z]
        exact ⟨fa6.kp (Kp.lst hD6 tD), tD, fun p o e => free _ _ (s5 _ _ e)⟩
      · rw [if_neg z, if_neg z]
        obtain ⟨a1, a2, a3⟩ := fs j (by omega)
        exact ⟨(a1.kp (Kp.same s6)).kp (Kp.lst hD6 a2), a2, a3⟩
    · show Ds (if j = i then tg else gs j) (if k = i then tg else gs k)
      by_cases z : j = i
      · rw [if_pos z, if_neg (by omega)]
        intro p n
        obtain ⟨a1, _, _⟩ := fs k (by omega)
        cases e : gs k p with
        | none => exact absurd e n
        | some u =>
          obtain ⟨xs, h⟩ := a1.tg p u e
          exact free _ _ h
      · rw [if_neg z]
        by_cases y : k = i
        · rw [if_pos y]
          intro p n
          obtain ⟨a1, _, _⟩ := fs j (by omega)
          refine a1.tg.free ?_
          cases e : H5 p with
          | none => rfl
          | some o => exact absurd (free _ _ e) n
        · rw [if_neg y]
          exact ds j k (by omega) (by omega) ne
  rintro H5 ⟨Fs, gs, hD, fs, ds, s5⟩
  rw [List.length_map, List.length_range] at hD fs ds
  refine ⟨_, rfl, lr, rfl, ⟨_, SqL.of (s5 _ _ hlr)⟩, fun M nM => lc_list (K := K) (a := lr) (xs := (List.range 3).map fun i => V.ref (rs i)) (fun i H6 => ∃ (ms : Nat → Addr) (ts : Nat → Addr → Option Sl) (L0 L1 L2 : Nat → Addr) (As : Nat → Sl → Addr), H6 M = some (.lst ((List.range i).map fun j => V.ref (ms j))) ∧ (∀ j, j < i → Mdl H6 (ms j) (hss j) (bss j) (cn0 (bss j)) (ts j) (L0 j) (L1 j) (L2 j) (As j) ∧ ts j M = none ∧ ∀ p o, H5 p = some o → ts j p = none) ∧ (∀ j k, j < i → k < i → j ≠ k → Ds (ts j) (ts k)) ∧ Same H5 H6) ⟨fun _ => 0, fun _ _ => none, fun _ => 0, fun _ => 0, fun _ => 0, fun _ _ => 0, upd_same, (fun _ z => absurd z (Nat.not_lt_zero _)), (fun _ _ z => absurd z (Nat.not_lt_zero _)), same_new nM⟩ (fun i H6 _ ⟨_, _, _, _, _, _, _, _, _, s6⟩ => SqL.of (s6 _ _ (s5 _ _ hlr))) ?_ ?_⟩
  · rintro i x H6 hx ⟨ms, ts, L0, L1, L2, As, hM, fm, dm, s6⟩
    have i3 : i < 3 := by
      have := (List.getElem?_eq_some_iff.mp hx).1
      rwa [List.length_map, List.length_range] at this
    obtain rfl := rng_eq i3 hx
    refine ⟨rfl, yes_in ⟨_, rfl, rs i, hss i, bss i, rfl, ((room i).1.keep (TK.same s5)).keep (TK.same s6), (room i).2.1, fun mp tm l0 l1 l2 A H7 m7 free s7 => ?_⟩⟩
    have hM7 := s7 _ _ hM
    have tM := free _ _ hM
    refine ⟨_, hM7, by rw [List.length_map, List.length_range]; exact small1000 (by omega), fun j => if j = i then mp else ms j, fun j => if j = i then tm else ts j, fun j => if j = i then l0 else L0 j, fun j => if j = i then l1 else L1 j, fun j => if j = i then l2 else L2 j, fun j => if j = i then A else As j, ?_, fun j hj => ?_, fun j k hj hk ne => ?_, Same.own (s6.trans s7) nM⟩
    · rw [upd_same, List.range_succ, List.map_append]
      refine congrArg (fun l => some (HO.lst l)) (congr (congrArg _ (List.map_congr_left fun j hj => ?_)) ?_)
      · have := List.mem_range.mp hj
        exact congrArg V.ref (if_neg (by omega)).symm
      · exact congrArg (fun x => [V.ref x]) (if_pos rfl).symm
    · show Mdl _ (if j = i then mp else ms j) _ _ _ (if j = i then tm else ts j) (if j = i then l0 else L0 j) (if j = i then l1 else L1 j) (if j = i then l2 else L2 j) (if j = i then A else As j) ∧ (if j = i then tm else ts j) M = none ∧ ∀ p o, H5 p = some o → (if j = i then tm else ts j) p = none
      by_cases z : j = i
      · rw [if_pos z, if_pos z, if_pos z, if_pos z, if_pos z, if_pos z, z]
        exact ⟨m7.kp (Kp.lst hM7 tM), tM, fun p o e => free _ _ (s6 _ _ e)⟩
      · rw [if_neg z, if_neg z, if_neg z, if_neg z, if_neg z, if_neg z]
        obtain ⟨a1, a2, a3⟩ := fm j (by omega)
        exact ⟨(a1.kp (Kp.same s7)).kp (Kp.lst hM7 a2), a2, a3⟩
    · show Ds (if j = i then tm else ts j) (if k = i then tm else ts k)
      by_cases z : j = i
      · rw [if_pos z, if_neg (by omega)]
        intro p n
        obtain ⟨a1, _, _⟩ := fm k (by omega)
        cases e : ts k p with
        | none => exact absurd e n
        | some u =>
          obtain ⟨xs, h⟩ := a1.own p u e
          exact free _ _ h
      · rw [if_neg z]
        by_cases y : k = i
        · rw [if_pos y]
          intro p n
          obtain ⟨a1, _, _⟩ := fm j (by omega)
          refine a1.own.free ?_
          cases e : H6 p with
          | none => rfl
          | some o => exact absurd (free _ _ e) n
        · rw [if_neg y]
          exact dm j k (by omega) (by omega) ne
  rintro H6 ⟨ms, ts, L0, L1, L2, As, hM, fm, dm, s6⟩
  rw [List.length_map, List.length_range] at hM fm dm
  have s46 := s5.trans s6
  obtain ⟨_, _, _, _, _, ef, ec, _⟩ := id F4
  have gt : ∀ i j, i < 3 → j < 3 → Ds (gs i) (ts j) ∧ Ds (ts j) (gs i) := fun i j hi hj => by
    obtain ⟨a1, _, _⟩ := fs i hi
    obtain ⟨_, _, b3⟩ := fm j hj
    refine ⟨fun p n => a1.tg.free ?_, fun p n => ?_⟩
    · cases e : H5 p with
      | none => rfl
      | some o => exact absurd (b3 p o e) n
    · cases e : gs i p with
      | none => exact absurd e n
      | some u =>
        obtain ⟨xs, h⟩ := a1.tg p u e
        exact b3 _ _ h
  refine ⟨rfl, f, c, r, lr, D, M, fun i => ⟨rs i, Fs i, ms i, hss i, bss i, cn0 (bss i), gs i, ts i, L0 i, L1 i, L2 i, As i⟩, _, rfl, rfl, fun i hi => ?_, fun i j hi hj ne => ?_, fun i hi s => cn0_len (room i).2.1 s, s46 _ _ hlr, s6 _ _ hD, hM, fun i hi => ?_, lrf, F4.ne nD, (F4.same s5).ne nM⟩
  · obtain ⟨a1, _, a3⟩ := fs i hi
    obtain ⟨b1, _, b3⟩ := fm i hi
    exact ⟨F4.same s46, (room i).1.keep (TK.same s46), (room i).2.1, (room i).2.2, a1.kp (Kp.same s6), b1, (gt i i hi hi).1, a3 _ _ ef, a3 _ _ ec, b3 _ _ (s5 _ _ ef), b3 _ _ (s5 _ _ ec)⟩
  · exact ⟨ds i j hi hj ne, dm i j hi hj ne, (gt i j hi hj).1, (gt j i hj hi).2⟩
  · obtain ⟨a1, a2, a3⟩ := fs i hi
    obtain ⟨b1, b2, b3⟩ := fm i hi
    exact ⟨⟨a3 _ _ hlr, b3 _ _ (s5 _ _ hlr)⟩, ⟨a2, b3 _ _ hD⟩, a1.tg.free nM, b2⟩
end
theorem fun_of_D {K : PySem.W.Frag} {x q : Str} {st : Stmt} {f : Addr} {fd : FuncData} (D : FunD K x q (defArgs st) (defBody st) (defScope st) [] [] f fd) : Fun K x q st f fd := by
  obtain ⟨⟨oc, od, dV, kV, doc, pm, an, cdv, ct, osl, e, lk, ci, dfl, _⟩, kp⟩ := D
  have z : dV = .none := by
    rcases dfl with ⟨_, h⟩ | ⟨h, _⟩
    · exact h
    · exact absurd rfl h
  subst z
  exact ⟨⟨oc, od, kV, doc, pm, an, cdv, ct, osl, e, lk, ci⟩, kp⟩
def hd_made_by : He.DefD := ⟨("made_by", none), "made_by", "made_by", defArgs s_made_by, defBody s_made_by, defScope s_made_by, [], []⟩
def hd_made_of_two : He.DefD := ⟨("made_of_two", none), "made_of_two", "made_of_two", defArgs s_made_of_two, defBody s_made_of_two, defScope s_made_of_two, [], []⟩
def hd_comings : He.DefD := ⟨("comings", none), "comings", "comings", defArgs s_comings, defBody s_comings, defScope s_comings, [], []⟩
def hd_goings : He.DefD := ⟨("goings", none), "goings", "goings", defArgs s_goings, defBody s_goings, defScope s_goings, [], []⟩
def hd_Floor___init__ : He.DefD := ⟨("Floor", some "__init__"), "__init__", "Floor.__init__", defArgs s_Floor___init__, defBody s_Floor___init__, defScope s_Floor___init__, [], []⟩
def hd_Floor_give : He.DefD := ⟨("Floor", some "give"), "give", "Floor.give", defArgs s_Floor_give, defBody s_Floor_give, defScope s_Floor_give, [], []⟩
def hd_Floor_ready : He.DefD := ⟨("Floor", some "ready"), "ready", "Floor.ready", defArgs s_Floor_ready, defBody s_Floor_ready, defScope s_Floor_ready, [], []⟩
def hd_Floor_work : He.DefD := ⟨("Floor", some "work"), "work", "Floor.work", defArgs s_Floor_work, defBody s_Floor_work, defScope s_Floor_work, [], []⟩
def hd_Floor_made : He.DefD := ⟨("Floor", some "made"), "made", "Floor.made", defArgs s_Floor_made, defBody s_Floor_made, defScope s_Floor_made, [], []⟩
def hd_Floor_can_work : He.DefD := ⟨("Floor", some "can_work"), "can_work", "Floor.can_work", defArgs s_Floor_can_work, defBody s_Floor_can_work, defScope s_Floor_can_work, [], []⟩
def hd_Floor_sources : He.DefD := ⟨("Floor", some "sources"), "sources", "Floor.sources", defArgs s_Floor_sources, defBody s_Floor_sources, defScope s_Floor_sources, [], []⟩
def hd_law_flow : He.DefD := ⟨("_law_flow", none), "_law_flow", "_law_flow", defArgs s_law_flow, defBody s_law_flow, defScope s_law_flow, [], []⟩
def hd_law_pick : He.DefD := ⟨("_law_pick", none), "_law_pick", "_law_pick", defArgs s_law_pick, defBody s_law_pick, defScope s_law_pick, [], []⟩
def hd_law_thing : He.DefD := ⟨("_law_thing", none), "_law_thing", "_law_thing", defArgs s_law_thing, defBody s_law_thing, defScope s_law_thing, [], []⟩
def hd_law_needs : He.DefD := ⟨("_law_needs", none), "_law_needs", "_law_needs", defArgs s_law_needs, defBody s_law_needs, defScope s_law_needs, [], []⟩
def hd_law_rule : He.DefD := ⟨("_law_rule", none), "_law_rule", "_law_rule", defArgs s_law_rule, defBody s_law_rule, defScope s_law_rule, [], []⟩
def hd_law_shuffled : He.DefD := ⟨("_law_shuffled", none), "_law_shuffled", "_law_shuffled", defArgs s_law_shuffled, defBody s_law_shuffled, defScope s_law_shuffled, [], []⟩
def hd_law_hands : He.DefD := ⟨("_law_hands", none), "_law_hands", "_law_hands", defArgs s_law_hands, defBody s_law_hands, defScope s_law_hands, [], []⟩
def hd_law_room : He.DefD := ⟨("_law_room", none), "_law_room", "_law_room", defArgs s_law_room, defBody s_law_room, defScope s_law_room, [], []⟩
def hd_law_made_by : He.DefD := ⟨("_law_made_by", none), "_law_made_by", "_law_made_by", defArgs s_law_made_by, defBody s_law_made_by, defScope s_law_made_by, [], []⟩
def hd_law_alike : He.DefD := ⟨("_law_alike", none), "_law_alike", "_law_alike", defArgs s_law_alike, defBody s_law_alike, defScope s_law_alike, [], []⟩
def hd_law_doors_room : He.DefD := ⟨("_law_doors_room", none), "_law_doors_room", "_law_doors_room", defArgs s_law_doors_room, defBody s_law_doors_room, defScope s_law_doors_room, [], []⟩
def hd_law_any_room : He.DefD := ⟨("_law_any_room", none), "_law_any_room", "_law_any_room", defArgs s_law_any_room, defBody s_law_any_room, defScope s_law_any_room, [], []⟩
def hd_law_doors : He.DefD := ⟨("_law_doors", none), "_law_doors", "_law_doors", defArgs s_law_doors, defBody s_law_doors, defScope s_law_doors, [], []⟩
def hd_law_model : He.DefD := ⟨("_law_model", none), "_law_model", "_law_model", defArgs s_law_model, defBody s_law_model, defScope s_law_model, [], []⟩
def hd_law_model_ready : He.DefD := ⟨("_law_model_ready", none), "_law_model_ready", "_law_model_ready", defArgs s_law_model_ready, defBody s_law_model_ready, defScope s_law_model_ready, [], []⟩
def hd_law_model_work : He.DefD := ⟨("_law_model_work", none), "_law_model_work", "_law_model_work", defArgs s_law_model_work, defBody s_law_model_work, defScope s_law_model_work, [], []⟩
def hd_law_refused : He.DefD := ⟨("_law_refused", none), "_law_refused", "_law_refused", defArgs s_law_refused, defBody s_law_refused, defScope s_law_refused, [], []⟩
def hd_law_deed_right : He.DefD := ⟨("_law_deed_right", none), "_law_deed_right", "_law_deed_right", defArgs s_law_deed_right, defBody s_law_deed_right, defScope s_law_deed_right, [], []⟩
def hd_law_floor_right : He.DefD := ⟨("_law_floor_right", none), "_law_floor_right", "_law_floor_right", defArgs s_law_floor_right, defBody s_law_floor_right, defScope s_law_floor_right, [], []⟩
def hd_law : He.DefD := ⟨("law", none), "law", "law", defArgs s_law, defBody s_law, defScope s_law, [], []⟩
def hd_NsInit : He.DefD := ⟨("NotReady", some "__init__"), "__init__", "NotReady.__init__", defArgs s_NotReady_init, defBody s_NotReady_init, defScope s_NotReady_init, [], []⟩
def hFn : List He.DefD := [hd_made_by, hd_made_of_two, hd_comings, hd_goings, hd_Floor___init__, hd_Floor_give, hd_Floor_ready, hd_Floor_work, hd_Floor_made, hd_Floor_can_work, hd_Floor_sources, hd_law_flow, hd_law_pick, hd_law_thing, hd_law_needs, hd_law_rule, hd_law_shuffled, hd_law_hands, hd_law_room, hd_law_made_by, hd_law_alike, hd_law_doors_room, hd_law_any_room, hd_law_doors, hd_law_model, hd_law_model_ready, hd_law_model_work, hd_law_refused, hd_law_deed_right, hd_law_floor_right, hd_law, hd_NsInit]
def hFa : List He.Fa := [.glo "made_by", .glo "made_of_two", .glo "comings", .glo "goings", .mkr "Floor", .meth "Floor" "give", .meth "Floor" "ready", .meth "Floor" "work", .meth "Floor" "made", .meth "Floor" "can_work", .meth "Floor" "sources", .glo "_law_flow", .glo "_law_pick", .glo "_law_thing", .glo "_law_needs", .glo "_law_rule", .glo "_law_shuffled", .glo "_law_hands", .glo "_law_room", .glo "_law_made_by", .glo "_law_alike", .glo "_law_doors_room", .glo "_law_any_room", .glo "_law_doors", .glo "_law_model", .glo "_law_model_ready", .glo "_law_model_work", .glo "_law_refused", .glo "_law_deed_right", .glo "_law_floor_right", .glo "law", .free "ValueError", .free "all", .free "any", .free "bool", .free "enumerate", .free "int", .free "isinstance", .free "len", .free "list", .free "max", .free "min", .free "range", .free "sum", .free "tuple", .free "zip", .glo "IN_RULE", .glo "NotReady", .glo "BeltError", .glo "NoText", .glo "NoRoom", .glo "NoFormula", .glo "NoShift", .glo "NoName", .glo "NoRow", .cls "Floor", .glo "Floor", .noat "Floor" "rules", .noat "Floor" "given", .noat "Floor" "lying", .noat "Floor" "coming", .noat "Floor" "going", .noat "Floor" "done"]
def hEx (K : PySem.W.Frag) : Bool := He.tupB K "IN_RULE" [.str "in"] && nsB K
def hTf : List (Str × Option Str) := []
abbrev hR : PySem.W.OpenRow := PySem.W.OpenLaw.row PySem.Challenge.rw_beltshift_k61_floors_by_turns
abbrev hk : PySem.W.Hook := He.hookX 4 hFa hFn [] hTf hEx
def hOb (s : PySem.W.SharedT) : He.AlX := He.obsX 4 hFa hFn [] hTf hEx (HandSHeadRun.getT s)
theorem hOb_eq (s : PySem.W.SharedT) : hOb s = hk.obs s.abs := He.obsX_eq (HandSHeadRun.getT_eq s)
def hN0 : List Str := ["BeltError", "NoText", "NoRoom", "NoFormula", "NoShift", "NotReady", "NoName", "NoRow", "made_by", "made_of_two", "IN_RULE", "comings", "goings", "Floor", "_law_flow", "_law_pick", "_law_thing", "_law_needs", "_law_rule", "_law_shuffled", "_law_hands", "_law_room", "_law_made_by", "_law_alike", "_law_doors_room", "_law_any_room", "_law_doors", "_law_model", "_law_model_ready", "_law_model_work"]
def hN1 : List Str := ["_law_refused", "_law_deed_right", "_law_floor_right"]
def hNames : List Str := hN0 ++ hN1
set_option maxHeartbeats 0 in
theorem hRun (w : World) : HandSHeadRun.RunEq hR (PySem.W.view hR.prog [38]) hk hOb 40000 hNames w := by
  intro os
  kernel_rfl
set_option maxHeartbeats 0 in
theorem all_mkX {w : World} {K : PySem.W.Frag} {h : Heap} {mg : Str → Option Value} {fa : Addr} (X : K.In h) (G : h.Ns mainGlobals mg) (hfa : mg "law" = some (.ref fa)) (c : He.SaysX hFa hFn [] hTf hEx w h K) : LamX.LawAtS PySem.Challenge.rw_beltshift_k61_floors_by_turns w K CX0 9 63 "_law_script" mg fa h := by
  have cd := c.t.d
  obtain ⟨fd0, D0⟩ := cd.def_ 0 (d := hd_made_by) rfl
  have F0 : Fun K "made_by" "made_by" s_made_by (He.ga K "made_by") fd0 := fun_of_D D0
  have g0 : mg "made_by" = some (.ref (He.ga K "made_by")) := He.glo_ok X G (cd.fact 0 (f := .glo "made_by") rfl)
  have b0 := F0.binds (ps := ["rule", "things"]) fun _ _ _ _ _ _ us hl => match us, hl with | [_, _], _ => rfl
  obtain ⟨fd1, D1⟩ := cd.def_ 1 (d := hd_made_of_two) rfl
  have F1 : Fun K "made_of_two" "made_of_two" s_made_of_two (He.ga K "made_of_two") fd1 := fun_of_D D1
  have g1 : mg "made_of_two" = some (.ref (He.ga K "made_of_two")) := He.glo_ok X G (cd.fact 1 (f := .glo "made_of_two") rfl)
  have b1 := F1.binds (ps := ["word", "one", "other"]) fun _ _ _ _ _ _ us hl => match us, hl with | [_, _, _], _ => rfl
  obtain ⟨fd2, D2⟩ := cd.def_ 2 (d := hd_comings) rfl
  have F2 : Fun K "comings" "comings" s_comings (He.ga K "comings") fd2 := fun_of_D D2
  have g2 : mg "comings" = some (.ref (He.ga K "comings")) := He.glo_ok X G (cd.fact 2 (f := .glo "comings") rfl)
  have b2 := F2.binds (ps := ["room", "hand"]) fun _ _ _ _ _ _ us hl => match us, hl with | [_, _], _ => rfl
  obtain ⟨fd3, D3⟩ := cd.def_ 3 (d := hd_goings) rfl
  have F3 : Fun K "goings" "goings" s_goings (He.ga K "goings") fd3 := fun_of_D D3
  have g3 : mg "goings" = some (.ref (He.ga K "goings")) := He.glo_ok X G (cd.fact 3 (f := .glo "goings") rfl)
  have b3 := F3.binds (ps := ["room", "hand"]) fun _ _ _ _ _ _ us hl => match us, hl with | [_, _], _ => rfl
  obtain ⟨fd4, D4⟩ := cd.def_ 4 (d := hd_Floor___init__) rfl
  have F4 : Fun K "__init__" "Floor.__init__" s_Floor___init__ (He.fAd K ("Floor", some "__init__")) fd4 := fun_of_D D4
  have g4 : Mk K (He.ga K "Floor") (He.fAd K ("Floor", some "__init__")) := He.mkr_ok (cd.fact 4 (f := .mkr "Floor") rfl)
  have b4 := F4.binds (ps := ["self", "room"]) fun _ _ _ _ _ _ us hl => match us, hl with | [_, _], _ => rfl
  obtain ⟨fd5, D5⟩ := cd.def_ 5 (d := hd_Floor_give) rfl
  have F5 : Fun K "give" "Floor.give" s_Floor_give (He.fAd K ("Floor", some "give")) fd5 := fun_of_D D5
  have g5 : Meth K (He.ga K "Floor") "give" (He.fAd K ("Floor", some "give")) := He.meth_ok (cd.fact 5 (f := .meth "Floor" "give") rfl)
  have b5 := F5.binds (ps := ["self", "hand", "thing"]) fun _ _ _ _ _ _ us hl => match us, hl with | [_, _, _], _ => rfl
  obtain ⟨fd6, D6⟩ := cd.def_ 6 (d := hd_Floor_ready) rfl
  have F6 : Fun K "ready" "Floor.ready" s_Floor_ready (He.fAd K ("Floor", some "ready")) fd6 := fun_of_D D6
  have g6 : Meth K (He.ga K "Floor") "ready" (He.fAd K ("Floor", some "ready")) := He.meth_ok (cd.fact 6 (f := .meth "Floor" "ready") rfl)
  have b6 := F6.binds (ps := ["self"]) fun _ _ _ _ _ _ us hl => match us, hl with | [_], _ => rfl
  obtain ⟨fd7, D7⟩ := cd.def_ 7 (d := hd_Floor_work) rfl
  have F7 : Fun K "work" "Floor.work" s_Floor_work (He.fAd K ("Floor", some "work")) fd7 := fun_of_D D7
  have g7 : Meth K (He.ga K "Floor") "work" (He.fAd K ("Floor", some "work")) := He.meth_ok (cd.fact 7 (f := .meth "Floor" "work") rfl)
  have b7 := F7.binds (ps := ["self", "hand"]) fun _ _ _ _ _ _ us hl => match us, hl with | [_, _], _ => rfl
  obtain ⟨fd8, D8⟩ := cd.def_ 8 (d := hd_Floor_made) rfl
  have F8 : Fun K "made" "Floor.made" s_Floor_made (He.fAd K ("Floor", some "made")) fd8 := fun_of_D D8
  have g8 : Meth K (He.ga K "Floor") "made" (He.fAd K ("Floor", some "made")) := He.meth_ok (cd.fact 8 (f := .meth "Floor" "made") rfl)
  have b8 := F8.binds (ps := ["self", "hand"]) fun _ _ _ _ _ _ us hl => match us, hl with | [_, _], _ => rfl
  obtain ⟨fd9, D9⟩ := cd.def_ 9 (d := hd_Floor_can_work) rfl
  have F9 : Fun K "can_work" "Floor.can_work" s_Floor_can_work (He.fAd K ("Floor", some "can_work")) fd9 := fun_of_D D9
  have g9 : Meth K (He.ga K "Floor") "can_work" (He.fAd K ("Floor", some "can_work")) := He.meth_ok (cd.fact 9 (f := .meth "Floor" "can_work") rfl)
  have b9 := F9.binds (ps := ["self", "hand"]) fun _ _ _ _ _ _ us hl => match us, hl with | [_, _], _ => rfl
  obtain ⟨fd10, D10⟩ := cd.def_ 10 (d := hd_Floor_sources) rfl
  have F10 : Fun K "sources" "Floor.sources" s_Floor_sources (He.fAd K ("Floor", some "sources")) fd10 := fun_of_D D10
  have g10 : Meth K (He.ga K "Floor") "sources" (He.fAd K ("Floor", some "sources")) := He.meth_ok (cd.fact 10 (f := .meth "Floor" "sources") rfl)
  have b10 := F10.binds (ps := ["self", "hand"]) fun _ _ _ _ _ _ us hl => match us, hl with | [_, _], _ => rfl
  obtain ⟨fd11, D11⟩ := cd.def_ 11 (d := hd_law_flow) rfl
  have F11 : Fun K "_law_flow" "_law_flow" s_law_flow (He.ga K "_law_flow") fd11 := fun_of_D D11
  have g11 : mg "_law_flow" = some (.ref (He.ga K "_law_flow")) := He.glo_ok X G (cd.fact 11 (f := .glo "_law_flow") rfl)
  have b11 := F11.binds (ps := ["_law_script"]) fun _ _ _ _ _ _ us hl => match us, hl with | [_], _ => rfl
  obtain ⟨fd12, D12⟩ := cd.def_ 12 (d := hd_law_pick) rfl
  have F12 : Fun K "_law_pick" "_law_pick" s_law_pick (He.ga K "_law_pick") fd12 := fun_of_D D12
  have g12 : mg "_law_pick" = some (.ref (He.ga K "_law_pick")) := He.glo_ok X G (cd.fact 12 (f := .glo "_law_pick") rfl)
  have b12 := F12.binds (ps := ["_law_flow_here", "_law_many"]) fun _ _ _ _ _ _ us hl => match us, hl with | [_, _], _ => rfl
  obtain ⟨fd13, D13⟩ := cd.def_ 13 (d := hd_law_thing) rfl
  have F13 : Fun K "_law_thing" "_law_thing" s_law_thing (He.ga K "_law_thing") fd13 := fun_of_D D13
  have g13 : mg "_law_thing" = some (.ref (He.ga K "_law_thing")) := He.glo_ok X G (cd.fact 13 (f := .glo "_law_thing") rfl)
  have b13 := F13.binds (ps := ["_law_flow_here"]) fun _ _ _ _ _ _ us hl => match us, hl with | [_], _ => rfl
  obtain ⟨fd14, D14⟩ := cd.def_ 14 (d := hd_law_needs) rfl
  have F14 : Fun K "_law_needs" "_law_needs" s_law_needs (He.ga K "_law_needs") fd14 := fun_of_D D14
  have g14 : mg "_law_needs" = some (.ref (He.ga K "_law_needs")) := He.glo_ok X G (cd.fact 14 (f := .glo "_law_needs") rfl)
  have b14 := F14.binds (ps := ["_law_rule_here"]) fun _ _ _ _ _ _ us hl => match us, hl with | [_], _ => rfl
  obtain ⟨fd15, D15⟩ := cd.def_ 15 (d := hd_law_rule) rfl
  have F15 : Fun K "_law_rule" "_law_rule" s_law_rule (He.ga K "_law_rule") fd15 := fun_of_D D15
  have g15 : mg "_law_rule" = some (.ref (He.ga K "_law_rule")) := He.glo_ok X G (cd.fact 15 (f := .glo "_law_rule") rfl)
  have b15 := F15.binds (ps := ["_law_flow_here", "_law_most"]) fun _ _ _ _ _ _ us hl => match us, hl with | [_, _], _ => rfl
  obtain ⟨fd16, D16⟩ := cd.def_ 16 (d := hd_law_shuffled) rfl
  have F16 : Fun K "_law_shuffled" "_law_shuffled" s_law_shuffled (He.ga K "_law_shuffled") fd16 := fun_of_D D16
  have g16 : mg "_law_shuffled" = some (.ref (He.ga K "_law_shuffled")) := He.glo_ok X G (cd.fact 16 (f := .glo "_law_shuffled") rfl)
  have b16 := F16.binds (ps := ["_law_flow_here", "_law_some"]) fun _ _ _ _ _ _ us hl => match us, hl with | [_, _], _ => rfl
  obtain ⟨fd17, D17⟩ := cd.def_ 17 (d := hd_law_hands) rfl
  have F17 : Fun K "_law_hands" "_law_hands" s_law_hands (He.ga K "_law_hands") fd17 := fun_of_D D17
  have g17 : mg "_law_hands" = some (.ref (He.ga K "_law_hands")) := He.glo_ok X G (cd.fact 17 (f := .glo "_law_hands") rfl)
  have b17 := F17.binds (ps := ["_law_flow_here", "_law_many"]) fun _ _ _ _ _ _ us hl => match us, hl with | [_, _], _ => rfl
  obtain ⟨fd18, D18⟩ := cd.def_ 18 (d := hd_law_room) rfl
  have F18 : Fun K "_law_room" "_law_room" s_law_room (He.ga K "_law_room") fd18 := fun_of_D D18
  have g18 : mg "_law_room" = some (.ref (He.ga K "_law_room")) := He.glo_ok X G (cd.fact 18 (f := .glo "_law_room") rfl)
  have b18 := F18.binds (ps := ["_law_flow_here", "_law_most"]) fun _ _ _ _ _ _ us hl => match us, hl with | [_, _], _ => rfl
  obtain ⟨fd19, D19⟩ := cd.def_ 19 (d := hd_law_made_by) rfl
  have F19 : Fun K "_law_made_by" "_law_made_by" s_law_made_by (He.ga K "_law_made_by") fd19 := fun_of_D D19
  have g19 : mg "_law_made_by" = some (.ref (He.ga K "_law_made_by")) := He.glo_ok X G (cd.fact 19 (f := .glo "_law_made_by") rfl)
  have b19 := F19.binds (ps := ["_law_rule_here", "_law_things"]) fun _ _ _ _ _ _ us hl => match us, hl with | [_, _], _ => rfl
  obtain ⟨fd20, D20⟩ := cd.def_ 20 (d := hd_law_alike) rfl
  have F20 : Fun K "_law_alike" "_law_alike" s_law_alike (He.ga K "_law_alike") fd20 := fun_of_D D20
  have g20 : mg "_law_alike" = some (.ref (He.ga K "_law_alike")) := He.glo_ok X G (cd.fact 20 (f := .glo "_law_alike") rfl)
  have b20 := F20.binds (ps := ["_law_found", "_law_due"]) fun _ _ _ _ _ _ us hl => match us, hl with | [_, _], _ => rfl
  obtain ⟨fd21, D21⟩ := cd.def_ 21 (d := hd_law_doors_room) rfl
  have F21 : Fun K "_law_doors_room" "_law_doors_room" s_law_doors_room (He.ga K "_law_doors_room") fd21 := fun_of_D D21
  have g21 : mg "_law_doors_room" = some (.ref (He.ga K "_law_doors_room")) := He.glo_ok X G (cd.fact 21 (f := .glo "_law_doors_room") rfl)
  have b21 := F21.binds (ps := ["_law_flow_here"]) fun _ _ _ _ _ _ us hl => match us, hl with | [_], _ => rfl
  obtain ⟨fd22, D22⟩ := cd.def_ 22 (d := hd_law_any_room) rfl
  have F22 : Fun K "_law_any_room" "_law_any_room" s_law_any_room (He.ga K "_law_any_room") fd22 := fun_of_D D22
  have g22 : mg "_law_any_room" = some (.ref (He.ga K "_law_any_room")) := He.glo_ok X G (cd.fact 22 (f := .glo "_law_any_room") rfl)
  have b22 := F22.binds (ps := ["_law_flow_here"]) fun _ _ _ _ _ _ us hl => match us, hl with | [_], _ => rfl
  obtain ⟨fd23, D23⟩ := cd.def_ 23 (d := hd_law_doors) rfl
  have F23 : Fun K "_law_doors" "_law_doors" s_law_doors (He.ga K "_law_doors") fd23 := fun_of_D D23
  have g23 : mg "_law_doors" = some (.ref (He.ga K "_law_doors")) := He.glo_ok X G (cd.fact 23 (f := .glo "_law_doors") rfl)
  have b23 := F23.binds (ps := ["_law_room_here", "_law_word"]) fun _ _ _ _ _ _ us hl => match us, hl with | [_, _], _ => rfl
  obtain ⟨fd24, D24⟩ := cd.def_ 24 (d := hd_law_model) rfl
  have F24 : Fun K "_law_model" "_law_model" s_law_model (He.ga K "_law_model") fd24 := fun_of_D D24
  have g24 : mg "_law_model" = some (.ref (He.ga K "_law_model")) := He.glo_ok X G (cd.fact 24 (f := .glo "_law_model") rfl)
  have b24 := F24.binds (ps := ["_law_room_here"]) fun _ _ _ _ _ _ us hl => match us, hl with | [_], _ => rfl
  obtain ⟨fd25, D25⟩ := cd.def_ 25 (d := hd_law_model_ready) rfl
  have F25 : Fun K "_law_model_ready" "_law_model_ready" s_law_model_ready (He.ga K "_law_model_ready") fd25 := fun_of_D D25
  have g25 : mg "_law_model_ready" = some (.ref (He.ga K "_law_model_ready")) := He.glo_ok X G (cd.fact 25 (f := .glo "_law_model_ready") rfl)
  have b25 := F25.binds (ps := ["_law_room_here", "_law_model_here"]) fun _ _ _ _ _ _ us hl => match us, hl with | [_, _], _ => rfl
  obtain ⟨fd26, D26⟩ := cd.def_ 26 (d := hd_law_model_work) rfl
  have F26 : Fun K "_law_model_work" "_law_model_work" s_law_model_work (He.ga K "_law_model_work") fd26 := fun_of_D D26
  have g26 : mg "_law_model_work" = some (.ref (He.ga K "_law_model_work")) := He.glo_ok X G (cd.fact 26 (f := .glo "_law_model_work") rfl)
  have b26 := F26.binds (ps := ["_law_room_here", "_law_model_here", "_law_k"]) fun _ _ _ _ _ _ us hl => match us, hl with | [_, _, _], _ => rfl
  obtain ⟨fd27, D27⟩ := cd.def_ 27 (d := hd_law_refused) rfl
  have F27 : Fun K "_law_refused" "_law_refused" s_law_refused (He.ga K "_law_refused") fd27 := fun_of_D D27
  have g27 : mg "_law_refused" = some (.ref (He.ga K "_law_refused")) := He.glo_ok X G (cd.fact 27 (f := .glo "_law_refused") rfl)
  have b27 := F27.binds (ps := ["_law_floor", "_law_k"]) fun _ _ _ _ _ _ us hl => match us, hl with | [_, _], _ => rfl
  obtain ⟨fd28, D28⟩ := cd.def_ 28 (d := hd_law_deed_right) rfl
  have F28 : Fun K "_law_deed_right" "_law_deed_right" s_law_deed_right (He.ga K "_law_deed_right") fd28 := fun_of_D D28
  have g28 : mg "_law_deed_right" = some (.ref (He.ga K "_law_deed_right")) := He.glo_ok X G (cd.fact 28 (f := .glo "_law_deed_right") rfl)
  have b28 := F28.binds (ps := ["_law_flow_here", "_law_room_here", "_law_floor", "_law_model_here"]) fun _ _ _ _ _ _ us hl => match us, hl with | [_, _, _, _], _ => rfl
  obtain ⟨fd29, D29⟩ := cd.def_ 29 (d := hd_law_floor_right) rfl
  have F29 : Fun K "_law_floor_right" "_law_floor_right" s_law_floor_right (He.ga K "_law_floor_right") fd29 := fun_of_D D29
  have g29 : mg "_law_floor_right" = some (.ref (He.ga K "_law_floor_right")) := He.glo_ok X G (cd.fact 29 (f := .glo "_law_floor_right") rfl)
  have b29 := F29.binds (ps := ["_law_room_here", "_law_floor", "_law_model_here"]) fun _ _ _ _ _ _ us hl => match us, hl with | [_, _, _], _ => rfl
  obtain ⟨fd30, D30⟩ := cd.def_ 30 (d := hd_law) rfl
  have F30 : Fun K "law" "law" s_law (He.ga K "law") fd30 := fun_of_D D30
  have g30 : mg "law" = some (.ref (He.ga K "law")) := He.glo_ok X G (cd.fact 30 (f := .glo "law") rfl)
  have ex := c.more
  unfold hEx at ex
  simp only [Bool.and_eq_true] at ex
  obtain ⟨ex0, ex1⟩ := ex
  obtain ⟨fdNs, DNs⟩ := cd.def_ 31 (d := hd_NsInit) rfl
  have FNs : Fun K "__init__" "NotReady.__init__" s_NotReady_init (He.fAd K ("NotReady", some "__init__")) fdNs := fun_of_D DNs
  have bNs := FNs.binds (ps := ["self", "hand"]) fun _ _ _ _ _ _ us hl => match us, hl with | [_, _], _ => rfl
  have gNs : mg "NotReady" = some (.ref (He.ga K "NotReady")) := He.glo_ok X G (cd.fact 47 (f := .glo "NotReady") rfl)
  have gBe : mg "BeltError" = some (.ref (He.ga K "BeltError")) := He.glo_ok X G (cd.fact 48 (f := .glo "BeltError") rfl)
  have T : Top K mg (He.ga K "Floor") := ⟨⟨_, fd0, F0, b0, g0⟩, ⟨_, fd1, F1, b1, g1⟩, ⟨_, fd2, F2, b2, g2⟩, ⟨_, fd3, F3, b3, g3⟩, ⟨_, fd4, F4, b4, g4⟩, ⟨_, fd5, F5, b5, g5⟩, ⟨_, fd6, F6, b6, g6⟩, ⟨_, fd7, F7, b7, g7⟩, ⟨_, fd8, F8, b8, g8⟩, ⟨_, fd9, F9, b9, g9⟩, ⟨_, fd10, F10, b10, g10⟩, ⟨_, fd11, F11, b11, g11⟩, ⟨_, fd12, F12, b12, g12⟩, ⟨_, fd13, F13, b13, g13⟩, ⟨_, fd14, F14, b14, g14⟩, ⟨_, fd15, F15, b15, g15⟩, ⟨_, fd16, F16, b16, g16⟩, ⟨_, fd17, F17, b17, g17⟩, ⟨_, fd18, F18, b18, g18⟩, ⟨_, fd19, F19, b19, g19⟩, ⟨_, fd20, F20, b20, g20⟩, ⟨_, fd21, F21, b21, g21⟩, ⟨_, fd22, F22, b22, g22⟩, ⟨_, fd23, F23, b23, g23⟩, ⟨_, fd24, F24, b24, g24⟩, ⟨_, fd25, F25, b25, g25⟩, ⟨_, fd26, F26, b26, g26⟩, ⟨_, fd27, F27, b27, g27⟩, ⟨_, fd28, F28, b28, g28⟩, ⟨_, fd29, F29, b29, g29⟩, He.free_ok X G (cd.fact 31 (f := .free "ValueError") rfl), He.free_ok X G (cd.fact 32 (f := .free "all") rfl), He.free_ok X G (cd.fact 33 (f := .free "any") rfl), He.free_ok X G (cd.fact 34 (f := .free "bool") rfl), He.free_ok X G (cd.fact 35 (f := .free "enumerate") rfl), He.free_ok X G (cd.fact 36 (f := .free "int") rfl), He.free_ok X G (cd.fact 37 (f := .free "isinstance") rfl), He.free_ok X G (cd.fact 38 (f := .free "len") rfl), He.free_ok X G (cd.fact 39 (f := .free "list") rfl), He.free_ok X G (cd.fact 40 (f := .free "max") rfl), He.free_ok X G (cd.fact 41 (f := .free "min") rfl), He.free_ok X G (cd.fact 42 (f := .free "range") rfl), He.free_ok X G (cd.fact 43 (f := .free "sum") rfl), He.free_ok X G (cd.fact 44 (f := .free "tuple") rfl), He.free_ok X G (cd.fact 45 (f := .free "zip") rfl), ⟨_, He.glo_ok X G (cd.fact 46 (f := .glo "IN_RULE") rfl), fun H => He.tupB_ok ex0 H⟩, ⟨_, nsB_ok ex1 gNs gBe FNs bNs⟩, He.glo_ok X G (cd.fact 49 (f := .glo "NoText") rfl), He.glo_ok X G (cd.fact 50 (f := .glo "NoRoom") rfl), He.glo_ok X G (cd.fact 51 (f := .glo "NoFormula") rfl), He.glo_ok X G (cd.fact 52 (f := .glo "NoShift") rfl), He.glo_ok X G (cd.fact 53 (f := .glo "NoName") rfl), He.glo_ok X G (cd.fact 54 (f := .glo "NoRow") rfl), He.cls_ok (cd.fact 55 (f := .cls "Floor") rfl), He.glo_ok X G (cd.fact 56 (f := .glo "Floor") rfl), He.noat_ok (cd.fact 57 (f := .noat "Floor" "rules") rfl), He.noat_ok (cd.fact 58 (f := .noat "Floor" "given") rfl), He.noat_ok (cd.fact 59 (f := .noat "Floor" "lying") rfl), He.noat_ok (cd.fact 60 (f := .noat "Floor" "coming") rfl), He.noat_ok (cd.fact 61 (f := .noat "Floor" "going") rfl), He.noat_ok (cd.fact 62 (f := .noat "Floor" "done") rfl)⟩
  have e := hfa.symm.trans g30
  cases e
  have law_b : ∀ (s : Shared) (v : Value), BindsTo s fd30 ⟨[v], []⟩ [("_law_script", v)] := fun s v => by
    obtain ⟨_, _, _, _, _, _, _, _, _, rfl, _, _⟩ := F30.ex
    exact .of_eq rfl
  refine ⟨fd30, [], sp_law K , fun p hp => ?_, fun p hp => ?_, fun p hp => ?_, law_b, fun H a ns hl _ hT hS => ⟨a, ns, rfl, hS, hl, fun _ => rfl⟩, fun base _ _ TB => ?_⟩
  · cases hp
  · cases hp
  · cases hp
  exact ok_law F30 T
end Mine
open PySem PySem.W PySem.Calls PyProof.Rows
set_option maxRecDepth 100000 in
set_option maxHeartbeats 0 in
theorem PySem.Challenge.cw_beltshift_k61_floors_by_turns_holds : PySem.Challenge.rw_beltshift_k61_floors_by_turns.Holds := by
  w_on; o_law
  refine HandSHeadRun.head_any (r := Mine.hR) (q := view Mine.hR.prog [38]) (H := Mine.hk) (ob := Mine.hOb) (M := 40000) (loose := Mine.hNames) (d := HandSHeadRun.topDef Mine.hR.prog 38) (kwd := []) Mine.hOb_eq (by kernel_rfl) (fun s => by kernel_rfl) Mine.hRun (by kernel_rfl) (by kernel_rfl) (by kernel_rfl) (by rfl) (by first | assumption | decide +kernel) (by decide +kernel) ⟨rfl, rfl, rfl, rfl, rfl, by decide +kernel⟩ ?hw ?hc
  case hw => w_witness2
  case hc =>
    refine LamX.walk_ofTsE (l := PySem.Challenge.rw_beltshift_k61_floors_by_turns) (n := 63) (k := 9) (x := "_law_script") (CX := fun _ => L2.CX0) rfl (by decide) (by kernel_rfl) ⟨rfl, by decide, by decide⟩ ?F (fun _ _ _ _ _ z => z)
    intro w mg fa h Y G hmg0
    obtain ⟨K, KX, c⟩ := Y
    have hmg : mg ("law" : PySem.Str) = some (.ref fa) := by
      have e : (HandSHeadRun.topDef Mine.hR.prog 38).name = ("law" : PySem.Str) := by kernel_rfl
      rw [← e]
      exact hmg0
    exact ⟨K, KX, Mine.all_mkX KX G hmg c⟩
