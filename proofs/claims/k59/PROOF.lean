import PyProof.Rows.All
import Wide.All
import OpenK.AllK
import Wide.FinOn
import HandS.ForMost
import HandS.DictComp
import HandS.Wide
import HandS.Style
import HandS.IsInst
import HandS.TupAny
import HandS.NoneIn
import HandS.SetFor
import HandS.Conv
import HandS.Zip
import KE.GoesMore
import KE.KDictZip
import KE.GoesZip
import KE.GoesEnum
import PySem.Challenge.RW_beltshift_k59_whole_hands_work_in_any_or
set_option Elab.async false
set_option linter.all false
set_option maxRecDepth 100000
namespace Mine
open PySem PyProof.Rows L2
def topS (i : Nat) : Stmt := PySem.Challenge.pw_beltshift_k59_whole_hands_work_in_any_or.main.body.getD i (.Pass ⟨0, 0, 0, 0⟩)
abbrev s_made_by : Stmt := topS 4
abbrev N_made_by : List Str := ["rule", "things", "word"]
theorem sc_made_by : FnScope N_made_by ["rule", "things"] (defScope s_made_by) := ⟨rfl, rfl, rfl, by decide +kernel, rfl, by decide +kernel, by decide +kernel⟩
abbrev s_made_of_two : Stmt := topS 5
abbrev N_made_of_two : List Str := ["word", "one", "other"]
theorem sc_made_of_two : FnScope N_made_of_two ["word", "one", "other"] (defScope s_made_of_two) := ⟨rfl, rfl, rfl, by decide +kernel, rfl, by decide +kernel, by decide +kernel⟩
abbrev s_comings : Stmt := topS 8
abbrev N_comings : List Str := ["room", "hand", "number", "belt"]
theorem sc_comings : FnScope N_comings ["room", "hand"] (defScope s_comings) := ⟨rfl, rfl, rfl, by decide +kernel, rfl, by decide +kernel, by decide +kernel⟩
abbrev s_goings : Stmt := topS 9
abbrev N_goings : List Str := ["room", "hand", "number", "belt"]
theorem sc_goings : FnScope N_goings ["room", "hand"] (defScope s_goings) := ⟨rfl, rfl, rfl, by decide +kernel, rfl, by decide +kernel, by decide +kernel⟩
abbrev s_Floor___init__ : Stmt := inClass (topS 11) 0
abbrev N_Floor___init__ : List Str := ["self", "room", "hands", "belts", "numbers", "rule", "moments", "hand", "giver", "taker", "things"]
theorem sc_Floor___init__ : FnScope N_Floor___init__ ["self", "room"] (defScope s_Floor___init__) := ⟨rfl, rfl, rfl, by decide +kernel, rfl, by decide +kernel, by decide +kernel⟩
abbrev s_Floor_give : Stmt := inClass (topS 11) 1
abbrev N_Floor_give : List Str := ["self", "hand", "thing"]
theorem sc_Floor_give : FnScope N_Floor_give ["self", "hand", "thing"] (defScope s_Floor_give) := ⟨rfl, rfl, rfl, by decide +kernel, rfl, by decide +kernel, by decide +kernel⟩
abbrev s_Floor_ready : Stmt := inClass (topS 11) 2
abbrev N_Floor_ready : List Str := ["self", "hand"]
theorem sc_Floor_ready : FnScope N_Floor_ready ["self"] (defScope s_Floor_ready) := ⟨rfl, rfl, rfl, by decide +kernel, rfl, by decide +kernel, by decide +kernel⟩
abbrev s_Floor_work : Stmt := inClass (topS 11) 3
abbrev N_Floor_work : List Str := ["self", "hand", "taken", "things", "thing", "belt"]
theorem sc_Floor_work : FnScope N_Floor_work ["self", "hand"] (defScope s_Floor_work) := ⟨rfl, rfl, rfl, by decide +kernel, rfl, by decide +kernel, by decide +kernel⟩
abbrev s_Floor_made : Stmt := inClass (topS 11) 4
abbrev N_Floor_made : List Str := ["self", "hand"]
theorem sc_Floor_made : FnScope N_Floor_made ["self", "hand"] (defScope s_Floor_made) := ⟨rfl, rfl, rfl, by decide +kernel, rfl, by decide +kernel, by decide +kernel⟩
abbrev s_Floor_can_work : Stmt := inClass (topS 11) 5
abbrev N_Floor_can_work : List Str := ["self", "hand", "things"]
theorem sc_Floor_can_work : FnScope N_Floor_can_work ["self", "hand"] (defScope s_Floor_can_work) := ⟨rfl, rfl, rfl, by decide +kernel, rfl, by decide +kernel, by decide +kernel⟩
abbrev s_Floor_sources : Stmt := inClass (topS 11) 6
abbrev N_Floor_sources : List Str := ["self", "hand", "belt"]
theorem sc_Floor_sources : FnScope N_Floor_sources ["self", "hand"] (defScope s_Floor_sources) := ⟨rfl, rfl, rfl, by decide +kernel, rfl, by decide +kernel, by decide +kernel⟩
abbrev s_law_flow : Stmt := topS 13
abbrev N_law_flow : List Str := ["_law_script"]
theorem sc_law_flow : FnScope N_law_flow ["_law_script"] (defScope s_law_flow) := ⟨rfl, rfl, rfl, by decide +kernel, rfl, by decide +kernel, by decide +kernel⟩
abbrev s_law_pick : Stmt := topS 14
abbrev N_law_pick : List Str := ["_law_flow_here", "_law_many", "_law_cell", "_law_digit"]
theorem sc_law_pick : FnScope N_law_pick ["_law_flow_here", "_law_many"] (defScope s_law_pick) := ⟨rfl, rfl, rfl, by decide +kernel, rfl, by decide +kernel, by decide +kernel⟩
abbrev s_law_thing : Stmt := topS 15
abbrev N_law_thing : List Str := ["_law_flow_here"]
theorem sc_law_thing : FnScope N_law_thing ["_law_flow_here"] (defScope s_law_thing) := ⟨rfl, rfl, rfl, by decide +kernel, rfl, by decide +kernel, by decide +kernel⟩
abbrev s_law_needs : Stmt := topS 16
abbrev N_law_needs : List Str := ["_law_rule_here"]
theorem sc_law_needs : FnScope N_law_needs ["_law_rule_here"] (defScope s_law_needs) := ⟨rfl, rfl, rfl, by decide +kernel, rfl, by decide +kernel, by decide +kernel⟩
abbrev s_law_rule : Stmt := topS 17
abbrev N_law_rule : List Str := ["_law_flow_here", "_law_most", "_law_words", "_law_word"]
theorem sc_law_rule : FnScope N_law_rule ["_law_flow_here", "_law_most"] (defScope s_law_rule) := ⟨rfl, rfl, rfl, by decide +kernel, rfl, by decide +kernel, by decide +kernel⟩
abbrev s_law_shuffled : Stmt := topS 18
abbrev N_law_shuffled : List Str := ["_law_flow_here", "_law_some", "_law_left", "_law_k"]
theorem sc_law_shuffled : FnScope N_law_shuffled ["_law_flow_here", "_law_some"] (defScope s_law_shuffled) := ⟨rfl, rfl, rfl, by decide +kernel, rfl, by decide +kernel, by decide +kernel⟩
abbrev s_law_hands : Stmt := topS 19
abbrev N_law_hands : List Str := ["_law_flow_here", "_law_many", "_law_sorts", "_law_left", "_law_hands_here", "_law_k", "_law_sort", "_law_behind", "_law_other", "_law_rule_here"]
theorem sc_law_hands : FnScope N_law_hands ["_law_flow_here", "_law_many"] (defScope s_law_hands) := ⟨rfl, rfl, rfl, by decide +kernel, rfl, by decide +kernel, by decide +kernel⟩
abbrev s_law_room : Stmt := topS 20
abbrev N_law_room : List Str := ["_law_flow_here", "_law_most", "_law_hands_here", "_law_ranks", "_law_givers", "_law_k", "_law_takers", "_law_belts", "_law_to", "_law_one", "_law_trays"]
theorem sc_law_room : FnScope N_law_room ["_law_flow_here", "_law_most"] (defScope s_law_room) := ⟨rfl, rfl, rfl, by decide +kernel, rfl, by decide +kernel, by decide +kernel⟩
abbrev s_law_rows : Stmt := topS 21
abbrev N_law_rows : List Str := ["_law_flow_here", "_law_room_here", "_law_many", "_law_doors_here", "_law_hand", "_law_door", "_law_k"]
theorem sc_law_rows : FnScope N_law_rows ["_law_flow_here", "_law_room_here", "_law_many"] (defScope s_law_rows) := ⟨rfl, rfl, rfl, by decide +kernel, rfl, by decide +kernel, by decide +kernel⟩
abbrev s_law_made_by : Stmt := topS 22
abbrev N_law_made_by : List Str := ["_law_rule_here", "_law_things", "_law_a", "_law_b", "_law_some"]
theorem sc_law_made_by : FnScope N_law_made_by ["_law_rule_here", "_law_things"] (defScope s_law_made_by) := ⟨rfl, rfl, rfl, by decide +kernel, rfl, by decide +kernel, by decide +kernel⟩
abbrev s_law_worked : Stmt := topS 23
abbrev N_law_worked : List Str := ["_law_room_here", "_law_rows_here", "_law_hands_here", "_law_belts", "_law_found", "_law_t", "_law_row", "_law_doors_here", "_law_k", "_law_now", "_law_turn", "_law_things", "_law_one", "_law_to", "_law_first"]
theorem sc_law_worked : FnScope N_law_worked ["_law_room_here", "_law_rows_here"] (defScope s_law_worked) := ⟨rfl, rfl, rfl, by decide +kernel, rfl, by decide +kernel, by decide +kernel⟩
abbrev s_law_alike : Stmt := topS 24
abbrev N_law_alike : List Str := ["_law_found", "_law_due", "_law_one", "_law_other"]
theorem sc_law_alike : FnScope N_law_alike ["_law_found", "_law_due"] (defScope s_law_alike) := ⟨rfl, rfl, rfl, by decide +kernel, rfl, by decide +kernel, by decide +kernel⟩
abbrev s_law_doors_room : Stmt := topS 25
abbrev N_law_doors_room : List Str := ["_law_flow_here", "_law_ins", "_law_outs", "_law_sorts", "_law_givers", "_law_k", "_law_sort", "_law_belts", "_law_things", "_law_j"]
theorem sc_law_doors_room : FnScope N_law_doors_room ["_law_flow_here"] (defScope s_law_doors_room) := ⟨rfl, rfl, rfl, by decide +kernel, rfl, by decide +kernel, by decide +kernel⟩
abbrev s_law_any_room : Stmt := topS 26
abbrev N_law_any_room : List Str := ["_law_flow_here", "_law_form", "_law_found"]
theorem sc_law_any_room : FnScope N_law_any_room ["_law_flow_here"] (defScope s_law_any_room) := ⟨rfl, rfl, rfl, by decide +kernel, rfl, by decide +kernel, by decide +kernel⟩
abbrev s_law_doors : Stmt := topS 27
abbrev N_law_doors : List Str := ["_law_room_here", "_law_word", "_law_k", "_law_hand"]
theorem sc_law_doors : FnScope N_law_doors ["_law_room_here", "_law_word"] (defScope s_law_doors) := ⟨rfl, rfl, rfl, by decide +kernel, rfl, by decide +kernel, by decide +kernel⟩
abbrev s_law_give_all : Stmt := topS 28
abbrev N_law_give_all : List Str := ["_law_floor", "_law_room_here", "_law_rows_here", "_law_doors_here", "_law_row", "_law_hand", "_law_thing_here"]
theorem sc_law_give_all : FnScope N_law_give_all ["_law_floor", "_law_room_here", "_law_rows_here"] (defScope s_law_give_all) := ⟨rfl, rfl, rfl, by decide +kernel, rfl, by decide +kernel, by decide +kernel⟩
abbrev s_law_work_on : Stmt := topS 29
abbrev N_law_work_on : List Str := ["_law_flow_here", "_law_floor", "_law_due", "_law_counts", "_law_turns", "_law_turn", "_law_some", "_law_k"]
theorem sc_law_work_on : FnScope N_law_work_on ["_law_flow_here", "_law_floor", "_law_due", "_law_counts", "_law_turns"] (defScope s_law_work_on) := ⟨rfl, rfl, rfl, by decide +kernel, rfl, by decide +kernel, by decide +kernel⟩
abbrev s_law_all_made : Stmt := topS 30
abbrev N_law_all_made : List Str := ["_law_floor", "_law_due", "_law_counts", "_law_k", "_law_made", "_law_at", "_law_found"]
theorem sc_law_all_made : FnScope N_law_all_made ["_law_floor", "_law_due", "_law_counts"] (defScope s_law_all_made) := ⟨rfl, rfl, rfl, by decide +kernel, rfl, by decide +kernel, by decide +kernel⟩
abbrev s_law : Stmt := topS 31
abbrev N_law : List Str := ["_law_script", "_law_flow_here", "_law_great", "_law_room_here", "_law_many", "_law_rows_here", "_law_due", "_law_first", "_law_floor", "_law_counts"]
theorem sc_law : FnScope N_law ["_law_script"] (defScope s_law) := ⟨rfl, rfl, rfl, by decide +kernel, rfl, by decide +kernel, by decide +kernel⟩

/-- a def of the text stands, binds and is bound -/
def Dd (K : PySem.W.Frag) (mg : Str → Option Value) (name : Str) (st : Stmt) (ps : List Str) : Prop :=
  ∃ (f : Addr) (fd : FuncData), Fun K name name st f fd ∧ Binds K fd ps [] ∧ mg name = some (.ref f)
structure Top (K : PySem.W.Frag) (mg : Str → Option Value) (C : Addr) : Prop where
  d_made_by : Dd K mg "made_by" s_made_by ["rule", "things"]
  d_made_of_two : Dd K mg "made_of_two" s_made_of_two ["word", "one", "other"]
  d_comings : Dd K mg "comings" s_comings ["room", "hand"]
  d_goings : Dd K mg "goings" s_goings ["room", "hand"]
  d_Floor___init__ : ∃ (f : Addr) (fd : FuncData), Fun K "__init__" "Floor.__init__" s_Floor___init__ f fd ∧ Binds K fd ["self", "room"] [] ∧ Mk K C f
  d_Floor_give : ∃ (f : Addr) (fd : FuncData), Fun K "give" "Floor.give" s_Floor_give f fd ∧ Binds K fd ["self", "hand", "thing"] [] ∧ Meth K C "give" f
  d_Floor_ready : ∃ (f : Addr) (fd : FuncData), Fun K "ready" "Floor.ready" s_Floor_ready f fd ∧ Binds K fd ["self"] [] ∧ Meth K C "ready" f
  d_Floor_work : ∃ (f : Addr) (fd : FuncData), Fun K "work" "Floor.work" s_Floor_work f fd ∧ Binds K fd ["self", "hand"] [] ∧ Meth K C "work" f
  d_Floor_made : ∃ (f : Addr) (fd : FuncData), Fun K "made" "Floor.made" s_Floor_made f fd ∧ Binds K fd ["self", "hand"] [] ∧ Meth K C "made" f
  d_Floor_can_work : ∃ (f : Addr) (fd : FuncData), Fun K "can_work" "Floor.can_work" s_Floor_can_work f fd ∧ Binds K fd ["self", "hand"] [] ∧ Meth K C "can_work" f
  d_Floor_sources : ∃ (f : Addr) (fd : FuncData), Fun K "sources" "Floor.sources" s_Floor_sources f fd ∧ Binds K fd ["self", "hand"] [] ∧ Meth K C "sources" f
  d_law_flow : Dd K mg "_law_flow" s_law_flow ["_law_script"]
  d_law_pick : Dd K mg "_law_pick" s_law_pick ["_law_flow_here", "_law_many"]
  d_law_thing : Dd K mg "_law_thing" s_law_thing ["_law_flow_here"]
  d_law_needs : Dd K mg "_law_needs" s_law_needs ["_law_rule_here"]
  d_law_rule : Dd K mg "_law_rule" s_law_rule ["_law_flow_here", "_law_most"]
  d_law_shuffled : Dd K mg "_law_shuffled" s_law_shuffled ["_law_flow_here", "_law_some"]
  d_law_hands : Dd K mg "_law_hands" s_law_hands ["_law_flow_here", "_law_many"]
  d_law_room : Dd K mg "_law_room" s_law_room ["_law_flow_here", "_law_most"]
  d_law_rows : Dd K mg "_law_rows" s_law_rows ["_law_flow_here", "_law_room_here", "_law_many"]
  d_law_made_by : Dd K mg "_law_made_by" s_law_made_by ["_law_rule_here", "_law_things"]
  d_law_worked : Dd K mg "_law_worked" s_law_worked ["_law_room_here", "_law_rows_here"]
  d_law_alike : Dd K mg "_law_alike" s_law_alike ["_law_found", "_law_due"]
  d_law_doors_room : Dd K mg "_law_doors_room" s_law_doors_room ["_law_flow_here"]
  d_law_any_room : Dd K mg "_law_any_room" s_law_any_room ["_law_flow_here"]
  d_law_doors : Dd K mg "_law_doors" s_law_doors ["_law_room_here", "_law_word"]
  d_law_give_all : Dd K mg "_law_give_all" s_law_give_all ["_law_floor", "_law_room_here", "_law_rows_here"]
  d_law_work_on : Dd K mg "_law_work_on" s_law_work_on ["_law_flow_here", "_law_floor", "_law_due", "_law_counts", "_law_turns"]
  d_law_all_made : Dd K mg "_law_all_made" s_law_all_made ["_law_floor", "_law_due", "_law_counts"]
  m_all : mg "all" = none
  m_bool : mg "bool" = none
  m_dict : mg "dict" = none
  m_enumerate : mg "enumerate" = none
  m_int : mg "int" = none
  m_isinstance : mg "isinstance" = none
  m_len : mg "len" = none
  m_list : mg "list" = none
  m_max : mg "max" = none
  m_min : mg "min" = none
  m_range : mg "range" = none
  m_tuple : mg "tuple" = none
  m_zip : mg "zip" = none
  x_in : ∃ aI : Addr, mg "IN_RULE" = some (.ref aI) ∧ ∀ H : Hp, SqT K H aI [.str "in"]
  cl : Cls K C
  mgC : mg "Floor" = some (.ref C)
  n_rules : NoAttr K C "rules"
  n_given : NoAttr K C "given"
  n_lying : NoAttr K C "lying"
  n_coming : NoAttr K C "coming"
  n_going : NoAttr K C "going"
  n_done : NoAttr K C "done"

/-! ### heaps -/
def But (f : Addr) (H H' : Hp) : Prop := ∀ b o, H b = some o → b ≠ f → H' b = some o
theorem But.refl {f : Addr} {H : Hp} : But f H H := fun _ _ e _ => e
theorem But.trans {f : Addr} {H H1 H2 : Hp} (a : But f H H1) (b : But f H1 H2) : But f H H2 := fun x o e n => b x o (a x o e n) n
theorem But.upd {f : Addr} {H H1 : Hp} {o : HO} (a : But f H H1) : But f H (upd H1 f o) := fun x u e n => by rw [upd_ne n]; exact a x u e n
theorem But.new {f p : Addr} {H H1 : Hp} {o : HO} (a : But f H H1) (h : H1 p = none) : But f H (L2.upd H1 p o) := fun x u e n => by
  have e1 := a x u e n
  rw [upd_ne (ne_of_none e1 h)]
  exact e1
theorem same_new {H : Hp} {p : Addr} {o : HO} (h : H p = none) : Same H (upd H p o) := fun b u q => by rw [upd_ne (ne_of_none q h)]; exact q
theorem But.same {f : Addr} {H H1 H2 : Hp} (a : But f H H1) (b : Same H1 H2) : But f H H2 := fun x o e n => b x o (a x o e n)
theorem But.seqT {K : PySem.W.Frag} {f a : Addr} {H H1 : Hp} {xs : List V} (b : But f H H1) (h : SqT K H a xs) (n : a ≠ f) : SqT K H1 a xs := by
  rcases h with h | h
  · left
    rcases h with h | ⟨o, h⟩
    · exact .inl (b _ _ h n)
    · exact .inr ⟨o, b _ _ h n⟩
  · exact .inr h
/-- a comprehension without a test -/
theorem yes_in {σ : L2.St} {H : Hp} {A B : Hp → Prop} (h : A H) : tYes σ H (fun b H3 => if b = true then A H3 else B H3) := by
  show (if true = true then A H else B H)
  rw [if_pos rfl]
  exact h
/-! ### the draw -/
/-- the list of the law's draws at f, the script's copy at c -/
def Flow (H : Hp) (f c : Addr) : Prop := ∃ (ns : List Int) (i p q r : Int), H f = some (.lst [.ref c, .int i, .int p, .int q, .int r]) ∧ H c = some (.lst (ns.map V.int)) ∧ 0 ≤ i ∧ 0 ≤ p ∧ 0 ≤ q ∧ q < 2147483647
theorem Flow.new {H : Hp} {f c p : Addr} {o : HO} (h : Flow H f c) (n : H p = none) : Flow (upd H p o) f c := by
  obtain ⟨ns, i, a, q, r, e1, e2, e⟩ := h
  exact ⟨ns, i, a, q, r, same_new n _ _ e1, same_new n _ _ e2, e⟩
theorem Flow.ne {H : Hp} {f c p : Addr} (h : Flow H f c) (n : H p = none) : p ≠ f := by
  obtain ⟨ns, i, a, q, r, e1, _⟩ := h
  exact fun e => by rw [e, e1] at n; cases n
theorem Flow.nec {H : Hp} {f c p : Addr} (h : Flow H f c) (n : H p = none) : p ≠ c := by
  obtain ⟨ns, i, a, q, r, _, e1, _⟩ := h
  exact fun e => by rw [e, e1] at n; cases n
theorem Flow.lst {H : Hp} {f c p : Addr} {o : HO} (h : Flow H f c) (n1 : p ≠ f) (n2 : p ≠ c) : Flow (upd H p o) f c := by
  obtain ⟨ns, i, a, q, r, e1, e2, e⟩ := h
  exact ⟨ns, i, a, q, r, by rw [upd_ne n1.symm]; exact e1, by rw [upd_ne n2.symm]; exact e2, e⟩
theorem Flow.same {H H' : Hp} {f c : Addr} (h : Flow H f c) (s : Same H H') : Flow H' f c := by
  obtain ⟨ns, i, a, q, r, e1, e2, e⟩ := h
  exact ⟨ns, i, a, q, r, s _ _ e1, s _ _ e2, e⟩
theorem Flow.tup {H : Hp} {f c p : Addr} {xs : List V} (h : Flow H f c) (e : H p = some (.tup xs)) : p ≠ f := by
  obtain ⟨ns, i, a, q, r, e1, _⟩ := h
  exact ne_of e e1 (by intro z; cases z)
theorem at_ints {ns : List Int} {i : Int} (h0 : 0 ≤ i) (h1 : i < (ns.length : Int)) : ∃ v : Int, atI (ns.map V.int) i = some (.int v) := by
  have hk : i.toNat < ns.length := by omega
  have ek : i = ((i.toNat : Nat) : Int) := by omega
  have q : atI (ns.map V.int) ((i.toNat : Nat) : Int) = some (.int ns[i.toNat]) := atI_nat (by rw [List.getElem?_map, List.getElem?_eq_getElem hk]; rfl)
  rw [← ek] at q
  exact ⟨_, q⟩
/-- a block by less than it asks -/
theorem PSs.to {X : Cx} {ss : List Stmt} {t : TS} (h : PSs X ss t) (u : TS) (k : ∀ D σ H, u D σ H → t D σ H) : PSs X ss u := ⟨fun pins s σ H D I q => h.run pins s σ H D I (k D σ H q)⟩
theorem if_bl {b : Bool} {A B : Prop} (h1 : b = true → A) (h2 : b = false → B) : if b = true then A else B := by
  cases b
  · rw [if_neg Bool.false_ne_true]; exact h2 rfl
  · rw [if_pos rfl]; exact h1 rfl
/-! ### lists, two by two -/
inductive All2 {α β : Type} (R : α → β → Prop) : List α → List β → Prop
  | nil : All2 R [] []
  | cons {a b as bs} : R a b → All2 R as bs → All2 R (a :: as) (b :: bs)
theorem All2.imp {α β : Type} {R S : α → β → Prop} (h : ∀ a b, R a b → S a b) : ∀ {as bs}, All2 R as bs → All2 S as bs
  | _, _, .nil => .nil
  | _, _, .cons a b => .cons (h _ _ a) (All2.imp h b)
theorem All2.length {α β : Type} {R : α → β → Prop} : ∀ {as bs}, All2 R as bs → as.length = bs.length
  | _, _, .nil => rfl
  | _, _, .cons _ b => congrArg (· + 1) (All2.length b)
theorem All2.snoc {α β : Type} {R : α → β → Prop} {a b} (r : R a b) : ∀ {as bs}, All2 R as bs → All2 R (as ++ [a]) (bs ++ [b])
  | _, _, .nil => .cons r .nil
  | _, _, .cons h t => .cons h (All2.snoc r t)
theorem All2.get {α β : Type} {R : α → β → Prop} {as : List α} {bs : List β} (h : All2 R as bs) : ∀ {i : Nat} {b : β}, bs[i]? = some b → ∃ a, as[i]? = some a ∧ R a b := by
  induction h with
  | nil => intro i b e; cases e
  | cons r t ih =>
    intro i b e
    cases i with
    | zero => cases e; exact ⟨_, rfl, r⟩
    | succ i => exact ih e
theorem All2.getL {α β : Type} {R : α → β → Prop} {as : List α} {bs : List β} (h : All2 R as bs) : ∀ {i : Nat} {a : α}, as[i]? = some a → ∃ b, bs[i]? = some b ∧ R a b := by
  induction h with
  | nil => intro i b e; cases e
  | cons r t ih =>
    intro i b e
    cases i with
    | zero => cases e; exact ⟨_, rfl, r⟩
    | succ i => exact ih e
/-! ### tuples stay -/
def TK (H H' : Hp) : Prop := ∀ b xs, H b = some (.tup xs) → H' b = some (.tup xs)
theorem TK.refl {H : Hp} : TK H H := fun _ _ e => e
theorem TK.trans {H H1 H2 : Hp} (a : TK H H1) (b : TK H1 H2) : TK H H2 := fun x xs e => b x xs (a x xs e)
theorem TK.same {H H' : Hp} (s : Same H H') : TK H H' := fun x xs e => s _ _ e
theorem TK.new {H : Hp} {p : Addr} {o : HO} (n : H p = none) : TK H (upd H p o) := fun x xs e => same_new n _ _ e
theorem TK.lst {H : Hp} {p : Addr} {xs ys : List V} (h : H p = some (.lst xs)) : TK H (upd H p (.lst ys)) := fun x zs e => by
  rw [upd_ne (ne_of e h (by intro z; cases z))]
  exact e
theorem TK.but {H H' : Hp} {f c : Addr} (F : Flow H f c) (b : But f H H') : TK H H' := fun x xs e => b _ _ e (F.tup e)
theorem same_none {H H' : Hp} {p : Addr} (s : Same H H') (n : H' p = none) : H p = none := by
  cases e : H p with
  | none => rfl
  | some o => rw [s _ _ e] at n; cases n
theorem But.none {f p : Addr} {H H' : Hp} (b : But f H H') (n : H' p = Option.none) (h : p ≠ f) : H p = Option.none := by
  cases e : H p with
  | none => rfl
  | some o => rw [b _ _ e h] at n; cases n
theorem But.of {f : Addr} {H H' : Hp} (s : Same H H') : But f H H' := fun _ _ e _ => s _ _ e
/-- a list that was not there is written: what was stays -/
theorem But.own {f p : Addr} {H H1 : Hp} {o : HO} (a : But f H H1) (h : H p = Option.none) : But f H (L2.upd H1 p o) := fun x u e n => by
  rw [upd_ne (ne_of_none e h)]
  exact a x u e n
theorem Same.own {p : Addr} {H H1 : Hp} {o : HO} (a : Same H H1) (h : H p = Option.none) : Same H (L2.upd H1 p o) := fun x u e => by
  rw [upd_ne (ne_of_none e h)]
  exact a x u e
/-! ### loops over any iterator -/
theorem for_it {J : It} {n : Nat} {g : TG} {tb : TS} {D : Ends} {σ : L2.St} {H : Hp} (Pv : Nat → L2.St → Hp → Prop) (h0 : Pv 0 σ H) (go : ∀ i σ H, i < n → Pv i σ H → J.go i H) (st : ∀ σ H, Pv n σ H → J.stop n H)
    (hs : ∀ i x σ H H', i < n → Pv i σ H → J.yld i H x H' → g x σ H' fun σ2 H2 => tb { D with nx := Pv (i + 1), ct := Pv (i + 1), bk := D.nx } σ2 H2) (hd : ∀ σ H, Pv n σ H → D.nx σ H) :
    ∃ W : Nat → Nat → L2.St → Hp → Prop, (∃ m, W 0 m σ H) ∧ ∀ i m σ H, W i m σ H →
      (J.stop i H ∧ D.nx σ H) ∨ (J.go i H ∧ ∃ N : L2.St → Hp → Prop, (∀ σ' H', N σ' H' → ∃ m', m' < m ∧ W (i + 1) m' σ' H') ∧ ∀ x H', J.yld i H x H' → g x σ H' fun σ2 H2 => tb { D with nx := N, ct := N, bk := D.nx } σ2 H2) := by
  refine ⟨fun i m σ H => i + m = n ∧ Pv i σ H, ⟨n, by omega, h0⟩, fun i m σ H ⟨e, p⟩ => ?_⟩
  by_cases k : i < n
  · exact .inr ⟨go i σ H k p, Pv (i + 1), fun σ' H' p' => ⟨m - 1, by omega, by omega, p'⟩, fun x H' y => hs i x σ H H' k p y⟩
  · have z : i = n := by omega
    subst z
    exact .inl ⟨st σ H p, hd σ H p⟩
theorem lc_it {J : It} {n : Nat} {g : TG} {tt : TT} {te : TE} {vs : List Nat} {σ : L2.St} {H1 : Hp} {D : Addr} {Qd : Hp → Prop} (Pv : Nat → Hp → Prop) (h0 : Pv 0 (upd H1 D (.lst []))) (go : ∀ i H, i < n → Pv i H → J.go i H) (st : ∀ H, Pv n H → J.stop n H)
    (hs : ∀ i x H H', i < n → Pv i H → J.yld i H x H' → g x (wipe σ vs) H' fun σ2 H2 => wipe σ2 vs = wipe σ vs ∧ tt σ2 H2 fun b H3 =>
      if b = true then te σ2 H3 fun y H4 => ∃ acc, H4 D = some (.lst acc) ∧ acc.length < sizeLine ∧ Pv (i + 1) (upd H4 D (.lst (acc ++ [y]))) else Pv (i + 1) H3) (hd : ∀ H, Pv n H → Qd H) :
    ∃ W : Nat → Nat → Hp → Prop, (∃ m, W 0 m (upd H1 D (.lst []))) ∧ ∀ i m H, W i m H →
      (J.stop i H ∧ Qd H) ∨ (J.go i H ∧ ∃ Nx : Hp → Prop, (∀ H', Nx H' → ∃ m', m' < m ∧ W (i + 1) m' H') ∧ ∀ x H', J.yld i H x H' → g x (wipe σ vs) H' fun σ2 H2 => wipe σ2 vs = wipe σ vs ∧ tt σ2 H2 fun b H3 =>
        if b = true then te σ2 H3 fun y H4 => ∃ acc, H4 D = some (.lst acc) ∧ acc.length < sizeLine ∧ Nx (upd H4 D (.lst (acc ++ [y]))) else Nx H3) := by
  refine ⟨fun i m H => i + m = n ∧ Pv i H, ⟨n, by omega, h0⟩, fun i m H ⟨e, p⟩ => ?_⟩
  by_cases k : i < n
  · exact .inr ⟨go i H k p, Pv (i + 1), fun H' p' => ⟨m - 1, by omega, by omega, p'⟩, fun x H' y => hs i x H H' k p y⟩
  · have z : i = n := by omega
    subst z
    exact .inl ⟨st H p, hd H p⟩
/-! ### tests -/
theorem if_str {x z : Str} {A B : Prop} (h1 : x = z → A) (h2 : x ≠ z → B) : if decide (V.str x = V.str z) = true then A else B :=
  if_bl (fun e => h1 (V.str.inj (of_decide_eq_true e))) (fun e => h2 (fun q => of_decide_eq_false e (congrArg V.str q)))
theorem inV_strs {x : Str} {zs : List Str} : inV (.str x) (zs.map V.str) = true ↔ x ∈ zs := by
  unfold inV
  induction zs with
  | nil => simp
  | cons z zs ih =>
    rw [List.map_cons, List.any_cons, Bool.or_eq_true, ih, List.mem_cons]
    constructor
    · rintro (h | h)
      · exact .inl (by simpa [eqV] using (show (z == x) = true from h) |> fun k => (eq_of_beq k).symm)
      · exact .inr h
    · rintro (h | h)
      · exact .inl (show (z == x) = true by rw [h]; exact beq_self_eq_true z)
      · exact .inr h
theorem if_in {x : Str} {zs : List Str} {A B : Prop} (h1 : x ∈ zs → A) (h2 : x ∉ zs → B) : if (if false = true then !inV (.str x) (zs.map V.str) else inV (.str x) (zs.map V.str)) = true then A else B := by
  have e : (if false = true then !inV (.str x) (zs.map V.str) else inV (.str x) (zs.map V.str)) = inV (.str x) (zs.map V.str) := if_neg Bool.false_ne_true
  rw [e]
  exact if_bl (fun c => h1 (inV_strs.mp c)) (fun c => h2 (fun k => by rw [inV_strs.mpr k] at c; cases c))
theorem same_seqT {K : PySem.W.Frag} {a : Addr} {H H1 : Hp} {xs : List V} (b : Same H H1) (h : SqT K H a xs) : SqT K H1 a xs := by
  rcases h with h | h
  · left
    rcases h with h | ⟨o, h⟩
    · exact .inl (b _ _ h)
    · exact .inr ⟨o, b _ _ h⟩
  · exact .inr h
theorem little {n : Nat} (h : n ≤ 1000) : n ≤ sizeLine := Nat.le_of_lt (small1000 h)
/-! ### xs[i] op= e -/
def rGetL (K : PySem.W.Frag) : V → V → Hp → VK → Prop := fun o i H Q => ∃ (p : Addr) (xs : List V) (j : Nat) (v : V), o = .ref p ∧ i = .int (j : Nat) ∧ SqL K H p xs ∧ xs[j]? = some v ∧ Q v H
theorem get_list {X : Cx} : PGet X (rGetL X.K) := by
  intro pins st σ H o i ov iv Q J ro ri asked
  obtain ⟨p, xs, j, v, rfl, rfl, hq, hj, now⟩ := asked
  cases ro
  obtain ⟨t, rfl⟩ := ri
  obtain ⟨its, r, pl, hz⟩ := J.list hq
  obtain ⟨u, eu, ru⟩ := r.get hj
  have n1 := (List.getElem?_eq_some_iff.mp hj).1
  have n2 := line63
  exact wpAny_getItem_list pl.isList (by omega) (by omega) (by simpa using eu) ⟨v, H, J, ru, now⟩
/-! ### the same rules, the written part named (so that they fit within comprehensions) -/
section
variable {X : Cx}
theorem ix_listK (K : PySem.W.Frag) (h : X.K = K) : IxR X (rIxL K) := by subst h; exact ix_list
theorem ix_tupK (K : PySem.W.Frag) (h : X.K = K) : IxR X (rIxT K) := by subst h; exact ix_tup
def rLenK (K : PySem.W.Frag) : List V → Hp → VK → Prop := fun xs H Q => ∃ (p : Addr) (ys : List V), xs = [.ref p] ∧ (SqL K H p ys ∨ SqT K H p ys) ∧ Q (.int (ys.length : Nat)) H
theorem call_len_seqK (K : PySem.W.Frag) (h : X.K = K) : CallR X (.builtin "len") (rLenK K) := by subst h; exact call_len_seq
def rListOfK (K : PySem.W.Frag) : List V → Hp → VK → Prop := fun xs H Q => ∃ (p : Addr) (ys : List V), xs = [.ref p] ∧ (SqL K H p ys ∨ SqT K H p ys) ∧ ∀ l, H l = none → Q (.ref l) (upd H l (.lst ys))
theorem call_list_ofK (K : PySem.W.Frag) (h : X.K = K) : CallR X (.type "list") (rListOfK K) := by subst h; exact call_list_of
def rTupOfK (K : PySem.W.Frag) : List V → Hp → VK → Prop := fun xs H Q => ∃ (p : Addr) (ys : List V), xs = [.ref p] ∧ ((SqL K H p ys ∧ ∀ l, H l = none → Q (.ref l) (upd H l (.tup ys))) ∨ (SqT K H p ys ∧ Q (.ref p) H))
theorem call_tuple_ofK (K : PySem.W.Frag) (h : X.K = K) : CallR X (.type "tuple") (rTupOfK K) := by subst h; exact call_tuple_of
theorem op_in_seqK (K : PySem.W.Frag) (h : X.K = K) : OpR X (compareOp .In) (rIn K false) := by subst h; exact op_in_seq
theorem op_notIn_seqK (K : PySem.W.Frag) (h : X.K = K) : OpR X (compareOp .NotIn) (rIn K true) := by subst h; exact op_notIn_seq
theorem sl_listK (K : PySem.W.Frag) (h : X.K = K) : SlR X (rSlL K) := by subst h; exact sl_list
theorem sl_tupAK (K : PySem.W.Frag) (h : X.K = K) : SlR X (rSlA K) := by subst h; exact sl_tupA
theorem op_eqDK (K : PySem.W.Frag) (h : X.K = K) (hu : X.A.units + 64 < cLine) : OpR X (compareOp .Eq) (rEqD K) := by subst h; exact op_eqD hu
theorem op_neDK (K : PySem.W.Frag) (h : X.K = K) (hu : X.A.units + 64 < cLine) : OpR X (compareOp .NotEq) (rNeD K) := by subst h; exact op_neD hu
theorem call_isiKK (K : PySem.W.Frag) (h : X.K = K) : CallR X (.builtin "isinstance") (rIsi K) := by subst h; exact call_isi
theorem cr_allK (K : PySem.W.Frag) (h : X.K = K) (hc : X.calm = true) : CallR X (.builtin "all") (rAll K) := by subst h; exact cr_all hc
theorem cr_anyK (K : PySem.W.Frag) (h : X.K = K) (hc : X.calm = true) : CallR X (.builtin "any") (rAny K) := by subst h; exact cr_any hc
theorem cr_minKK (K : PySem.W.Frag) (h : X.K = K) (hc : X.calm = true) : CallR X (.builtin "min") (rMin K) := by subst h; exact cr_min hc
theorem cr_maxKK (K : PySem.W.Frag) (h : X.K = K) (hc : X.calm = true) : CallR X (.builtin "max") (rMax K) := by subst h; exact cr_max hc
def tTruK (K : PySem.W.Frag) (ta : TE) : TT := fun σ H Q => ta σ H fun x H' => ∃ k, TruV K x H' k ∧ Q k H'
theorem pt_truthK (K : PySem.W.Frag) (h : X.K = K) {a : Expr} {ta : TE} (ha : PE X a ta) (he : ∀ whole, isTrue a X.env whole = (do let v ← whole; standAt a.pos; holding [v] (truthy v))) : PT X a (tTruK K ta) := by subst h; exact pt_truth ha he
theorem get_listK (K : PySem.W.Frag) (h : X.K = K) : PGet X (rGetL K) := by subst h; exact get_list
theorem pg_tupK (K : PySem.W.Frag) (h : X.K = K) {es : List Expr} {k n : Nat} {t : TGs} {pos : Pos} (hc : X.calm = true) (g : PGs X es t)
    (hn : (assignEach es X.env).length = n := by rfl) (hst : (assignEach es X.env).findIdx? (·.1) = none := by rfl) : PG X (.Tuple es k pos) (gTup K n t) := by subst h; exact pg_tup hc g hn hst
theorem pg_unlK (K : PySem.W.Frag) (h : X.K = K) {es : List Expr} {k n : Nat} {t : TGs} {pos : Pos} (hc : X.calm = true) (g : PGs X es t)
    (hn : (assignEach es X.env).length = n := by rfl) (hst : (assignEach es X.env).findIdx? (·.1) = none := by rfl) : PG X (.Tuple es k pos) (gUnl K n t) := by subst h; exact pg_unl hc g hn hst
theorem pi_listK (K : PySem.W.Frag) (h : X.K = K) {tg e : Expr} {te : TE} (he : PE X e te) : PI X tg e (iList K te) := by subst h; exact pi_list he
theorem pi_tupK (K : PySem.W.Frag) (h : X.K = K) {tg e : Expr} {te : TE} (he : PE X e te) : PI X tg e (iTup K te) := by subst h; exact pi_tup he
theorem pe_revLK (K : PySem.W.Frag) (h : X.K = K) {e : Expr} {te : TE} {k : Nat} {p1 p2 p3 pos : Pos} (he : PE X e te) : PE X (.Subscript e (.Slice none none (some (.UnaryOp .USub (.Constant (.int 1) k p1) p2)) p3) pos) (tRevL K te) := by subst h; exact pe_revL he
theorem pe_bmK (K : PySem.W.Frag) (h : X.K = K) {o e : Expr} {es : List Expr} {to : TE} {t : TA} {name : Str} {apos cpos : Pos} {T id : String} {r : V → List V → Hp → VK → Prop}
    (pa : PlainAttrs T) (slot : Slot T name id) (hty : typeOf (.builtin id) = pure (.type "method_descriptor")) (hm : MtR X id r) (ho : PE X o to) (ha : PA X (e :: es) t)
    (n1 : attributeBase o name X.env (eval o X.env) = eval o X.env := by rfl)
    (n2 : ((backTo cpos (starEach (e :: es) X.env)).all (fun x => !x.1) && (backToKw cpos (keywordEach [] X.env)).all (fun x => x.1.isSome) && decide ((e :: es).length + ([] : List Keyword).length + (if ([] : List Keyword).isEmpty then 0 else 1) < 30)) = true := by rfl)
    (n3 : (apos.endLine == cpos.line) = true := by rfl) (n4 : starEach (e :: es) X.env = (false, eval e X.env) :: starEach es X.env := by rfl) (n5 : (backTo cpos (starEach es X.env)).any (·.1) = false := by rfl) :
    PE X (.Call (.Attribute o name apos) (e :: es) [] cpos) (tBM K T r to t) := by subst h; exact pe_bm pa slot hty hm ho ha n1 n2 n3 n4 n5
theorem pe_bm0K (K : PySem.W.Frag) (h : X.K = K) {o : Expr} {to : TE} {name : Str} {apos cpos : Pos} {T id : String} {r : V → List V → Hp → VK → Prop}
    (pa : PlainAttrs T) (slot : Slot T name id) (hty : typeOf (.builtin id) = pure (.type "method_descriptor")) (hm : MtR X id r) (ho : PE X o to)
    (n1 : attributeBase o name X.env (eval o X.env) = eval o X.env := by rfl) (n3 : (apos.endLine == cpos.line) = true := by rfl) : PE X (.Call (.Attribute o name apos) [] [] cpos) (tBM0 K T r to) := by subst h; exact pe_bm0 pa slot hty hm ho n1 n3
theorem op_catAK (K : PySem.W.Frag) (h : X.K = K) : OpR X (binaryOp .Add) (rCatA K) := by subst h; exact op_catA
theorem call_isiTK (K : PySem.W.Frag) (h : X.K = K) : CallR X (.builtin "isinstance") (rIsiT K) := by subst h; exact call_isiT
theorem pi_zipAK (K : PySem.W.Frag) (h : X.K = K) {e e2 : Expr} {ta : TA} {p pos tpos : Pos} {elts : List Expr} {kk : Nat} (hg : Gl X "zip") (hm : X.mg "zip" = none) (ha : PA X [e, e2] ta)
    (hs : starEach [e, e2] X.env = (false, eval e X.env) :: starEach [e2] X.env := by rfl) (hpl : (backTo pos (starEach [e2] X.env)).any (·.1) = false := by rfl) :
    PI X (.Tuple elts kk tpos) (.Call (.Name "zip" p) [e, e2] [] pos) (RZ.iZipA K ta) := by subst h; exact RZ.pi_zipA hg hm ha hs hpl
theorem pi_or {tg e : Expr} {t1 t2 : TI} (h1 : PI X tg e t1) (h2 : PI X tg e t2) : PI X tg e (fun σ H R => t1 σ H R ∨ t2 σ H R) := ⟨fun pins s σ H R I h => h.elim (h1.run pins s σ H R I) (h2.run pins s σ H R I)⟩
theorem pe_fldK (K : PySem.W.Frag) (h : X.K = K) {e : Expr} {ta : TE} {f : Str} {pos : Pos} (he : PE X e ta) (hb : attributeBase e f X.env (eval e X.env) = eval e X.env) : PE X (.Attribute e f pos) (tFld K ta f) := by subst h; exact pe_fld he hb
theorem ps_fldK (K : PySem.W.Frag) (h : X.K = K) {o value : Expr} {ta tv : TE} {f : Str} {pos pos' : Pos} (ha : PE X o ta) (hv : PE X value tv) (hs : swapsWith value (some (.Attribute o f pos')) pos.line X.env = pure false) : PS X (.Assign [.Attribute o f pos'] value pos) (sFld K ta tv f) := by subst h; exact ps_fld ha hv hs
theorem ps_fldaugK (K : PySem.W.Frag) (h : X.K = K) {o value : Expr} {ta tv : TE} {f : Str} {pos tpos : Pos} {op : Operator} {rd : V → V → Hp → VK → Prop} (ha : PE X o ta) (hv : PE X value tv) (hop : InOp X op rd) : PS X (.AugAssign (.Attribute o f tpos) op value pos) (sFldAug K ta tv rd f) := by subst h; exact ps_fldaug ha hv hop
end
/-! ### for x, y in zip(t, l), t a tuple, l a list -/
def IzTL (K : PySem.W.Frag) (a b : Addr) (xs ys : List V) : It :=
  ⟨fun i H => SqT K H a xs ∧ SqL K H b ys ∧ i < xs.length ∧ i < ys.length, fun i H v H' => ∃ T x y, v = .ref T ∧ H T = none ∧ H' = upd H T (.tup [x, y]) ∧ xs[i]? = some x ∧ ys[i]? = some y, fun i H => SqT K H a xs ∧ SqL K H b ys ∧ i ≤ xs.length ∧ i ≤ ys.length ∧ (i = xs.length ∨ i = ys.length)⟩
theorem turn_zipTL {P : Program} {w : World} {K : PySem.W.Frag} {elts : List Expr} {kk : Nat} {tpos : Pos} {a b z TI TO i1 i2 : Addr} (S : ZipSep2 z TI TO i1 i2 [i1, a] [i2, b]) (na : a ≠ i1) (nb : b ≠ i2) (xs ys : List V) :
    Turn P w K (.Tuple elts kk tpos) (IzTL K a b xs ys) [z, TI, TO, i1, i2] z (fun i h => IsZip h z TI TO .none ∧ IsTupOf2 h TI (.ref i1) (.ref i2) ∧ (∃ x y, IsTupOf2 h TO x y) ∧ h.IsTupleIter i1 a i ∧ h.IsListIter i2 b i) where
  mem := by simp
  obj := fun i h stt c hc => by
    obtain ⟨hz, hI, ⟨x, y, hO⟩, ⟨o1, e1, _, d1⟩, ⟨o2, e2, _, d2⟩⟩ := stt
    have any : c = z ∨ c = TI ∨ c = TO ∨ c = i1 ∨ c = i2 := by simpa using hc
    rcases any with q | q | q | q | q <;> subst q
    · exact ⟨_, hz, fun v q => nomatch q⟩
    · exact ⟨_, hI, fun v q => nomatch q⟩
    · exact ⟨_, hO, fun v q => nomatch q⟩
    · exact ⟨o1, e1, fun v q => by rw [d1] at q; cases q⟩
    · exact ⟨o2, e2, fun v q => by rw [d2] at q; cases q⟩
  keep := fun i h h' stt k => by
    obtain ⟨hz, hI, ⟨x, y, hO⟩, k1, k2⟩ := stt
    exact ⟨k z (by simp) _ hz, k TI (by simp) _ hI, ⟨x, y, k TO (by simp) _ hO⟩, k1.at fun o q => k i1 (by simp) o q, k2.at fun o q => k i2 (by simp) o q⟩
  item := by
    intro X hP hw hK hc i pins st σ H E J hf stt going
    subst hP hw hK
    obtain ⟨hz, hI, ⟨x0, y0, hO⟩, k1, k2⟩ := stt
    obtain ⟨hq1, hq2, l1, l2⟩ := going
    obtain ⟨its, rv, tup, _⟩ := J.tuple hq1
    obtain ⟨its2, rv2, lst, _⟩ := J.list hq2
    have len1 := rv.length
    have len2 := rv2.length
    have zl : z < st.heap.objs.size := Heap.lt_size hz
    have D1 := Draws.tuple (prog := X.prog) (w := X.w) (A := X.A.in1) (J.ok.hd hc) i1 a na its.toArray
    have D2 := Draws.list (prog := X.prog) (w := X.w) (A := X.A.in1) (J.ok.hd hc) i2 b nb its2.toArray
    refine wpAny_pyNext_zipD2_item S D1 D2 hz hI hO ⟨k1, tup⟩ ⟨k2, lst.isList⟩ (by rw [List.size_toArray]; omega) (by rw [List.size_toArray]; omega) fun u1 u2 h' tk p1 p2 out hO' s1 s2 new size kp => ?_
    refine ⟨_, rfl, wpAny_letOwnedTupleGo_zip (s := { st with heap := h', toks := tk }) out fun h'' out' sb => ?_⟩
    obtain ⟨x, hx⟩ : ∃ x, xs[i]? = some x := ⟨_, List.getElem?_eq_getElem l1⟩
    obtain ⟨y, hy⟩ : ∃ y, ys[i]? = some y := ⟨_, List.getElem?_eq_getElem l2⟩
    obtain ⟨w1, hw1, r1⟩ := rv.get hx
    obtain ⟨w2, hw2, r2⟩ := rv2.get hy
    have e1 : w1 = u1 := by
      have p1 : its.toArray[i]? = some u1 := p1
      rw [List.getElem?_toArray, hw1] at p1
      exact Option.some.inj p1
    have e2 : w2 = u2 := by
      have p2 : its2.toArray[i]? = some u2 := p2
      rw [List.getElem?_toArray, hw2] at p2
      exact Option.some.inj p2
    subst e1 e2
    have there : h''.get? st.heap.objs.size = some { cls := .type "tuple", data := .seq #[w1, w2] } := (sb.2 _ (Nat.ne_of_gt zl)).trans new
    have good : ObjOk X.prog X.w (upd H st.heap.objs.size (.tup [x, y])) h'' st.heap.objs.size (.tup [x, y]) :=
      ⟨by show 2 ≤ sizeLine; decide, [w1, w2], .cons r1 (.cons r2 .nil), ⟨_, there, rfl, _, rfl⟩⟩
    have J1 : Inv X pins σ (upd H st.heap.objs.size (.tup [x, y])) { st with heap := h'', toks := tk } :=
      J.turnedNew (ch := [z, TI, TO, i1, i2]) (fun c o hb q => (sb.2 c (fun q' => hb (by simp [q']))).trans (kp c o (fun q' => hb (by simp [q'])) (fun q' => hb (by simp [q'])) (fun q' => hb (by simp [q'])) (fun q' => hb (by simp [q'])) q)) hf (Nat.le_refl _) good
    have i1z : i1 ≠ z := fun q => S.zf1 (by simp [q])
    have i2z : i2 ≠ z := fun q => S.zf2 (by simp [q])
    refine ⟨.ref st.heap.objs.size, _, J1, rfl, ⟨_, x, y, rfl, J.hok.fresh (Nat.le_refl _), rfl, hx, hy⟩, ⟨out', ?_, ⟨w1, w2, ?_⟩, ?_, ?_⟩, fun c hcm => ?_⟩
    · exact (sb.2 _ S.TIz).trans (kp _ _ S.TIz S.TITO S.TIi1 S.TIi2 hI)
    · exact (sb.2 _ S.TOz).trans hO'
    · exact s1.1.at fun o q => (sb.2 _ i1z).trans q
    · exact s2.1.at fun o q => (sb.2 _ i2z).trans q
    · have low : c < st.heap.objs.size := by
        have any : c = z ∨ c = TI ∨ c = TO ∨ c = i1 ∨ c = i2 := by simpa using hcm
        rcases any with q | q | q | q | q
        · rw [q]; exact zl
        · rw [q]; exact Heap.lt_size hI
        · rw [q]; exact Heap.lt_size hO
        · rw [q]; obtain ⟨_, q1, _⟩ := k1; exact Heap.lt_size q1
        · rw [q]; obtain ⟨_, q2, _⟩ := k2; exact Heap.lt_size q2
      rw [upd_ne (Nat.ne_of_lt low)]
      exact (hf c hcm).1
  done := by
    intro X hP hw hK hc i pins st σ H E J hf stt over
    subst hP hw hK
    obtain ⟨hz, hI, ⟨x0, y0, hO⟩, k1, k2⟩ := stt
    obtain ⟨hq1, hq2, l1, l2, fin⟩ := over
    obtain ⟨its, rv, tup, _⟩ := J.tuple hq1
    obtain ⟨its2, rv2, lst, _⟩ := J.list hq2
    have len1 := rv.length
    have len2 := rv2.length
    have D1 := Draws.tuple (prog := X.prog) (w := X.w) (A := X.A.in1) (J.ok.hd hc) i1 a na its.toArray
    have D2 := Draws.list (prog := X.prog) (w := X.w) (A := X.A.in1) (J.ok.hd hc) i2 b nb its2.toArray
    refine wpAny_pyNext_zipD2_end S D1 D2 hz hI hO ⟨k1, tup⟩ ⟨k2, lst.isList⟩ (by rw [List.size_toArray]; omega) (by rw [List.size_toArray]; omega) (by rw [List.size_toArray, List.size_toArray]; omega) fun h' tk kp => ⟨rfl, ?_⟩
    exact J.turnedL (t' := tk) (ch := [z, TI, TO, i1, i2]) (fun c o hb q => kp c o (fun q' => hb (by simp [q'])) (fun q' => hb (by simp [q'])) (fun q' => hb (by simp [q'])) (fun q' => hb (by simp [q'])) q) hf
  self := fun A i st Q E stt now => wpAny_pyIter_zip stt.1 now
def iZipTL (K : PySem.W.Frag) (ta : TA) : TI := fun σ H R => ta σ H fun vs H1 => ∃ a b xs ys, vs = [.ref a, .ref b] ∧ SqT K H1 a xs ∧ SqL K H1 b ys ∧ R (IzTL K a b xs ys) H1
theorem pi_zipTL (K : PySem.W.Frag) {X : Cx} (hk : X.K = K) {e e2 : Expr} {ta : TA} {p pos tpos : Pos} {elts : List Expr} {kk : Nat} (hg : Gl X "zip") (hm : X.mg "zip" = none) (ha : PA X [e, e2] ta)
    (hs : starEach [e, e2] X.env = (false, eval e X.env) :: starEach [e2] X.env := by rfl) (hpl : (backTo pos (starEach [e2] X.env)).any (·.1) = false := by rfl) : PI X (.Tuple elts kk tpos) (.Call (.Name "zip" p) [e, e2] [] pos) (iZipTL K ta) := by
  subst hk
  refine ⟨fun pins st σ H R J asked => ?_⟩
  refine Call_ (ld_blt J hg hm PyProof.Rows.boot_zip (PyProof.Rows.callWith_type1 (thn (ha.run pos pins st σ H _ J asked) fun us st1 ⟨vs, H1, J1, rel, now⟩ => ?_) hs hpl))
  obtain ⟨a, b, xs, ys, ex, hq1, hq2, now⟩ := now
  subst ex
  obtain ⟨u1, u2, rfl, r1, r2⟩ := vals2 rel
  obtain rfl : u1 = Value.ref a := r1
  obtain rfl : u2 = Value.ref b := r2
  obtain ⟨its, rv, tup, _⟩ := J1.tuple hq1
  obtain ⟨its2, rv2, lst, _⟩ := J1.list hq2
  have al : a < st1.heap.objs.size := by obtain ⟨o, ho, _⟩ := id tup; exact Heap.lt_size ho
  have bl : b < st1.heap.objs.size := by obtain ⟨o, ho, _⟩ := id lst.isList; exact Heap.lt_size ho
  refine zip_begins2 (begins_tuple a its.toArray) (begins_list b its2.toArray) tup lst.isList fun h' hz hI hO g1 g2 size kp => wpAny_pyIter_zip hz ?_
  have J2 : Inv X pins σ H1 { st1 with heap := h' } := J1.kept (t' := st1.toks) kp
  generalize hn : st1.heap.objs.size = n at *
  have S : ZipSep2 (n + 4) (n + 2) (n + 3) n (n + 1) [n, a] [n + 1, b] :=
    zip_sep2 (fun c hc => by rw [List.mem_singleton.mp hc]; exact al) (fun c hc => by rw [List.mem_singleton.mp hc]; exact bl)
  refine ⟨n + 4, [n + 4, n + 2, n + 3, n, n + 1], _, _, H1, rfl, J2, turn_zipTL S (Nat.ne_of_lt al) (Nat.ne_of_lt (Nat.lt_succ_of_lt bl)) xs ys, ⟨hz, hI, ⟨_, _, hO⟩, ⟨_, g1, rfl, rfl⟩, ⟨_, g2, rfl, rfl⟩⟩, fun c hcm => ?_, now⟩
  have low : n ≤ c := by
    have any : c = n + 4 ∨ c = n + 2 ∨ c = n + 3 ∨ c = n ∨ c = n + 1 := by simpa using hcm
    rcases any with q | q | q | q | q <;> rw [q]
    · exact Nat.le_add_right ..
    · exact Nat.le_add_right ..
    · exact Nat.le_add_right ..
    · exact Nat.le_refl _
    · exact Nat.le_add_right ..
  rw [← hn] at low
  exact J1.fpOk low (J1.hok.fresh low)
/-! ### for x, y in zip(l, t), l a list, t a tuple -/
def IzLT (K : PySem.W.Frag) (a b : Addr) (xs ys : List V) : It :=
  ⟨fun i H => SqL K H a xs ∧ SqT K H b ys ∧ i < xs.length ∧ i < ys.length, fun i H v H' => ∃ T x y, v = .ref T ∧ H T = none ∧ H' = upd H T (.tup [x, y]) ∧ xs[i]? = some x ∧ ys[i]? = some y, fun i H => SqL K H a xs ∧ SqT K H b ys ∧ i ≤ xs.length ∧ i ≤ ys.length ∧ (i = xs.length ∨ i = ys.length)⟩
theorem turn_zipLT {P : Program} {w : World} {K : PySem.W.Frag} {elts : List Expr} {kk : Nat} {tpos : Pos} {a b z TI TO i1 i2 : Addr} (S : ZipSep2 z TI TO i1 i2 [i1, a] [i2, b]) (na : a ≠ i1) (nb : b ≠ i2) (xs ys : List V) :
    Turn P w K (.Tuple elts kk tpos) (IzLT K a b xs ys) [z, TI, TO, i1, i2] z (fun i h => IsZip h z TI TO .none ∧ IsTupOf2 h TI (.ref i1) (.ref i2) ∧ (∃ x y, IsTupOf2 h TO x y) ∧ h.IsListIter i1 a i ∧ h.IsTupleIter i2 b i) where
  mem := by simp
  obj := fun i h stt c hc => by
    obtain ⟨hz, hI, ⟨x, y, hO⟩, ⟨o1, e1, _, d1⟩, ⟨o2, e2, _, d2⟩⟩ := stt
    have any : c = z ∨ c = TI ∨ c = TO ∨ c = i1 ∨ c = i2 := by simpa using hc
    rcases any with q | q | q | q | q <;> subst q
    · exact ⟨_, hz, fun v q => nomatch q⟩
    · exact ⟨_, hI, fun v q => nomatch q⟩
    · exact ⟨_, hO, fun v q => nomatch q⟩
    · exact ⟨o1, e1, fun v q => by rw [d1] at q; cases q⟩
    · exact ⟨o2, e2, fun v q => by rw [d2] at q; cases q⟩
  keep := fun i h h' stt k => by
    obtain ⟨hz, hI, ⟨x, y, hO⟩, k1, k2⟩ := stt
    exact ⟨k z (by simp) _ hz, k TI (by simp) _ hI, ⟨x, y, k TO (by simp) _ hO⟩, k1.at fun o q => k i1 (by simp) o q, k2.at fun o q => k i2 (by simp) o q⟩
  item := by
    intro X hP hw hK hc i pins st σ H E J hf stt going
    subst hP hw hK
    obtain ⟨hz, hI, ⟨x0, y0, hO⟩, k1, k2⟩ := stt
    obtain ⟨hq1, hq2, l1, l2⟩ := going
    obtain ⟨its, rv, lst, _⟩ := J.list hq1
    obtain ⟨its2, rv2, tup, _⟩ := J.tuple hq2
    have len1 := rv.length
    have len2 := rv2.length
    have zl : z < st.heap.objs.size := Heap.lt_size hz
    have D1 := Draws.list (prog := X.prog) (w := X.w) (A := X.A.in1) (J.ok.hd hc) i1 a na its.toArray
    have D2 := Draws.tuple (prog := X.prog) (w := X.w) (A := X.A.in1) (J.ok.hd hc) i2 b nb its2.toArray
    refine wpAny_pyNext_zipD2_item S D1 D2 hz hI hO ⟨k1, lst.isList⟩ ⟨k2, tup⟩ (by rw [List.size_toArray]; omega) (by rw [List.size_toArray]; omega) fun u1 u2 h' tk p1 p2 out hO' s1 s2 new size kp => ?_
    refine ⟨_, rfl, wpAny_letOwnedTupleGo_zip (s := { st with heap := h', toks := tk }) out fun h'' out' sb => ?_⟩
    obtain ⟨x, hx⟩ : ∃ x, xs[i]? = some x := ⟨_, List.getElem?_eq_getElem l1⟩
    obtain ⟨y, hy⟩ : ∃ y, ys[i]? = some y := ⟨_, List.getElem?_eq_getElem l2⟩
    obtain ⟨w1, hw1, r1⟩ := rv.get hx
    obtain ⟨w2, hw2, r2⟩ := rv2.get hy
    have e1 : w1 = u1 := by
      have p1 : its.toArray[i]? = some u1 := p1
      rw [List.getElem?_toArray, hw1] at p1
      exact Option.some.inj p1
    have e2 : w2 = u2 := by
      have p2 : its2.toArray[i]? = some u2 := p2
      rw [List.getElem?_toArray, hw2] at p2
      exact Option.some.inj p2
    subst e1 e2
    have there : h''.get? st.heap.objs.size = some { cls := .type "tuple", data := .seq #[w1, w2] } := (sb.2 _ (Nat.ne_of_gt zl)).trans new
    have good : ObjOk X.prog X.w (upd H st.heap.objs.size (.tup [x, y])) h'' st.heap.objs.size (.tup [x, y]) :=
      ⟨by show 2 ≤ sizeLine; decide, [w1, w2], .cons r1 (.cons r2 .nil), ⟨_, there, rfl, _, rfl⟩⟩
    have J1 : Inv X pins σ (upd H st.heap.objs.size (.tup [x, y])) { st with heap := h'', toks := tk } :=
      J.turnedNew (ch := [z, TI, TO, i1, i2]) (fun c o hb q => (sb.2 c (fun q' => hb (by simp [q']))).trans (kp c o (fun q' => hb (by simp [q'])) (fun q' => hb (by simp [q'])) (fun q' => hb (by simp [q'])) (fun q' => hb (by simp [q'])) q)) hf (Nat.le_refl _) good
    have i1z : i1 ≠ z := fun q => S.zf1 (by simp [q])
    have i2z : i2 ≠ z := fun q => S.zf2 (by simp [q])
    refine ⟨.ref st.heap.objs.size, _, J1, rfl, ⟨_, x, y, rfl, J.hok.fresh (Nat.le_refl _), rfl, hx, hy⟩, ⟨out', ?_, ⟨w1, w2, ?_⟩, ?_, ?_⟩, fun c hcm => ?_⟩
    · exact (sb.2 _ S.TIz).trans (kp _ _ S.TIz S.TITO S.TIi1 S.TIi2 hI)
    · exact (sb.2 _ S.TOz).trans hO'
    · exact s1.1.at fun o q => (sb.2 _ i1z).trans q
    · exact s2.1.at fun o q => (sb.2 _ i2z).trans q
    · have low : c < st.heap.objs.size := by
        have any : c = z ∨ c = TI ∨ c = TO ∨ c = i1 ∨ c = i2 := by simpa using hcm
        rcases any with q | q | q | q | q
        · rw [q]; exact zl
        · rw [q]; exact Heap.lt_size hI
        · rw [q]; exact Heap.lt_size hO
        · rw [q]; obtain ⟨_, q1, _⟩ := k1; exact Heap.lt_size q1
        · rw [q]; obtain ⟨_, q2, _⟩ := k2; exact Heap.lt_size q2
      rw [upd_ne (Nat.ne_of_lt low)]
      exact (hf c hcm).1
  done := by
    intro X hP hw hK hc i pins st σ H E J hf stt over
    subst hP hw hK
    obtain ⟨hz, hI, ⟨x0, y0, hO⟩, k1, k2⟩ := stt
    obtain ⟨hq1, hq2, l1, l2, fin⟩ := over
    obtain ⟨its, rv, lst, _⟩ := J.list hq1
    obtain ⟨its2, rv2, tup, _⟩ := J.tuple hq2
    have len1 := rv.length
    have len2 := rv2.length
    have D1 := Draws.list (prog := X.prog) (w := X.w) (A := X.A.in1) (J.ok.hd hc) i1 a na its.toArray
    have D2 := Draws.tuple (prog := X.prog) (w := X.w) (A := X.A.in1) (J.ok.hd hc) i2 b nb its2.toArray
    refine wpAny_pyNext_zipD2_end S D1 D2 hz hI hO ⟨k1, lst.isList⟩ ⟨k2, tup⟩ (by rw [List.size_toArray]; omega) (by rw [List.size_toArray]; omega) (by rw [List.size_toArray, List.size_toArray]; omega) fun h' tk kp => ⟨rfl, ?_⟩
    exact J.turnedL (t' := tk) (ch := [z, TI, TO, i1, i2]) (fun c o hb q => kp c o (fun q' => hb (by simp [q'])) (fun q' => hb (by simp [q'])) (fun q' => hb (by simp [q'])) (fun q' => hb (by simp [q'])) q) hf
  self := fun A i st Q E stt now => wpAny_pyIter_zip stt.1 now
def iZipLT (K : PySem.W.Frag) (ta : TA) : TI := fun σ H R => ta σ H fun vs H1 => ∃ a b xs ys, vs = [.ref a, .ref b] ∧ SqL K H1 a xs ∧ SqT K H1 b ys ∧ R (IzLT K a b xs ys) H1
theorem pi_zipLT (K : PySem.W.Frag) {X : Cx} (hk : X.K = K) {e e2 : Expr} {ta : TA} {p pos tpos : Pos} {elts : List Expr} {kk : Nat} (hg : Gl X "zip") (hm : X.mg "zip" = none) (ha : PA X [e, e2] ta)
    (hs : starEach [e, e2] X.env = (false, eval e X.env) :: starEach [e2] X.env := by rfl) (hpl : (backTo pos (starEach [e2] X.env)).any (·.1) = false := by rfl) : PI X (.Tuple elts kk tpos) (.Call (.Name "zip" p) [e, e2] [] pos) (iZipLT K ta) := by
  subst hk
  refine ⟨fun pins st σ H R J asked => ?_⟩
  refine Call_ (ld_blt J hg hm PyProof.Rows.boot_zip (PyProof.Rows.callWith_type1 (thn (ha.run pos pins st σ H _ J asked) fun us st1 ⟨vs, H1, J1, rel, now⟩ => ?_) hs hpl))
  obtain ⟨a, b, xs, ys, ex, hq1, hq2, now⟩ := now
  subst ex
  obtain ⟨u1, u2, rfl, r1, r2⟩ := vals2 rel
  obtain rfl : u1 = Value.ref a := r1
  obtain rfl : u2 = Value.ref b := r2
  obtain ⟨its, rv, lst, _⟩ := J1.list hq1
  obtain ⟨its2, rv2, tup, _⟩ := J1.tuple hq2
  have al : a < st1.heap.objs.size := by obtain ⟨o, ho, _⟩ := id lst.isList; exact Heap.lt_size ho
  have bl : b < st1.heap.objs.size := by obtain ⟨o, ho, _⟩ := id tup; exact Heap.lt_size ho
  refine zip_begins2 (begins_list a its.toArray) (begins_tuple b its2.toArray) lst.isList tup fun h' hz hI hO g1 g2 size kp => wpAny_pyIter_zip hz ?_
  have J2 : Inv X pins σ H1 { st1 with heap := h' } := J1.kept (t' := st1.toks) kp
  generalize hn : st1.heap.objs.size = n at *
  have S : ZipSep2 (n + 4) (n + 2) (n + 3) n (n + 1) [n, a] [n + 1, b] :=
    zip_sep2 (fun c hc => by rw [List.mem_singleton.mp hc]; exact al) (fun c hc => by rw [List.mem_singleton.mp hc]; exact bl)
  refine ⟨n + 4, [n + 4, n + 2, n + 3, n, n + 1], _, _, H1, rfl, J2, turn_zipLT S (Nat.ne_of_lt al) (Nat.ne_of_lt (Nat.lt_succ_of_lt bl)) xs ys, ⟨hz, hI, ⟨_, _, hO⟩, ⟨_, g1, rfl, rfl⟩, ⟨_, g2, rfl, rfl⟩⟩, fun c hcm => ?_, now⟩
  have low : n ≤ c := by
    have any : c = n + 4 ∨ c = n + 2 ∨ c = n + 3 ∨ c = n ∨ c = n + 1 := by simpa using hcm
    rcases any with q | q | q | q | q <;> rw [q]
    · exact Nat.le_add_right ..
    · exact Nat.le_add_right ..
    · exact Nat.le_add_right ..
    · exact Nat.le_refl _
    · exact Nat.le_add_right ..
  rw [← hn] at low
  exact J1.fpOk low (J1.hok.fresh low)
/-! ### for i, x in enumerate(t), t a tuple -/
section
open Sem (wp)
open AutoSeq1 (wpAny_loadPart')
theorem enum_of_tup (t : Addr) (its : Array Value) (n : Nat) (dct : Option Addr) (sl : Array (Option Value)) :
    Meets (Builtin.«enumerate.__new__» ⟨[.type "enumerate", .ref t], []⟩) (fun _ R st => st.heap.get? t = some { cls := .type "tuple", dict := dct, data := .seq its n, slots := sl } ∧
      R (.ok (.ret (.ref (st.heap.push { cls := .type "tuple_iterator", data := .fields #[.ref t, .int 0 0] }).objs.size)))
        { st with heap := (st.heap.push { cls := .type "tuple_iterator", data := .fields #[.ref t, .int 0 0] }).push { cls := .type "enumerate", data := .fields #[.none, .bool false, .ref st.heap.objs.size, rawInt 0, .none, .none] } }) :=
  .of_wp fun prog w A R st asked => by
    obtain ⟨hp, g, d, tk, os⟩ := st; obtain ⟨at_, asked⟩ := asked
    have sub := sub_enumerate
    have hT : Heap.IsTuple (Shared.heap ⟨hp, g, d, tk, os⟩) t its := ⟨_, at_, rfl, n, rfl⟩
    wp_walk using wpAny_loadPart' at_
    refine wpAny_stack_any fun stk => wpAny_pure ?_
    split
    · rename_i c _ _ _ _ _
      cases (c == Value.type "enumerate")
      · wp_walk using wpAny_loadPart' at_, wpAny_pyIter_tuple hT
        exact ⟨_, rfl, asked⟩
      · wp_walk using wpAny_loadPart' at_, wpAny_pyIter_tuple hT
        exact ⟨_, rfl, asked⟩
    · wp_walk using wpAny_loadPart' at_, wpAny_pyIter_tuple hT
      exact ⟨_, rfl, asked⟩
theorem call_enum_tup {prog : Program} {w : World} {A : Around} {E : Value → Shared → Prop} {st : Shared} {t : Addr} {its : Array Value} {Q : Value → Shared → Prop} (hT : st.heap.IsTuple t its)
    (now : ∀ h', IsEnum h' (st.heap.objs.size + 1) st.heap.objs.size 0 .none → h'.IsTupleIter st.heap.objs.size t 0 → h'.objs.size = st.heap.objs.size + 2 →
      (∀ b o, st.heap.get? b = some o → h'.get? b = some o) → Q (.ref (st.heap.objs.size + 1)) { st with heap := h' }) :
    wpAny (model prog w) A (call (.type "enumerate") [.ref t]) Q E st := by
  obtain ⟨⟨c, dct, dt, sl⟩, at_, hc, n, hd⟩ := hT
  replace hc : c = .type "tuple" := hc
  replace hd : dt = .seq its n := hd
  subst hc hd
  refine callType_new F.called_enumerate (by decide) (F.typeCall_enumerate_1 _) (F.newCall_enumerate_1 _) (fun obj => F.args_object_init_2 obj _) F.entry_enumerate_new (enum_of_tup t its n dct sl) ⟨at_, ?_⟩
  have size1 : (st.heap.push { cls := .type "tuple_iterator", data := .fields #[.ref t, .int 0 0] }).objs.size = st.heap.objs.size + 1 := Heap.size_push ..
  show _ ∧ _
  rw [size1]
  have made := Heap.get?_push_size (st.heap.push { cls := .type "tuple_iterator", data := .fields #[.ref t, .int 0 0] }) (o := { cls := .type "enumerate", data := .fields #[.none, .bool false, .ref st.heap.objs.size, rawInt 0, .none, .none] }) rfl
  rw [size1] at made
  exact ⟨⟨_, made, rfl⟩, now _ made ⟨_, Heap.get?_push_of_some _ (Heap.get?_push_size _ rfl), rfl, rfl⟩ (by rw [Heap.size_push, size1]) fun b o e => Heap.get?_push_of_some _ (Heap.get?_push_of_some _ e)⟩
end
/-- the tuple at a, each item in a new pair -/
def IteT (K : PySem.W.Frag) (a : Addr) (xs : List V) : It :=
  ⟨fun i H => SqT K H a xs ∧ i < xs.length, fun i H v H' => ∃ T x, v = .ref T ∧ H T = none ∧ H' = upd H T (.tup [.int (i : Nat), x]) ∧ xs[i]? = some x, fun i H => SqT K H a xs ∧ i = xs.length⟩
theorem turn_enumT {P : Program} {w : World} {K : PySem.W.Frag} {elts : List Expr} {kk : Nat} {tpos : Pos} (a e it : Addr) (xs : List V) :
    Turn P w K (.Tuple elts kk tpos) (IteT K a xs) [e, it] e (fun i h => (∃ old, IsEnum h e it ((i : Nat) : Int) old) ∧ h.IsTupleIter it a i ∧ e ≠ it ∧ a ≠ it ∧ a ≠ e) where
  mem := by simp
  obj := fun i h st b hb => by
    obtain ⟨⟨old, he⟩, ⟨o, ho, hc, hd⟩, _⟩ := st
    have either : b = e ∨ b = it := by simpa using hb
    rcases either with z | z
    · rw [z]; exact ⟨_, he, fun v q => nomatch q⟩
    · rw [z]; exact ⟨o, ho, fun v q => by rw [hd] at q; cases q⟩
  keep := fun i h h' st k => let ⟨⟨old, he⟩, hi, apart⟩ := st; ⟨⟨old, k e (by simp) _ he⟩, hi.at fun o q => k it (by simp) o q, apart⟩
  item := by
    intro X hP hw hK hc i pins st σ H E J hf stt going
    subst hP hw hK
    obtain ⟨⟨old, he⟩, hit, n1, n2, n3⟩ := stt
    obtain ⟨hq, hi⟩ := going
    obtain ⟨its, rv, tup, hz⟩ := J.tuple hq
    have len := rv.length
    have el : e < st.heap.objs.size := Heap.lt_size he
    have il : it < st.heap.objs.size := by obtain ⟨_, q, _⟩ := hit; exact Heap.lt_size q
    have D := Draws.tuple (prog := X.prog) (w := X.w) (A := X.A.in1) (J.ok.hd hc) it a n2 its.toArray
    refine wpAny_pyNext_enum_itemD D he ⟨hit, tup⟩ (by rw [List.size_toArray]; omega) n1 (by simp [n1, n3.symm]) fun u h' tk px out stt' new size kp => ?_
    refine ⟨_, rfl, wpAny_letOwnedTupleGo_enum (s := { st with heap := h', toks := tk + 1 }) out fun h'' he' sb => ?_⟩
    obtain ⟨x, hx⟩ : ∃ x, xs[i]? = some x := ⟨_, List.getElem?_eq_getElem hi⟩
    obtain ⟨u', hu', ru⟩ := rv.get hx
    have eu : u' = u := by
      have px : its.toArray[i]? = some u := px
      rw [List.getElem?_toArray, hu'] at px
      exact Option.some.inj px
    subst eu
    have there : h''.get? st.heap.objs.size = some { cls := .type "tuple", data := .seq #[.int i tk, u'] } := (sb.2 _ (Nat.ne_of_gt el)).trans new
    have ok2 : ObjOk X.prog X.w (upd H st.heap.objs.size (.tup [.int (i : Nat), x])) h'' st.heap.objs.size (.tup [.int (i : Nat), x]) :=
      ⟨by show 2 ≤ sizeLine; decide, [.int i tk, u'], .cons ⟨_, rfl⟩ (.cons ru .nil), ⟨_, there, rfl, _, rfl⟩⟩
    have J1 : Inv X pins σ (upd H st.heap.objs.size (.tup [.int (i : Nat), x])) { st with heap := h'', toks := tk + 1 } :=
      J.turnedNew (ch := [e, it]) (fun b ob hb q => (sb.2 b (fun z => hb (by simp [z]))).trans (kp b ob (fun z => hb (by simp [z])) (fun z => hb (by simp [z])) q)) hf (Nat.le_refl _) ok2
    refine ⟨.ref st.heap.objs.size, _, J1, rfl, ⟨_, x, rfl, J.hok.fresh (Nat.le_refl _), rfl, hx⟩, ⟨⟨u', ?_⟩, stt'.1.at fun o q => (sb.2 it (Ne.symm n1)).trans q, n1, n2, n3⟩, fun b hb => ?_⟩
    · rw [show ((i + 1 : Nat) : Int) = (i : Int) + 1 by omega]
      exact he'
    · have bl : b < st.heap.objs.size := by
        have either : b = e ∨ b = it := by simpa using hb
        rcases either with z | z
        · rw [z]; exact el
        · rw [z]; exact il
      rw [upd_ne (Nat.ne_of_lt bl)]
      exact (hf b hb).1
  done := by
    intro X hP hw hK hc i pins st σ H E J hf stt over
    subst hP hw hK
    obtain ⟨⟨old, he⟩, hit, n1, n2, n3⟩ := stt
    obtain ⟨hq, hi⟩ := over
    obtain ⟨its, rv, tup, hz⟩ := J.tuple hq
    obtain ⟨f0, f1, f2, f3, f4, f5⟩ := hf it (by simp)
    have len := rv.length
    have D := Draws.tuple (prog := X.prog) (w := X.w) (A := X.A.in1) (J.ok.hd hc) it a n2 its.toArray
    have ei : its.toArray.size = i := by rw [List.size_toArray]; omega
    exact wpAny_pyNext_enum_endD D he ⟨by rw [ei]; exact hit, tup⟩ fun h' eb => ⟨rfl, J.turned (t' := st.toks) (fun b o hb q => eb b o hb q) f0 f1 f3 f4 f5⟩
  self := fun A i st Q E stt now => let ⟨⟨_, he⟩, _⟩ := stt; wpAny_pyIter_enum he now
def iEnumT (K : PySem.W.Frag) (ta : TA) : TI := fun σ H R => ta σ H fun vs H1 => ∃ a xs, vs = [.ref a] ∧ SqT K H1 a xs ∧ R (IteT K a xs) H1
theorem pi_enumT (K : PySem.W.Frag) {X : Cx} (hk : X.K = K) {e : Expr} {ta : TA} {p pos tpos : Pos} {elts : List Expr} {kk : Nat} (hg : Gl X "enumerate") (hm : X.mg "enumerate" = none) (ha : PA X [e] ta) (hs : starEach [e] X.env = [(false, eval e X.env)] := by rfl) :
    PI X (.Tuple elts kk tpos) (.Call (.Name "enumerate" p) [e] [] pos) (iEnumT K ta) := by
  subst hk
  refine ⟨fun pins st σ H R J asked => ?_⟩
  refine Call_ (ld_blt J hg hm boot_enumerate (PyProof.Rows.callWith_type1 (thn (ha.run pos pins st σ H _ J asked) fun us st1 ⟨vs, H1, J1, rel, now⟩ => ?_) hs rfl))
  obtain ⟨a, xs, ex, hq, now⟩ := now
  subst ex
  obtain ⟨u, rfl, ru⟩ := vals1 rel
  obtain rfl : u = Value.ref a := ru
  obtain ⟨its, rv, tup, hz⟩ := J1.tuple hq
  have al : a < st1.heap.objs.size := by obtain ⟨o, ho, _⟩ := tup; exact Heap.lt_size ho
  refine call_enum_tup tup fun h' he hit size kp => wpAny_pyIter_enum he ?_
  have J2 : Inv X pins σ H1 { st1 with heap := h' } := J1.kept (t' := st1.toks) kp
  refine ⟨st1.heap.objs.size + 1, [st1.heap.objs.size + 1, st1.heap.objs.size], _, _, H1, rfl, J2, turn_enumT a (st1.heap.objs.size + 1) st1.heap.objs.size xs, ⟨⟨.none, he⟩, hit, Nat.succ_ne_self _, Nat.ne_of_lt al, Nat.ne_of_lt (Nat.lt_succ_of_lt al)⟩, fun b hb => ?_, now⟩
  have either : b = st1.heap.objs.size + 1 ∨ b = st1.heap.objs.size := by simpa using hb
  have low : st1.heap.objs.size ≤ b := by
    rcases either with z | z
    · rw [z]; exact Nat.le_add_right _ _
    · rw [z]; exact Nat.le_refl _
  exact J1.fpOk low (J1.hok.fresh low)
/-! ### dict(zip(xs, ys)), xs a list, ys a tuple -/
section
open Sem (wp)
variable {prog : Program} {w : World} {A : Around} {E : Value → Shared → Prop} {st : Shared} {z TI TO T i1 i2 : Addr} {fp1 fp2 : List Addr} {n1 n2 i : Nat} {P1 P2 : Nat → Value → Prop} {S1 S2 : Nat → Heap → Prop} {f : Bool} {oT : Obj}
theorem out_next (S : ZipSep2 z TI TO i1 i2 fp1 fp2) (D1 : Draws prog w A i1 fp1 n1 P1 S1) (D2 : Draws prog w A i2 fp2 n2 P2 S2) {Q : Value → Shared → Prop}
    (out : IsZipHeld st.heap z TI TO T f) (hT : st.heap.get? T = some oT) (both : IsTupOf2 st.heap TI (.ref i1) (.ref i2)) (at1 : S1 i st.heap) (at2 : S2 i st.heap) (l1 : i < n1) (l2 : i < n2)
    (now : ∀ x y h' tk, P1 i x → P2 i y → IsZipHeld h' z TI TO T true → S1 (i + 1) h' → S2 (i + 1) h' → IsTupOf2 h' st.heap.objs.size x y → (∀ c o, c ≠ z → c ≠ i1 → c ≠ i2 → st.heap.get? c = some o → h'.get? c = some o) → Q (.ref st.heap.objs.size) { st with heap := h', toks := tk }) :
    wpAny (model prog w) A (Builtin.«zip.__next__» ⟨[.ref z], []⟩) (fun fin s' => ∃ v, fin = .done (.ret v) ∧ Q v s') E st := by
  obtain ⟨hp, g, d, tk0, os⟩ := st
  show wpAny _ _ (field (.ref z) 2 >>= _) _ _ _; refine wpAny_bind (wpAny_field out rfl (x := .bool false) rfl ?_)
  show wpAny _ _ (field (.ref z) 3 >>= _) _ _ _; refine wpAny_bind (wpAny_field out rfl (x := .ref TI) rfl ?_)
  refine wpAny_bind (wpAny_seqItems both rfl ?_); show wpAny _ _ (Builtin.SmallTypes.ownedTupleIsFree (.ref z) >>= _) _ _ _
  refine wpAny_bind (wpAny_tupleHeld_zip out hT fun g1 out1 b1 => ?_)
  replace b1 : Heap.SameBut z hp g1 := b1
  simp only [Bool.false_eq_true, if_false]; refine wpAny_bind ?_; rw [← Array.forIn_toList]; simp only [List.forIn_cons, List.forIn_nil]
  refine wpAny_bind (wpAny_bind (wpAny_holding ?_)); show wpAny _ _ (Builtin.SmallTypes.nextOf (.ref i1) >>= _) _ _ ⟨g1, g, d, tk0, os⟩
  refine wpAny_bind (D1.item i _ _ _ l1 (D1.over at1 b1 S.zf1) fun x g2 tk1 px n1' b2 => wpAny_pure ?_)
  replace b2 : Heap.SameBut i1 g1 g2 := b2
  refine wpAny_pure ?_; refine wpAny_bind (wpAny_bind (wpAny_holding ?_)); show wpAny _ _ (Builtin.SmallTypes.nextOf (.ref i2) >>= _) _ _ ⟨g2, g, d, tk1, os⟩
  refine wpAny_bind (D2.item i _ _ _ l2 (D2.over (D2.over at2 b1 S.zf2) b2 S.sep1_2) fun y g3 tk2 py n2' b3 => wpAny_pure ?_)
  replace b3 : Heap.SameBut i2 g2 g3 := b3
  refine wpAny_pure (wpAny_pure ?_); show wpAny _ _ (newTuple [x, y] >>= _) _ _ ⟨g3, g, d, tk2, os⟩
  refine wpAny_bind (wpAny_newTuple ?_); refine wpAny_pure ⟨_, rfl, ?_⟩
  have size : g3.objs.size = hp.objs.size := by rw [b3.1, b2.1, b1.1]
  have out3 : IsZipHeld g3 z TI TO T true := b3.extBut _ _ S.zi2 (b2.extBut _ _ S.zi1 out1)
  have new : IsTupOf2 (g3.push { cls := .type "tuple", data := .seq #[x, y] }) g3.objs.size x y := Heap.get?_push_size _ rfl
  show Q (.ref g3.objs.size) _
  rw [size] at new ⊢
  exact now x y _ tk2 px py (Heap.get?_push_of_some _ out3) (D1.frame _ _ _ (D1.over n1' b3 S.sep2_1) fun _ _ _ q => Heap.get?_push_of_some _ q) (D2.frame _ _ _ n2' fun _ _ _ q => Heap.get?_push_of_some _ q) new
    fun c o c1 c2 c3 q => Heap.get?_push_of_some _ (b3.extBut _ _ c3 (b2.extBut _ _ c2 (b1.extBut _ _ c1 q)))
theorem out_end (S : ZipSep2 z TI TO i1 i2 fp1 fp2) (D1 : Draws prog w A i1 fp1 n1 P1 S1) (D2 : Draws prog w A i2 fp2 n2 P2 S2) {Q : Fin → Shared → Prop}
    (out : IsZipHeld st.heap z TI TO T f) (hT : st.heap.get? T = some oT) (both : IsTupOf2 st.heap TI (.ref i1) (.ref i2)) (at1 : S1 i st.heap) (at2 : S2 i st.heap) (l1 : i ≤ n1) (l2 : i ≤ n2) (last : i = n1 ∨ i = n2)
    (now : ∀ h' tk e, (∀ c o, c ≠ z → c ≠ i1 → c ≠ i2 → st.heap.get? c = some o → h'.get? c = some o) → (∃ o, h'.get? e = some o ∧ o.cls = .type "StopIteration") → E (.ref e) { st with heap := h', toks := tk }) :
    wpAny (model prog w) A (Builtin.«zip.__next__» ⟨[.ref z], []⟩) Q E st := by
  obtain ⟨hp, g, d, tk0, os⟩ := st
  show wpAny _ _ (field (.ref z) 2 >>= _) _ _ _; refine wpAny_bind (wpAny_field out rfl (x := .bool false) rfl ?_)
  show wpAny _ _ (field (.ref z) 3 >>= _) _ _ _; refine wpAny_bind (wpAny_field out rfl (x := .ref TI) rfl ?_)
  refine wpAny_bind (wpAny_seqItems both rfl ?_); show wpAny _ _ (Builtin.SmallTypes.ownedTupleIsFree (.ref z) >>= _) _ _ _
  refine wpAny_bind (wpAny_tupleHeld_zip out hT fun g1 out1 b1 => ?_)
  replace b1 : Heap.SameBut z hp g1 := b1
  simp only [Bool.false_eq_true, if_false]; refine wpAny_bind ?_; rw [← Array.forIn_toList]; simp only [List.forIn_cons, List.forIn_nil]
  refine wpAny_bind (wpAny_bind (wpAny_holding ?_)); show wpAny _ _ (Builtin.SmallTypes.nextOf (.ref i1) >>= _) _ _ ⟨g1, g, d, tk0, os⟩
  by_cases more : i < n1
  · refine wpAny_bind (D1.item i _ _ _ more (D1.over at1 b1 S.zf1) fun x g2 tk1 px n1' b2 => wpAny_pure ?_)
    replace b2 : Heap.SameBut i1 g1 g2 := b2
    refine wpAny_pure ?_; refine wpAny_bind (wpAny_bind (wpAny_holding ?_)); show wpAny _ _ (Builtin.SmallTypes.nextOf (.ref i2) >>= _) _ _ ⟨g2, g, d, tk1, os⟩
    have e2 : i = n2 := by omega
    subst e2
    refine wpAny_bind (D2.done _ _ _ (D2.over (D2.over at2 b1 S.zf2) b2 S.sep1_2) fun g3 e b3 he => ?_)
    exact now g3 tk1 e (fun c o c1 c2 c3 q => b3 _ _ c3 (b2.extBut _ _ c2 (b1.extBut _ _ c1 q))) he
  · have e1 : i = n1 := by omega
    subst e1
    refine wpAny_bind (D1.done _ _ _ (D1.over at1 b1 S.zf1) fun g3 e b3 he => ?_)
    exact now g3 tk0 e (fun c o c1 c2 c3 q => b3 _ _ c2 (b1.extBut _ _ c1 q)) he
theorem out_pyNext (S : ZipSep2 z TI TO i1 i2 fp1 fp2) (D1 : Draws prog w A.in1 i1 fp1 n1 P1 S1) (D2 : Draws prog w A.in1 i2 fp2 n2 P2 S2) {Q : Option Value → Shared → Prop}
    (out : IsZipHeld st.heap z TI TO T f) (hT : st.heap.get? T = some oT) (both : IsTupOf2 st.heap TI (.ref i1) (.ref i2)) (at1 : S1 i st.heap) (at2 : S2 i st.heap) (l1 : i < n1) (l2 : i < n2)
    (now : ∀ x y h' tk, P1 i x → P2 i y → IsZipHeld h' z TI TO T true → S1 (i + 1) h' → S2 (i + 1) h' → IsTupOf2 h' st.heap.objs.size x y → (∀ c o, c ≠ z → c ≠ i1 → c ≠ i2 → st.heap.get? c = some o → h'.get? c = some o) → Q (some (.ref st.heap.objs.size)) { st with heap := h', toks := tk }) :
    wpAny (model prog w) A (pyNext (.ref z)) Q E st := by
  have ty : st.TypeIs (.ref z) "zip" := ⟨_, out, rfl⟩
  unfold pyNext
  refine wpAny_bind (wpAny_attempt (wpAny_callSpecial?_slot (name := Str.ofString "__next__") ty F.slot_zip_next (wpAny_call_entry F.slot_zip_next ty F.entry_zip_next (out_next S D1 D2 out hT both at1 at2 l1 l2 ?_) (F.args_zip_next_1 _))))
  exact fun x y h' tk a b c d e g k => wpAny_pure (now x y h' tk a b c d e g k)
theorem out_pyNext_end (S : ZipSep2 z TI TO i1 i2 fp1 fp2) (D1 : Draws prog w A.in1 i1 fp1 n1 P1 S1) (D2 : Draws prog w A.in1 i2 fp2 n2 P2 S2) {Q : Option Value → Shared → Prop}
    (out : IsZipHeld st.heap z TI TO T f) (hT : st.heap.get? T = some oT) (both : IsTupOf2 st.heap TI (.ref i1) (.ref i2)) (at1 : S1 i st.heap) (at2 : S2 i st.heap) (l1 : i ≤ n1) (l2 : i ≤ n2) (last : i = n1 ∨ i = n2)
    (now : ∀ h' tk, (∀ c o, c ≠ z → c ≠ i1 → c ≠ i2 → st.heap.get? c = some o → h'.get? c = some o) → Q none { st with heap := h', toks := tk }) :
    wpAny (model prog w) A (pyNext (.ref z)) Q E st := by
  have ty : st.TypeIs (.ref z) "zip" := ⟨_, out, rfl⟩
  unfold pyNext
  refine wpAny_bind (wpAny_attempt (wpAny_callSpecial?_slot (name := Str.ofString "__next__") ty F.slot_zip_next (wpAny_call_entry F.slot_zip_next ty F.entry_zip_next (out_end S D1 D2 out hT both at1 at2 l1 l2 last ?_) (F.args_zip_next_1 _))))
  rintro h' tk e kp ⟨o, ho, hc⟩
  exact wpAny_bind (wpAny_isInstance (T := "StopIteration") (b := true) ⟨o, ho, hc⟩ isSubtype_stop (wpAny_pure (now _ _ kp)))
/-- the zip of the list l and the tuple t, begun -/
def ZipLT (h : Heap) (z TI TO i1 i2 l t : Addr) (xs ys : Array Value) (n : Nat) : Prop := IsTupOf2 h TI (.ref i1) (.ref i2) ∧ (h.IsListIter i1 l n ∧ h.IsList l xs) ∧ (h.IsTupleIter i2 t n ∧ h.IsTuple t ys)
theorem ZipLT.keep {h h' : Heap} {z TI TO i1 i2 l t : Addr} {xs ys : Array Value} {n : Nat} (q : ZipLT h z TI TO i1 i2 l t xs ys n) (k : ∀ b, b = TI ∨ b = i1 ∨ b = i2 ∨ b = l ∨ b = t → ∀ o, h.get? b = some o → h'.get? b = some o) : ZipLT h' z TI TO i1 i2 l t xs ys n :=
  ⟨k _ (.inl rfl) _ q.1, ⟨q.2.1.1.at fun o e => k _ (.inr (.inl rfl)) o e, q.2.1.2.at fun o e => k _ (.inr (.inr (.inr (.inl rfl)))) o e⟩, ⟨q.2.2.1.at fun o e => k _ (.inr (.inr (.inl rfl))) o e, q.2.2.2.at fun o e => k _ (.inr (.inr (.inr (.inr rfl)))) o e⟩⟩
theorem pairs_LT (z TI TO i1 i2 l t : Addr) (S : ZipSep2 z TI TO i1 i2 [i1, l] [i2, t]) (hl : l ≠ i1) (ht : t ≠ i2) (xs ys : Array Value) :
    PairArg prog w "zip" z [z, TI, TO, i1, i2, l, t] [z, TO, i1, i2] (min xs.size ys.size) (fun i k v => xs[i]? = some k ∧ ys[i]? = some v)
      (fun h => IsZip h z TI TO .none ∧ (∃ a b, IsTupOf2 h TO a b) ∧ ZipLT h z TI TO i1 i2 l t xs ys 0) where
  type := fun s ok => ⟨_, ok.1, rfl⟩
  notDict := by decide
  keep := fun h h' ok k => by
    obtain ⟨a1, ⟨a, b, a2⟩, a3⟩ := ok
    exact ⟨k _ _ a1, ⟨a, b, k _ _ a2⟩, a3.keep fun b _ o e => k b o e⟩
  there := fun h ok b hb => by
    obtain ⟨a1, ⟨a, c, a2⟩, a3, ⟨⟨o1, e1, _⟩, ⟨o2, e2, _⟩⟩, ⟨⟨o3, e3, _⟩, ⟨o4, e4, _⟩⟩⟩ := ok
    have either : b = z ∨ b = TI ∨ b = TO ∨ b = i1 ∨ b = i2 ∨ b = l ∨ b = t := by simpa using hb
    rcases either with q | q | q | q | q | q | q <;> subst q
    · exact ⟨_, a1⟩
    · exact ⟨_, a3⟩
    · exact ⟨_, a2⟩
    · exact ⟨_, e1⟩
    · exact ⟨_, e3⟩
    · exact ⟨_, e2⟩
    · exact ⟨_, e4⟩
  sub := fun b hb => by
    have either : b = z ∨ b = TO ∨ b = i1 ∨ b = i2 := by simpa using hb
    rcases either with q | q | q | q <;> subst q <;> simp
  noKeys := fun A s Q E hA ok now => getAttrOr_miss_zip ok.1 rfl rfl rfl zip_no_keys (by decide +kernel) hA now
  iter := fun A s d Q E hA ok dlt dfar now => by
    obtain ⟨a1, ⟨a, b, a2⟩, a3⟩ := ok
    have far : d ≠ z ∧ d ≠ TI ∧ d ≠ TO ∧ d ≠ i1 ∧ d ≠ i2 ∧ d ≠ l ∧ d ≠ t := by simpa using dfar
    obtain ⟨d1, d2, d3, d4, d5, d6, d7⟩ := far
    have D1 := Draws.list (prog := prog) (w := w) (A := A.in1) hA i1 l hl xs
    have D2 := Draws.tuple (prog := prog) (w := w) (A := A.in1) hA i2 t ht ys
    refine wpAny_pyIter_zip a1 (now z [z, TO, i1, i2] (fun n h => ZipLT h z TI TO i1 i2 l t xs ys n ∧ ((IsZip h z TI TO .none ∧ ∃ a b, IsTupOf2 h TO a b) ∨ ∃ T f oT, IsZipHeld h z TI TO T f ∧ h.get? T = some oT ∧ T ≠ z ∧ T ≠ i1 ∧ T ≠ i2 ∧ T ≠ d)) s.heap s.toks ?_ ⟨a3, .inl ⟨a1, a, b, a2⟩⟩ (fun _ _ e => e) fun b hb => .inl hb)
    refine ⟨fun hm => ?_, fun n h h' q k => ?_, fun n s1 Q1 E1 hn q dl now1 => ?_, fun s1 Q1 E1 q now1 => ?_⟩
    · have either : d = z ∨ d = TO ∨ d = i1 ∨ d = i2 := by simpa using hm
      rcases either with q | q | q | q
      · exact d1 q
      · exact d3 q
      · exact d4 q
      · exact d5 q
    · refine ⟨q.1.keep fun b hb o e => k b o (fun y => ?_) e, ?_⟩
      · rcases hb with q | q | q | q | q <;> rw [q] at y
        · exact d2 y.symm
        · exact d4 y.symm
        · exact d5 y.symm
        · exact d6 y.symm
        · exact d7 y.symm
      · rcases q.2 with ⟨q1, a, b, q2⟩ | ⟨T, f, oT, q1, q2, r1, r2, r3, r4⟩
        · exact .inl ⟨k _ _ (Ne.symm d1) q1, a, b, k _ _ (Ne.symm d3) q2⟩
        · exact .inr ⟨T, f, oT, k _ _ (Ne.symm d1) q1, k _ _ r4 q2, r1, r2, r3, r4⟩
    · obtain ⟨⟨both, at1, at2⟩, q⟩ := q
      have m1 : n < xs.size := Nat.lt_of_lt_of_le hn (Nat.min_le_left ..)
      have m2 : n < ys.size := Nat.lt_of_lt_of_le hn (Nat.min_le_right ..)
      have lt : ∀ {c o}, s1.heap.get? c = some o → s1.heap.objs.size ≠ c := fun e => Nat.ne_of_gt (Heap.lt_size e)
      have j1 : s1.heap.objs.size ≠ i1 := let ⟨_, e⟩ := D1.live _ _ at1; lt e
      have j2 : s1.heap.objs.size ≠ i2 := let ⟨_, e⟩ := D2.live _ _ at2; lt e
      rcases q with ⟨q1, a, b, q2⟩ | ⟨T, f, oT, q1, q2, r1, r2, r3, r4⟩
      · refine wpAny_pyNext_zipD2_item S D1 D2 q1 both q2 at1 at2 m1 m2 fun x y h' tk px py b1 b2 b3 b4 b5 b6 k => ?_
        exact now1 s1.heap.objs.size x y h' tk ⟨px, py⟩ (.inl ⟨_, b5, rfl, _, rfl⟩) ⟨⟨k _ _ S.TIz S.TITO S.TIi1 S.TIi2 both, b3, b4⟩, .inr ⟨_, false, _, b1, b5, lt q1, j1, j2, Nat.ne_of_gt dl⟩⟩
          fun c o hc e => k c o (fun y => hc (by simp [y])) (fun y => hc (by simp [y])) (fun y => hc (by simp [y])) (fun y => hc (by simp [y])) e
      · refine out_pyNext S D1 D2 q1 q2 both at1 at2 m1 m2 fun x y h' tk px py b1 b3 b4 b5 k => ?_
        exact now1 s1.heap.objs.size x y h' tk ⟨px, py⟩ (.inl ⟨_, b5, rfl, _, rfl⟩) ⟨⟨k _ _ S.TIz S.TIi1 S.TIi2 both, b3, b4⟩, .inr ⟨T, true, oT, b1, k _ _ r1 r2 r3 q2, r1, r2, r3, r4⟩⟩
          fun c o hc e => k c o (fun y => hc (by simp [y])) (fun y => hc (by simp [y])) (fun y => hc (by simp [y])) e
    · obtain ⟨⟨both, at1, at2⟩, q⟩ := q
      rcases q with ⟨q1, a, b, q2⟩ | ⟨T, f, oT, q1, q2, r1, r2, r3, r4⟩
      · exact wpAny_pyNext_zipD2_end S D1 D2 q1 both q2 at1 at2 (Nat.min_le_left ..) (Nat.min_le_right ..) (by omega) fun h' tk k => now1 h' tk fun c o hc e => k c o (fun y => hc (by simp [y])) (fun y => hc (by simp [y])) (fun y => hc (by simp [y])) (fun y => hc (by simp [y])) e
      · exact out_pyNext_end S D1 D2 q1 q2 both at1 at2 (Nat.min_le_left ..) (Nat.min_le_right ..) (by omega) fun h' tk k => now1 h' tk fun c o hc e => k c o (fun y => hc (by simp [y])) (fun y => hc (by simp [y])) (fun y => hc (by simp [y])) e
end
/-- dict(zip(e1, e2)): keys from a list, values from a tuple -/
def eDictZip (K : PySem.W.Frag) (ta : TA) : TE := fun σ H Q => ta σ H fun vs H1 => ∃ (a b : Addr) (ks : List Key) (xs : List V), vs = [.ref a, .ref b] ∧ SqL K H1 a (ks.map kV) ∧ SqT K H1 b xs ∧ ∀ p, H1 p = none → Q (.ref p) (upd H1 p (.dK (mergeK [] (ks.zip xs))))
theorem pe_dictZip (K : PySem.W.Frag) {X : Cx} (hk : X.K = K) (hcalm : X.calm = true) {e e2 : Expr} {ta : TA} {p p2 pos pos2 : Pos} (hd : Gl X "dict") (md : X.mg "dict" = none) (hg : Gl X "zip") (hm : X.mg "zip" = none) (ha : PA X [e, e2] ta)
    (hs : starEach [e, e2] X.env = (false, eval e X.env) :: starEach [e2] X.env := by rfl) (hpl : (backTo pos2 (starEach [e2] X.env)).any (·.1) = false := by rfl)
    (hs1 : starEach [.Call (.Name "zip" p2) [e, e2] [] pos2] X.env = [(false, eval (.Call (.Name "zip" p2) [e, e2] [] pos2) X.env)] := by rfl) :
    PE X (.Call (.Name "dict" p) [.Call (.Name "zip" p2) [e, e2] [] pos2] [] pos) (eDictZip K ta) := by
  subst hk
  refine ⟨fun pins st σ H Q J asked => ?_⟩
  refine Call_ (ld_blt J hd md boot_dict (PyProof.Rows.callWith_type1 (args_cons (Call_ (ld_blt J hg hm boot_zip (PyProof.Rows.callWith_type1 (thn (ha.run pos2 pins st σ H _ J asked) fun us st1 ⟨vs, H1, J1, rel, now⟩ => ?_) hs hpl))) hs1) hs1 rfl))
  obtain ⟨a, b, ks, xs, ex, hq1, hq2, now⟩ := now
  subst ex
  cases rel with
  | cons r1 rel =>
  cases rel with
  | cons r2 rel =>
  cases rel
  cases r1
  cases r2
  obtain ⟨its, rv, p1, z1⟩ := J1.list hq1
  obtain ⟨its2, rv2, p2, z2⟩ := J1.tuple hq2
  have al : a < st1.heap.objs.size := p1.lt
  have bl : b < st1.heap.objs.size := by obtain ⟨o, ho, _⟩ := p2; exact Heap.lt_size ho
  have B1 := begins_list a its.toArray
  have B2 := begins_tuple b its2.toArray
  refine zip_begins2 B1 B2 p1.isList p2 fun h' c1 c2 c3 c4 c5 size kp => args_nil ?_
  have S := zip_sep2 (N := st1.heap.objs.size) (fp1 := [a]) (fp2 := [b]) (by simpa using al) (by simpa using bl)
  have P := pairs_LT (prog := X.prog) (w := X.w) _ _ _ _ _ a b S (Nat.ne_of_lt al) (Nat.ne_of_lt (Nat.lt_succ_of_lt bl)) its.toArray its2.toArray
  have n1 := rv.length
  have n2 := rv2.length
  rw [List.length_map] at n1 z1
  have all : ∀ (ks : List Key) (xs : List V) (us vs : List Value), Vals (ks.map kV) us → Vals xs vs → ∃ rs : List (Key × Value), KV (ks.zip xs) rs ∧ rs.length = min us.length vs.length ∧ ∀ (i : Nat) (k v : Value), us[i]? = some k → vs[i]? = some v → ∃ q, rs[i]? = some (q, v) ∧ (mixKind X.prog X.w).is q k = true := by
    intro ks
    induction ks with
    | nil => intro xs us vs r1 r2; cases r1; exact ⟨[], .nil, by simp, fun i k v e => nomatch e⟩
    | cons k ks ih =>
      intro xs us vs r1 r2
      cases r1 with
      | cons h1 t1 =>
      cases r2 with
      | nil => exact ⟨[], .nil, by simp, fun i k v _ e => nomatch e⟩
      | cons h2 t2 =>
        obtain ⟨rs, e1, e2, e3⟩ := ih _ _ _ t1 t2
        refine ⟨(k, _) :: rs, .cons ⟨rfl, h2⟩ e1, by simp only [List.length_cons, e2]; omega, fun i q v e f => ?_⟩
        cases i with
        | zero => cases e; cases f; exact ⟨k, rfl, kV_is h1⟩
        | succ i => exact e3 i q v e f
  obtain ⟨rs, e1, e2, e3⟩ := all ks xs its its2 rv rv2
  have PH : PairsHave (mixKind X.prog X.w) (min its.toArray.size its2.toArray.size) (fun i k v => its.toArray[i]? = some k ∧ its2.toArray[i]? = some v) rs :=
    ⟨by simpa using e2, fun i k v q => e3 i k v (by simpa using q.1) (by simpa using q.2)⟩
  refine _root_.PySem.call_dict_pairs (s := { st1 with heap := h' }) P (J1.ok.hd hcalm) ⟨c1, ⟨_, _, c3⟩, c2, ⟨⟨_, c4, rfl, rfl⟩, B1.keeps _ _ p1.isList kp⟩, ⟨⟨_, c5, rfl, rfl⟩, B2.keeps _ _ p2 kp⟩⟩ PH (by have := n1; have := n2; simp only [List.size_toArray]; omega) fun h2 tk isd kp2 => ?_
  replace isd : h2.DictOf (mixKind X.prog X.w) h'.objs.size (merged [] rs) := isd
  have low : st1.heap.objs.size ≤ h'.objs.size := by rw [size]; exact Nat.le_add_right _ _
  have big : sysModules < h'.objs.size := Nat.lt_of_lt_of_le J1.big low
  have ne : (h'.objs.size == sysModules) = false := beq_eq_false_iff_ne.mpr (Nat.ne_of_gt big)
  have few : (mergeK [] (ks.zip xs)).length ≤ sizeLine := by
    refine Nat.le_trans (length_mergeK _ []) ?_
    rw [List.length_nil, Nat.zero_add, List.length_zip]
    omega
  refine ⟨.ref h'.objs.size, upd H1 h'.objs.size (.dK (mergeK [] (ks.zip xs))), J1.laid (t' := tk) (fun c o q => kp2 c o (fun hm => ?_) (kp c o q)) low (show ObjOk X.prog X.w _ _ _ (.dK (mergeK [] (ks.zip xs))) from ⟨few, ne, merged [] rs, KV.merge e1 .nil, isd⟩), rfl, now _ (J1.hok.fresh low)⟩
  have cl := Heap.lt_size q
  have either : c = st1.heap.objs.size + 4 ∨ c = st1.heap.objs.size + 3 ∨ c = st1.heap.objs.size ∨ c = st1.heap.objs.size + 1 := by simpa using hm
  rcases either with y | y | y | y <;> rw [y] at cl
  · exact absurd cl (Nat.not_lt.mpr (Nat.le_add_right _ _))
  · exact absurd cl (Nat.not_lt.mpr (Nat.le_add_right _ _))
  · exact absurd cl (Nat.lt_irrefl _)
  · exact absurd cl (Nat.not_lt.mpr (Nat.le_add_right _ _))
theorem one_at {K : PySem.W.Frag} {a : Addr} {od : Option Addr} {z : Str} {t1 : Tok} {n : Nat} {sl : Array (Option Value)} (l : K.lookup a = some ⟨.type "tuple", od, .seq #[.str z t1] n, sl⟩) (H : Hp) : SqT K H a [.str z] :=
  .inr ⟨_, _, _, l, rfl, rfl, (show 1 ≤ sizeLine by decide), .cons ⟨_, rfl⟩ .nil⟩
section
variable {P : Program} {w : World} {K : PySem.W.Frag} {mg : Str → Option Value} {base : Heap}
def sp_law_flow (K : PySem.W.Frag) : Sp := fun vs H Q _ => ∃ (a : Addr) (ns : List Int), vs = [.ref a] ∧ SqL K H a (ns.map V.int) ∧ ∀ (f c : Addr) (H' : Hp), H f = none → H c = none → Flow H' f c → Same H H' → Q (.ref f) H'
theorem ok_law_flow {f : Addr} {fd : FuncData} (F : Fun K "_law_flow" "_law_flow" s_law_flow f fd) {C : Addr} (T : Top K mg C) : FnOk P w K mg base CX0 1 f fd ["_law_script"] (sp_law_flow K) := by
  refine F.ok sc_law_flow (fun vs H Q E h => ?_) (fun cdv A outer s H vs Q E hr h => ?_)
  · obtain ⟨a, ns, rfl, _⟩ := h
    rfl
  obtain ⟨a, ns, rfl, hS, q⟩ := h
  refine ⟨_, (pss_one (ps_ret (pe_lst (pa_cons (pe_callTy (call_list_ofK K rfl) (by rfl) T.m_list (by decide +kernel) (pa_cons (pv 0) pa_nil)) (pa_cons pe_int (pa_cons pe_int (pa_cons pe_int (pa_cons pe_int pa_nil)))))))), ?_⟩
  refine ⟨_, rfl, a, _, rfl, .inl hS, fun c hc => ?_⟩
  refine ⟨(by show 5 ≤ sizeLine; decide), fun f hf => ?_⟩
  have nf : H f = none := by
    cases e : H f with
    | none => rfl
    | some o => rw [same_new hc _ _ e] at hf; cases hf
  have s1 := same_new (o := .lst (ns.map V.int)) hc
  refine q f c _ nf hc ⟨ns, 0, 0, 1, 0, upd_same, same_new hf _ _ upd_same, by decide, by decide, by decide, by decide⟩ fun b o e => same_new hf _ _ (s1 _ _ e)
def sp_law_pick (K : PySem.W.Frag) : Sp := fun vs H Q _ => ∃ (f c : Addr) (m : Int), vs = [.ref f, .int m] ∧ 0 < m ∧ m.natAbs.log2 < 9000 ∧ Flow H f c ∧
  ∀ (v : Int) (H' : Hp), 0 ≤ v → v < m → Flow H' f c → But f H H' → Q (.int v) H'
theorem ok_law_pick {f : Addr} {fd : FuncData} (F : Fun K "_law_pick" "_law_pick" s_law_pick f fd) {C : Addr} (T : Top K mg C) : FnOk P w K mg base CX0 1 f fd ["_law_flow_here", "_law_many"] (sp_law_pick K) := by
  refine F.ok sc_law_pick (fun vs H Q E h => ?_) (fun cdv A outer s H vs Q E hr h => ?_)
  · obtain ⟨f, c, m, rfl, _⟩ := h
    rfl
  obtain ⟨f, c, m, rfl, m0, m9, hF, q⟩ := h
  obtain ⟨ns, i, p, z, r, hf, hc, hi, hp, hz, hz2⟩ := hF
  have ncf : c ≠ f := ne_of hc hf (by intro e; injection e with e; cases ns with | nil => cases e | cons x l => cases e)
  let R1 : TS := fun D' σ' H' => D'.rt = Q ∧ ∃ x2 : Option V, σ' = [some (.ref f), some (.int m), x2, none] ∧ (∃ (i p z r : Int), H' f = some (.lst [.ref c, .int i, .int p, .int z, .int r]) ∧ H' c = some (.lst (ns.map V.int)) ∧ 0 ≤ i ∧ 0 ≤ p ∧ 0 ≤ z ∧ z < 2147483647) ∧ But f H H'
  refine ⟨_, (pss_cons (ps_if (PW.pt (pw_and (pt_cmpR op_eq (pe_ix (ix_listK K rfl) (pv 0) pe_int (fun _ _ => rfl)) pe_int (nomark _)) (pw_and1 (pt_cmpR op_lt (pe_ix (ix_listK K rfl) (pv 0) pe_int (fun _ _ => rfl)) (pe_callB (call_len_seqK K rfl) (by rfl) T.m_len (by decide +kernel) (pa_cons (pe_ix (ix_listK K rfl) (pv 0) pe_int (fun _ _ => rfl)) pa_nil)) (nomark _))))) (pss_cons (ps_set (i := 2) sc_law_pick.nd rfl (Or.inl rfl) (pe_ix (ix_listK K rfl) (pe_ix (ix_listK K rfl) (pv 0) pe_int (fun _ _ => rfl)) (pe_ix (ix_listK K rfl) (pv 0) pe_int (fun _ _ => rfl)) (fun _ _ => rfl)))
      (pss_cons (ps_asg (pe_op op_add (pe_ix (ix_listK K rfl) (pv 0) pe_int (fun _ _ => rfl)) pe_int) (pg_sub (pv 0) pe_int set_list))
      (pss_one (ps_if (pt_cmpR op_ge (pv 2) (pe_op op_pow pe_int pe_int) (nomark _)) (pss_one (ps_asg (pv 2) (pg_sub (pv 0) pe_int set_list))) (pss_one (ps_asg (pe_op op_mod (pe_op op_add (pe_op op_add (pe_op op_mul (pe_ix (ix_listK K rfl) (pv 0) pe_int (fun _ _ => rfl)) pe_int) (pe_op op_mod (pv 2) pe_int)) pe_int) pe_int) (pg_sub (pv 0) pe_int set_list))))))) pss_nil)
      (PSs.to (pss_cons (ps_if (pt_cmpR op_gt (pe_ix (ix_listK K rfl) (pv 0) pe_int (fun _ _ => rfl)) pe_int (nomark _)) (pss_cons (ps_set (i := 3) sc_law_pick.nd rfl (Or.inl rfl) (pe_op op_mod (pe_ix (ix_listK K rfl) (pv 0) pe_int (fun _ _ => rfl)) (pv 1)))
      (pss_cons (ps_asg (pe_op op_fdivW (pe_ix (ix_listK K rfl) (pv 0) pe_int (fun _ _ => rfl)) (pv 1)) (pg_sub (pv 0) pe_int set_list))
      (pss_one (ps_ret (pv 3))))) pss_nil)
      (pss_cons (ps_asg (pe_op op_add (pe_ix (ix_listK K rfl) (pv 0) pe_int (fun _ _ => rfl)) pe_int) (pg_sub (pv 0) pe_int set_list))
      (pss_cons (ps_asg (pe_op op_mod (pe_op op_add (pe_op op_add (pe_op op_mul (pe_ix (ix_listK K rfl) (pv 0) pe_int (fun _ _ => rfl)) pe_int) pe_int) (pe_ix (ix_listK K rfl) (pv 0) pe_int (fun _ _ => rfl))) pe_int) (pg_sub (pv 0) pe_int set_list))
      (pss_one (ps_ret (pe_op op_mod (pe_op op_fdiv (pe_op op_mod (pe_op op_mul (pe_op op_add (pe_op op_mod (pe_ix (ix_listK K rfl) (pv 0) pe_int (fun _ _ => rfl)) pe_int) pe_int) (pe_op op_add (pe_op op_fdiv (pe_ix (ix_listK K rfl) (pv 0) pe_int (fun _ _ => rfl)) pe_int) pe_int)) pe_int) pe_int) (pv 1))))))) R1 ?tail1)), ?_⟩
  case tail1 =>
    rintro D' σ' H1 ⟨eD, x2, rfl, ⟨i, p, z, r, hf, hc, hi, hp, hz, hz2⟩, bt⟩
    refine ⟨_, rfl, f, _, _, _, rfl, rfl, SqL.of hf, atI_nat (j := 2) rfl, _, _, rfl, rfl, _, rfl, if_bl (fun c1 => ?_) (fun c1 => ?_)⟩
    · refine ⟨_, rfl, f, _, _, _, rfl, rfl, SqL.of hf, atI_nat (j := 2) rfl, _, rfl, _, _, rfl, rfl, m0, ?_⟩
      refine ⟨_, rfl, f, _, _, _, rfl, rfl, SqL.of hf, atI_nat (j := 2) rfl, _, rfl, _, _, rfl, rfl, ⟨m0, m9⟩, _, rfl, f, _, _, 2, rfl, rfl, hf, rfl, ?_⟩
      refine ⟨_, rfl, ?_⟩
      rw [eD]
      exact q _ _ (Int.emod_nonneg _ (by omega)) (Int.emod_lt_of_pos _ m0) ⟨ns, i, p / m, z, r, upd_same, (by rw [upd_ne ncf]; exact hc), hi, Int.ediv_nonneg hp (by omega), hz, hz2⟩ bt.upd
    · refine ⟨_, rfl, f, _, _, _, rfl, rfl, SqL.of hf, atI_nat (j := 4) rfl, _, _, rfl, rfl, _, rfl, f, _, _, 4, rfl, rfl, hf, rfl, ?_⟩
      have hf2 : upd H1 f (.lst ([V.ref c, V.int i, V.int p, V.int z, V.int r].set 4 (V.int (r + 1)))) f = some (.lst [.ref c, .int i, .int p, .int z, .int (r + 1)]) := upd_same
      refine ⟨_, rfl, f, _, _, _, rfl, rfl, SqL.of hf2, atI_nat (j := 3) rfl, _, _, rfl, rfl, .inl ⟨by omega, by omega⟩, _, _, rfl, rfl, _, rfl, f, _, _, _, rfl, rfl, SqL.of hf2, atI_nat (j := 4) rfl, _, _, rfl, rfl, _, _, rfl, rfl, (by show (0 : Int) < 2147483647; decide), _, rfl, f, _, _, 3, rfl, rfl, hf2, rfl, ?_⟩
      have z0 : 0 ≤ (z * 48271 + 12820163 + (r + 1)) % 2147483647 := Int.emod_nonneg _ (by decide)
      have z1 : (z * 48271 + 12820163 + (r + 1)) % 2147483647 < 2147483647 := Int.emod_lt_of_pos _ (by decide)
      have hf3 : upd (upd H1 f (.lst ([V.ref c, V.int i, V.int p, V.int z, V.int r].set 4 (V.int (r + 1))))) f (.lst ([V.ref c, V.int i, V.int p, V.int z, V.int (r + 1)].set 3 (V.int ((z * 48271 + 12820163 + (r + 1)) % 2147483647)))) f =
        some (.lst [.ref c, .int i, .int p, .int ((z * 48271 + 12820163 + (r + 1)) % 2147483647), .int (r + 1)]) := upd_same
      have hc3 : upd (upd H1 f (.lst ([V.ref c, V.int i, V.int p, V.int z, V.int r].set 4 (V.int (r + 1))))) f (.lst ([V.ref c, V.int i, V.int p, V.int z, V.int (r + 1)].set 3 (V.int ((z * 48271 + 12820163 + (r + 1)) % 2147483647)))) c = some (.lst (ns.map V.int)) := by
        rw [upd_ne ncf, upd_ne ncf]
        exact hc
      refine ⟨_, rfl, f, _, _, _, rfl, rfl, SqL.of hf3, atI_nat (j := 3) rfl, _, _, rfl, rfl, (by show (0 : Int) < 65521; decide), _, _, rfl, rfl, _, rfl, f, _, _, _, rfl, rfl, SqL.of hf3, atI_nat (j := 3) rfl, _, _, rfl, rfl, ⟨by decide, by decide⟩, _, _, rfl, rfl, _, _, rfl, rfl, .inl ⟨?_, ?_⟩, _, _, rfl, rfl, (by show (0 : Int) < 1000003; decide), _, _, rfl, rfl, ⟨by decide, by decide⟩, _, rfl, _, _, rfl, rfl, m0, ?_⟩
      · omega
      · omega
      · rw [eD]
        exact q _ _ (Int.emod_nonneg _ (by omega)) (Int.emod_lt_of_pos _ m0) ⟨ns, i, p, _, r + 1, hf3, hc3, hi, hp, z0, z1⟩ bt.upd.upd
  refine ⟨_, rfl, f, _, _, _, rfl, rfl, SqL.of hf, atI_nat (j := 2) rfl, rfl, _, rfl, if_bl (fun c1 => ?_) (fun c1 => ?_)⟩
  · refine ⟨_, rfl, f, _, _, _, rfl, rfl, SqL.of hf, atI_nat (j := 1) rfl, _, rfl, f, _, _, _, rfl, rfl, SqL.of hf, atI_nat (j := 0) rfl, c, _, rfl, .inl (SqL.of hc), _, _, rfl, rfl, _, rfl, if_bl (fun c2 => ?_) (fun c2 => ?_)⟩
    · have c3 : i < ((ns.map V.int).length : Int) := of_decide_eq_true c2
      rw [List.length_map] at c3
      obtain ⟨v, hv⟩ := at_ints hi c3
      refine ⟨_, rfl, f, _, _, _, rfl, rfl, SqL.of hf, atI_nat (j := 0) rfl, _, rfl, f, _, _, _, rfl, rfl, SqL.of hf, atI_nat (j := 1) rfl, c, _, i, _, rfl, rfl, SqL.of hc, hv, ?_⟩
      refine ⟨_, rfl, f, _, _, _, rfl, rfl, SqL.of hf, atI_nat (j := 1) rfl, _, _, rfl, rfl, _, rfl, f, _, _, 1, rfl, rfl, hf, rfl, ?_⟩
      have hf2 : upd H f (.lst ([V.ref c, V.int i, V.int p, V.int z, V.int r].set 1 (V.int (i + 1)))) f = some (.lst [.ref c, .int (i + 1), .int p, .int z, .int r]) := upd_same
      refine ⟨_, rfl, _, _, rfl, rfl, ⟨by decide, by decide, by decide⟩, _, _, rfl, rfl, _, rfl, if_bl (fun c4 => ?_) (fun c4 => ?_)⟩
      · have c5 : (10 : Int) ^ (18 : Int).toNat ≤ v := of_decide_eq_true c4
        have c6 : (0 : Int) ≤ (10 : Int) ^ (18 : Int).toNat := by decide
        refine ⟨_, rfl, _, rfl, f, _, _, 2, rfl, rfl, hf2, rfl, rfl, _, rfl, ⟨i + 1, v, z, r, upd_same, ?_, by omega, by omega, hz, hz2⟩, But.refl.upd.upd⟩
        rw [upd_ne ncf, upd_ne ncf]
        exact hc
      · refine ⟨_, rfl, f, _, _, _, rfl, rfl, SqL.of hf2, atI_nat (j := 3) rfl, _, _, rfl, rfl, .inl ⟨by omega, by omega⟩, _, rfl, _, _, rfl, rfl, (by show (0 : Int) < 1000003; decide), _, _, rfl, rfl, _, _, rfl, rfl, _, _, rfl, rfl, (by show (0 : Int) < 2147483647; decide), _, rfl, f, _, _, 3, rfl, rfl, hf2, rfl, rfl, _, rfl, ⟨i + 1, p, _, r, upd_same, ?_, by omega, hp, Int.emod_nonneg _ (by decide), Int.emod_lt_of_pos _ (by decide)⟩, But.refl.upd.upd⟩
        rw [upd_ne ncf, upd_ne ncf]
        exact hc
    · exact ⟨rfl, _, rfl, ⟨i, p, z, r, hf, hc, hi, hp, hz, hz2⟩, But.refl⟩
  · exact ⟨rfl, _, rfl, ⟨i, p, z, r, hf, hc, hi, hp, hz, hz2⟩, But.refl⟩
end
/-! ### rooms: what they are -/
/-- a hand: its rule's word, its number if it has one, its moments -/
structure HR where
  wd : Str
  no : Option Int
  mom : Int
/-- a belt -/
structure BR where
  one : Nat
  to : Nat
  th : List Int
abbrev ruleL (h : HR) : List V := .str h.wd :: (match h.no with | none => [] | some n => [.int n])
def HandAt (H : Hp) (v : V) (h : HR) : Prop := ∃ t r : Addr, v = .ref t ∧ H t = some (.tup [.ref r, .int h.mom]) ∧ H r = some (.tup (ruleL h))
def BeltAt (H : Hp) (v : V) (b : BR) : Prop := ∃ t g : Addr, v = .ref t ∧ H t = some (.tup [.int (b.one : Nat), .int (b.to : Nat), .ref g]) ∧ H g = some (.tup (b.th.map V.int))
theorem HandAt.keep {H H' : Hp} {v : V} {h : HR} (a : HandAt H v h) (k : TK H H') : HandAt H' v h := by
  obtain ⟨t, r, e, e1, e2⟩ := a
  exact ⟨t, r, e, k _ _ e1, k _ _ e2⟩
theorem BeltAt.keep {H H' : Hp} {v : V} {b : BR} (a : BeltAt H v b) (k : TK H H') : BeltAt H' v b := by
  obtain ⟨t, r, e, e1, e2⟩ := a
  exact ⟨t, r, e, k _ _ e1, k _ _ e2⟩
def nine : List Str := ["always", "same", "times", "sum", "gap", "below", "most", "least", "pick"]
def needs (wd : Str) : Int := if wd ∈ (["in", "always"] : List Str) then 0 else if wd ∈ (["out", "same", "times"] : List Str) then 1 else 2 + (if wd = "pick" then 1 else 0)
/-- a rule of one of the nine words -/
structure GoodRule (h : HR) : Prop where
  wd : h.wd ∈ nine
  no : h.no.isSome = true ↔ h.wd = "times" ∨ h.wd = "always"
  big : ∀ n, h.no = some n → -1000000 ≤ n ∧ n ≤ 1000000
def GoodHand (h : HR) : Prop := (GoodRule h ∨ ((h.wd = "in" ∨ h.wd = "out") ∧ h.no = none)) ∧ 0 ≤ h.mom ∧ h.mom ≤ 30
def Small (v : Int) : Prop := -1000000 ≤ v ∧ v ≤ 1000000
section
variable {P : Program} {w : World} {K : PySem.W.Frag} {mg : Str → Option Value} {base : Heap}
def sp_law_thing (K : PySem.W.Frag) : Sp := fun vs H Q _ => ∃ f c : Addr, vs = [.ref f] ∧ Flow H f c ∧ ∀ (v : Int) (H' : Hp), Small v → Flow H' f c → But f H H' → Q (.int v) H'
theorem ok_law_thing {f : Addr} {fd : FuncData} (F : Fun K "_law_thing" "_law_thing" s_law_thing f fd) {C : Addr} (T : Top K mg C) : FnOk P w K mg base CX0 2 f fd ["_law_flow_here"] (sp_law_thing K) := by
  obtain ⟨f_law_pick, fd_law_pick, F_law_pick, b_law_pick, m_law_pick⟩ := T.d_law_pick
  have G_law_pick := ok_law_pick (P := P) (w := w) (base := base) F_law_pick T
  refine F.ok sc_law_thing (fun vs H Q E h => ?_) (fun cdv A outer s H vs Q E hr h => ?_)
  · obtain ⟨f, c, rfl, _⟩ := h
    rfl
  obtain ⟨f, c, rfl, hF, q⟩ := h
  refine ⟨_, (pss_cons (ps_if (pt_cmpR op_gt (pe_call G_law_pick (hr.mono (by decide)) (by rfl) m_law_pick F_law_pick.kp b_law_pick .nil pass0 (pa_cons (pv 0) (pa_cons pe_int pa_nil))) pe_int (nomark _)) (pss_one (ps_ret (pe_op op_sub (pe_call G_law_pick (hr.mono (by decide)) (by rfl) m_law_pick F_law_pick.kp b_law_pick .nil pass0 (pa_cons (pv 0) (pa_cons pe_int pa_nil))) pe_int))) pss_nil)
      (pss_one (ps_ret (pe_op op_sub (pe_call G_law_pick (hr.mono (by decide)) (by rfl) m_law_pick F_law_pick.kp b_law_pick .nil pass0 (pa_cons (pv 0) (pa_cons pe_int pa_nil))) pe_int)))), ?_⟩
  refine ⟨_, rfl, f, c, 3, rfl, by decide, by decide +kernel, hF, fun v1 H1 a1 b1 F1 B1 => ⟨_, _, rfl, rfl, _, rfl, if_bl (fun _ => ?_) (fun _ => ?_)⟩⟩
  · exact ⟨_, rfl, f, c, 7, rfl, by decide, by decide +kernel, F1, fun v2 H2 a2 b2 F2 B2 => ⟨_, _, rfl, rfl, q _ _ ⟨by omega, by omega⟩ F2 (B1.trans B2)⟩⟩
  · exact ⟨_, rfl, f, c, 2000001, rfl, by decide, by decide +kernel, F1, fun v2 H2 a2 b2 F2 B2 => ⟨_, _, rfl, rfl, q _ _ ⟨by omega, by omega⟩ F2 (B1.trans B2)⟩⟩
def sp_law_needs (K : PySem.W.Frag) : Sp := fun vs H Q _ => ∃ (r : Addr) (wd : Str) (l : List V), vs = [.ref r] ∧ SqT K H r (.str wd :: l) ∧ ∀ H', Same H H' → Q (.int (needs wd)) H'
theorem ok_law_needs {f : Addr} {fd : FuncData} (F : Fun K "_law_needs" "_law_needs" s_law_needs f fd) {C : Addr} (T : Top K mg C) : FnOk P w K mg base CX0 1 f fd ["_law_rule_here"] (sp_law_needs K) := by
  refine F.ok sc_law_needs (fun vs H Q E h => ?_) (fun cdv A outer s H vs Q E hr h => ?_)
  · obtain ⟨r, wd, l, rfl, _⟩ := h
    rfl
  obtain ⟨r, wd, l, rfl, hR, q⟩ := h
  unfold needs at q
  refine ⟨_, (pss_cons (ps_if (pt_cmpR (op_in_seqK K rfl) (pe_ix (ix_tupK K rfl) (pv 0) pe_int (fun _ _ => rfl)) (pe_tup (pa_cons pe_str (pa_cons pe_str pa_nil))) (by with_unfolding_all rfl)) (pss_one (ps_ret pe_int)) pss_nil)
      (pss_cons (ps_if (pt_cmpR (op_in_seqK K rfl) (pe_ix (ix_tupK K rfl) (pv 0) pe_int (fun _ _ => rfl)) (pe_tup (pa_cons pe_str (pa_cons pe_str (pa_cons pe_str pa_nil)))) (by with_unfolding_all rfl)) (pss_one (ps_ret pe_int)) pss_nil)
      (pss_one (ps_ret (pe_op op_add pe_int (pe_callTy call_int1 (by rfl) T.m_int (by decide +kernel) (pa_cons (pe_cmpR op_eq (pe_ix (ix_tupK K rfl) (pv 0) pe_int (fun _ _ => rfl)) pe_str (nomark _)) pa_nil))))))), ?_⟩
  refine ⟨_, rfl, r, _, _, _, rfl, rfl, hR, atI_nat (j := 0) rfl, (by show 2 ≤ sizeLine; decide), fun p np => ⟨p, _, rfl, .inr (SqT.of upd_same), rfl, rfl, _, rfl, if_in (zs := ["in", "always"]) (fun e => ?_) (fun e => ?_)⟩⟩
  · have q := q _ (same_new (o := .tup [V.str "in", V.str "always"]) np)
    rw [if_pos e] at q
    exact q
  have s1 := same_new (o := .tup [V.str "in", V.str "always"]) np
  refine ⟨_, rfl, r, _, _, _, rfl, rfl, same_seqT s1 hR, atI_nat (j := 0) rfl, (by show 3 ≤ sizeLine; decide), fun p2 np2 => ⟨p2, _, rfl, .inr (SqT.of upd_same), rfl, rfl, _, rfl, if_in (zs := ["out", "same", "times"]) (fun e2 => ?_) (fun e2 => ?_)⟩⟩
  · have q := q _ (s1.trans (same_new (o := .tup [V.str "out", V.str "same", V.str "times"]) np2))
    rw [if_neg e, if_pos e2] at q
    exact q
  have s2 := s1.trans (same_new (o := .tup [V.str "out", V.str "same", V.str "times"]) np2)
  have q := q _ s2
  rw [if_neg e, if_neg e2] at q
  refine ⟨_, rfl, r, _, _, _, rfl, rfl, same_seqT s2 hR, atI_nat (j := 0) rfl, rfl, .inr ⟨_, rfl, _, _, rfl, rfl, ?_⟩⟩
  by_cases k : wd = "pick"
  · rw [if_pos k] at q
    rw [decide_eq_true (show V.str wd = V.str "pick" by rw [k])]
    exact q
  · rw [if_neg k] at q
    rw [decide_eq_false (show ¬ V.str wd = V.str "pick" from fun z => k (V.str.inj z))]
    exact q
theorem nine_at {m : Int} (h0 : 0 ≤ m) (h9 : m < 9) : ∃ wd : Str, wd ∈ nine ∧ atI (nine.map V.str) m = some (.str wd) ∧ (m < 1 → needs wd ≤ 0) ∧ (m < 3 → needs wd ≤ 1) ∧ (m < 8 → needs wd ≤ 2) ∧ needs wd ≤ 3 ∧ 0 ≤ needs wd := by
  have : m = 0 ∨ m = 1 ∨ m = 2 ∨ m = 3 ∨ m = 4 ∨ m = 5 ∨ m = 6 ∨ m = 7 ∨ m = 8 := by omega
  rcases this with rfl | rfl | rfl | rfl | rfl | rfl | rfl | rfl | rfl
  · exact ⟨"always", by decide +kernel, rfl, by decide +kernel, by decide +kernel, by decide +kernel, by decide +kernel, by decide +kernel⟩
  · exact ⟨"same", by decide +kernel, rfl, by decide +kernel, by decide +kernel, by decide +kernel, by decide +kernel, by decide +kernel⟩
  · exact ⟨"times", by decide +kernel, rfl, by decide +kernel, by decide +kernel, by decide +kernel, by decide +kernel, by decide +kernel⟩
  · exact ⟨"sum", by decide +kernel, rfl, by decide +kernel, by decide +kernel, by decide +kernel, by decide +kernel, by decide +kernel⟩
  · exact ⟨"gap", by decide +kernel, rfl, by decide +kernel, by decide +kernel, by decide +kernel, by decide +kernel, by decide +kernel⟩
  · exact ⟨"below", by decide +kernel, rfl, by decide +kernel, by decide +kernel, by decide +kernel, by decide +kernel, by decide +kernel⟩
  · exact ⟨"most", by decide +kernel, rfl, by decide +kernel, by decide +kernel, by decide +kernel, by decide +kernel, by decide +kernel⟩
  · exact ⟨"least", by decide +kernel, rfl, by decide +kernel, by decide +kernel, by decide +kernel, by decide +kernel, by decide +kernel⟩
  · exact ⟨"pick", by decide +kernel, rfl, by decide +kernel, by decide +kernel, by decide +kernel, by decide +kernel, by decide +kernel⟩
def sp_law_rule (K : PySem.W.Frag) : Sp := fun vs H Q _ => ∃ (f c : Addr) (m : Int), vs = [.ref f, .int m] ∧ 0 ≤ m ∧ Flow H f c ∧
  ∀ (r : Addr) (h : HR) (H' : Hp), H' r = some (.tup (ruleL h)) → GoodRule h → needs h.wd ≤ m → 0 ≤ needs h.wd → h.mom = 0 → Flow H' f c → But f H H' → Q (.ref r) H'
theorem ok_law_rule {f : Addr} {fd : FuncData} (F : Fun K "_law_rule" "_law_rule" s_law_rule f fd) {C : Addr} (T : Top K mg C) : FnOk P w K mg base CX0 3 f fd ["_law_flow_here", "_law_most"] (sp_law_rule K) := by
  obtain ⟨f_law_pick, fd_law_pick, F_law_pick, b_law_pick, m_law_pick⟩ := T.d_law_pick
  have G_law_pick := ok_law_pick (P := P) (w := w) (base := base) F_law_pick T
  obtain ⟨f_law_thing, fd_law_thing, F_law_thing, b_law_thing, m_law_thing⟩ := T.d_law_thing
  have G_law_thing := ok_law_thing (P := P) (w := w) (base := base) F_law_thing T
  refine F.ok sc_law_rule (fun vs H Q E h => ?_) (fun cdv A outer s H vs Q E hr h => ?_)
  · obtain ⟨f, c, m, rfl, _⟩ := h
    rfl
  obtain ⟨f, c, m, rfl, m0, hF, q⟩ := h
  refine ⟨_, (pss_cons (ps_set (i := 2) sc_law_rule.nd rfl (Or.inl rfl) (pe_lst (pa_cons pe_str (pa_cons pe_str (pa_cons pe_str (pa_cons pe_str (pa_cons pe_str (pa_cons pe_str (pa_cons pe_str (pa_cons pe_str (pa_cons pe_str pa_nil)))))))))))
      (pss_cons (ps_set (i := 3) sc_law_rule.nd rfl (Or.inl rfl) (pe_ix (ix_listK K rfl) (pv 2) (pe_call G_law_pick (hr.mono (by decide)) (by rfl) m_law_pick F_law_pick.kp b_law_pick .nil pass0 (pa_cons (pv 0) (pa_cons (pe_ix (ix_listK K rfl) (pe_lst (pa_cons pe_int (pa_cons pe_int (pa_cons pe_int (pa_cons pe_int pa_nil))))) (pe_callB (call_min2 rfl) (by rfl) T.m_min (by decide +kernel) (pa_cons pe_int (pa_cons (pv 1) pa_nil))) (fun _ _ => rfl)) pa_nil))) (fun _ _ => rfl)))
      (pss_cons (ps_if (pt_cmpR op_eq (pv 3) pe_str (nomark _)) (pss_one (ps_ret (pe_tup (pa_cons (pv 3) (pa_cons (pe_op op_sub (pe_call G_law_pick (hr.mono (by decide)) (by rfl) m_law_pick F_law_pick.kp b_law_pick .nil pass0 (pa_cons (pv 0) (pa_cons pe_int pa_nil))) pe_int) pa_nil))))) pss_nil)
      (pss_cons (ps_if (pt_cmpR op_eq (pv 3) pe_str (nomark _)) (pss_one (ps_ret (pe_tup (pa_cons (pv 3) (pa_cons (pe_call G_law_thing (hr.mono (by decide)) (by rfl) m_law_thing F_law_thing.kp b_law_thing .nil pass0 (pa_cons (pv 0) pa_nil)) pa_nil))))) pss_nil)
      (pss_one (ps_ret (pe_tup (pa_cons (pv 3) pa_nil)))))))), ?_⟩
  refine ⟨(by show 9 ≤ sizeLine; decide), fun wl nwl => ?_⟩
  have F1 : Flow (upd H wl (.lst (nine.map V.str))) f c := hF.new nwl
  refine ⟨_, rfl, _, rfl, (by show 4 ≤ sizeLine; decide), fun cl ncl => ?_⟩
  have F2 : Flow (upd (upd H wl (.lst (nine.map V.str))) cl (.lst [V.int 1, V.int 3, V.int 8, V.int 9])) f c := F1.new ncl
  have B2 : But f H (upd (upd H wl (.lst (nine.map V.str))) cl (.lst [V.int 1, V.int 3, V.int 8, V.int 9])) := (But.refl.new nwl).new ncl
  obtain ⟨j, hj, j1, j9, jn⟩ : ∃ j : Int, atI [V.int 1, V.int 3, V.int 8, V.int 9] (if m < 3 then m else 3) = some (.int j) ∧ 1 ≤ j ∧ j ≤ 9 ∧ ((j = 1 ∧ m = 0) ∨ (j = 3 ∧ m = 1) ∨ (j = 8 ∧ m = 2) ∨ (j = 9 ∧ 3 ≤ m)) := by
    by_cases k : m < 3
    · rw [if_pos k]
      have : m = 0 ∨ m = 1 ∨ m = 2 := by omega
      rcases this with rfl | rfl | rfl
      · exact ⟨1, rfl, by decide, by decide, by decide⟩
      · exact ⟨3, rfl, by decide, by decide, by decide⟩
      · exact ⟨8, rfl, by decide, by decide, by decide⟩
    · rw [if_neg k]
      exact ⟨9, rfl, by decide, by decide, by omega⟩
  refine ⟨_, rfl, _, _, rfl, cl, _, _, _, rfl, rfl, SqL.of upd_same, hj, f, c, j, rfl, by omega, ?_, F2, fun v H1 v0 v1 F3 B3 => ?_⟩
  · have : j = 1 ∨ j = 3 ∨ j = 8 ∨ j = 9 := by omega
    rcases this with rfl | rfl | rfl | rfl <;> decide +kernel
  obtain ⟨wd, hw, hat, n1, n3, n8, n9, n0⟩ := nine_at v0 (by omega)
  have hn : needs wd ≤ m := by
    rcases jn with ⟨rfl, rfl⟩ | ⟨rfl, rfl⟩ | ⟨rfl, rfl⟩ | ⟨rfl, k⟩
    · exact n1 v1
    · exact n3 v1
    · exact n8 v1
    · omega
  have hwl : H1 wl = some (.lst (nine.map V.str)) := B3 _ _ (same_new ncl _ _ upd_same) (hF.ne nwl)
  refine ⟨wl, _, _, _, rfl, rfl, SqL.of hwl, hat, ?_⟩
  have BB := B2.trans B3
  refine ⟨_, rfl, rfl, _, rfl, if_str (fun e => ?_) (fun e => ?_)⟩
  · refine ⟨_, rfl, _, rfl, f, c, 19, rfl, by decide, by decide +kernel, F3, fun v2 H2 a2 b2 F4 B4 => ⟨_, _, rfl, rfl, (by show 2 ≤ sizeLine; decide), fun r nr => ?_⟩⟩
    exact q r ⟨wd, some (v2 - 9), 0⟩ _ upd_same ⟨hw, ⟨fun _ => .inl e, fun _ => rfl⟩, fun n en => by cases en; exact ⟨by omega, by omega⟩⟩ hn n0 rfl (F4.new nr) ((BB.trans B4).new nr)
  refine ⟨_, rfl, rfl, _, rfl, if_str (fun e2 => ?_) (fun e2 => ?_)⟩
  · refine ⟨_, rfl, _, rfl, f, c, rfl, F3, fun v2 H2 s2 F4 B4 => ⟨(by show 2 ≤ sizeLine; decide), fun r nr => ?_⟩⟩
    exact q r ⟨wd, some v2, 0⟩ _ upd_same ⟨hw, ⟨fun _ => .inr e2, fun _ => rfl⟩, fun n en => by cases en; exact s2⟩ hn n0 rfl (F4.new nr) ((BB.trans B4).new nr)
  · refine ⟨_, rfl, (by show 1 ≤ sizeLine; decide), fun r nr => ?_⟩
    exact q r ⟨wd, none, 0⟩ _ upd_same ⟨hw, ⟨(fun z => nomatch z), fun z => absurd z (fun z => z.elim e e2)⟩, (fun n en => nomatch en)⟩ hn n0 rfl (F3.new nr) (BB.new nr)
def sp_law_shuffled (K : PySem.W.Frag) : Sp := fun vs H Q _ => ∃ (f c l : Addr) (xs : List V), vs = [.ref f, .ref l] ∧ SqL K H l xs ∧ l ≠ f ∧ xs.length ≤ 500 ∧ Flow H f c ∧
  ∀ (p : Addr) (ys : List V) (H' : Hp), ys.Perm xs → H p = none → H' p = some (.lst ys) → Flow H' f c → But f H H' → Q (.ref p) H'
theorem But.seqL {K : PySem.W.Frag} {f a : Addr} {H H1 : Hp} {xs : List V} (b : But f H H1) (h : SqL K H a xs) (n : a ≠ f) : SqL K H1 a xs := by
  rcases h with h | h
  · left
    rcases h with h | ⟨o, h⟩
    · exact .inl (b _ _ h n)
    · exact .inr ⟨o, b _ _ h n⟩
  · exact .inr h
theorem same_seqL {K : PySem.W.Frag} {a : Addr} {H H1 : Hp} {xs : List V} (b : Same H H1) (h : SqL K H a xs) : SqL K H1 a xs := by
  rcases h with h | h
  · left
    rcases h with h | ⟨o, h⟩
    · exact .inl (b _ _ h)
    · exact .inr ⟨o, b _ _ h⟩
  · exact .inr h
theorem log_small {m : Nat} (h : m ≤ 500) : ((m : Int)).natAbs.log2 < 9000 := by
  rw [Int.natAbs_natCast]
  exact Nat.lt_of_le_of_lt (Nat.log2_le_self m) (by omega)
theorem perm_erase {α : Type} : ∀ {l : List α} {j : Nat} {y : α}, l[j]? = some y → (y :: l.eraseIdx j).Perm l
  | [], _, _, h => nomatch h
  | a :: l, 0, y, h => by
    cases h
    exact List.Perm.refl _
  | a :: l, j + 1, y, h => by
    have ih : (y :: l.eraseIdx j).Perm l := perm_erase h
    exact (List.Perm.swap a y _).trans (ih.cons a)
theorem ok_law_shuffled {f : Addr} {fd : FuncData} (F : Fun K "_law_shuffled" "_law_shuffled" s_law_shuffled f fd) {C : Addr} (T : Top K mg C) : FnOk P w K mg base CX0 2 f fd ["_law_flow_here", "_law_some"] (sp_law_shuffled K) := by
  obtain ⟨f_law_pick, fd_law_pick, F_law_pick, b_law_pick, m_law_pick⟩ := T.d_law_pick
  have G_law_pick := ok_law_pick (P := P) (w := w) (base := base) F_law_pick T
  refine F.ok sc_law_shuffled (fun vs H Q E h => ?_) (fun cdv A outer s H vs Q E hr h => ?_)
  · obtain ⟨f, c, l, xs, rfl, _⟩ := h
    rfl
  obtain ⟨f, c, l, xs, rfl, hL, nl, hlen, hF, q⟩ := h
  refine ⟨_, (pss_cons (ps_set (i := 2) sc_law_shuffled.nd rfl (Or.inr rfl) (pe_callTy (call_list_ofK K rfl) (by rfl) T.m_list (by decide +kernel) (pa_cons (pv 1) pa_nil)))
      (pss_one (ps_ret (pe_lc (own := [("_law_k", 3)]) (g := gName 3) (tt := tYes) (by rfl) sc_law_shuffled.nd (pi_range1 (by rfl) T.m_range (pa_cons (pe_callB (call_len_seqK K rfl) (by rfl) T.m_len (by decide +kernel) (pa_cons (pv 1) pa_nil)) pa_nil)) (blkOk_by (own := [("_law_k", 3)]) (N := N_law_shuffled) (sc := defScope s_law_shuffled) (by decide +kernel)) (fun _ _ _ _ _ => (pg_name (i := 3) sc_law_shuffled.nd rfl (Or.inl rfl))) (fun _ _ _ _ _ => pts_nil) (fun _ _ _ _ _ => (pe_bmK K rfl PySem.F.plainAttrs_list PySem.F.slot_list_pop PySem.F.type_list_pop mt_popAt (pv 2) (pa_cons (pe_call G_law_pick (hr.mono (by decide)) (by rfl) m_law_pick F_law_pick.kp b_law_pick .nil pass0 (pa_cons (pv 0) (pa_cons (pe_callB (call_len_seqK K rfl) (by rfl) T.m_len (by decide +kernel) (pa_cons (pv 2) pa_nil)) pa_nil))) pa_nil))))))), ?_⟩
  refine ⟨_, rfl, l, _, rfl, .inl hL, fun lf nlf => ?_⟩
  refine ⟨_, rfl, l, _, rfl, .inl (same_seqL (same_new nlf) hL), _, rfl, by omega, (by omega), fun D nD => ?_⟩
  have F1 : Flow (upd H lf (.lst xs)) f c := hF.new nlf
  have dl : D ≠ lf := (ne_of_none upd_same nD).symm
  refine lc_range (lo := 0) (n := xs.length) (fun i H5 => ∃ acc rest : List V, H5 D = some (.lst acc) ∧ H5 lf = some (.lst rest) ∧ acc.length = i ∧ rest.length + i = xs.length ∧ (acc ++ rest).Perm xs ∧ Flow H5 f c ∧ But f H H5)
    ⟨[], xs, upd_same, by rw [upd_ne dl.symm]; exact upd_same, rfl, by omega, List.Perm.refl _, F1.new nD, (But.refl.new nlf).new nD⟩ ?_ ?_
  · rintro i H5 hi ⟨acc, rest, hD, hl, ha, hr2, hp, F5, B5⟩
    refine ⟨rfl, yes_in ?_⟩
    refine ⟨_, rfl, .inl ⟨rfl, _, SqL.of hl⟩, _, rfl, _, rfl, lf, _, rfl, .inl (SqL.of hl), f, c, ((rest.length : Nat) : Int), rfl, by omega, log_small (by omega), F5, fun v H6 v0 v1 F6 B6 => ?_⟩
    have hl6 := B6 _ _ hl (hF.ne nlf)
    have hv : v.toNat < rest.length := by omega
    have e1 : seqIndex? v rest.length = some v.toNat := by
      rw [seqIndex_of v0 (by omega)]
    refine ⟨lf, rest, v, v.toNat, rest[v.toNat], rfl, rfl, hl6, by omega, by omega, e1, List.getElem?_eq_getElem hv, ?_⟩
    have hD6 := B6 _ _ hD (fun e => by rw [e] at nD; rw [show upd H lf (.lst xs) f = H f from upd_ne (hF.ne nlf).symm] at nD; obtain ⟨_, _, _, _, _, e1, _⟩ := hF; rw [e1] at nD; cases nD)
    refine ⟨acc, by rw [upd_ne dl]; exact hD6, small1000 (by omega), acc ++ [rest[v.toNat]], rest.eraseIdx v.toNat, upd_same, by rw [upd_ne dl.symm]; exact upd_same, by rw [List.length_append, ha]; rfl, ?_, ?_, ?_, ?_⟩
    · rw [List.length_eraseIdx, if_pos hv]
      omega
    · refine List.Perm.trans ?_ hp
      rw [List.append_assoc]
      exact List.Perm.append_left acc (perm_erase (List.getElem?_eq_getElem hv))
    · have dc : D ≠ c := fun e => by
        rw [e] at nD
        obtain ⟨_, _, _, _, _, _, e1, _⟩ := F1
        rw [e1] at nD
        cases nD
      exact (F6.lst (hF.ne nlf) (hF.nec nlf)).lst (F1.ne nD) dc
    · exact ((B5.trans B6).own nlf).own (same_none (same_new nlf) nD)
  · rintro H5 ⟨acc, rest, hD, hl, ha, hr2, hp, F5, B5⟩
    have er : rest = [] := by
      cases rest with
      | nil => rfl
      | cons a l => simp at hr2
    subst er
    rw [List.append_nil] at hp
    exact q D acc H5 hp (same_none (same_new nlf) nD) hD F5 B5
end
/-! ### the hands of a drawn room -/
def unS : V → Str
  | .str s => s
  | _ => ""
theorem perm_strs {ys : List V} {zs : List Str} (h : ys.Perm (zs.map V.str)) : ∃ ss : List Str, ys = ss.map V.str ∧ ss.Perm zs := by
  refine ⟨ys.map unS, ?_, ?_⟩
  · rw [List.map_map]
    symm
    refine (List.map_congr_left (g := id) fun y hy => ?_).trans (List.map_id _)
    obtain ⟨z, _, e⟩ := List.mem_map.mp (h.mem_iff.mp hy)
    subst e
    rfl
  · have q := h.map unS
    rw [List.map_map] at q
    have e : zs.map (unS ∘ V.str) = zs := (List.map_congr_left (g := id) fun z _ => rfl).trans (List.map_id _)
    rw [e] at q
    exact q
theorem flat_rep {α : Type} (x : α) : ∀ n : Nat, (List.replicate n [x]).flatten = List.replicate n x
  | 0 => rfl
  | n + 1 => by
    rw [List.replicate_succ, List.flatten_cons, flat_rep x n]
    rfl
def cnt (ss : List Str) : Nat := (ss.filter fun s => !decide (s = ("in" : Str))).length
theorem cnt_le (ss : List Str) : cnt ss ≤ ss.length := List.length_filter_le ..
theorem cut_drop (xs : List V) (k : Nat) : cutV xs (some ((k : Nat) : Int)) none = xs.drop k := by
  unfold cutV
  rw [HT.sIx_nat, HT.sIx_none]
  by_cases h : k ≤ xs.length
  · rw [Nat.min_eq_left h]
    exact List.take_of_length_le (by rw [List.length_drop]; exact Nat.le_refl _)
  · rw [Nat.min_eq_right (by omega), Nat.sub_self, List.take_zero, List.drop_eq_nil_of_le (by omega)]
structure HInv (f c sl hh : Addr) (ss : List Str) (H0 H : Hp) (i : Nat) (vs : List V) (hs : List HR) (left : Int) : Prop where
  fl : Flow H f c
  bt : But f H0 H
  hsl : H sl = some (.lst (ss.map V.str))
  hhh : H hh = some (.lst vs)
  al : All2 (HandAt H) vs hs
  len : hs.length = i
  good : ∀ h ∈ hs, GoodHand h
  lf : (cnt (ss.drop i) : Int) ≤ left
  sum : (hs.map fun h => needs h.wd).sum + left = 20
  nz : ∀ h ∈ hs, 0 ≤ needs h.wd
  one : ("hand" : Str) ∈ ss.take i → ∃ h ∈ hs, h.wd ≠ "out"
  n1 : sl ≠ f
  n2 : sl ≠ hh
  n3 : hh ≠ f
  n4 : hh ≠ c
  n5 : H0 hh = none
section
variable {f c sl hh : Addr} {ss : List Str} {H0 H H' : Hp} {i : Nat} {vs : List V} {hs : List HR} {left : Int}
theorem HInv.but (s : HInv f c sl hh ss H0 H i vs hs left) (F : Flow H' f c) (b : But f H H') : HInv f c sl hh ss H0 H' i vs hs left :=
  { s with fl := F, bt := s.bt.trans b, hsl := b _ _ s.hsl s.n1, hhh := b _ _ s.hhh s.n3, al := s.al.imp fun _ _ k => k.keep (TK.but s.fl b) }
theorem HInv.new {p : Addr} {o : HO} (s : HInv f c sl hh ss H0 H i vs hs left) (n : H p = none) : HInv f c sl hh ss H0 (upd H p o) i vs hs left :=
  { s with fl := s.fl.new n, bt := s.bt.new n, hsl := same_new n _ _ s.hsl, hhh := same_new n _ _ s.hhh, al := s.al.imp fun _ _ k => k.keep (TK.new n) }
theorem HInv.same (s : HInv f c sl hh ss H0 H i vs hs left) (k : Same H H') : HInv f c sl hh ss H0 H' i vs hs left :=
  { s with fl := s.fl.same k, bt := s.bt.same k, hsl := k _ _ s.hsl, hhh := k _ _ s.hhh, al := s.al.imp fun _ _ z => z.keep (TK.same k) }
theorem HInv.step {x : V} {h : HR} {sd : Str} (s : HInv f c sl hh ss H0 H i vs hs left) (hx : HandAt H x h) (g : GoodHand h) (z : 0 ≤ needs h.wd) (k : needs h.wd + (cnt (ss.drop (i + 1)) : Int) ≤ left) (e : ss[i]? = some sd) (o : sd = "hand" → h.wd ≠ "out") :
    HInv f c sl hh ss H0 (upd H hh (.lst (vs ++ [x]))) (i + 1) (vs ++ [x]) (hs ++ [h]) (left - needs h.wd) := by
  refine { s with fl := s.fl.lst s.n3 s.n4, bt := s.bt.own s.n5, hsl := by rw [upd_ne s.n2]; exact s.hsl, hhh := upd_same, al := (s.al.snoc hx).imp fun _ _ z => z.keep (TK.lst s.hhh), len := by rw [List.length_append, s.len]; rfl, good := ?_, lf := by omega, sum := ?_, nz := ?_, one := ?_ }
  · intro y hy
    rcases List.mem_append.mp hy with hy | hy
    · exact s.good y hy
    · obtain rfl : y = h := by simpa using hy
      exact g
  · have := s.sum
    rw [List.map_append, List.sum_append]
    simp only [List.map_cons, List.map_nil, List.sum_cons, List.sum_nil]
    omega
  · intro y hy
    rcases List.mem_append.mp hy with hy | hy
    · exact s.nz y hy
    · obtain rfl : y = h := by simpa using hy
      exact z
  · intro hm
    rw [List.take_add_one, e] at hm
    rcases List.mem_append.mp hm with hm | hm
    · obtain ⟨y, h1, h2⟩ := s.one hm
      exact ⟨y, List.mem_append_left _ h1, h2⟩
    · have e2 : ("hand" : Str) = sd := by simpa using hm
      exact ⟨h, List.mem_append_right _ (by simp), o e2.symm⟩
end
theorem cnt_cons {ss : List Str} {i : Nat} {sd : Str} (e : ss[i]? = some sd) : cnt (ss.drop i) = (if sd = "in" then 0 else 1) + cnt (ss.drop (i + 1)) := by
  have hi := (List.getElem?_eq_some_iff.mp e).1
  have e2 : ss.drop i = sd :: ss.drop (i + 1) := by
    rw [List.drop_eq_getElem_cons hi, (List.getElem?_eq_some_iff.mp e).2]
  rw [e2]
  unfold cnt
  rw [List.filter_cons]
  by_cases k : sd = "in"
  · rw [if_pos k, decide_eq_true k]
    simp
  · rw [if_neg k, decide_eq_false k]
    simp only [Bool.not_false, if_true, List.length_cons]
    omega
section
variable {P : Program} {w : World} {K : PySem.W.Frag} {mg : Str → Option Value} {base : Heap}
structure HandsOk (hs : List HR) : Prop where
  len : hs.length ≤ 12
  good : ∀ h ∈ hs, GoodHand h
  sum : (hs.map fun h => needs h.wd).sum ≤ 20
  nz : ∀ h ∈ hs, 0 ≤ needs h.wd
  one : ∃ h ∈ hs, h.wd ≠ "out"
def sp_law_hands (K : PySem.W.Frag) : Sp := fun vs H Q _ => ∃ (f c : Addr) (m : Int), vs = [.ref f, .int m] ∧ 1 ≤ m ∧ m ≤ 8 ∧ Flow H f c ∧
  ∀ (p : Addr) (xs : List V) (hs : List HR) (H' : Hp), H p = none → H' p = some (.lst xs) → All2 (HandAt H') xs hs → HandsOk hs → Flow H' f c → But f H H' → Q (.ref p) H'
theorem ok_law_hands {f : Addr} {fd : FuncData} (F : Fun K "_law_hands" "_law_hands" s_law_hands f fd) {C : Addr} (T : Top K mg C) : FnOk P w K mg base CX0 4 f fd ["_law_flow_here", "_law_many"] (sp_law_hands K) := by
  obtain ⟨f_law_shuffled, fd_law_shuffled, F_law_shuffled, b_law_shuffled, m_law_shuffled⟩ := T.d_law_shuffled
  have G_law_shuffled := ok_law_shuffled (P := P) (w := w) (base := base) F_law_shuffled T
  obtain ⟨f_law_rule, fd_law_rule, F_law_rule, b_law_rule, m_law_rule⟩ := T.d_law_rule
  have G_law_rule := ok_law_rule (P := P) (w := w) (base := base) F_law_rule T
  obtain ⟨f_law_needs, fd_law_needs, F_law_needs, b_law_needs, m_law_needs⟩ := T.d_law_needs
  have G_law_needs := ok_law_needs (P := P) (w := w) (base := base) F_law_needs T
  obtain ⟨f_law_pick, fd_law_pick, F_law_pick, b_law_pick, m_law_pick⟩ := T.d_law_pick
  have G_law_pick := ok_law_pick (P := P) (w := w) (base := base) F_law_pick T
  refine F.ok sc_law_hands (fun vs H Q E h => ?_) (fun cdv A outer s H vs Q E hr h => ?_)
  · obtain ⟨f, c, m, rfl, _⟩ := h
    rfl
  obtain ⟨f, c, m, rfl, m1, m8, hF, q⟩ := h
  let R1 : TS := fun D' σ' H' => D'.rt = Q ∧ ∃ (sl : Addr) (ss : List Str), σ' = [some (.ref f), some (.int m), some (.ref sl), none, none, none, none, none, none, none] ∧ H' sl = some (.lst (ss.map V.str)) ∧ sl ≠ f ∧ ss.length ≤ 12 ∧ ("hand" : Str) ∈ ss ∧ (∀ s ∈ ss, s = "in" ∨ s = "out" ∨ s = "hand") ∧ Flow H' f c ∧ But f H H'
  refine ⟨_, (pss_cons (ps_set (i := 2) sc_law_hands.nd rfl (Or.inl rfl) (pe_op op_cat (pe_op op_cat (pe_op op_rep (pe_lst (pa_cons pe_str pa_nil)) (pe_call G_law_pick (hr.mono (by decide)) (by rfl) m_law_pick F_law_pick.kp b_law_pick .nil pass0 (pa_cons (pv 0) (pa_cons pe_int pa_nil)))) (pe_op op_rep (pe_lst (pa_cons pe_str pa_nil)) (pe_call G_law_pick (hr.mono (by decide)) (by rfl) m_law_pick F_law_pick.kp b_law_pick .nil pass0 (pa_cons (pv 0) (pa_cons pe_int pa_nil))))) (pe_op op_rep (pe_lst (pa_cons pe_str pa_nil)) (pv 1))))
      (pss_cons (ps_set (i := 2) sc_law_hands.nd rfl (Or.inl rfl) (pe_call G_law_shuffled (hr.mono (by decide)) (by rfl) m_law_shuffled F_law_shuffled.kp b_law_shuffled .nil pass0 (pa_cons (pv 0) (pa_cons (pv 2) pa_nil))))
      (PSs.to (pss_cons (ps_set (i := 3) sc_law_hands.nd rfl (Or.inl rfl) pe_int)
      (pss_cons (ps_set (i := 4) sc_law_hands.nd rfl (Or.inl rfl) (pe_lst pa_nil))
      (pss_cons (ps_for PassesOwn.never rfl (pi_enum (by rfl) T.m_enumerate (pa_cons (pv 2) pa_nil)) (pg_tupK K rfl rfl (pgs_cons (pg_name (i := 5) sc_law_hands.nd rfl (Or.inl rfl)) (pgs_cons (pg_name (i := 6) sc_law_hands.nd rfl (Or.inl rfl)) pgs_nil)))
        (pss_cons (ps_if (pt_cmpR op_eq (pv 6) pe_str (nomark _)) (pss_cons (ps_set (i := 7) sc_law_hands.nd rfl (Or.inl rfl) (pe_callB (call_len_seqK K rfl) (by rfl) T.m_len (by decide +kernel) (pa_cons (pe_lc (own := [("_law_other", 8)]) (g := gName 8) (by rfl) sc_law_hands.nd (pi_listK K rfl (pe_slice (sl_listK K rfl) (pv 2) (po_some (pe_op op_add (pv 5) pe_int)) po_none)) (blkOk_by (own := [("_law_other", 8)]) (N := N_law_hands) (sc := defScope s_law_hands) (by decide +kernel)) (fun _ _ _ _ _ => (pg_name (i := 8) sc_law_hands.nd rfl (Or.inl rfl))) (fun _ _ _ _ _ => pts_one (pt_cmpR op_ne (pv 8) pe_str (nomark _))) (fun _ _ _ _ _ => (pv 8))) pa_nil)))
      (pss_cons (ps_set (i := 9) sc_law_hands.nd rfl (Or.inl rfl) (pe_call G_law_rule (hr.mono (by decide)) (by rfl) m_law_rule F_law_rule.kp b_law_rule .nil pass0 (pa_cons (pv 0) (pa_cons (pe_op op_sub (pv 3) (pv 7)) pa_nil))))
      (pss_one (ps_expr (pe_bmK K rfl PySem.F.plainAttrs_list PySem.F.slot_list_append PySem.F.type_list_append mt_append (pv 4) (pa_cons (pe_tup (pa_cons (pv 9) (pa_cons (pe_call G_law_pick (hr.mono (by decide)) (by rfl) m_law_pick F_law_pick.kp b_law_pick .nil pass0 (pa_cons (pv 0) (pa_cons (pe_ix (ix_listK K rfl) (pe_lst (pa_cons pe_int (pa_cons pe_int (pa_cons pe_int pa_nil)))) (pe_call G_law_pick (hr.mono (by decide)) (by rfl) m_law_pick F_law_pick.kp b_law_pick .nil pass0 (pa_cons (pv 0) (pa_cons pe_int pa_nil))) (fun _ _ => rfl)) pa_nil))) pa_nil))) pa_nil)))))) (pss_one (ps_expr (pe_bmK K rfl PySem.F.plainAttrs_list PySem.F.slot_list_append PySem.F.type_list_append mt_append (pv 4) (pa_cons (pe_tup (pa_cons (pe_tup (pa_cons (pv 6) pa_nil)) (pa_cons pe_int pa_nil))) pa_nil)))))
      (pss_one (ps_set (i := 3) sc_law_hands.nd rfl (Or.inl rfl) (pe_op op_sub (pv 3) (pe_call G_law_needs (hr.mono (by decide)) (by rfl) m_law_needs F_law_needs.kp b_law_needs .nil pass0 (pa_cons (pe_ix (ix_tupK K rfl) (pe_ix (ix_listK K rfl) (pv 4) (pe_un un_neg pe_int) (fun _ _ => rfl)) pe_int (fun _ _ => rfl)) pa_nil)))))))
      (pss_one (ps_ret (pv 4)))))) R1 ?tail1))), ?_⟩
  case tail1 =>
    rintro D' σ' H1 ⟨eD, sl, ss, rfl, hsl, nsl, hlen, hhand, hall, F1, B1⟩
    refine ⟨(by show 0 ≤ sizeLine; decide), fun hh nhh => ?_⟩
    have I0 : HInv f c sl hh ss H (upd H1 hh (.lst [])) 0 [] [] 20 :=
      { fl := F1.new nhh, bt := B1.new nhh, hsl := same_new nhh _ _ hsl, hhh := upd_same, al := .nil, len := rfl, good := (fun _ h => nomatch h), lf := by have := cnt_le (ss.drop 0); rw [List.length_drop] at this; omega, sum := rfl, nz := (fun _ h => nomatch h), one := (fun h => nomatch h), n1 := nsl, n2 := ne_of_none hsl nhh, n3 := F1.ne nhh, n4 := F1.nec nhh, n5 := B1.none nhh (F1.ne nhh) }
    refine ⟨_, rfl, sl, _, rfl, SqL.of I0.hsl, for_it (n := ss.length) (fun i σ H2 => ∃ (vs : List V) (hs : List HR) (left : Int) (v5 v6 v7 v8 v9 : Option V), σ = [some (.ref f), some (.int m), some (.ref sl), some (.int left), some (.ref hh), v5, v6, v7, v8, v9] ∧ HInv f c sl hh ss H H2 i vs hs left)
      ⟨[], [], 20, none, none, none, none, none, rfl, I0⟩ ?_ ?_ ?_ ?_⟩
    · rintro i σ H2 hi ⟨vs, hs, left, v5, v6, v7, v8, v9, rfl, I⟩
      exact ⟨_, _, SqL.of I.hsl, by rw [List.getElem?_map, List.getElem?_eq_getElem hi]; rfl⟩
    · rintro σ H2 ⟨vs, hs, left, v5, v6, v7, v8, v9, rfl, I⟩
      exact ⟨_, SqL.of I.hsl, by rw [List.length_map]; exact Nat.le_refl _⟩
    · rintro i x σ H2 H3 hi ⟨vs, hs, left, v5, v6, v7, v8, v9, rfl, I⟩ ⟨t, y, rfl, nt, rfl, fy⟩
      have ei : ss[i]? = some ss[i] := List.getElem?_eq_getElem hi
      obtain ⟨sd, hsd⟩ : ∃ sd, sd = ss[i] := ⟨_, rfl⟩
      rw [← hsd] at ei
      have ey : y = V.str sd := by
        have := fy _ (SqL.of I.hsl)
        rw [List.getElem?_map, ei] at this
        exact (Option.some.inj this).symm
      subst ey
      have I1 := I.new (o := .tup [V.int ((i : Nat) : Int), V.str sd]) nt
      have hc1 := cnt_cons ei
      have hl := I.lf
      have sz : vs.length < sizeLine := small1000 (by rw [I.al.length, I.len]; omega)
      refine ⟨t, _, rfl, SqT.of upd_same, rfl, _, _, rfl, _, _, rfl, rfl, ?_⟩
      refine ⟨_, rfl, rfl, _, rfl, if_str (fun e => ?_) (fun e => ?_)⟩
      · -- a hand
        refine ⟨_, rfl, _, rfl, _, _, rfl, rfl, _, rfl, sl, _, rfl, SqL.of I1.hsl, fun cp ncp => ?_⟩
        have I2 := I1.new (o := .lst (cutV (ss.map V.str) (some (((i : Nat) : Int) + 1)) none)) ncp
        have ecut : cutV (ss.map V.str) (some (((i : Nat) : Int) + 1)) none = (ss.drop (i + 1)).map V.str := by
          rw [show ((i : Nat) : Int) + 1 = ((i + 1 : Nat) : Int) by omega, cut_drop, List.map_drop]
        refine ⟨cp, rfl, ⟨_, SqL.of upd_same⟩, fun D nD => lc_list (K := K) (a := cp) (xs := cutV (ss.map V.str) (some (((i : Nat) : Int) + 1)) none) (fun j H5 => ∃ acc : List V, H5 D = some (.lst acc) ∧ acc.length = cnt ((ss.drop (i + 1)).take j) ∧ H5 cp = some (.lst (cutV (ss.map V.str) (some (((i : Nat) : Int) + 1)) none)) ∧ HInv f c sl hh ss H H5 i vs hs left ∧ D ≠ cp ∧ D ≠ f ∧ D ≠ c ∧ D ≠ sl ∧ D ≠ hh ∧ H D = Option.none)
          ⟨[], upd_same, rfl, same_new nD _ _ upd_same, I2.new nD, (ne_of_none upd_same nD).symm, I2.fl.ne nD, I2.fl.nec nD, (ne_of_none I2.hsl nD).symm, (ne_of_none I2.hhh nD).symm, I2.bt.none nD (I2.fl.ne nD)⟩ (fun j H5 _ ⟨_, _, _, h, _⟩ => SqL.of h) ?_ ?_⟩
        · rintro j z H5 hz ⟨acc, hD, hacc, hcp, I5, d1, d2, d3, d4, d5, d6⟩
          rw [ecut, List.getElem?_map] at hz
          cases ez : (ss.drop (i + 1))[j]? with
          | none => rw [ez] at hz; cases hz
          | some so =>
            rw [ez] at hz
            obtain rfl : V.str so = z := Option.some.inj hz
            refine ⟨rfl, _, rfl, rfl, _, rfl, if_bl (fun k => ?_) (fun k => ?_)⟩
            · have k2 : ¬ so = "in" := fun y => by
                rw [y] at k
                exact absurd k (by decide +kernel)
              refine ⟨_, rfl, acc, hD, ?_, acc ++ [V.str so], upd_same, ?_, by rw [upd_ne d1.symm]; exact hcp, ?_, d1, d2, d3, d4, d5, d6⟩
              · rw [hacc]
                have := cnt_le ((ss.drop (i + 1)).take j)
                rw [List.length_take, List.length_drop] at this
                exact small1000 (by omega)
              · rw [List.length_append, hacc, List.take_add_one, ez]
                unfold cnt
                rw [List.filter_append, List.length_append]
                simp [k2]
              · exact { I5 with fl := I5.fl.lst d2 d3, bt := I5.bt.own d6, hsl := by rw [upd_ne d4.symm]; exact I5.hsl, hhh := by rw [upd_ne d5.symm]; exact I5.hhh, al := I5.al.imp fun _ _ y => y.keep (TK.lst hD) }
            · have k2 : so = "in" := by
                by_cases y : so = "in"
                · exact y
                · have k3 : (!decide (V.str so = V.str "in")) = false := k
                  rw [decide_eq_false (fun y2 => y (V.str.inj y2))] at k3
                  cases k3
              refine ⟨acc, hD, ?_, hcp, I5, d1, d2, d3, d4, d5, d6⟩
              rw [hacc, List.take_add_one, ez]
              unfold cnt
              rw [List.filter_append, List.length_append]
              simp [k2]
        · rintro H5 ⟨acc, hD, hacc, hcp, I5, d1, d2, d3, d4, d5, d6⟩
          have hacc2 : acc.length = cnt (ss.drop (i + 1)) := by
            rw [hacc, List.take_of_length_le]
            rw [ecut, List.length_map]
            exact Nat.le_refl _
          have hm0 : 0 ≤ left - ((acc.length : Nat) : Int) := by
            have hne : ¬ sd = "in" := by rw [e]; decide +kernel
            rw [hacc2]
            rw [hc1, if_neg hne] at hl
            omega
          refine ⟨D, _, rfl, .inl (SqL.of hD), ?_⟩
          refine ⟨_, rfl, _, rfl, _, rfl, _, _, rfl, rfl, f, c, _, rfl, hm0, I5.fl, fun r hR H6 hr6 gR n1 n0 mo F6 B6 => ?_⟩
          have I6 := I5.but F6 B6
          refine ⟨_, rfl, .inl ⟨rfl, _, SqL.of I6.hhh⟩, _, rfl, _, rfl, (by show 3 ≤ sizeLine; decide), fun ml nml => ?_⟩
          have I7 := I6.new (o := .lst [V.int 5, V.int 5, V.int 31]) nml
          refine ⟨_, rfl, f, c, 3, rfl, by decide, by decide +kernel, I7.fl, fun z H8 z0 z3 F8 B8 => ?_⟩
          have I8 := I7.but F8 B8
          have hml := B8 _ _ upd_same (I6.fl.ne nml)
          obtain ⟨mm, hmm, mk⟩ : ∃ mm : Int, atI [V.int 5, V.int 5, V.int 31] z = some (.int mm) ∧ (mm = 5 ∨ mm = 31) := by
            have : z = 0 ∨ z = 1 ∨ z = 2 := by omega
            rcases this with rfl | rfl | rfl
            · exact ⟨5, rfl, .inl rfl⟩
            · exact ⟨5, rfl, .inl rfl⟩
            · exact ⟨31, rfl, .inr rfl⟩
          refine ⟨ml, _, _, _, rfl, rfl, SqL.of hml, hmm, f, c, mm, rfl, by omega, (by rcases mk with rfl | rfl <;> decide +kernel), I8.fl, fun mo2 H9 o0 o1 F9 B9 => ?_⟩
          have I9 := I8.but F9 B9
          refine ⟨(by show 2 ≤ sizeLine; decide), fun t2 nt2 => ?_⟩
          have I10 := I9.new (o := .tup [V.ref r, V.int mo2]) nt2
          have sz10 : vs.length < sizeLine := sz
          refine ⟨hh, _, _, rfl, rfl, I10.hhh, sz10, ?_⟩
          have k9 : TK H6 H9 := ((TK.new nml).trans (TK.but I7.fl B8)).trans (TK.but I8.fl B9)
          have hx : HandAt (upd H9 t2 (.tup [V.ref r, V.int mo2])) (V.ref t2) ⟨hR.wd, hR.no, mo2⟩ := ⟨t2, r, rfl, upd_same, TK.new nt2 _ _ (k9 _ _ hr6)⟩
          have gd : GoodHand ⟨hR.wd, hR.no, mo2⟩ := ⟨.inl ⟨gR.wd, gR.no, gR.big⟩, o0, (show mo2 ≤ 30 by omega)⟩
          have nout : hR.wd ≠ "out" := fun y => by
            have := gR.wd
            rw [y] at this
            exact absurd this (by decide +kernel)
          have I11 := I10.step (h := ⟨hR.wd, hR.no, mo2⟩) hx gd n0 (by show needs hR.wd + _ ≤ left; rw [hacc2] at n1; omega) ei (fun _ => nout)
          refine ⟨_, rfl, _, rfl, 1, rfl, hh, _, -1, _, rfl, rfl, SqL.of I11.hhh, atI_last _ _, t2, _, _, _, rfl, rfl, SqT.of (TK.lst I10.hhh _ _ upd_same), atI_nat (j := 0) rfl, r, hR.wd, _, rfl, SqT.of (TK.lst I10.hhh _ _ (TK.new nt2 _ _ (k9 _ _ hr6))), fun H12 s12 => ⟨_, _, rfl, rfl, ?_⟩⟩
          exact ⟨_, _, _, _, _, _, _, _, rfl, I11.same s12⟩
      · -- a door
        refine ⟨_, rfl, .inl ⟨rfl, _, SqL.of I1.hhh⟩, _, rfl, (by show 1 ≤ sizeLine; decide), fun r nr => ⟨(by show 2 ≤ sizeLine; decide), fun t2 nt2 => ?_⟩⟩
        have I2 := (I1.new (o := .tup [V.str sd]) nr).new (o := .tup [V.ref r, V.int 0]) nt2
        refine ⟨hh, _, _, rfl, rfl, I2.hhh, sz, ?_⟩
        have hsd2 : sd = "in" ∨ sd = "out" := by
          rcases hall sd (List.mem_of_getElem? ei) with y | y | y
          · exact .inl y
          · exact .inr y
          · exact absurd y e
        have hn : needs sd = (if sd = "in" then 0 else 1) := by
          rcases hsd2 with y | y <;> rw [y] <;> decide +kernel
        have hx : HandAt (upd (upd (upd H2 t (.tup [V.int ((i : Nat) : Int), V.str sd])) r (.tup [V.str sd])) t2 (.tup [V.ref r, V.int 0])) (V.ref t2) ⟨sd, none, 0⟩ := ⟨t2, r, rfl, upd_same, same_new nt2 _ _ upd_same⟩
        have I3 := I2.step (h := ⟨sd, none, 0⟩) hx ⟨.inr ⟨hsd2, rfl⟩, (show (0 : Int) ≤ 0 by decide), (show (0 : Int) ≤ 30 by decide)⟩ (by show 0 ≤ needs sd; rw [hn]; split <;> decide) (by
          show needs sd + _ ≤ left
          rw [hn]
          rw [hc1] at hl
          by_cases y : sd = "in"
          · rw [if_pos y] at hl ⊢; omega
          · rw [if_neg y] at hl ⊢; omega) ei (fun y => absurd y e)
        refine ⟨_, rfl, _, rfl, 1, rfl, hh, _, -1, _, rfl, rfl, SqL.of I3.hhh, atI_last _ _, t2, _, _, _, rfl, rfl, SqT.of (TK.lst I2.hhh _ _ upd_same), atI_nat (j := 0) rfl, r, sd, _, rfl, SqT.of (TK.lst I2.hhh _ _ (same_new nt2 _ _ upd_same)), fun H12 s12 => ⟨_, _, rfl, rfl, ?_⟩⟩
        exact ⟨_, _, _, _, _, _, _, _, rfl, I3.same s12⟩
    · rintro σ H2 ⟨vs, hs, left, v5, v6, v7, v8, v9, rfl, I⟩
      refine ⟨_, rfl, ?_⟩
      rw [eD]
      refine q hh vs hs H2 I.n5 I.hhh I.al ⟨by rw [I.len]; exact hlen, I.good, ?_, I.nz, I.one (by rw [List.take_length]; exact hhand)⟩ I.fl I.bt
      have := I.sum
      have := I.lf
      omega
  refine ⟨(by show 1 ≤ sizeLine; decide), fun l1 nl1 => ?_⟩
  refine ⟨_, rfl, f, c, 3, rfl, by decide, by decide +kernel, hF.new nl1, fun v1 H1 a1 b1 F1 B1 => ?_⟩
  have g1 := B1 _ _ upd_same (hF.ne nl1)
  have small : ∀ v : Int, 0 ≤ v → v ≤ 8 → [V.str "in"].length * v.toNat ≤ sizeLine := fun v v0 v8 => little (by show 1 * v.toNat ≤ 1000; omega)
  refine ⟨l1, v1, _, rfl, rfl, g1, by omega, by omega, small v1 a1 (by omega), fun p1 np1 => ?_⟩
  rw [flat_rep]
  have F2 := F1.new (o := .lst (List.replicate v1.toNat (V.str "in"))) np1
  refine ⟨(by show 1 ≤ sizeLine; decide), fun l2 nl2 => ?_⟩
  refine ⟨_, rfl, f, c, 3, rfl, by decide, by decide +kernel, F2.new nl2, fun v2 H3 a2 b2 F3 B3 => ?_⟩
  have g2 := B3 _ _ upd_same (F2.ne nl2)
  have h1 := B3 _ _ (same_new nl2 _ _ upd_same) (F1.ne np1)
  refine ⟨l2, v2, _, rfl, rfl, g2, by omega, by omega, small v2 a2 (by omega), fun p2 np2 => ?_⟩
  rw [flat_rep]
  have F4 := F3.new (o := .lst (List.replicate v2.toNat (V.str "out"))) np2
  refine ⟨p1, p2, _, _, rfl, rfl, same_new np2 _ _ h1, upd_same, ?_, fun p3 np3 => ?_⟩
  · rw [List.length_replicate, List.length_replicate]; exact little (by omega)
  have F5 := F4.new (o := .lst (List.replicate v1.toNat (V.str "in") ++ List.replicate v2.toNat (V.str "out"))) np3
  refine ⟨(by show 1 ≤ sizeLine; decide), fun l4 nl4 => ⟨_, rfl, l4, m, _, rfl, rfl, upd_same, by omega, by omega, small m (by omega) m8, fun p5 np5 => ?_⟩⟩
  rw [flat_rep]
  have F6 := F5.new (o := .lst [V.str "hand"]) nl4
  have F7 := F6.new (o := .lst (List.replicate m.toNat (V.str "hand"))) np5
  refine ⟨p3, p5, _, _, rfl, rfl, same_new np5 _ _ (same_new nl4 _ _ upd_same), upd_same, ?_, fun p6 np6 => ?_⟩
  · rw [List.length_append, List.length_replicate, List.length_replicate, List.length_replicate]; exact little (by omega)
  refine ⟨_, rfl, _, rfl, f, c, p6, _, rfl, SqL.of upd_same, F7.ne np6, ?_, F7.new np6, fun p ys H8 hp np hy F8 B8 => ?_⟩
  · rw [List.length_append, List.length_append, List.length_replicate, List.length_replicate, List.length_replicate]; omega
  have ez : (List.replicate v1.toNat (V.str "in") ++ List.replicate v2.toNat (V.str "out")) ++ List.replicate m.toNat (V.str "hand") = ((List.replicate v1.toNat ("in" : Str) ++ List.replicate v2.toNat ("out" : Str)) ++ List.replicate m.toNat ("hand" : Str)).map V.str := by
    rw [List.map_append, List.map_append, List.map_replicate, List.map_replicate, List.map_replicate]
  rw [ez] at hp
  obtain ⟨ss, rfl, hss⟩ := perm_strs hp
  have pf : p ≠ f := fun y => by
    rw [y] at np
    obtain ⟨_, _, _, _, _, e1, _⟩ := F7.new (o := .lst ((List.replicate v1.toNat (V.str "in") ++ List.replicate v2.toNat (V.str "out")) ++ List.replicate m.toNat (V.str "hand"))) np6
    rw [e1] at np
    cases np
  refine ⟨rfl, p, ss, rfl, hy, pf, ?_, ?_, ?_, F8, But.trans ((((((((((But.refl.new nl1).trans B1).new np1).new nl2).trans B3).new np2).new np3).new nl4).new np5).new np6) B8⟩
  · rw [hss.length_eq, List.length_append, List.length_append, List.length_replicate, List.length_replicate, List.length_replicate]; omega
  · refine hss.mem_iff.mpr (List.mem_append_right _ (List.mem_replicate.mpr ⟨by omega, rfl⟩))
  · intro s hs
    rcases List.mem_append.mp (hss.mem_iff.mp hs) with hs | hs
    · rcases List.mem_append.mp hs with hs | hs
      · exact .inl (List.mem_replicate.mp hs).2
      · exact .inr (.inl (List.mem_replicate.mp hs).2)
    · exact .inr (.inr (List.mem_replicate.mp hs).2)
end
/-! ### rules as data -/
abbrev ruleD (h : HR) : List PyData := .str h.wd :: (match h.no with | none => [] | some n => [.int n])
theorem rule_dp {K : PySem.W.Frag} {H : Hp} {r : Addr} {h : HR} (e : H r = some (.tup (ruleL h))) : Dp K H (.ref r) (.tuple (ruleD h)) := by
  obtain ⟨wd, no, mom⟩ := h
  cases no with
  | none => exact .tup (SqT.of e) (.cons (.str _) .nil)
  | some n => exact .tup (SqT.of e) (.cons (.str _) (.cons (.int _) .nil))
theorem rule_shaped {h : HR} (k : PyData.canLay0 (.str h.wd) = true) : SeqAt.shaped (.tuple (ruleD h)) = true := by
  obtain ⟨wd, no, mom⟩ := h
  have k : PyData.canLay0 (.str wd) = true := k
  cases no <;> simp [SeqAt.shaped, PyData.canLay0, PyData.canLayAll0, PyData.depth, PyData.depthAll] <;> simpa [PyData.canLay0] using k
theorem GoodHand.lay {h : HR} (g : GoodHand h) : PyData.canLay0 (.str h.wd) = true := by
  have : h.wd ∈ nine ∨ h.wd = "in" ∨ h.wd = "out" := g.1.elim (fun k => .inl k.wd) (fun k => .inr k.1)
  rcases this with k | k | k
  · unfold nine at k
    simp only [List.mem_cons, List.not_mem_nil, or_false] at k
    rcases k with k | k | k | k | k | k | k | k | k <;> rw [k] <;> decide +kernel
  · rw [k]; decide +kernel
  · rw [k]; decide +kernel
theorem one_shaped {z : Str} (k : PyData.canLay0 (.str z) = true) : SeqAt.shaped (.tuple [.str z]) = true := rule_shaped (h := ⟨z, none, 0⟩) k
theorem at0 {xs : List V} {i : Nat} {v : V} (h : xs[i]? = some v) : atI xs (0 + ((i : Nat) : Int)) = some v := by
  rw [Int.zero_add]
  exact atI_nat h
theorem rule_eqv (h : HR) (z : Str) : PyData.eqv (.tuple (ruleD h)) (.tuple [.str z]) = (decide (h.wd = z) && h.no.isNone) := by
  obtain ⟨wd, no, mom⟩ := h
  have e : (wd == z) = decide (wd = z) := by
    by_cases k : wd = z
    · rw [k, decide_eq_true rfl]; exact beq_self_eq_true z
    · rw [decide_eq_false k]; exact beq_eq_false_iff_ne.mpr k
  cases no with
  | none =>
    show (wd == z && true) = (decide (wd = z) && true)
    rw [e]
  | some n =>
    show (wd == z && false) = (decide (wd = z) && false)
    rw [Bool.and_false, Bool.and_false]
theorem GoodHand.door {h : HR} (g : GoodHand h) (z : Str) (hz : z = "in" ∨ z = "out") : (decide (h.wd = z) && h.no.isNone) = decide (h.wd = z) := by
  by_cases k : h.wd = z
  · rw [decide_eq_true k, Bool.true_and]
    rcases g.1 with g | g
    · have := g.wd
      rw [k] at this
      rcases hz with rfl | rfl <;> exact absurd this (by decide +kernel)
    · rw [g.2]; rfl
  · rw [decide_eq_false k]; rfl
/-! ### numbers in lists -/
abbrev nV (n : Nat) : V := .int (n : Nat)
def unN : V → Nat
  | .int i => i.toNat
  | _ => 0
def unI : V → Int
  | .int i => i
  | _ => 0
theorem perm_inv {α : Type} {f : α → V} {g : V → α} (k : ∀ a, g (f a) = a) {ys : List V} {zs : List α} (h : ys.Perm (zs.map f)) : ∃ ss : List α, ys = ss.map f ∧ ss.Perm zs := by
  refine ⟨ys.map g, ?_, ?_⟩
  · rw [List.map_map]
    symm
    refine (List.map_congr_left (g := id) fun y hy => ?_).trans (List.map_id _)
    obtain ⟨z, _, e⟩ := List.mem_map.mp (h.mem_iff.mp hy)
    subst e
    show f (g (f z)) = f z
    rw [k]
  · have q := h.map g
    rw [List.map_map] at q
    have e : zs.map (g ∘ f) = zs := (List.map_congr_left (g := id) fun z _ => k z).trans (List.map_id _)
    rw [e] at q
    exact q
def nd (hs : List HR) (j : Nat) : Nat := match hs[j]? with | some h => (needs h.wd).toNat | none => 0
def tkTo (hs : List HR) : Nat → List Nat
  | 0 => []
  | n + 1 => tkTo hs n ++ List.replicate (nd hs n) n
theorem tk_count (hs : List HR) (k : Nat) : ∀ n, (tkTo hs n).count k = if k < n then nd hs k else 0
  | 0 => by simp [tkTo]
  | n + 1 => by
    unfold tkTo
    rw [List.count_append, tk_count hs k n, List.count_replicate]
    by_cases h1 : k < n
    · have h2 : ¬ (n == k) = true := by simp; omega
      rw [if_pos h1, if_neg h2, if_pos (show k < n + 1 by omega), Nat.add_zero]
    · by_cases h2 : n = k
      · subst h2
        rw [if_neg h1, if_pos (beq_self_eq_true n), if_pos (show n < n + 1 by omega), Nat.zero_add]
      · have h3 : ¬ (n == k) = true := by simpa using h2
        rw [if_neg h1, if_neg h3, if_neg (show ¬ k < n + 1 by omega)]
theorem tk_mem (hs : List HR) : ∀ n k, k ∈ tkTo hs n → k < n
  | 0, k, h => nomatch h
  | n + 1, k, h => by
    rcases List.mem_append.mp h with h | h
    · exact Nat.lt_succ_of_lt (tk_mem hs n k h)
    · rw [(List.mem_replicate.mp h).2]; exact Nat.lt_succ_self n
theorem tk_len (hs : List HR) (z : ∀ h ∈ hs, 0 ≤ needs h.wd) : ∀ n, n ≤ hs.length → ((tkTo hs n).length : Int) = ((hs.take n).map fun h => needs h.wd).sum
  | 0, _ => rfl
  | n + 1, hn => by
    have e : hs[n]? = some hs[n] := List.getElem?_eq_getElem (by omega)
    unfold tkTo
    rw [List.length_append, List.length_replicate, List.take_add_one, e, List.map_append, List.sum_append, Int.natCast_add, tk_len hs z n (by omega)]
    unfold nd
    rw [e]
    have := z hs[n] (List.getElem_mem _)
    simp only [Option.toList, List.map_cons, List.map_nil, List.sum_cons, List.sum_nil]
    omega
structure RoomOk (hs : List HR) (bs : List BR) : Prop where
  hands : hs.length ≤ 12
  good : ∀ h ∈ hs, GoodHand h
  ends : ∀ b ∈ bs, b.one < hs.length ∧ b.to < hs.length
  out : ∀ b ∈ bs, ∀ h, hs[b.one]? = some h → h.wd ≠ "out"
  th : ∀ b ∈ bs, b.th.length ≤ 30 ∧ True
  rank : ∃ rk : Nat → Int, ∀ b ∈ bs, b.th = [] → rk b.one < rk b.to
  count : ∀ k h, hs[k]? = some h → (((bs.map BR.to).count k : Nat) : Int) = needs h.wd
  many : bs.length ≤ 20
structure RoomAt (H : Hp) (r : Addr) (hs : List HR) (bs : List BR) : Prop where
  ex : ∃ (ha ba : Addr) (hv bv : List V), H r = some (.tup [.ref ha, .ref ba]) ∧ H ha = some (.tup hv) ∧ H ba = some (.tup bv) ∧ All2 (HandAt H) hv hs ∧ All2 (BeltAt H) bv bs
theorem RoomAt.keep {H H' : Hp} {r : Addr} {hs : List HR} {bs : List BR} (a : RoomAt H r hs bs) (k : TK H H') : RoomAt H' r hs bs := by
  obtain ⟨ha, ba, hv, bv, e1, e2, e3, a1, a2⟩ := a.ex
  exact ⟨ha, ba, hv, bv, k _ _ e1, k _ _ e2, k _ _ e3, a1.imp fun _ _ z => z.keep k, a2.imp fun _ _ z => z.keep k⟩
section
variable {P : Program} {w : World} {K : PySem.W.Frag} {mg : Str → Option Value} {base : Heap}
def sp_law_room (K : PySem.W.Frag) : Sp := fun vs H Q _ => ∃ (f c : Addr) (m : Int), vs = [.ref f, .int m] ∧ 1 ≤ m ∧ m ≤ 8 ∧ Flow H f c ∧
  ∀ (r : Addr) (hs : List HR) (bs : List BR) (H' : Hp), RoomAt H' r hs bs → RoomOk hs bs → 0 < hs.length → (∀ b ∈ bs, b.th.length ≤ 6) → Flow H' f c → But f H H' → Q (.ref r) H'
/-- what stands while a room is drawn: the draws, the list of its hands -/
structure RI (f c hh : Addr) (H0 H : Hp) (xs : List V) (hs : List HR) : Prop where
  fl : Flow H f c
  bt : But f H0 H
  lh : H hh = some (.lst xs)
  al : All2 (HandAt H) xs hs
  n1 : hh ≠ f
  n2 : H0 hh = none
section
variable {f c hh : Addr} {H0 H H' : Hp} {xs : List V} {hs : List HR}
theorem RI.but (s : RI f c hh H0 H xs hs) (F : Flow H' f c) (b : But f H H') : RI f c hh H0 H' xs hs :=
  { s with fl := F, bt := s.bt.trans b, lh := b _ _ s.lh s.n1, al := s.al.imp fun _ _ k => k.keep (TK.but s.fl b) }
theorem RI.new {p : Addr} {o : HO} (s : RI f c hh H0 H xs hs) (n : H p = none) : RI f c hh H0 (upd H p o) xs hs :=
  { s with fl := s.fl.new n, bt := s.bt.new n, lh := same_new n _ _ s.lh, al := s.al.imp fun _ _ k => k.keep (TK.new n) }
theorem RI.same (s : RI f c hh H0 H xs hs) (k : Same H H') : RI f c hh H0 H' xs hs :=
  { s with fl := s.fl.same k, bt := s.bt.same k, lh := k _ _ s.lh, al := s.al.imp fun _ _ z => z.keep (TK.same k) }
theorem RI.lst {D : Addr} {as bs : List V} (s : RI f c hh H0 H xs hs) (h : H D = some (.lst as)) (d1 : D ≠ f) (d2 : D ≠ c) (d3 : D ≠ hh) (d4 : H0 D = none) : RI f c hh H0 (upd H D (.lst bs)) xs hs :=
  { s with fl := s.fl.lst d1 d2, bt := s.bt.own d4, lh := by rw [upd_ne d3.symm]; exact s.lh, al := s.al.imp fun _ _ z => z.keep (TK.lst h) }
end
theorem ok_law_room {f : Addr} {fd : FuncData} (F : Fun K "_law_room" "_law_room" s_law_room f fd) {C : Addr} (T : Top K mg C) : FnOk P w K mg base CX0 5 f fd ["_law_flow_here", "_law_most"] (sp_law_room K) := by
  obtain ⟨f_law_hands, fd_law_hands, F_law_hands, b_law_hands, m_law_hands⟩ := T.d_law_hands
  have G_law_hands := ok_law_hands (P := P) (w := w) (base := base) F_law_hands T
  obtain ⟨f_law_shuffled, fd_law_shuffled, F_law_shuffled, b_law_shuffled, m_law_shuffled⟩ := T.d_law_shuffled
  have G_law_shuffled := ok_law_shuffled (P := P) (w := w) (base := base) F_law_shuffled T
  obtain ⟨f_law_pick, fd_law_pick, F_law_pick, b_law_pick, m_law_pick⟩ := T.d_law_pick
  have G_law_pick := ok_law_pick (P := P) (w := w) (base := base) F_law_pick T
  obtain ⟨f_law_needs, fd_law_needs, F_law_needs, b_law_needs, m_law_needs⟩ := T.d_law_needs
  have G_law_needs := ok_law_needs (P := P) (w := w) (base := base) F_law_needs T
  obtain ⟨f_law_thing, fd_law_thing, F_law_thing, b_law_thing, m_law_thing⟩ := T.d_law_thing
  have G_law_thing := ok_law_thing (P := P) (w := w) (base := base) F_law_thing T
  refine F.ok sc_law_room (fun vs H Q E h => ?_) (fun cdv A outer s H vs Q E hr h => ?_)
  · obtain ⟨f, c, m, rfl, _⟩ := h
    rfl
  obtain ⟨f, c, m, rfl, m1, m8, hF, q⟩ := h
  have hm9 : m.natAbs.log2 < 9000 := by
    obtain ⟨j, rfl⟩ : ∃ j : Nat, m = (j : Int) := ⟨m.toNat, by omega⟩
    exact log_small (by omega)
  let R1 : TS := fun D' σ' H' => D'.rt = Q ∧ ∃ (hh rk gv : Addr) (xs : List V) (hs : List HR) (is : List Int) (gs : List Nat), σ' = [some (.ref f), some (.int m), some (.ref hh), some (.ref rk), some (.ref gv), none, none, none, none, none, none] ∧ RI f c hh H H' xs hs ∧ HandsOk hs ∧ H' rk = some (.lst (is.map V.int)) ∧ is.length = hs.length ∧ H' gv = some (.lst (gs.map nV)) ∧ gs ≠ [] ∧ gs.length ≤ 12 ∧ (∀ k ∈ gs, ∃ h, hs[k]? = some h ∧ h.wd ≠ "out") ∧ rk ≠ f ∧ gv ≠ f
  let R2 : TS := fun D' σ' H' => D'.rt = Q ∧ ∃ (hh rk gv tk : Addr) (xs : List V) (hs : List HR) (is : List Int) (gs ts : List Nat) (v5 : Option V), σ' = [some (.ref f), some (.int m), some (.ref hh), some (.ref rk), some (.ref gv), v5, some (.ref tk), none, none, none, none] ∧ RI f c hh H H' xs hs ∧ HandsOk hs ∧ H' rk = some (.lst (is.map V.int)) ∧ is.length = hs.length ∧ H' gv = some (.lst (gs.map nV)) ∧ gs ≠ [] ∧ gs.length ≤ 12 ∧ (∀ k ∈ gs, ∃ h, hs[k]? = some h ∧ h.wd ≠ "out") ∧ rk ≠ f ∧ gv ≠ f ∧ tk ≠ f ∧ H' tk = some (.lst (ts.map nV)) ∧ ts = tkTo hs hs.length
  refine ⟨_, (pss_cons (ps_set (i := 2) sc_law_room.nd rfl (Or.inr rfl) (pe_call G_law_hands (hr.mono (by decide)) (by rfl) m_law_hands F_law_hands.kp b_law_hands .nil pass0 (pa_cons (pv 0) (pa_cons (pe_op op_add pe_int (pe_call G_law_pick (hr.mono (by decide)) (by rfl) m_law_pick F_law_pick.kp b_law_pick .nil pass0 (pa_cons (pv 0) (pa_cons (pv 1) pa_nil)))) pa_nil))))
      (pss_cons (ps_set (i := 3) sc_law_room.nd rfl (Or.inl rfl) (pe_call G_law_shuffled (hr.mono (by decide)) (by rfl) m_law_shuffled F_law_shuffled.kp b_law_shuffled .nil pass0 (pa_cons (pv 0) (pa_cons (pe_listRg rfl (by rfl) T.m_list (prg_1 (by rfl) T.m_range (pe_callB (call_len_seqK K rfl) (by rfl) T.m_len (by decide +kernel) (pa_cons (pv 2) pa_nil)))) pa_nil))))
      (pss_cons (ps_setLc (i := 4) (own := [("_law_k", 5)]) (g := gName 5) (by rfl) sc_law_room.nd rfl rfl (sw_true rfl rfl rfl (by decide +kernel)) (pi_range1 (by rfl) T.m_range (pa_cons (pe_callB (call_len_seqK K rfl) (by rfl) T.m_len (by decide +kernel) (pa_cons (pv 2) pa_nil)) pa_nil)) (blkOk_by (own := [("_law_k", 5)]) (N := N_law_room) (sc := defScope s_law_room) (by decide +kernel)) (fun _ _ _ _ _ => (pg_name (i := 5) sc_law_room.nd rfl (Or.inl rfl))) (fun _ _ _ _ _ => pts_one (pt_cmpR (op_neDK K rfl hr.units) (pe_ix (ix_tupK K rfl) (pe_ix (ix_listK K rfl) (pv 2) (pv 5) (fun _ _ => rfl)) pe_int (fun _ _ => rfl)) (pe_tup (pa_cons pe_str pa_nil)) (nomark _))) (fun _ _ _ _ _ => (pv 5)))
      (PSs.to (pss_cons (ps_set (i := 6) sc_law_room.nd rfl (Or.inl rfl) (pe_lst pa_nil))
      (pss_cons (ps_for PassesOwn.never rfl (pi_range1 (by rfl) T.m_range (pa_cons (pe_callB (call_len_seqK K rfl) (by rfl) T.m_len (by decide +kernel) (pa_cons (pv 2) pa_nil)) pa_nil)) (pg_name (i := 5) sc_law_room.nd rfl (Or.inl rfl))
        (pss_one (ps_set (i := 6) sc_law_room.nd rfl (Or.inl rfl) (pe_op op_cat (pv 6) (pe_op op_rep (pe_lst (pa_cons (pv 5) pa_nil)) (pe_call G_law_needs (hr.mono (by decide)) (by rfl) m_law_needs F_law_needs.kp b_law_needs .nil pass0 (pa_cons (pe_ix (ix_tupK K rfl) (pe_ix (ix_listK K rfl) (pv 2) (pv 5) (fun _ _ => rfl)) pe_int (fun _ _ => rfl)) pa_nil)))))))
      (PSs.to (pss_cons (ps_set (i := 7) sc_law_room.nd rfl (Or.inl rfl) (pe_lst pa_nil))
      (pss_cons (ps_for PassesOwn.never rfl (pi_listK K rfl (pe_call G_law_shuffled (hr.mono (by decide)) (by rfl) m_law_shuffled F_law_shuffled.kp b_law_shuffled .nil pass0 (pa_cons (pv 0) (pa_cons (pv 6) pa_nil)))) (pg_name (i := 8) sc_law_room.nd rfl (Or.inl rfl))
        (pss_cons (ps_set (i := 9) sc_law_room.nd rfl (Or.inl rfl) (pe_ix (ix_listK K rfl) (pv 4) (pe_call G_law_pick (hr.mono (by decide)) (by rfl) m_law_pick F_law_pick.kp b_law_pick .nil pass0 (pa_cons (pv 0) (pa_cons (pe_callB (call_len_seqK K rfl) (by rfl) T.m_len (by decide +kernel) (pa_cons (pv 4) pa_nil)) pa_nil))) (fun _ _ => rfl)))
      (pss_cons (ps_set (i := 10) sc_law_room.nd rfl (Or.inl rfl) (pe_ix (ix_listK K rfl) (pe_lst (pa_cons pe_int (pa_cons pe_int (pa_cons pe_int (pa_cons pe_int (pa_cons pe_int (pa_cons pe_int (pa_cons pe_int (pa_cons pe_int pa_nil))))))))) (pe_call G_law_pick (hr.mono (by decide)) (by rfl) m_law_pick F_law_pick.kp b_law_pick .nil pass0 (pa_cons (pv 0) (pa_cons pe_int pa_nil))) (fun _ _ => rfl)))
      (pss_cons (ps_if (pt_cmpR op_ge (pe_ix (ix_listK K rfl) (pv 3) (pv 9) (fun _ _ => rfl)) (pe_ix (ix_listK K rfl) (pv 3) (pv 8) (fun _ _ => rfl)) (nomark _)) (pss_one (ps_set (i := 10) sc_law_room.nd rfl (Or.inl rfl) (pe_callB (call_max2 rfl) (by rfl) T.m_max (by decide +kernel) (pa_cons pe_int (pa_cons (pv 10) pa_nil))))) pss_nil)
      (pss_one (ps_expr (pe_bmK K rfl PySem.F.plainAttrs_list PySem.F.slot_list_append PySem.F.type_list_append mt_append (pv 7) (pa_cons (pe_tup (pa_cons (pv 9) (pa_cons (pv 8) (pa_cons (pe_callTy (call_tuple_ofK K rfl) (by rfl) T.m_tuple (by decide +kernel) (pa_cons (pe_lc (own := [("_law_k", 5)]) (g := gName 5) (tt := tYes) (by rfl) sc_law_room.nd (pi_range1 (by rfl) T.m_range (pa_cons (pv 10) pa_nil)) (blkOk_by (own := [("_law_k", 5)]) (N := N_law_room) (sc := defScope s_law_room) (by decide +kernel)) (fun _ _ _ _ _ => (pg_name (i := 5) sc_law_room.nd rfl (Or.inl rfl))) (fun _ _ _ _ _ => pts_nil) (fun _ _ _ _ _ => (pe_call G_law_thing (hr.mono (by decide)) (by rfl) m_law_thing F_law_thing.kp b_law_thing .nil pass0 (pa_cons (pv 0) pa_nil)))) pa_nil)) pa_nil)))) pa_nil))))))))
      (pss_one (ps_ret (pe_tup (pa_cons (pe_callTy (call_tuple_ofK K rfl) (by rfl) T.m_tuple (by decide +kernel) (pa_cons (pv 2) pa_nil)) (pa_cons (pe_callTy (call_tuple_ofK K rfl) (by rfl) T.m_tuple (by decide +kernel) (pa_cons (pv 7) pa_nil)) pa_nil))))))) R2 ?tail2))) R1 ?tail1)))), ?_⟩
  case tail2 =>
    rintro D' σ' H1 ⟨eD, hh, rk, gv, tk, xs, hs, is, gs, ts, v5, rfl, I1, ok, hrk, lis, hgv, gne, glen, gok, nrk, ngv, ntk, htk, ets⟩
    have hx : xs.length = hs.length := I1.al.length
    have len12 := ok.len
    have lts : ts.length ≤ 20 := by
      have a := tk_len hs ok.nz hs.length (Nat.le_refl _)
      rw [List.take_length, ← ets] at a
      have := ok.sum
      omega
    refine ⟨(by show 0 ≤ sizeLine; decide), fun bl nbl => ?_⟩
    have I2 := I1.new (o := .lst []) nbl
    refine ⟨_, rfl, _, rfl, f, c, tk, _, rfl, SqL.of (same_new nbl _ _ htk), ntk, by rw [List.length_map]; omega, I2.fl, fun sh ys H3 hp nsh hsh F3 B3 => ?_⟩
    obtain ⟨tt, rfl, htt⟩ := perm_inv (f := nV) (g := unN) (fun n => by show ((n : Nat) : Int).toNat = n; omega) hp
    have I3 := I2.but F3 B3
    have bf : bl ≠ f := I1.fl.ne nbl
    have bc : bl ≠ c := I1.fl.nec nbl
    have hbl3 := B3 _ _ upd_same bf
    have bsh : bl ≠ sh := fun e => by rw [← e, upd_same] at nsh; cases nsh
    have bnone : H bl = Option.none := I1.bt.none nbl bf
    have rank : Nat → Int := fun k => is.getD k 0
    refine ⟨sh, rfl, ⟨_, SqL.of hsh⟩, for_list (K := K) (a := sh) (xs := tt.map nV) (fun i σ H4 => ∃ (bv : List V) (bs : List BR) (v5 v8 v9 v10 : Option V), σ = [some (.ref f), some (.int m), some (.ref hh), some (.ref rk), some (.ref gv), v5, some (.ref tk), some (.ref bl), v8, v9, v10] ∧ RI f c hh H H4 xs hs ∧ H4 rk = some (.lst (is.map V.int)) ∧ H4 gv = some (.lst (gs.map nV)) ∧ H4 sh = some (.lst (tt.map nV)) ∧ H4 bl = some (.lst bv) ∧ All2 (BeltAt H4) bv bs ∧ bs.map BR.to = tt.take i ∧
        (∀ b ∈ bs, b.one < hs.length ∧ (∀ h, hs[b.one]? = some h → h.wd ≠ "out") ∧ b.th.length ≤ 6 ∧ (∀ x ∈ b.th, Small x) ∧ (b.th = [] → is.getD b.one 0 < is.getD b.to 0)))
      ⟨[], [], v5, none, none, none, rfl, I3, B3 _ _ (same_new nbl _ _ hrk) nrk, B3 _ _ (same_new nbl _ _ hgv) ngv, hsh, hbl3, .nil, rfl, (fun _ h => nomatch h)⟩ (fun i σ H4 _ ⟨_, _, _, _, _, _, _, _, _, _, h, _⟩ => SqL.of h) ?_ ?_⟩
    · rintro i y σ H4 hi ⟨bv, bs, v5, v8, v9, v10, rfl, I4, hrk4, hgv4, hsh4, hbl4, al, em, hb⟩
      rw [List.getElem?_map] at hi
      cases et : tt[i]? with
      | none => rw [et] at hi; cases hi
      | some to =>
      rw [et] at hi
      obtain rfl : nV to = y := Option.some.inj hi
      have toL : to < hs.length := tk_mem hs _ _ (by rw [← ets]; exact htt.mem_iff.mp (List.mem_of_getElem? et))
      have il : i < 20 := by have := (List.getElem?_eq_some_iff.mp et).1; rw [htt.length_eq] at this; omega
      have lb : bs.length = i := by
        have := congrArg List.length em
        rw [List.length_map, List.length_take, Nat.min_eq_left (Nat.le_of_lt (List.getElem?_eq_some_iff.mp et).1)] at this
        exact this
      have g0 : 0 < gs.length := List.length_pos_iff.mpr gne
      refine ⟨_, rfl, _, rfl, _, rfl, gv, _, rfl, .inl (SqL.of hgv4), f, c, _, rfl, (by rw [List.length_map]; omega), (by rw [List.length_map]; exact log_small (by omega)), I4.fl, fun z H5 z0 z1 F5 B5 => ?_⟩
      rw [List.length_map] at z1
      have I5 := I4.but F5 B5
      have hgv5 := B5 _ _ hgv4 ngv
      obtain ⟨one, eo, ho⟩ : ∃ one, atI (gs.map nV) z = some (nV one) ∧ one ∈ gs := by
        have hk : z.toNat < gs.length := by omega
        have ek : z = ((z.toNat : Nat) : Int) := by omega
        refine ⟨gs[z.toNat], ?_, List.getElem_mem _⟩
        have q2 : atI (gs.map nV) ((z.toNat : Nat) : Int) = some (nV gs[z.toNat]) := atI_nat (by rw [List.getElem?_map, List.getElem?_eq_getElem hk]; rfl)
        rw [← ek] at q2
        exact q2
      obtain ⟨ho1, eh1, hout⟩ := gok one ho
      have oneL : one < hs.length := (List.getElem?_eq_some_iff.mp eh1).1
      refine ⟨gv, _, _, _, rfl, rfl, SqL.of hgv5, eo, ?_⟩
      refine ⟨(by show 8 ≤ sizeLine; decide), fun tl ntl => ?_⟩
      have I6 := I5.new (o := .lst [V.int 0, V.int 0, V.int 0, V.int 1, V.int 1, V.int 2, V.int 3, V.int 6]) ntl
      refine ⟨_, rfl, f, c, 8, rfl, by decide, by decide +kernel, I6.fl, fun y2 H7 y0 y8 F7 B7 => ?_⟩
      have I7 := I6.but F7 B7
      have htl := B7 _ _ upd_same (I5.fl.ne ntl)
      obtain ⟨tr, htr, tr0, tr6⟩ : ∃ tr : Int, atI [V.int 0, V.int 0, V.int 0, V.int 1, V.int 1, V.int 2, V.int 3, V.int 6] y2 = some (.int tr) ∧ 0 ≤ tr ∧ tr ≤ 6 := by
        have : y2 = 0 ∨ y2 = 1 ∨ y2 = 2 ∨ y2 = 3 ∨ y2 = 4 ∨ y2 = 5 ∨ y2 = 6 ∨ y2 = 7 := by omega
        rcases this with rfl | rfl | rfl | rfl | rfl | rfl | rfl | rfl
        · exact ⟨0, rfl, by decide, by decide⟩
        · exact ⟨0, rfl, by decide, by decide⟩
        · exact ⟨0, rfl, by decide, by decide⟩
        · exact ⟨1, rfl, by decide, by decide⟩
        · exact ⟨1, rfl, by decide, by decide⟩
        · exact ⟨2, rfl, by decide, by decide⟩
        · exact ⟨3, rfl, by decide, by decide⟩
        · exact ⟨6, rfl, by decide, by decide⟩
      refine ⟨tl, _, _, _, rfl, rfl, SqL.of htl, htr, ?_⟩
      have k7 : But f H4 H7 := (B5.new ntl).trans B7
      have hrk7 := k7 _ _ hrk4 nrk
      have hgv7 := k7 _ _ hgv4 ngv
      have shf : sh ≠ f := fun e => by rw [e] at nsh; obtain ⟨_, _, _, _, _, e1, _⟩ := I2.fl; rw [e1] at nsh; cases nsh
      have hsh7 := k7 _ _ hsh4 shf
      have hbl7 := k7 _ _ hbl4 bf
      have tk7 : TK H4 H7 := (TK.but I4.fl B5).trans ((TK.new ntl).trans (TK.but I6.fl B7))
      have al7 : All2 (BeltAt H7) bv bs := al.imp fun _ _ z => z.keep tk7
      have r1 : (is.map V.int)[one]? = some (.int (is.getD one 0)) := by
        rw [List.getElem?_map, List.getD_eq_getElem?_getD, List.getElem?_eq_getElem (by omega)]; rfl
      have r2 : (is.map V.int)[to]? = some (.int (is.getD to 0)) := by
        rw [List.getElem?_map, List.getD_eq_getElem?_getD, List.getElem?_eq_getElem (by omega)]; rfl
      have bvl : bv.length = i := by rw [al.length, lb]
      -- the end of a turn, with so many trays
      refine ⟨_, rfl, _, rfl, rk, _, _, _, rfl, rfl, SqL.of hrk7, atI_nat r1, _, rfl, _, rfl, rk, _, _, _, rfl, rfl, SqL.of hrk7, atI_nat r2, _, _, rfl, rfl, _, rfl, if_bl (fun kk => ?_) (fun kk => ?_)⟩
      · refine ⟨_, rfl, _, _, rfl, ?_⟩
        generalize ht : (if tr > 1 then tr else 1) = tn
        have tn0 : 0 ≤ tn := by rw [← ht]; split <;> omega
        have tn6 : tn ≤ 6 := by rw [← ht]; split <;> omega
        have ttt : tn.toNat = 0 → is.getD one 0 < is.getD to 0 := fun e => by
          exfalso
          have : 1 ≤ tn := by rw [← ht]; split <;> omega
          omega
        refine ⟨_, rfl, .inl ⟨rfl, _, SqL.of hbl7⟩, _, rfl, _, rfl, _, rfl, _, rfl, by omega, by omega, fun D nD => lc_range (lo := 0) (n := tn.toNat) (fun j H8 => ∃ vs : List Int, vs.length = j ∧ H8 D = some (.lst (vs.map V.int)) ∧ (∀ x ∈ vs, Small x) ∧ RI f c hh H H8 xs hs ∧ But f H7 H8 ∧ TK H7 H8 ∧ D ≠ f ∧ D ≠ c ∧ D ≠ hh ∧ H D = Option.none ∧ H7 D = Option.none)
          ⟨[], rfl, upd_same, (fun _ h => nomatch h), I7.new nD, But.refl.new nD, TK.new nD, I7.fl.ne nD, I7.fl.nec nD, (ne_of_none I7.lh nD).symm, I7.bt.none nD (I7.fl.ne nD), nD⟩ ?_ ?_⟩
        · rintro j H8 hj ⟨vs, lv, hD, sm, I8, b8, t8, d1, d2, d3, d4, d5⟩
          refine ⟨rfl, yes_in ⟨_, rfl, f, c, rfl, I8.fl, fun x H9 sx F9 B9 => ⟨_, B9 _ _ hD d1, ?_, vs ++ [x], by rw [List.length_append, lv]; rfl, ?_, ?_, (I8.but F9 B9).lst (B9 _ _ hD d1) d1 d2 d3 d4, (b8.trans B9).own d5, (t8.trans (TK.but I8.fl B9)).trans (TK.lst (B9 _ _ hD d1)), d1, d2, d3, d4, d5⟩⟩⟩
          · rw [List.length_map, lv]; exact small1000 (by omega)
          · rw [upd_same, List.map_append]; rfl
          · intro y hy
            rcases List.mem_append.mp hy with hy | hy
            · exact sm y hy
            · obtain rfl : y = x := by simpa using hy
              exact sx
        · rintro H8 ⟨vs, lv, hD, sm, I8, b8, t8, d1, d2, d3, d4, d5⟩
          refine ⟨D, _, rfl, .inl ⟨SqL.of hD, fun g ng => ⟨(by show 3 ≤ sizeLine; decide), fun t nt => ?_⟩⟩⟩
          have I9 := (I8.new (o := .tup (vs.map V.int)) ng).new (o := .tup [nV one, nV to, V.ref g]) nt
          have hbl8 := same_new (o := .tup [nV one, nV to, V.ref g]) nt _ _ (same_new (o := .tup (vs.map V.int)) ng _ _ (b8 _ _ hbl7 bf))
          have t9 : TK H7 (upd (upd H8 g (.tup (vs.map V.int))) t (.tup [nV one, nV to, V.ref g])) := (t8.trans (TK.new ng)).trans (TK.new nt)
          have s9 : ∀ b o, H7 b = some o → b ≠ f → (upd (upd H8 g (.tup (vs.map V.int))) t (.tup [nV one, nV to, V.ref g])) b = some o := fun b o e n => same_new nt _ _ (same_new ng _ _ (b8 _ _ e n))
          have bh : bl ≠ hh := fun e => by
            have h1 := I1.lh
            rw [← e, nbl] at h1
            cases h1
          have brk : bl ≠ rk := fun e => by
            have h1 := hrk
            rw [← e, nbl] at h1
            cases h1
          have bgv : bl ≠ gv := fun e => by
            have h1 := hgv
            rw [← e, nbl] at h1
            cases h1
          refine ⟨bl, _, _, rfl, rfl, hbl8, small1000 (by rw [bvl]; omega), ?_⟩
          refine ⟨bv ++ [V.ref t], bs ++ [⟨one, to, vs⟩], _, _, _, _, rfl, I9.lst hbl8 bf bc bh bnone, ?_, ?_, ?_, upd_same, ?_, ?_, ?_⟩
          · rw [upd_ne brk.symm]; exact s9 _ _ hrk7 nrk
          · rw [upd_ne bgv.symm]; exact s9 _ _ hgv7 ngv
          · rw [upd_ne bsh.symm]; exact s9 _ _ hsh7 shf
          · exact ((al7.imp fun _ _ z => z.keep t9).snoc ⟨t, g, rfl, upd_same, same_new nt _ _ upd_same⟩).imp fun _ _ z => z.keep (TK.lst hbl8)
          · rw [List.map_append, em, List.take_add_one, et]; rfl
          · intro b hb2
            rcases List.mem_append.mp hb2 with hb2 | hb2
            · exact hb b hb2
            · obtain rfl : b = ⟨one, to, vs⟩ := by simpa using hb2
              refine ⟨oneL, fun h e => ?_, by show vs.length ≤ 6; omega, sm, fun e => ?_⟩
              · have e : hs[one]? = some h := e
                rw [eh1] at e
                cases e
                exact hout
              · have e : vs = [] := e
                rw [e] at lv
                exact ttt (by simpa using lv.symm)
      · obtain ⟨tn, ht⟩ : ∃ tn, tn = tr := ⟨_, rfl⟩
        rw [← ht]
        have tn0 : 0 ≤ tn := by omega
        have tn6 : tn ≤ 6 := by omega
        have ttt : tn.toNat = 0 → is.getD one 0 < is.getD to 0 := fun _ => by
          have : ¬ is.getD to 0 ≤ is.getD one 0 := of_decide_eq_false kk
          omega
        refine ⟨_, rfl, .inl ⟨rfl, _, SqL.of hbl7⟩, _, rfl, _, rfl, _, rfl, _, rfl, by omega, by omega, fun D nD => lc_range (lo := 0) (n := tn.toNat) (fun j H8 => ∃ vs : List Int, vs.length = j ∧ H8 D = some (.lst (vs.map V.int)) ∧ (∀ x ∈ vs, Small x) ∧ RI f c hh H H8 xs hs ∧ But f H7 H8 ∧ TK H7 H8 ∧ D ≠ f ∧ D ≠ c ∧ D ≠ hh ∧ H D = Option.none ∧ H7 D = Option.none)
          ⟨[], rfl, upd_same, (fun _ h => nomatch h), I7.new nD, But.refl.new nD, TK.new nD, I7.fl.ne nD, I7.fl.nec nD, (ne_of_none I7.lh nD).symm, I7.bt.none nD (I7.fl.ne nD), nD⟩ ?_ ?_⟩
        · rintro j H8 hj ⟨vs, lv, hD, sm, I8, b8, t8, d1, d2, d3, d4, d5⟩
          refine ⟨rfl, yes_in ⟨_, rfl, f, c, rfl, I8.fl, fun x H9 sx F9 B9 => ⟨_, B9 _ _ hD d1, ?_, vs ++ [x], by rw [List.length_append, lv]; rfl, ?_, ?_, (I8.but F9 B9).lst (B9 _ _ hD d1) d1 d2 d3 d4, (b8.trans B9).own d5, (t8.trans (TK.but I8.fl B9)).trans (TK.lst (B9 _ _ hD d1)), d1, d2, d3, d4, d5⟩⟩⟩
          · rw [List.length_map, lv]; exact small1000 (by omega)
          · rw [upd_same, List.map_append]; rfl
          · intro y hy
            rcases List.mem_append.mp hy with hy | hy
            · exact sm y hy
            · obtain rfl : y = x := by simpa using hy
              exact sx
        · rintro H8 ⟨vs, lv, hD, sm, I8, b8, t8, d1, d2, d3, d4, d5⟩
          refine ⟨D, _, rfl, .inl ⟨SqL.of hD, fun g ng => ⟨(by show 3 ≤ sizeLine; decide), fun t nt => ?_⟩⟩⟩
          have I9 := (I8.new (o := .tup (vs.map V.int)) ng).new (o := .tup [nV one, nV to, V.ref g]) nt
          have hbl8 := same_new (o := .tup [nV one, nV to, V.ref g]) nt _ _ (same_new (o := .tup (vs.map V.int)) ng _ _ (b8 _ _ hbl7 bf))
          have t9 : TK H7 (upd (upd H8 g (.tup (vs.map V.int))) t (.tup [nV one, nV to, V.ref g])) := (t8.trans (TK.new ng)).trans (TK.new nt)
          have s9 : ∀ b o, H7 b = some o → b ≠ f → (upd (upd H8 g (.tup (vs.map V.int))) t (.tup [nV one, nV to, V.ref g])) b = some o := fun b o e n => same_new nt _ _ (same_new ng _ _ (b8 _ _ e n))
          have bh : bl ≠ hh := fun e => by
            have h1 := I1.lh
            rw [← e, nbl] at h1
            cases h1
          have brk : bl ≠ rk := fun e => by
            have h1 := hrk
            rw [← e, nbl] at h1
            cases h1
          have bgv : bl ≠ gv := fun e => by
            have h1 := hgv
            rw [← e, nbl] at h1
            cases h1
          refine ⟨bl, _, _, rfl, rfl, hbl8, small1000 (by rw [bvl]; omega), ?_⟩
          refine ⟨bv ++ [V.ref t], bs ++ [⟨one, to, vs⟩], _, _, _, _, rfl, I9.lst hbl8 bf bc bh bnone, ?_, ?_, ?_, upd_same, ?_, ?_, ?_⟩
          · rw [upd_ne brk.symm]; exact s9 _ _ hrk7 nrk
          · rw [upd_ne bgv.symm]; exact s9 _ _ hgv7 ngv
          · rw [upd_ne bsh.symm]; exact s9 _ _ hsh7 shf
          · exact ((al7.imp fun _ _ z => z.keep t9).snoc ⟨t, g, rfl, upd_same, same_new nt _ _ upd_same⟩).imp fun _ _ z => z.keep (TK.lst hbl8)
          · rw [List.map_append, em, List.take_add_one, et]; rfl
          · intro b hb2
            rcases List.mem_append.mp hb2 with hb2 | hb2
            · exact hb b hb2
            · obtain rfl : b = ⟨one, to, vs⟩ := by simpa using hb2
              refine ⟨oneL, fun h e => ?_, by show vs.length ≤ 6; omega, sm, fun e => ?_⟩
              · have e : hs[one]? = some h := e
                rw [eh1] at e
                cases e
                exact hout
              · have e : vs = [] := e
                rw [e] at lv
                exact ttt (by simpa using lv.symm)
    · rintro σ H4 ⟨bv, bs, v5, v8, v9, v10, rfl, I4, hrk4, hgv4, hsh4, hbl4, al, em, hb⟩
      rw [List.length_map, List.take_length] at em
      have lb : bs.length = ts.length := by
        have := congrArg List.length em
        rw [List.length_map] at this
        rw [this, htt.length_eq]
      refine ⟨_, rfl, hh, _, rfl, .inl ⟨SqL.of I4.lh, fun a1 na1 => ⟨_, rfl, bl, _, rfl, .inl ⟨SqL.of (same_new na1 _ _ hbl4), fun a2 na2 => ⟨(by show 2 ≤ sizeLine; decide), fun a3 na3 => ?_⟩⟩⟩⟩⟩
      rw [eD]
      have k1 : TK H4 (upd (upd (upd H4 a1 (.tup xs)) a2 (.tup bv)) a3 (.tup [V.ref a1, V.ref a2])) := ((TK.new na1).trans (TK.new na2)).trans (TK.new na3)
      refine q a3 hs bs _ ⟨a1, a2, xs, bv, upd_same, same_new na3 _ _ (same_new na2 _ _ upd_same), same_new na3 _ _ upd_same, I4.al.imp fun _ _ z => z.keep k1, al.imp fun _ _ z => z.keep k1⟩ ⟨ok.len, ok.good, fun b hb2 => ⟨(hb b hb2).1, ?_⟩, fun b hb2 => (hb b hb2).2.1, fun b hb2 => ⟨Nat.le_trans (hb b hb2).2.2.1 (by decide), trivial⟩, ⟨fun k => is.getD k 0, fun b hb2 => (hb b hb2).2.2.2.2⟩, fun k h hk => ?_, by omega⟩ (by obtain ⟨h1, hm1, _⟩ := ok.one; exact List.length_pos_of_mem hm1) (fun b hb2 => (hb b hb2).2.2.1) (((I4.fl.new na1).new na2).new na3) (((I4.bt.new na1).new na2).new na3)
      · have : b.to ∈ bs.map BR.to := List.mem_map.mpr ⟨b, hb2, rfl⟩
        rw [em] at this
        exact tk_mem hs _ _ (by rw [← ets]; exact htt.mem_iff.mp this)
      · rw [em, htt.count_eq, ets, tk_count, if_pos (List.getElem?_eq_some_iff.mp hk).1]
        unfold nd
        rw [hk]
        have := ok.nz h (List.mem_of_getElem? hk)
        show (((needs h.wd).toNat : Nat) : Int) = needs h.wd
        omega
  case tail1 =>
    rintro D' σ' H1 ⟨eD, hh, rk, gv, xs, hs, is, gs, rfl, I1, ok, hrk, lis, hgv, gne, glen, gok, nrk, ngv⟩
    refine ⟨(by show 0 ≤ sizeLine; decide), fun tk ntk => ?_⟩
    have I2 := I1.new (o := .lst []) ntk
    have hx : xs.length = hs.length := I1.al.length
    refine ⟨_, rfl, hh, _, rfl, .inl (SqL.of I2.lh), _, rfl, by omega, (by rw [hx]; have := ok.len; omega), for_range (lo := 0) (n := xs.length) (fun i σ H2 => ∃ (tk : Addr) (v5 : Option V), σ = [some (.ref f), some (.int m), some (.ref hh), some (.ref rk), some (.ref gv), v5, some (.ref tk), none, none, none, none] ∧ RI f c hh H H2 xs hs ∧ H2 rk = some (.lst (is.map V.int)) ∧ H2 gv = some (.lst (gs.map nV)) ∧ tk ≠ f ∧ H2 tk = some (.lst ((tkTo hs i).map nV)))
      ⟨tk, none, rfl, I2, same_new ntk _ _ hrk, same_new ntk _ _ hgv, I1.fl.ne ntk, upd_same⟩ ?_ ?_⟩
    · rintro i σ H2 hi ⟨tk, v5, rfl, I3, hrk3, hgv3, tf, htk⟩
      have eh : hs[i]? = some hs[i] := List.getElem?_eq_getElem (by omega)
      obtain ⟨x, ex, ⟨t, r, rfl, e1, e2⟩⟩ := I3.al.get eh
      have z0 := ok.nz _ (List.mem_of_getElem? eh)
      have zs : needs hs[i].wd ≤ 3 := by
        unfold needs
        split
        · decide
        · split
          · decide
          · split <;> decide
      have sz : (tkTo hs i).length ≤ 20 := by
        have a := tk_len hs ok.nz i (by omega)
        have b : ((hs.take i).map fun h => needs h.wd).sum ≤ (hs.map fun h => needs h.wd).sum := by
          have e : hs.map (fun h => needs h.wd) = (hs.take i).map (fun h => needs h.wd) ++ (hs.drop i).map (fun h => needs h.wd) := by rw [← List.map_append, List.take_append_drop]
          rw [e, List.sum_append]
          have : 0 ≤ ((hs.drop i).map fun h => needs h.wd).sum := by
            have hz : ∀ h ∈ hs.drop i, 0 ≤ needs h.wd := fun h hh => ok.nz h (List.mem_of_mem_drop hh)
            revert hz
            generalize hs.drop i = l
            intro hz
            induction l with
            | nil => decide
            | cons a l ih =>
              have := hz a (List.mem_cons_self ..)
              have := ih fun h hh => hz h (List.mem_cons_of_mem _ hh)
              rw [List.map_cons, List.sum_cons]
              omega
          omega
        have := ok.sum
        omega
      refine ⟨_, rfl, _, rfl, (by show 1 ≤ sizeLine; decide), fun l1 nl1 => ?_⟩
      have I4 := I3.new (o := .lst [V.int (0 + ((i : Nat) : Int))]) nl1
      refine ⟨_, rfl, _, rfl, hh, _, _, _, rfl, rfl, SqL.of I4.lh, at0 ex, t, _, _, _, rfl, rfl, SqT.of (same_new nl1 _ _ e1), atI_nat (j := 0) rfl, r, hs[i].wd, _, rfl, SqT.of (same_new nl1 _ _ e2), fun H5 s5 => ?_⟩
      have I5 := I4.same s5
      have g1 := s5 _ _ upd_same
      have g2 := s5 _ _ (same_new nl1 _ _ htk)
      refine ⟨l1, _, _, rfl, rfl, g1, by omega, by omega, little (by show 1 * (needs hs[i].wd).toNat ≤ 1000; omega), fun l2 nl2 => ?_⟩
      rw [flat_rep]
      have I6 := I5.new (o := .lst (List.replicate (needs hs[i].wd).toNat (V.int (0 + ((i : Nat) : Int))))) nl2
      refine ⟨tk, l2, _, _, rfl, rfl, same_new nl2 _ _ g2, upd_same, ?_, fun l3 nl3 => ?_⟩
      · rw [List.length_map, List.length_replicate]; exact little (by omega)
      refine ⟨l3, _, rfl, I6.new nl3, same_new nl3 _ _ (same_new nl2 _ _ (s5 _ _ (same_new nl1 _ _ hrk3))), same_new nl3 _ _ (same_new nl2 _ _ (s5 _ _ (same_new nl1 _ _ hgv3))), I6.fl.ne nl3, ?_⟩
      rw [upd_same]
      have e : nd hs i = (needs hs[i].wd).toNat := by unfold nd; rw [eh]
      rw [show tkTo hs (i + 1) = tkTo hs i ++ List.replicate (nd hs i) i from rfl, List.map_append, List.map_replicate, e, Int.zero_add]
    · rintro σ H2 ⟨tk, v5, rfl, I3, hrk3, hgv3, tf, htk⟩
      exact ⟨eD, hh, rk, gv, tk, xs, hs, is, gs, _, v5, rfl, I3, ok, hrk3, lis, hgv3, gne, glen, gok, nrk, ngv, tf, htk, by rw [hx]⟩
  refine ⟨_, rfl, _, rfl, _, rfl, f, c, m, rfl, by omega, hm9, hF, fun v1 H1 a1 b1 F1 B1 => ?_⟩
  refine ⟨_, _, rfl, rfl, f, c, _, rfl, by omega, by omega, F1, fun hh xs hs H2 nhh hhh al ok F2 B2 => ?_⟩
  have hx : xs.length = hs.length := al.length
  have len12 := ok.len
  have nf : hh ≠ f := F1.ne nhh
  have I2 : RI f c hh H H2 xs hs := ⟨F2, B1.trans B2, hhh, al, nf, B1.none nhh nf⟩
  -- ranks
  refine ⟨_, rfl, _, rfl, hh, _, rfl, .inl (SqL.of I2.lh), _, rfl, ⟨by omega, by omega, by omega, by omega, by omega⟩, fun rg nrg => ?_⟩
  have I3 := I2.new (o := .lst (rgV 0 ((xs.length : Nat) : Int))) nrg
  refine ⟨f, c, rg, _, rfl, SqL.of upd_same, I2.fl.ne nrg, ?_, I3.fl, fun rk ys H4 hp nrk hrk F4 B4 => ?_⟩
  · rw [rgV_length]; omega
  have erg : rgV 0 ((xs.length : Nat) : Int) = ((List.range xs.length).map fun i => ((i : Nat) : Int)).map V.int := by
    unfold rgV
    rw [List.map_map, show (((xs.length : Nat) : Int) - 0).toNat = xs.length by omega]
    refine List.map_congr_left fun i _ => ?_
    show V.int (0 + ((i : Nat) : Int)) = V.int ((i : Nat) : Int)
    rw [Int.zero_add]
  rw [erg] at hp
  obtain ⟨is, rfl, his⟩ := perm_inv (f := V.int) (g := unI) (fun _ => rfl) hp
  have lis : is.length = hs.length := by rw [his.length_eq, List.length_map, List.length_range, hx]
  have I4 := I3.but F4 B4
  have rkf : rk ≠ f := I3.fl.ne nrk
  -- givers
  refine ⟨_, rfl, hh, _, rfl, .inl (SqL.of I4.lh), _, rfl, by omega, by omega, fun D nD => lc_range (lo := 0) (n := xs.length) (fun i H5 => ∃ gs : List Nat, H5 D = some (.lst (gs.map nV)) ∧ gs.length ≤ i ∧ RI f c hh H H5 xs hs ∧ H5 rk = some (.lst (is.map V.int)) ∧ (∀ k ∈ gs, ∃ h, hs[k]? = some h ∧ h.wd ≠ "out") ∧ (∀ k h, k < i → hs[k]? = some h → h.wd ≠ "out" → gs ≠ []) ∧ D ≠ f ∧ D ≠ c ∧ D ≠ hh ∧ D ≠ rk ∧ H D = Option.none)
    ⟨[], upd_same, Nat.le_refl _, I4.new nD, same_new nD _ _ hrk, (fun _ h => nomatch h), (fun k h hk => absurd hk (Nat.not_lt_zero _)), I4.fl.ne nD, I4.fl.nec nD, (ne_of_none I4.lh nD).symm, (ne_of_none hrk nD).symm, I4.bt.none nD (I4.fl.ne nD)⟩ ?_ ?_⟩
  · rintro i H5 hi ⟨gs, hD, lg, I5, hrk5, g1, g2, d1, d2, d3, d4, d5⟩
    have eh : hs[i]? = some hs[i] := List.getElem?_eq_getElem (by omega)
    obtain ⟨x, ex, ⟨t, r, rfl, e1, e2⟩⟩ := I5.al.get eh
    have gh := ok.good _ (List.mem_of_getElem? eh)
    refine ⟨rfl, _, rfl, _, rfl, hh, _, _, _, rfl, rfl, SqL.of I5.lh, at0 ex, t, _, _, _, rfl, rfl, SqT.of e1, atI_nat (j := 0) rfl, (by show 1 ≤ sizeLine; decide), fun o1 no1 => ?_⟩
    have I6 := I5.new (o := .tup [V.str "out"]) no1
    have hD6 : (upd H5 o1 (.tup [V.str "out"])) D = some (.lst (gs.map nV)) := same_new no1 _ _ hD
    refine ⟨_, _, rule_dp (same_new no1 _ _ e2), .tup (SqT.of upd_same) (.cons (.str _) .nil), rule_shaped gh.lay, one_shaped (by decide +kernel), _, rfl, ?_⟩
    rw [rule_eqv, gh.door "out" (.inr rfl)]
    by_cases k : hs[i].wd = "out"
    · rw [decide_eq_true k]
      refine if_bl (fun z => absurd z (by decide)) (fun _ => ⟨gs, hD6, by omega, I6, same_new no1 _ _ hrk5, g1, fun k' h' hk hk2 hk3 => ?_, d1, d2, d3, d4, d5⟩)
      by_cases y : k' = i
      · subst y
        rw [eh] at hk2
        cases hk2
        exact absurd k hk3
      · exact g2 k' h' (by omega) hk2 hk3
    · rw [decide_eq_false k]
      refine if_bl (fun _ => ⟨_, rfl, _, hD6, ?_, gs ++ [i], ?_, ?_, I6.lst hD6 d1 d2 d3 d5, ?_, ?_, fun _ _ _ _ _ z => by simp at z, d1, d2, d3, d4, d5⟩) (fun z => absurd z (by decide))
      · rw [List.length_map]; exact small1000 (by omega)
      · rw [upd_same, List.map_append, Int.zero_add]; rfl
      · rw [List.length_append]; show gs.length + 1 ≤ i + 1; omega
      · rw [upd_ne d4.symm]; exact same_new no1 _ _ hrk5
      · intro k' hk
        rcases List.mem_append.mp hk with hk | hk
        · exact g1 k' hk
        · obtain rfl : k' = i := by simpa using hk
          exact ⟨_, eh, k⟩
  · rintro H5 ⟨gs, hD, lg, I5, hrk5, g1, g2, d1, d2, d3, d4, d5⟩
    obtain ⟨h1, hm1, hm2⟩ := ok.one
    obtain ⟨k1, hk1⟩ := List.getElem?_of_mem hm1
    have k1l := (List.getElem?_eq_some_iff.mp hk1).1
    exact ⟨rfl, hh, rk, D, xs, hs, is, gs, rfl, I5, ok, hrk5, lis, hD, g2 k1 h1 (by omega) hk1 hm2, by omega, g1, rkf, d1⟩
end
/-! ### the order of work -/
/-- the belts without trays, their ends -/
def looseOf (bs : List BR) : List (Nat × Nat) := (bs.filter fun b => b.th.isEmpty).map fun b => (b.one, b.to)
def free (ls : List (Nat × Nat)) (left : List Nat) (k : Nat) : Prop := ∀ p ∈ ls, p.2 = k → p.1 ∉ left
/-- each stands as soon as it can -/
inductive Soon (ls : List (Nat × Nat)) : List Nat → List Nat → Prop
  | nil : Soon ls [] []
  | cons {left ord : List Nat} {k : Nat} : k ∈ left → free ls left k → (∀ j ∈ left, free ls left j → k ≤ j) → Soon ls (left.erase k) ord → Soon ls left (k :: ord)
def cN (p : Nat × Nat → Bool) (l : List (Nat × Nat)) : Int := ((l.filter p).length : Nat)
theorem cN_snoc (p : Nat × Nat → Bool) (l : List (Nat × Nat)) (x : Nat × Nat) : cN p (l ++ [x]) = cN p l + (if p x = true then 1 else 0) := by
  unfold cN
  rw [List.filter_append, List.length_append]
  cases h : p x <;> simp [h]
theorem cN_zero {p : Nat × Nat → Bool} {l : List (Nat × Nat)} : cN p l = 0 ↔ ∀ x ∈ l, p x = false := by
  unfold cN
  constructor
  · intro h x hx
    have e : (l.filter p).length = 0 := by omega
    have e2 := List.eq_nil_of_length_eq_zero e
    cases k : p x with
    | false => rfl
    | true =>
      have : x ∈ l.filter p := List.mem_filter.mpr ⟨hx, k⟩
      rw [e2] at this
      cases this
  · intro h
    have e : l.filter p = [] := List.filter_eq_nil_iff.mpr fun x hx => by rw [h x hx]; decide
    rw [e]
    rfl
abbrev owing (left : List Nat) (k : Nat) : Nat × Nat → Bool := fun p => decide (p.2 = k) && decide (p.1 ∈ left)
theorem owing_free {ls : List (Nat × Nat)} {left : List Nat} {k : Nat} : cN (owing left k) ls = 0 ↔ free ls left k := by
  rw [cN_zero]
  constructor
  · intro h p hp e1 e2
    have := h p hp
    have this : (decide (p.2 = k) && decide (p.1 ∈ left)) = false := this
    rw [decide_eq_true e1, decide_eq_true e2] at this
    cases this
  · intro h p hp
    show (decide (p.2 = k) && decide (p.1 ∈ left)) = false
    by_cases e1 : p.2 = k
    · rw [decide_eq_false (h p hp e1), Bool.and_false]
    · rw [decide_eq_false e1, Bool.false_and]
theorem cN_erase {ls : List (Nat × Nat)} {left : List Nat} {k r : Nat} (nd : left.Nodup) (hr : r ∈ left) : cN (owing left k) ls - cN (fun p => decide (p.1 = r) && decide (p.2 = k)) ls = cN (owing (left.erase r) k) ls := by
  induction ls with
  | nil => rfl
  | cons x l ih =>
    have e : ∀ q : Nat × Nat → Bool, cN q (x :: l) = (if q x = true then 1 else 0) + cN q l := fun q => by
      unfold cN
      rw [List.filter_cons]
      cases h : q x <;> simp [h] <;> omega
    have h1 : x.1 ∈ left.erase r ↔ x.1 ≠ r ∧ x.1 ∈ left := nd.mem_erase_iff
    have key : (if owing left k x = true then (1 : Int) else 0) - (if (decide (x.1 = r) && decide (x.2 = k)) = true then 1 else 0) = (if owing (left.erase r) k x = true then 1 else 0) := by
      by_cases a : x.2 = k
      · by_cases b : x.1 = r
        · have d : ¬ r ∈ left.erase r := fun z => (nd.mem_erase_iff.mp z).1 rfl
          simp [owing, a, b, hr, d]
        · by_cases c : x.1 ∈ left
          · have d : x.1 ∈ left.erase r := h1.mpr ⟨b, c⟩
            simp [owing, a, b, c, d]
          · have d : ¬ x.1 ∈ left.erase r := fun z => c (h1.mp z).2
            simp [owing, a, b, c, d]
      · simp [owing, a]
    rw [e, e, e, ← ih]
    omega
/-- some hand is free, where the belts without trays go up -/
theorem some_free {ls : List (Nat × Nat)} {rk : Nat → Int} (hr : ∀ p ∈ ls, rk p.1 < rk p.2) : ∀ {left : List Nat}, left ≠ [] → ∃ k ∈ left, free ls left k := by
  have low : ∀ left : List Nat, left ≠ [] → ∃ k ∈ left, ∀ j ∈ left, rk k ≤ rk j := by
    intro left
    induction left with
    | nil => intro h; exact absurd rfl h
    | cons a l ih =>
      intro _
      cases l with
      | nil => exact ⟨a, by simp, fun j hj => by have : j = a := by simpa using hj
                                                 rw [this]; exact Int.le_refl _⟩
      | cons b l =>
        obtain ⟨k, hk, h⟩ := ih (by simp)
        by_cases c : rk a ≤ rk k
        · exact ⟨a, by simp, fun j hj => by
            rcases List.mem_cons.mp hj with e | e
            · rw [e]; exact Int.le_refl _
            · exact Int.le_trans c (h j e)⟩
        · exact ⟨k, List.mem_cons_of_mem _ hk, fun j hj => by
            rcases List.mem_cons.mp hj with e | e
            · rw [e]; omega
            · exact h j e⟩
  intro left hl
  obtain ⟨k, hk, h⟩ := low left hl
  refine ⟨k, hk, fun p hp e hm => ?_⟩
  have h1 := h _ hm
  have h2 := hr p hp
  rw [e] at h2
  omega
theorem erase_map {α β : Type} (f : α → β) : ∀ (l : List α) (j : Nat), (l.map f).eraseIdx j = (l.eraseIdx j).map f
  | [], _ => rfl
  | _ :: _, 0 => rfl
  | a :: l, j + 1 => congrArg (f a :: ·) (erase_map f l j)
abbrev fL (n : Nat) (F : Nat → Int) : List V := (List.range n).map fun k => V.int (F k)
theorem fL_get {n k : Nat} {F : Nat → Int} (h : k < n) : (fL n F)[k]? = some (.int (F k)) := by
  rw [List.getElem?_map, List.getElem?_range h]; rfl
theorem fL_set {n k : Nat} {F : Nat → Int} {z : Int} : (fL n F).set k (.int z) = fL n fun j => if j = k then z else F j := by
  apply List.ext_getElem?
  intro i
  rw [List.getElem?_set]
  by_cases h : i < n
  · rw [fL_get h, fL_get h]
    by_cases e : k = i
    · subst e
      rw [if_pos rfl, if_pos rfl, if_pos (by rw [List.length_map, List.length_range]; exact h)]
    · rw [if_neg e, if_neg (fun z => e z.symm)]
  · have h1 : (fL n F)[i]? = none := List.getElem?_eq_none (by rw [List.length_map, List.length_range]; omega)
    have h2 : (fL n fun j => if j = k then z else F j)[i]? = none := List.getElem?_eq_none (by rw [List.length_map, List.length_range]; omega)
    rw [h1, h2]
    by_cases e : k = i
    · rw [if_pos e, if_neg (by rw [List.length_map, List.length_range]; omega)]
    · rw [if_neg e]
/-! ### what rules make, bells -/
def mk2 (wd : Str) (a b : Int) : Int :=
  if wd = "sum" then a + b else if wd = "gap" then a - b else if wd = "below" then (if a < b then 1 else 0) else if wd = "most" then (if b > a then b else a) else (if b < a then b else a)
def mk (wd : Str) (n a b c : Int) : Int :=
  if wd = "always" then n else if wd = "times" then n * a else if wd = "pick" then (if a = 0 then c else b) else if wd = "same" ∨ wd = "out" then a else mk2 wd a b
def mkR (h : HR) (xs : List Int) : Int := mk h.wd (h.no.getD 0) (xs.getD 0 0) (xs.getD 1 0) (xs.getD 2 0)
/-- the hands whose rule is this door's -/
def doorsOf (z : Str) (hs : List HR) : List Nat := (List.range hs.length).filter fun i => decide (hs[i]?.map HR.wd = some z)
theorem mem_doors {z : Str} {hs : List HR} {k : Nat} : k ∈ doorsOf z hs ↔ ∃ h, hs[k]? = some h ∧ h.wd = z := by
  unfold doorsOf
  rw [List.mem_filter, List.mem_range, decide_eq_true_eq]
  constructor
  · rintro ⟨a, b⟩
    rw [List.getElem?_eq_getElem a] at b
    exact ⟨_, List.getElem?_eq_getElem a, Option.some.inj b⟩
  · rintro ⟨h, a, b⟩
    refine ⟨(List.getElem?_eq_some_iff.mp a).1, ?_⟩
    rw [a, ← b]
    rfl
theorem doors_nodup {z : Str} {hs : List HR} : (doorsOf z hs).Nodup := List.nodup_range.filter _
theorem doors_len {z : Str} {hs : List HR} : (doorsOf z hs).length ≤ hs.length := by
  refine Nat.le_trans (List.length_filter_le ..) ?_
  rw [List.length_range]
  exact Nat.le_refl _
abbrev gD (m : List Int) (k : Nat) : Int := m.getD k 0
def valB (f : Nat → Int) (b : BR) : Int := match b.th with | [] => f b.one | x :: _ => x
def takes (cur : List BR) (f : Nat → Int) (k : Nat) : List Int := (cur.filter fun b => decide (b.to = k)).map (valB f)
theorem valB_nil {f : Nat → Int} {b : BR} (h : b.th = []) : valB f b = f b.one := by unfold valB; rw [h]
theorem takes_ext {cur : List BR} {f g : Nat → Int} {k : Nat} (h : ∀ b ∈ cur, b.to = k → b.th = [] → f b.one = g b.one) : takes cur f k = takes cur g k := by
  unfold takes
  refine List.map_congr_left fun b hb => ?_
  have hb := List.mem_filter.mp hb
  cases e : b.th with
  | nil => rw [valB_nil e, valB_nil e]; exact h b hb.1 (of_decide_eq_true hb.2) e
  | cons x l => unfold valB; rw [e]
structure IsBell (hs : List HR) (cur : List BR) (ins m : List Int) : Prop where
  len : m.length = hs.length
  door : ∀ j k : Nat, (doorsOf "in" hs)[j]? = some k → m[k]? = ins[j]?
  hand : ∀ (k : Nat) (h : HR), hs[k]? = some h → h.wd ≠ "in" → m[k]? = some (mkR h (takes cur (gD m) k))
theorem mem_loose {cur : List BR} {b : BR} (h : b ∈ cur) (e : b.th = []) : (b.one, b.to) ∈ looseOf cur := List.mem_map.mpr ⟨b, List.mem_filter.mpr ⟨h, by rw [e]; rfl⟩, rfl⟩
theorem bell_one {hs : List HR} {cur : List BR} {ins m m' : List Int} {rk : Nat → Int} (hr : ∀ p ∈ looseOf cur, rk p.1 < rk p.2) (a : IsBell hs cur ins m) (b : IsBell hs cur ins m') : m = m' := by
  have off : ∀ k, ¬ k < hs.length → m[k]? = m'[k]? := fun k hk => by
    rw [List.getElem?_eq_none (by have := a.len; omega), List.getElem?_eq_none (by have := b.len; omega)]
  obtain ⟨D, hD⟩ : ∃ D, D = (List.range hs.length).filter fun k => decide (m[k]? ≠ m'[k]?) := ⟨_, rfl⟩
  have mD : ∀ k, k ∉ D → m[k]? = m'[k]? := fun k hk => by
    by_cases l : k < hs.length
    · by_cases e : m[k]? = m'[k]?
      · exact e
      · refine absurd ?_ hk
        rw [hD, List.mem_filter]
        exact ⟨List.mem_range.mpr l, decide_eq_true e⟩
    · exact off k l
  by_cases e : D = []
  · refine List.ext_getElem? fun k => mD k ?_
    rw [e]
    exact fun z => nomatch z
  · exfalso
    obtain ⟨k, hk, fr⟩ := some_free hr e
    have hk2 := hk
    rw [hD, List.mem_filter] at hk2
    have kl := List.mem_range.mp hk2.1
    have ne : m[k]? ≠ m'[k]? := of_decide_eq_true hk2.2
    have eh : hs[k]? = some hs[k] := List.getElem?_eq_getElem kl
    by_cases w : hs[k].wd = "in"
    · obtain ⟨j, hj⟩ := List.getElem?_of_mem (mem_doors.mpr ⟨_, eh, w⟩)
      exact ne ((a.door j k hj).trans (b.door j k hj).symm)
    · refine ne ((a.hand k _ eh w).trans ((b.hand k _ eh w).trans ?_).symm)
      rw [takes_ext (g := gD m) fun c hc et en => ?_]
      have := mD c.one (fr _ (mem_loose hc en) et)
      show m'.getD c.one 0 = m.getD c.one 0
      rw [List.getD_eq_getElem?_getD, List.getD_eq_getElem?_getD, this]
/-- what some hands have made already -/
structure Part (hs : List HR) (cur : List BR) (ins : List Int) (pm : Nat → Option Int) : Prop where
  dom : ∀ k v, pm k = some v → k < hs.length
  door : ∀ j k : Nat, (doorsOf "in" hs)[j]? = some k → pm k = ins[j]?
  hand : ∀ (k : Nat) (h : HR) (v : Int), hs[k]? = some h → h.wd ≠ "in" → pm k = some v → v = mkR h (takes cur (fun j => (pm j).getD 0) k) ∧ ∀ b ∈ cur, b.to = k → b.th = [] → (pm b.one).isSome = true
abbrev putM (pm : Nat → Option Int) (k : Nat) (v : Int) : Nat → Option Int := fun j => if j = k then some v else pm j
theorem Part.put {hs : List HR} {cur : List BR} {ins : List Int} {pm : Nat → Option Int} (p : Part hs cur ins pm) {k : Nat} {h : HR} (eh : hs[k]? = some h) (w : h.wd ≠ "in") (new : pm k = none)
    (there : ∀ b ∈ cur, b.to = k → b.th = [] → (pm b.one).isSome = true) : Part hs cur ins (putM pm k (mkR h (takes cur (fun j => (pm j).getD 0) k))) := by
  have old : ∀ j, (pm j).isSome = true → ∀ v, putM pm k v j = pm j := fun j hj v => if_neg fun e => by rw [e, new] at hj; cases hj
  have same : ∀ j v, (∀ b ∈ cur, b.to = j → b.th = [] → (pm b.one).isSome = true) → takes cur (fun i => (pm i).getD 0) j = takes cur (fun i => (putM pm k v i).getD 0) j := fun j v hb => takes_ext fun b b1 b2 b3 => by
    show (pm b.one).getD 0 = (putM pm k v b.one).getD 0
    rw [old _ (hb b b1 b2 b3)]
  refine ⟨fun j v e => ?_, fun i j e => ?_, fun j h' v e1 e2 e3 => ?_⟩
  · by_cases z : j = k
    · rw [z]; exact (List.getElem?_eq_some_iff.mp eh).1
    · exact p.dom j v ((if_neg z).symm.trans e)
  · have z : j ≠ k := fun z => by
      obtain ⟨h2, q1, q2⟩ := mem_doors.mp (List.mem_of_getElem? e)
      rw [z, eh] at q1
      cases q1
      exact w q2
    exact (if_neg z).trans (p.door i j e)
  · by_cases z : j = k
    · subst z
      rw [eh] at e1
      cases e1
      have e4 := Option.some.inj ((if_pos rfl).symm.trans e3)
      refine ⟨?_, fun b b1 b2 b3 => ?_⟩
      · exact e4.symm.trans (congrArg (mkR h) (same _ _ there))
      · rw [old _ (there b b1 b2 b3)]
        exact there b b1 b2 b3
    · have e4 : pm j = some v := (if_neg z).symm.trans e3
      obtain ⟨q1, q2⟩ := p.hand j h' v e1 e2 e4
      refine ⟨?_, fun b b1 b2 b3 => ?_⟩
      · exact q1.trans (congrArg (mkR h') (same _ _ q2))
      · rw [old _ (q2 b b1 b2 b3)]
        exact q2 b b1 b2 b3
abbrev fullM (n : Nat) (pm : Nat → Option Int) : List Int := (List.range n).map fun k => (pm k).getD 0
theorem fullM_get {n k : Nat} {pm : Nat → Option Int} (h : k < n) : (fullM n pm)[k]? = some ((pm k).getD 0) := by
  rw [List.getElem?_map, List.getElem?_range h]; rfl
theorem Part.full {hs : List HR} {cur : List BR} {ins : List Int} {pm : Nat → Option Int} (p : Part hs cur ins pm) (all : ∀ k, k < hs.length → (pm k).isSome = true) : IsBell hs cur ins (fullM hs.length pm) := by
  have at_ : ∀ k, k < hs.length → ∃ v, pm k = some v ∧ (fullM hs.length pm)[k]? = some v := fun k hk => by
    obtain ⟨v, hv⟩ := Option.isSome_iff_exists.mp (all k hk)
    exact ⟨v, hv, by rw [fullM_get hk, hv]; rfl⟩
  refine ⟨by rw [List.length_map, List.length_range], fun j k e => ?_, fun k h e w => ?_⟩
  · obtain ⟨h, q, _⟩ := mem_doors.mp (List.mem_of_getElem? e)
    obtain ⟨v, e1, e2⟩ := at_ k (List.getElem?_eq_some_iff.mp q).1
    rw [e2, ← e1]
    exact p.door j k e
  · obtain ⟨v, e1, e2⟩ := at_ k (List.getElem?_eq_some_iff.mp e).1
    obtain ⟨q1, q2⟩ := p.hand k h v e w e1
    rw [e2, q1]
    congr 2
    refine takes_ext fun b b1 b2 b3 => ?_
    obtain ⟨x, hx⟩ := Option.isSome_iff_exists.mp (q2 b b1 b2 b3)
    obtain ⟨y, e3, e4⟩ := at_ b.one (p.dom _ _ hx)
    show (pm b.one).getD 0 = (fullM hs.length pm).getD b.one 0
    rw [List.getD_eq_getElem?_getD, e4, e3]
/-! ### the dict of what was made -/
abbrev kN (k : Nat) : Key := .inl ((k : Nat) : Int)
def DM (kvs : List (Key × V)) (pm : Nat → Option Int) : Prop := ∀ k : Nat, valV kvs (kN k) = (pm k).map V.int
theorem kN_inj {a b : Nat} (h : kN a = kN b) : a = b := by
  have : ((a : Nat) : Int) = ((b : Nat) : Int) := Sum.inl.inj h
  omega
theorem DM.put {kvs : List (Key × V)} {pm : Nat → Option Int} (d : DM kvs pm) (k : Nat) (v : Int) : DM (putK kvs (kN k) (.int v)) (putM pm k v) := fun j => by
  rw [valV_put]
  by_cases e : j = k
  · subst e
    rw [if_pos rfl, show putM pm j v j = some v from if_pos rfl]
    rfl
  · rw [if_neg fun z => e (kN_inj z), show putM pm k v j = pm j from if_neg e]
    exact d j
theorem merge_off {k : Nat} : ∀ (ks : List Nat) (xs : List Int) (acc : List (Key × V)), k ∉ ks → valV (mergeK acc ((ks.map kN).zip (xs.map V.int))) (kN k) = valV acc (kN k)
  | [], _, _, _ => rfl
  | _ :: _, [], _, _ => rfl
  | a :: ks, x :: xs, acc, h => by
    have h1 : k ≠ a := fun e => h (by rw [e]; exact List.mem_cons_self ..)
    have h2 : k ∉ ks := fun e => h (List.mem_cons_of_mem _ e)
    show valV (mergeK (putK acc (kN a) (V.int x)) ((ks.map kN).zip (xs.map V.int))) (kN k) = _
    rw [merge_off ks xs _ h2, valV_put, if_neg fun z => h1 (kN_inj z)]
theorem merge_on {k : Nat} {v : Int} : ∀ (ks : List Nat) (xs : List Int) (acc : List (Key × V)) (j : Nat), ks.Nodup → ks[j]? = some k → xs[j]? = some v → valV (mergeK acc ((ks.map kN).zip (xs.map V.int))) (kN k) = some (.int v)
  | [], _, _, _, _, h, _ => nomatch h
  | _ :: _, [], _, _, _, _, h => nomatch h
  | a :: ks, x :: xs, acc, 0, nd, h1, h2 => by
    cases h1
    cases h2
    show valV (mergeK (putK acc (kN k) (V.int v)) ((ks.map kN).zip (xs.map V.int))) (kN k) = _
    rw [merge_off ks xs _ (List.nodup_cons.mp nd).1, valV_put, if_pos rfl]
  | a :: ks, x :: xs, acc, j + 1, nd, h1, h2 => merge_on ks xs _ j (List.nodup_cons.mp nd).2 h1 h2
/-- what the in doors have made -/
def doorM (hs : List HR) (ins : List Int) : Nat → Option Int := fun k => if k ∈ doorsOf "in" hs then ins[(doorsOf "in" hs).idxOf k]? else none
theorem idx_at {l : List Nat} (nd : l.Nodup) {j k : Nat} (h : l[j]? = some k) : l.idxOf k = j := by
  have jl := (List.getElem?_eq_some_iff.mp h).1
  have m := List.mem_of_getElem? h
  have il := List.idxOf_lt_length_of_mem m
  exact (List.getElem_inj nd (h₀ := il) (h₁ := jl)).mp ((List.getElem_idxOf il).trans (List.getElem?_eq_some_iff.mp h).2.symm)
theorem doorM_dm {hs : List HR} {ins : List Int} (hl : ins.length = (doorsOf "in" hs).length) : DM (mergeK [] (((doorsOf "in" hs).map kN).zip (ins.map V.int))) (doorM hs ins) := fun k => by
  unfold doorM
  by_cases e : k ∈ doorsOf "in" hs
  · rw [if_pos e]
    have il := List.idxOf_lt_length_of_mem e
    have e1 : (doorsOf "in" hs)[(doorsOf "in" hs).idxOf k]? = some k := by rw [List.getElem?_eq_getElem il, List.getElem_idxOf]
    have e2 : ins[(doorsOf "in" hs).idxOf k]? = some ins[(doorsOf "in" hs).idxOf k] := List.getElem?_eq_getElem (by omega)
    rw [merge_on _ _ _ _ doors_nodup e1 e2, e2]
    rfl
  · rw [if_neg e, merge_off _ _ _ e]
    rfl
theorem doorM_part {hs : List HR} {cur : List BR} {ins : List Int} : Part hs cur ins (doorM hs ins) := by
  refine ⟨fun k v e => ?_, fun j k e => ?_, fun k h v e w e2 => ?_⟩
  · unfold doorM at e
    by_cases m : k ∈ doorsOf "in" hs
    · obtain ⟨h, q, _⟩ := mem_doors.mp m
      exact (List.getElem?_eq_some_iff.mp q).1
    · rw [if_neg m] at e
      cases e
  · unfold doorM
    rw [if_pos (List.mem_of_getElem? e), idx_at doors_nodup e]
  · unfold doorM at e2
    rw [if_neg fun m => by
      obtain ⟨h2, q1, q2⟩ := mem_doors.mp m
      rw [e] at q1
      cases q1
      exact w q2] at e2
    cases e2
theorem doorM_all {hs : List HR} {ins : List Int} (hl : ins.length = (doorsOf "in" hs).length) {k : Nat} {h : HR} (e : hs[k]? = some h) (w : h.wd = "in") : (doorM hs ins k).isSome = true := by
  have m := mem_doors.mpr ⟨h, e, w⟩
  unfold doorM
  rw [if_pos m]
  have il := List.idxOf_lt_length_of_mem m
  rw [List.getElem?_eq_getElem (by omega)]
  rfl
/-! ### belts as they stand behind some bells -/
def nextB (m : List Int) (b : BR) : BR := if b.th = [] then b else ⟨b.one, b.to, b.th.drop 1 ++ [gD m b.one]⟩
def standB (ms : List (List Int)) (b : BR) : BR := if b.th = [] then b else ⟨b.one, b.to, (b.th ++ ms.map fun m => gD m b.one).drop ms.length⟩
abbrev stand (bs : List BR) (ms : List (List Int)) : List BR := bs.map (standB ms)
theorem stand_one (ms : List (List Int)) (b : BR) : (standB ms b).one = b.one := by unfold standB; split <;> rfl
theorem stand_to (ms : List (List Int)) (b : BR) : (standB ms b).to = b.to := by unfold standB; split <;> rfl
theorem stand_len (ms : List (List Int)) (b : BR) : (standB ms b).th.length = b.th.length := by
  unfold standB
  split
  · rfl
  · rw [List.length_drop, List.length_append, List.length_map]; omega
theorem nil_len {l l' : List Int} (h : l.length = l'.length) : l = [] ↔ l' = [] := by
  cases l <;> cases l' <;> simp at h ⊢
theorem stand_th (ms : List (List Int)) (b : BR) : (standB ms b).th = [] ↔ b.th = [] := nil_len (stand_len ms b)
theorem stand_zero (bs : List BR) : stand bs [] = bs := by
  refine (List.map_congr_left (g := id) fun b _ => ?_).trans (List.map_id _)
  unfold standB
  split
  · rfl
  · show (⟨b.one, b.to, (b.th ++ []).drop 0⟩ : BR) = b
    rw [List.append_nil]
    rfl
theorem stand_next (bs : List BR) (ms : List (List Int)) (m : List Int) : (stand bs ms).map (nextB m) = stand bs (ms ++ [m]) := by
  rw [List.map_map]
  refine List.map_congr_left fun b _ => ?_
  show nextB m (standB ms b) = standB (ms ++ [m]) b
  have hn := stand_th ms b
  by_cases e : b.th = []
  · rw [show nextB m (standB ms b) = standB ms b from if_pos (hn.mpr e)]
    rw [show standB ms b = b from if_pos e, show standB (ms ++ [m]) b = b from if_pos e]
  · rw [show nextB m (standB ms b) = ⟨(standB ms b).one, (standB ms b).to, (standB ms b).th.drop 1 ++ [gD m (standB ms b).one]⟩ from if_neg fun z => e (hn.mp z)]
    rw [stand_one, stand_to, show standB ms b = ⟨b.one, b.to, (b.th ++ ms.map fun m => gD m b.one).drop ms.length⟩ from if_neg e,
      show standB (ms ++ [m]) b = ⟨b.one, b.to, (b.th ++ (ms ++ [m]).map fun m => gD m b.one).drop (ms ++ [m]).length⟩ from if_neg e]
    show (⟨b.one, b.to, ((b.th ++ ms.map fun m => gD m b.one).drop ms.length).drop 1 ++ [gD m b.one]⟩ : BR) = _
    rw [List.drop_drop, List.map_append, ← List.append_assoc, List.length_append]
    congr 1
    refine (List.drop_append_of_le_length ?_).symm
    have := List.length_pos_iff.mpr e
    rw [List.length_append, List.length_map]
    show ms.length + 1 ≤ _
    omega
theorem loose_stand (bs : List BR) (ms : List (List Int)) : looseOf (stand bs ms) = looseOf bs := by
  unfold looseOf
  induction bs with
  | nil => rfl
  | cons b bs ih =>
    have e : (standB ms b).th.isEmpty = b.th.isEmpty := by
      have h := stand_th ms b
      cases h1 : (standB ms b).th <;> cases h2 : b.th <;> simp [h1, h2] at h ⊢
    show List.map _ (List.filter _ (standB ms b :: stand bs ms)) = _
    rw [List.filter_cons, List.filter_cons, e]
    cases b.th.isEmpty
    · exact ih
    · show ((standB ms b).one, (standB ms b).to) :: _ = (b.one, b.to) :: _
      rw [ih, stand_one, stand_to]
/-- what is taken from a belt with trays -/
theorem stand_head {ms : List (List Int)} {b : BR} (f : Nat → Int) (e : b.th ≠ []) : valB f (standB ms b) = (b.th ++ ms.map fun m => gD m b.one).getD ms.length 0 := by
  have hl := stand_len ms b
  have pos := List.length_pos_iff.mpr e
  have et : (standB ms b).th = (b.th ++ ms.map fun m => gD m b.one).drop ms.length := by unfold standB; rw [if_neg e]
  unfold valB
  cases q : (standB ms b).th with
  | nil => rw [q] at hl; simp at hl; omega
  | cons x l =>
    rw [q] at et
    have : ((b.th ++ ms.map fun m => gD m b.one).drop ms.length)[0]? = some x := by rw [← et]; rfl
    rw [List.getElem?_drop, Nat.add_zero] at this
    rw [List.getD_eq_getElem?_getD, this]
    rfl
/-! ### many bells -/
structure WS (hs : List HR) (bs : List BR) (rows ms : List (List Int)) : Prop where
  len : ms.length = rows.length
  at_ : ∀ (t : Nat) (r m : List Int), rows[t]? = some r → ms[t]? = some m → IsBell hs (stand bs (ms.take t)) r m
theorem WS.nil {hs : List HR} {bs : List BR} : WS hs bs [] [] := ⟨rfl, fun t r m e => nomatch e⟩
theorem WS.snoc {hs : List HR} {bs : List BR} {rows ms : List (List Int)} {r m : List Int} (h : WS hs bs rows ms) (b : IsBell hs (stand bs ms) r m) : WS hs bs (rows ++ [r]) (ms ++ [m]) := by
  refine ⟨by rw [List.length_append, List.length_append, h.len]; rfl, fun t r' m' e1 e2 => ?_⟩
  by_cases l : t < ms.length
  · have l2 : t < rows.length := by rw [← h.len]; exact l
    rw [List.getElem?_append_left l2] at e1
    rw [List.getElem?_append_left l] at e2
    rw [List.take_append_of_le_length (Nat.le_of_lt l)]
    exact h.at_ t r' m' e1 e2
  · have tl := (List.getElem?_eq_some_iff.mp e2).1
    rw [List.length_append] at tl
    have et : t = ms.length := by simp at tl; omega
    subst et
    rw [List.getElem?_append_right (Nat.le_refl _), Nat.sub_self] at e2
    rw [h.len, List.getElem?_append_right (Nat.le_refl _), Nat.sub_self] at e1
    cases e1
    cases e2
    rw [List.take_append_of_le_length (Nat.le_refl _), List.take_length]
    exact b
theorem WS.one {hs : List HR} {bs : List BR} {rows ms ms' : List (List Int)} {rk : Nat → Int} (hr : ∀ p ∈ looseOf bs, rk p.1 < rk p.2) (a : WS hs bs rows ms) (b : WS hs bs rows ms') : ms = ms' := by
  have key : ∀ t, ms.take t = ms'.take t := by
    intro t
    induction t with
    | zero => rfl
    | succ t ih =>
      rw [List.take_add_one, List.take_add_one, ih]
      by_cases l : t < rows.length
      · have l1 : t < ms.length := by have := a.len; omega
        have l2 : t < ms'.length := by have := b.len; omega
        have e1 : ms[t]? = some ms[t] := List.getElem?_eq_getElem l1
        have e2 : ms'[t]? = some ms'[t] := List.getElem?_eq_getElem l2
        have e3 : rows[t]? = some rows[t] := List.getElem?_eq_getElem l
        have q1 := a.at_ t _ _ e3 e1
        have q2 := b.at_ t _ _ e3 e2
        rw [ih] at q1
        have := bell_one (rk := rk) (by rw [loose_stand]; exact hr) q1 q2
        rw [e1, e2, this]
      · rw [List.getElem?_eq_none (by have := a.len; omega), List.getElem?_eq_none (by have := b.len; omega)]
  have h1 := key rows.length
  rw [List.take_of_length_le (by rw [a.len]; exact Nat.le_refl _), List.take_of_length_le (by rw [b.len]; exact Nat.le_refl _)] at h1
  exact h1
theorem WS.row {hs : List HR} {bs : List BR} {rows ms : List (List Int)} (h : WS hs bs rows ms) : ∀ m ∈ ms, m.length = hs.length := fun m hm => by
  obtain ⟨t, e⟩ := List.getElem?_of_mem hm
  have tl := (List.getElem?_eq_some_iff.mp e).1
  have e3 : rows[t]? = some (rows[t]'(by rw [← h.len]; exact tl)) := List.getElem?_eq_getElem _
  exact (h.at_ t _ _ e3 e).len
/-- the belts that come to a hand -/
def comingN (bs : List BR) (k : Nat) : List Nat := (List.range bs.length).filter fun i => decide (bs[i]?.map BR.to = some k)
def outsOf (hs : List HR) (m : List Int) : List Int := (doorsOf "out" hs).map (gD m)
/-! ### a loop over any iterator, whatever its turn does -/
theorem it_loop {J : It} {n : Nat} {B : V → Hp → (Hp → Prop) → Prop} {H0 : Hp} {Qd : Hp → Prop} (Pv : Nat → Hp → Prop) (h0 : Pv 0 H0) (go : ∀ i H, i < n → Pv i H → J.go i H) (st : ∀ H, Pv n H → J.stop n H)
    (hs : ∀ i x H H', i < n → Pv i H → J.yld i H x H' → B x H' (Pv (i + 1))) (hd : ∀ H, Pv n H → Qd H) :
    ∃ W : Nat → Nat → Hp → Prop, (∃ m, W 0 m H0) ∧ ∀ i m H, W i m H → (J.stop i H ∧ Qd H) ∨ (J.go i H ∧ ∃ Nx : Hp → Prop, (∀ H', Nx H' → ∃ m', m' < m ∧ W (i + 1) m' H') ∧ ∀ x H', J.yld i H x H' → B x H' Nx) := by
  refine ⟨fun i m H => i + m = n ∧ Pv i H, ⟨n, by omega, h0⟩, fun i m H ⟨e, p⟩ => ?_⟩
  by_cases k : i < n
  · exact .inr ⟨go i H k p, Pv (i + 1), fun H' p' => ⟨m - 1, by omega, by omega, p'⟩, fun x H' y => hs i x H H' k p y⟩
  · have z : i = n := by omega
    subst z
    exact .inl ⟨st H p, hd H p⟩
theorem r_at0 {xs : List V} {k : Nat} {x : V} (h : xs[k]? = some x) : atI xs (0 + (k : Int)) = some x := by
  rw [Int.zero_add]
  exact atI_nat h
theorem filt_succ {p : Nat → Bool} (i : Nat) : (List.range (i + 1)).filter p = (List.range i).filter p ++ (if p i = true then [i] else []) := by
  rw [List.range_succ, List.filter_append]
  cases h : p i <;> simp [h]
theorem filt_len {p : Nat → Bool} (i : Nat) : ((List.range i).filter p).length ≤ i := by
  refine Nat.le_trans (List.length_filter_le ..) ?_
  rw [List.length_range]
  exact Nat.le_refl _
section
variable {P : Program} {w : World} {K : PySem.W.Frag} {mg : Str → Option Value} {base : Heap}
def sp_made_of_two (K : PySem.W.Frag) : Sp := fun vs H Q _ => ∃ (wd : Str) (a b : Int), vs = [.str wd, .int a, .int b] ∧ Q (.int (mk2 wd a b)) H
theorem ok_made_of_two {f : Addr} {fd : FuncData} (F : Fun K "made_of_two" "made_of_two" s_made_of_two f fd) {C : Addr} (T : Top K mg C) : FnOk P w K mg base CX0 1 f fd ["word", "one", "other"] (sp_made_of_two K) := by
  refine F.ok sc_made_of_two (fun vs H Q E h => ?_) (fun cdv A outer s H vs Q E hr h => ?_)
  · obtain ⟨wd, a, b, rfl, _⟩ := h
    rfl
  obtain ⟨wd, a, b, rfl, q⟩ := h
  unfold mk2 at q
  refine ⟨_, (pss_cons (ps_if (pt_cmpR op_eq (pv 0) pe_str (nomark _)) (pss_one (ps_ret (pe_op op_add (pv 1) (pv 2)))) pss_nil)
      (pss_cons (ps_if (pt_cmpR op_eq (pv 0) pe_str (nomark _)) (pss_one (ps_ret (pe_op op_sub (pv 1) (pv 2)))) pss_nil)
      (pss_cons (ps_if (pt_cmpR op_eq (pv 0) pe_str (nomark _)) (pss_one (ps_ret (pe_ifExp (pt_cmpR op_lt (pv 1) (pv 2) (nomark _)) pe_int pe_int))) pss_nil)
      (pss_cons (ps_if (pt_cmpR op_eq (pv 0) pe_str (nomark _)) (pss_one (ps_ret (pe_callB (call_max2 rfl) (by rfl) T.m_max (by decide +kernel) (pa_cons (pv 1) (pa_cons (pv 2) pa_nil))))) pss_nil)
      (pss_one (ps_ret (pe_callB (call_min2 rfl) (by rfl) T.m_min (by decide +kernel) (pa_cons (pv 1) (pa_cons (pv 2) pa_nil))))))))), ?_⟩
  refine ⟨_, rfl, rfl, _, rfl, if_str (fun e => ?_) (fun e => ?_)⟩
  · rw [if_pos e] at q
    exact ⟨_, rfl, _, rfl, _, _, rfl, rfl, q⟩
  rw [if_neg e] at q
  refine ⟨_, rfl, rfl, _, rfl, if_str (fun e => ?_) (fun e => ?_)⟩
  · rw [if_pos e] at q
    exact ⟨_, rfl, _, rfl, _, _, rfl, rfl, q⟩
  rw [if_neg e] at q
  refine ⟨_, rfl, rfl, _, rfl, if_str (fun e => ?_) (fun e => ?_)⟩
  · rw [if_pos e] at q
    refine ⟨_, rfl, _, rfl, _, _, rfl, rfl, _, rfl, if_bl (fun c => ?_) (fun c => ?_)⟩
    · rw [if_pos (of_decide_eq_true c)] at q
      exact q
    · rw [if_neg (of_decide_eq_false c)] at q
      exact q
  rw [if_neg e] at q
  refine ⟨_, rfl, rfl, _, rfl, if_str (fun e => ?_) (fun e => ?_)⟩
  · rw [if_pos e] at q
    exact ⟨_, rfl, _, rfl, _, _, rfl, q⟩
  rw [if_neg e] at q
  exact ⟨_, rfl, _, rfl, _, _, rfl, q⟩
theorem inV_two {x y z : Str} : inV (.str x) [.str y, .str z] = true ↔ x = y ∨ x = z := by
  unfold inV
  simp only [List.any_cons, List.any_nil, Bool.or_false, Bool.or_eq_true, eqV, beq_iff_eq]
  constructor
  · rintro (h | h)
    · exact .inl h.symm
    · exact .inr h.symm
  · rintro (h | h)
    · exact .inl h.symm
    · exact .inr h.symm
theorem if_in2 {x y z : Str} {A B : Prop} (h1 : x = y ∨ x = z → A) (h2 : ¬ (x = y ∨ x = z) → B) : if (if false = true then !inV (.str x) [.str y, .str z] else inV (.str x) [.str y, .str z]) = true then A else B := by
  have e : (if false = true then !inV (.str x) [.str y, .str z] else inV (.str x) [.str y, .str z]) = inV (.str x) [.str y, .str z] := if_neg Bool.false_ne_true
  rw [e]
  exact if_bl (fun c => h1 (inV_two.mp c)) (fun c => h2 (fun k => by rw [inV_two.mpr k] at c; cases c))
def sp_made_by (K : PySem.W.Frag) : Sp := fun vs H Q _ => ∃ (r t : Addr) (rl ts : List V) (wd : Str) (n a b c : Int), vs = [.ref r, .ref t] ∧ SqT K H r rl ∧ SqT K H t ts ∧ rl[0]? = some (.str wd) ∧
  (wd = "always" ∨ wd = "times" → rl[1]? = some (.int n)) ∧ (wd ≠ "always" → ts[0]? = some (.int a)) ∧ (wd = "pick" ∨ (wd ≠ "always" ∧ wd ≠ "times" ∧ wd ≠ "same" ∧ wd ≠ "out") → ts[1]? = some (.int b)) ∧ (wd = "pick" → ts[2]? = some (.int c)) ∧
  (-(2 ^ 64) < n ∧ n < 2 ^ 64) ∧ ∀ H', Same H H' → Q (.int (mk wd n a b c)) H'
theorem ok_made_by {f : Addr} {fd : FuncData} (F : Fun K "made_by" "made_by" s_made_by f fd) {C : Addr} (T : Top K mg C) : FnOk P w K mg base CX0 2 f fd ["rule", "things"] (sp_made_by K) := by
  obtain ⟨f_made_of_two, fd_made_of_two, F_made_of_two, b_made_of_two, m_made_of_two⟩ := T.d_made_of_two
  have G_made_of_two := ok_made_of_two (P := P) (w := w) (base := base) F_made_of_two T
  refine F.ok sc_made_by (fun vs H Q E h => ?_) (fun cdv A outer s H vs Q E hr h => ?_)
  · obtain ⟨r, t, rl, ts, wd, n, a, b, c, rfl, _⟩ := h
    rfl
  obtain ⟨r, t, rl, ts, wd, n, a, b, c, rfl, hR, hT, r0, r1, t0, t1, t2, hn, q⟩ := h
  unfold mk at q
  refine ⟨_, (pss_cons (ps_set (i := 2) sc_made_by.nd rfl (Or.inl rfl) (pe_ix (ix_tupK K rfl) (pv 0) pe_int (fun _ _ => rfl)))
      (pss_cons (ps_if (pt_cmpR op_eq (pv 2) pe_str (nomark _)) (pss_one (ps_ret (pe_ix (ix_tupK K rfl) (pv 0) pe_int (fun _ _ => rfl)))) pss_nil)
      (pss_cons (ps_if (pt_cmpR op_eq (pv 2) pe_str (nomark _)) (pss_one (ps_ret (pe_op op_mul (pe_ix (ix_tupK K rfl) (pv 0) pe_int (fun _ _ => rfl)) (pe_ix (ix_tupK K rfl) (pv 1) pe_int (fun _ _ => rfl))))) pss_nil)
      (pss_cons (ps_if (pt_cmpR op_eq (pv 2) pe_str (nomark _)) (pss_one (ps_ret (pe_ifExp (pt_cmpR op_ne (pe_ix (ix_tupK K rfl) (pv 1) pe_int (fun _ _ => rfl)) pe_int (nomark _)) (pe_ix (ix_tupK K rfl) (pv 1) pe_int (fun _ _ => rfl)) (pe_ix (ix_tupK K rfl) (pv 1) pe_int (fun _ _ => rfl))))) pss_nil)
      (pss_cons (ps_if (pt_cmpR (op_in_seqK K rfl) (pv 2) (pe_tup (pa_cons pe_str (pa_cons pe_str pa_nil))) (by with_unfolding_all rfl)) (pss_one (ps_ret (pe_ix (ix_tupK K rfl) (pv 1) pe_int (fun _ _ => rfl)))) pss_nil)
      (pss_one (ps_ret (pe_call G_made_of_two (hr.mono (by decide)) (by rfl) m_made_of_two F_made_of_two.kp b_made_of_two .nil pass0 (pa_cons (pv 2) (pa_cons (pe_ix (ix_tupK K rfl) (pv 1) pe_int (fun _ _ => rfl)) (pa_cons (pe_ix (ix_tupK K rfl) (pv 1) pe_int (fun _ _ => rfl)) pa_nil))))))))))), ?_⟩
  refine ⟨_, rfl, r, _, _, _, rfl, rfl, hR, atI_nat (j := 0) r0, ?_⟩
  refine ⟨_, rfl, rfl, _, rfl, if_str (fun e1 => ?_) (fun e1 => ?_)⟩
  · have q := q H (fun _ _ e => e)
    rw [if_pos e1] at q
    exact ⟨_, rfl, r, _, _, _, rfl, rfl, hR, atI_nat (j := 1) (r1 (.inl e1)), q⟩
  refine ⟨_, rfl, rfl, _, rfl, if_str (fun e2 => ?_) (fun e2 => ?_)⟩
  · have q := q H (fun _ _ e => e)
    rw [if_neg e1, if_pos e2] at q
    exact ⟨_, rfl, r, _, _, _, rfl, rfl, hR, atI_nat (j := 1) (r1 (.inr e2)), _, rfl, t, _, _, _, rfl, rfl, hT, atI_nat (j := 0) (t0 e1), _, _, rfl, rfl, .inl hn, q⟩
  refine ⟨_, rfl, rfl, _, rfl, if_str (fun e3 => ?_) (fun e3 => ?_)⟩
  · have q := q H (fun _ _ e => e)
    rw [if_neg e1, if_neg e2, if_pos e3] at q
    refine ⟨_, rfl, t, _, _, _, rfl, rfl, hT, atI_nat (j := 0) (t0 e1), rfl, _, rfl, if_bl (fun k => ?_) (fun k => ?_)⟩
    · have k2 : ¬ a = 0 := fun z => by
        rw [z] at k
        exact absurd k (by decide)
      rw [if_neg k2] at q
      exact ⟨_, rfl, t, _, _, _, rfl, rfl, hT, atI_nat (j := 1) (t1 (.inl e3)), q⟩
    · have k2 : a = 0 := by
        by_cases z : a = 0
        · exact z
        · have k3 : (!decide (V.int a = V.int 0)) = false := k
          rw [decide_eq_false (fun y => z (V.int.inj y))] at k3
          cases k3
      rw [if_pos k2] at q
      exact ⟨_, rfl, t, _, _, _, rfl, rfl, hT, atI_nat (j := 2) (t2 e3), q⟩
  refine ⟨_, rfl, (by show 2 ≤ sizeLine; decide), fun p np => ?_⟩
  have s1 := same_new (o := .tup [V.str "same", V.str "out"]) np
  have q := q _ s1
  rw [if_neg e1, if_neg e2, if_neg e3] at q
  refine ⟨p, _, rfl, .inr (SqT.of upd_same), rfl, rfl, _, rfl, if_in2 (fun e4 => ?_) (fun e4 => ?_)⟩
  · rw [if_pos e4] at q
    exact ⟨_, rfl, t, _, _, _, rfl, rfl, same_seqT s1 hT, atI_nat (j := 0) (t0 e1), q⟩
  · rw [if_neg e4] at q
    exact ⟨_, rfl, _, rfl, t, _, _, _, rfl, rfl, same_seqT s1 hT, atI_nat (j := 0) (t0 e1), _, rfl, t, _, _, _, rfl, rfl, same_seqT s1 hT, atI_nat (j := 1) (t1 (.inr ⟨e1, e2, fun z => e4 (.inl z), fun z => e4 (.inr z)⟩)), wd, a, b, rfl, q⟩
end
section
variable {P : Program} {w : World} {K : PySem.W.Frag} {mg : Str → Option Value} {base : Heap}
def sp_comings (K : PySem.W.Frag) : Sp := fun vs H Q _ => ∃ (r : Addr) (hs : List HR) (bs : List BR) (k : Nat), vs = [.ref r, nV k] ∧ RoomAt H r hs bs ∧ bs.length ≤ 400 ∧ ∀ (p : Addr) (H' : Hp), H p = none → H' p = some (.lst ((comingN bs k).map nV)) → Same H H' → Q (.ref p) H'
theorem ok_comings {f : Addr} {fd : FuncData} (F : Fun K "comings" "comings" s_comings f fd) {C : Addr} (T : Top K mg C) : FnOk P w K mg base CX0 1 f fd ["room", "hand"] (sp_comings K) := by
  refine F.ok sc_comings (fun vs H Q E h => ?_) (fun cdv A outer s H vs Q E hr h => ?_)
  · obtain ⟨r, hs, bs, k, rfl, _⟩ := h
    rfl
  obtain ⟨r, hs, bs, k, rfl, hR, lb, q⟩ := h
  obtain ⟨ha, ba, hv, bv, er, eh, eb, alh, alb⟩ := hR.ex
  have lbv := alb.length
  refine ⟨_, (pss_one (ps_ret (pe_lc (own := [("number", 2), ("belt", 3)]) (g := gTup K 2 (gCons (gName 2) (gCons (gName 3) gNil))) (by rfl) sc_comings.nd (pi_enumT K rfl (by rfl) T.m_enumerate (pa_cons (pe_ix (ix_tupK K rfl) (pv 0) pe_int (fun _ _ => rfl)) pa_nil)) (blkOk_by (own := [("number", 2), ("belt", 3)]) (N := N_comings) (sc := defScope s_comings) (by decide +kernel)) (fun _ _ _ _ _ => (pg_tupK K rfl rfl (pgs_cons (pg_name (i := 2) sc_comings.nd rfl (Or.inl rfl)) (pgs_cons (pg_name (i := 3) sc_comings.nd rfl (Or.inl rfl)) pgs_nil)))) (fun _ _ _ _ _ => pts_one (pt_cmpR op_eq (pe_ix (ix_tupK K rfl) (pv 3) pe_int (fun _ _ => rfl)) (pv 1) (nomark _))) (fun _ _ _ _ _ => (pv 2))))), ?_⟩
  refine ⟨_, rfl, r, _, _, _, rfl, rfl, SqT.of er, atI_nat (j := 1) rfl, ba, bv, rfl, SqT.of eb, fun D nD => lc_it (J := IteT K ba bv) (n := bv.length) (fun i H5 => H5 D = some (.lst (((List.range i).filter fun j => decide (bs[j]?.map BR.to = some k)).map nV)) ∧ Same H H5) ⟨upd_same, same_new nD⟩ ?_ ?_ ?_ ?_⟩
  · rintro i H5 hi ⟨hD, s5⟩
    exact ⟨SqT.of (s5 _ _ eb), hi⟩
  · rintro H5 ⟨hD, s5⟩
    exact ⟨SqT.of (s5 _ _ eb), rfl⟩
  · rintro i x H5 H6 hi ⟨hD, s5⟩ ⟨t, y, rfl, nt, rfl, ey⟩
    obtain ⟨b, eb2, ⟨t2, g, rfl, e1, e2⟩⟩ := alb.getL ey
    have s6 := s5.trans (same_new (o := .tup [V.int ((i : Nat) : Int), V.ref t2]) nt)
    have hD6 := same_new (o := .tup [V.int ((i : Nat) : Int), V.ref t2]) nt _ _ hD
    have few := filt_len (p := fun j => decide (bs[j]?.map BR.to = some k)) i
    refine ⟨t, _, rfl, SqT.of upd_same, rfl, _, _, rfl, _, _, rfl, rfl, rfl, _, rfl, t2, _, _, _, rfl, rfl, SqT.of (s6 _ _ e1), atI_nat (j := 1) rfl, _, rfl, rfl, _, rfl, if_bl (fun c => ?_) (fun c => ?_)⟩
    · have c : b.to = k := by have := V.int.inj (of_decide_eq_true c); omega
      refine ⟨_, rfl, _, hD6, by rw [List.length_map]; exact small1000 (by omega), ?_, Same.own s6 nD⟩
      rw [upd_same, filt_succ, if_pos (decide_eq_true (by rw [eb2, ← c]; rfl)), List.map_append]
      rfl
    · have c : ¬ b.to = k := fun z => of_decide_eq_false c (by rw [z])
      refine ⟨?_, s6⟩
      rw [filt_succ, if_neg fun z => c (by have := of_decide_eq_true z; rw [eb2] at this; exact Option.some.inj this), List.append_nil]
      exact hD6
  · rintro H5 ⟨hD, s5⟩
    refine q D H5 nD ?_ s5
    rw [hD, lbv]
    rfl
end
theorem soon_one {ls : List (Nat × Nat)} : ∀ {left o1 o2 : List Nat}, Soon ls left o1 → Soon ls left o2 → o1 = o2 := by
  intro left o1 o2 h
  induction h generalizing o2 with
  | nil =>
    intro h2
    cases h2 with
    | nil => rfl
    | cons a => cases a
  | cons a b c d ih =>
    intro h2
    cases h2 with
    | nil => cases a
    | @cons _ ord k2 a2 b2 c2 d2 =>
      have e := Nat.le_antisymm (c _ a2 b2) (c2 _ a b)
      subst e
      rw [ih d2]
theorem soon_len {ls : List (Nat × Nat)} {left ord : List Nat} (h : Soon ls left ord) : ord.length = left.length := by
  induction h with
  | nil => rfl
  | cons a b c d ih =>
    rw [List.length_cons, ih, List.length_erase_of_mem a]
    have := List.length_pos_of_mem a
    omega
theorem soon_mem {ls : List (Nat × Nat)} {left ord : List Nat} (h : Soon ls left ord) : ∀ x ∈ ord, x ∈ left := by
  induction h with
  | nil => exact fun _ z => nomatch z
  | cons a b c d ih =>
    intro x hx
    rcases List.mem_cons.mp hx with e | e
    · rw [e]; exact a
    · exact List.mem_of_mem_erase (ih x e)
/-- a tuple of whole numbers -/
def RowAt (H : Hp) (v : V) (m : List Int) : Prop := ∃ t : Addr, v = .ref t ∧ H t = some (.tup (m.map V.int))
theorem RowAt.keep {H H' : Hp} {v : V} {m : List Int} (a : RowAt H v m) (k : TK H H') : RowAt H' v m := by
  obtain ⟨t, e, h⟩ := a
  exact ⟨t, e, k _ _ h⟩
theorem gD_get {m : List Int} {k : Nat} (h : k < m.length) : m[k]? = some (gD m k) := by
  show _ = some (m.getD k 0)
  rw [List.getD_eq_getElem?_getD, List.getElem?_eq_getElem h]; rfl
theorem at_row {m : List Int} {k : Nat} (h : k < m.length) : atI (m.map V.int) ((k : Nat) : Int) = some (.int (gD m k)) := atI_nat (by rw [List.getElem?_map, gD_get h]; rfl)
theorem filt_map {α β : Type} (p : Option α → Bool) (g : Option α → β) (l : List α) : ∀ n, n ≤ l.length → ((List.range n).filter fun i => p l[i]?).map (fun i => g l[i]?) = ((l.take n).filter fun b => p (some b)).map fun b => g (some b)
  | 0, _ => rfl
  | n + 1, h => by
    have e : l[n]? = some l[n] := List.getElem?_eq_getElem (by omega)
    rw [filt_succ, List.map_append, filt_map p g l n (by omega), List.take_add_one, e, List.filter_append, List.map_append]
    congr 1
    cases k : p (some l[n])
    · rw [if_neg Bool.false_ne_true]
      simp [k]
    · rw [if_pos rfl]
      simp [k, e]
def valI (cur : List BR) (f : Nat → Int) (i : Nat) : Int := match cur[i]? with | some b => valB f b | none => 0
theorem coming_takes (cur : List BR) (f : Nat → Int) (k : Nat) : (comingN cur k).map (valI cur f) = takes cur f k := by
  have := filt_map (fun o => decide (o.map BR.to = some k)) (fun o : Option BR => match o with | some b => valB f b | none => 0) cur cur.length (Nat.le_refl _)
  rw [List.take_length] at this
  refine this.trans ?_
  unfold takes
  congr 1
  refine List.filter_congr fun b _ => ?_
  simp
theorem takes_len {cur : List BR} {f : Nat → Int} {k : Nat} : (takes cur f k).length = (cur.map BR.to).count k := by
  unfold takes
  rw [List.length_map, List.count_eq_countP, List.countP_map, List.countP_eq_length_filter]
  congr 1
theorem coming_mem {cur : List BR} {k i : Nat} (h : i ∈ comingN cur k) : ∃ b, cur[i]? = some b ∧ b.to = k := by
  unfold comingN at h
  have h := (List.mem_filter.mp h).2
  have h := of_decide_eq_true h
  cases e : cur[i]? with
  | none => rw [e] at h; cases h
  | some b => rw [e] at h; exact ⟨b, rfl, Option.some.inj h⟩
theorem coming_len {cur : List BR} {k : Nat} : (comingN cur k).length ≤ cur.length := filt_len _
/-- what made_by asks of a good hand and what it takes -/
theorem getD_map {xs : List Int} {j : Nat} (h : j < xs.length) : (xs.map V.int)[j]? = some (.int (xs.getD j 0)) := by
  rw [List.getElem?_map, List.getElem?_eq_getElem h, List.getD_eq_getElem?_getD, List.getElem?_eq_getElem h]; rfl
theorem needs_some {wd : Str} (h1 : wd ≠ "in") (h2 : wd ≠ "always") : 1 ≤ needs wd := by
  unfold needs
  rw [if_neg (by simp [h1, h2])]
  split
  · exact Int.le_refl _
  · split <;> decide
theorem needs_two {wd : Str} (h1 : wd ≠ "in") (h2 : wd ≠ "always") (h3 : wd ≠ "times") (h4 : wd ≠ "same") (h5 : wd ≠ "out") : 2 ≤ needs wd := by
  unfold needs
  rw [if_neg (by simp [h1, h2]), if_neg (by simp [h3, h4, h5])]
  split <;> decide
theorem needs_pick : needs "pick" = 3 := by decide +kernel
structure Args (h : HR) (rl ts : List V) (n a b c : Int) : Prop where
  r0 : rl[0]? = some (.str h.wd)
  r1 : h.wd = "always" ∨ h.wd = "times" → rl[1]? = some (.int n)
  t0 : h.wd ≠ "always" → ts[0]? = some (.int a)
  t1 : h.wd = "pick" ∨ (h.wd ≠ "always" ∧ h.wd ≠ "times" ∧ h.wd ≠ "same" ∧ h.wd ≠ "out") → ts[1]? = some (.int b)
  t2 : h.wd = "pick" → ts[2]? = some (.int c)
  big : -(2 ^ 64) < n ∧ n < 2 ^ 64
theorem args_of {h : HR} (g : GoodHand h) (w : h.wd ≠ "in") {xs : List Int} (hl : ((xs.length : Nat) : Int) = needs h.wd) : Args h (ruleL h) (xs.map V.int) (h.no.getD 0) (xs.getD 0 0) (xs.getD 1 0) (xs.getD 2 0) := by
  refine ⟨rfl, fun e => ?_, fun e => getD_map ?_, fun e => getD_map ?_, fun e => getD_map ?_, ?_⟩
  · have k : h.no.isSome = true := by
      rcases g.1 with k | k
      · exact k.no.mpr e.symm
      · exfalso
        rcases k.1 with z | z <;> rcases e with e | e <;> rw [z] at e <;> exact absurd e (by decide +kernel)
    obtain ⟨n, hn⟩ := Option.isSome_iff_exists.mp k
    show (V.str h.wd :: (match h.no with | none => [] | some n => [.int n]))[1]? = _
    rw [hn]
    rfl
  · have := needs_some w e
    omega
  · rcases e with e | ⟨e1, e2, e3, e4⟩
    · rw [e, needs_pick] at hl
      omega
    · have := needs_two w e1 e2 e3 e4
      omega
  · rw [e, needs_pick] at hl
    omega
  · cases e : h.no with
    | none => decide
    | some n =>
      rcases g.1 with k | k
      · have := k.big n e
        show -(2 ^ 64) < n ∧ n < 2 ^ 64
        omega
      · rw [k.2] at e
        cases e
section
variable {P : Program} {w : World} {K : PySem.W.Frag} {mg : Str → Option Value} {base : Heap}
structure BellOk (hs : List HR) (cur : List BR) : Prop where
  hands : hs.length ≤ 12
  belts : cur.length ≤ 20
  good : ∀ h ∈ hs, GoodHand h
  ends : ∀ b ∈ cur, b.one < hs.length ∧ b.to < hs.length
  count : ∀ k h, hs[k]? = some h → (((cur.map BR.to).count k : Nat) : Int) = needs h.wd
theorem dget_of {H : Hp} {a : Addr} {kvs : List (Key × V)} {k : Nat} {o : Option V} (e : H a = some (.dK kvs)) (h : valV kvs (kN k) = o) : DGet H a (nV k) o := h ▸ DGet.k (k := kN k) e
theorem dget0 {H : Hp} {a : Addr} {kvs : List (Key × V)} {k : Nat} {o : Option V} (e : H a = some (.dK kvs)) (h : valV kvs (kN k) = o) : DGet H a (.int (0 + ((k : Nat) : Int))) o := by
  rw [Int.zero_add]
  exact dget_of e h
end
/-- a list or a tuple of rows -/
def RowsAt (H : Hp) (a : Addr) (rows : List (List Int)) : Prop := ∃ rv : List V, (H a = some (.lst rv) ∨ H a = some (.tup rv)) ∧ All2 (RowAt H) rv rows
theorem RowsAt.same {H H' : Hp} {a : Addr} {rows : List (List Int)} (h : RowsAt H a rows) (s : Same H H') : RowsAt H' a rows := by
  obtain ⟨rv, e, al⟩ := h
  exact ⟨rv, e.imp (s _ _) (s _ _), al.imp fun _ _ z => z.keep (TK.same s)⟩
theorem either_stays {H H' : Hp} {a : Addr} {xs : List V} (s : Same H H') (h : H a = some (.lst xs) ∨ H a = some (.tup xs)) : H' a = H a := by
  rcases h with e | e <;> rw [s _ _ e, e]
theorem or_seq {K : PySem.W.Frag} {te : TE} {σ : L2.St} {H : Hp} {R : It → Hp → Prop} {a : Addr} {xs : List V} (ht : ∀ Q : VK, Q (.ref a) H → te σ H Q) (h : H a = some (.lst xs) ∨ H a = some (.tup xs))
    (k : ∀ J : It, (∀ i H', H' a = H a → i < xs.length → J.go i H') → (∀ H', H' a = H a → J.stop xs.length H') → (∀ i H' x H'', H' a = H a → J.yld i H' x H'' → xs[i]? = some x ∧ H'' = H') → R J H) :
    iList K te σ H R ∨ iTup K te σ H R := by
  rcases h with e | e
  · refine .inl (ht _ ⟨a, rfl, ⟨_, SqL.of e⟩, k _ (fun i H' q hi => ?_) (fun H' q => ?_) fun i H' x H'' q y => ?_⟩)
    · exact ⟨xs, _, SqL.of (q.trans e), List.getElem?_eq_getElem hi⟩
    · exact ⟨xs, SqL.of (q.trans e), Nat.le_refl _⟩
    · exact ⟨y.2 _ (SqL.of (q.trans e)), y.1⟩
  · refine .inr (ht _ ⟨a, rfl, ⟨_, SqT.of e⟩, k _ (fun i H' q hi => ?_) (fun H' q => ?_) fun i H' x H'' q y => ?_⟩)
    · exact ⟨xs, _, SqT.of (q.trans e), List.getElem?_eq_getElem hi⟩
    · exact ⟨xs, SqT.of (q.trans e), Nat.le_refl _⟩
    · exact ⟨y.2 _ (SqT.of (q.trans e)), y.1⟩
theorem map_to (bs : List BR) (ms : List (List Int)) : (stand bs ms).map BR.to = bs.map BR.to := by
  rw [List.map_map]
  exact List.map_congr_left fun b _ => stand_to ms b
theorem coming_stand (bs : List BR) (ms : List (List Int)) (k : Nat) : comingN (stand bs ms) k = comingN bs k := by
  unfold comingN
  rw [List.length_map]
  refine List.filter_congr fun i _ => ?_
  rw [List.getElem?_map]
  cases bs[i]? with
  | none => rfl
  | some b =>
    show decide (some (standB ms b).to = some k) = decide (some b.to = some k)
    rw [stand_to]
theorem RoomOk.bell {hs : List HR} {bs : List BR} (ok : RoomOk hs bs) (ms : List (List Int)) : BellOk hs (stand bs ms) := by
  refine ⟨ok.hands, by rw [List.length_map]; exact ok.many, ok.good, fun b hb => ?_, fun k h e => by rw [map_to]; exact ok.count k h e⟩
  obtain ⟨c, hc, rfl⟩ := List.mem_map.mp hb
  rw [stand_one, stand_to]
  exact ok.ends c hc
theorem RoomOk.rk {hs : List HR} {bs : List BR} (ok : RoomOk hs bs) : ∃ rk : Nat → Int, ∀ p ∈ looseOf bs, rk p.1 < rk p.2 := by
  obtain ⟨rk, h⟩ := ok.rank
  refine ⟨rk, fun p hp => ?_⟩
  obtain ⟨b, hb, rfl⟩ := List.mem_map.mp hp
  obtain ⟨h1, h2⟩ := List.mem_filter.mp hb
  exact h b h1 (List.isEmpty_iff.mp h2)
theorem out_lt {hs : List HR} {m : List Int} (hl : m.length = hs.length) : ∀ k ∈ doorsOf "out" hs, k < m.length := fun k hk => by
  obtain ⟨h, e, _⟩ := mem_doors.mp hk
  have := (List.getElem?_eq_some_iff.mp e).1
  omega
/-! ### two things alike (found == due, by kinds, as deep as need be) -/
def Lf (v : V) : Prop := (∃ a : Int, v = .int a) ∨ ∃ s : Str, v = .str s ∧ PyData.canLay0 (.str s) = true
def Al : Nat → Hp → V → V → Prop
  | 0, _, _, _ => False
  | n + 1, H, v, u => (Lf v ∧ v = u) ∨ ∃ (p q : Addr) (xs ys : List V), v = .ref p ∧ u = .ref q ∧ ((H p = some (.lst xs) ∧ H q = some (.lst ys)) ∨ (H p = some (.tup xs) ∧ H q = some (.tup ys))) ∧ xs.length ≤ 400 ∧ All2 (Al n H) xs ys
theorem Al.same {H H' : Hp} (s : Same H H') : ∀ {n : Nat} {v u : V}, Al n H v u → Al n H' v u
  | 0, _, _, h => h
  | n + 1, _, _, .inl h => .inl h
  | n + 1, _, _, .inr h => by
    obtain ⟨p, q, xs, ys, e1, e2, e3, e4, e5⟩ := h
    exact .inr ⟨p, q, xs, ys, e1, e2, e3.imp (fun z => ⟨s _ _ z.1, s _ _ z.2⟩) (fun z => ⟨s _ _ z.1, s _ _ z.2⟩), e4, e5.imp fun _ _ z => Al.same s z⟩
theorem Al.int {n : Nat} {H : Hp} {a : Int} : Al (n + 1) H (.int a) (.int a) := .inl ⟨.inl ⟨a, rfl⟩, rfl⟩
theorem Al.str {n : Nat} {H : Hp} {s : Str} (h : PyData.canLay0 (.str s) = true) : Al (n + 1) H (.str s) (.str s) := .inl ⟨.inr ⟨s, rfl, h⟩, rfl⟩
theorem Al.ints {n : Nat} {H : Hp} : ∀ m : List Int, All2 (Al (n + 1) H) (m.map V.int) (m.map V.int)
  | [] => .nil
  | _ :: m => .cons .int (Al.ints m)
theorem Al.tup {n : Nat} {H : Hp} {p q : Addr} {xs ys : List V} (h1 : H p = some (.tup xs)) (h2 : H q = some (.tup ys)) (l : xs.length ≤ 400) (a : All2 (Al n H) xs ys) : Al (n + 1) H (.ref p) (.ref q) := .inr ⟨p, q, xs, ys, rfl, rfl, .inr ⟨h1, h2⟩, l, a⟩
theorem Al.lst {n : Nat} {H : Hp} {p q : Addr} {xs ys : List V} (h1 : H p = some (.lst xs)) (h2 : H q = some (.lst ys)) (l : xs.length ≤ 400) (a : All2 (Al n H) xs ys) : Al (n + 1) H (.ref p) (.ref q) := .inr ⟨p, q, xs, ys, rfl, rfl, .inl ⟨h1, h2⟩, l, a⟩
def spA (n : Nat) : Sp := fun vs H Q _ => ∃ v u : V, vs = [v, u] ∧ Al n H v u ∧ ∀ H', Same H H' → Q (.bl true) H'
theorem kit_lst {K : PySem.W.Frag} : PySem.W.kitAny K (.type "list") [.type "list", .type "tuple"] = some true := by
  unfold PySem.W.kitAny
  rw [kit_ty (show kitB "list" "list" = some true by decide +kernel)]
theorem kit_tup {K : PySem.W.Frag} : PySem.W.kitAny K (.type "tuple") [.type "list", .type "tuple"] = some true := by
  unfold PySem.W.kitAny
  rw [kit_ty (show kitB "tuple" "list" = some false by decide +kernel)]
  unfold PySem.W.kitAny
  rw [kit_ty (show kitB "tuple" "tuple" = some true by decide +kernel)]
theorem kit_int {K : PySem.W.Frag} : PySem.W.kitAny K (.type "int") [.type "list", .type "tuple"] = some false := by
  unfold PySem.W.kitAny
  rw [kit_ty (show kitB "int" "list" = some false by decide +kernel)]
  unfold PySem.W.kitAny
  rw [kit_ty (show kitB "int" "tuple" = some false by decide +kernel)]
  rfl
theorem or_zip {K : PySem.W.Frag} {ta : TA} {σ : L2.St} {H : Hp} {R : It → Hp → Prop} {p q : Addr} {xs ys : List V} (ht : ∀ Q : List V → Hp → Prop, Q [.ref p, .ref q] H → ta σ H Q) (h : (H p = some (.lst xs) ∧ H q = some (.lst ys)) ∨ (H p = some (.tup xs) ∧ H q = some (.tup ys))) (hl : xs.length = ys.length)
    (k : ∀ J : It, (∀ i H', (H' p = H p ∧ H' q = H q) → i < xs.length → J.go i H') → (∀ H', (H' p = H p ∧ H' q = H q) → J.stop xs.length H') → (∀ i H' v H'', (H' p = H p ∧ H' q = H q) → J.yld i H' v H'' → ∃ T x y, v = .ref T ∧ H' T = none ∧ H'' = upd H' T (.tup [x, y]) ∧ xs[i]? = some x ∧ ys[i]? = some y) → R J H) :
    RZ.iZipA K ta σ H R := by
  rcases h with ⟨e1, e2⟩ | ⟨e1, e2⟩
  · refine ht _ ⟨p, q, xs, ys, rfl, .inl ⟨SqL.of e1, SqL.of e2, k _ (fun i H' st hi => ?_) (fun H' st => ?_) fun i H' v H'' st y => ?_⟩⟩
    · exact ⟨xs, ys, _, _, SqL.of (st.1.trans e1), SqL.of (st.2.trans e2), List.getElem?_eq_getElem hi, List.getElem?_eq_getElem (by omega)⟩
    · exact ⟨xs, ys, SqL.of (st.1.trans e1), SqL.of (st.2.trans e2), .inl (Nat.le_refl _)⟩
    · obtain ⟨T, x, z, q1, q2, q3, q4, q5⟩ := y
      exact ⟨T, x, z, q1, q2, q3, q4 _ (SqL.of (st.1.trans e1)), q5 _ (SqL.of (st.2.trans e2))⟩
  · refine ht _ ⟨p, q, xs, ys, rfl, .inr ⟨SqT.of e1, SqT.of e2, k _ (fun i H' st hi => ?_) (fun H' st => ?_) fun i H' v H'' st y => ?_⟩⟩
    · exact ⟨xs, ys, _, _, SqT.of (st.1.trans e1), SqT.of (st.2.trans e2), List.getElem?_eq_getElem hi, List.getElem?_eq_getElem (by omega)⟩
    · exact ⟨xs, ys, SqT.of (st.1.trans e1), SqT.of (st.2.trans e2), .inl (Nat.le_refl _)⟩
    · obtain ⟨T, x, z, q1, q2, q3, q4, q5⟩ := y
      exact ⟨T, x, z, q1, q2, q3, q4 _ (SqT.of (st.1.trans e1)), q5 _ (SqT.of (st.2.trans e2))⟩
theorem kit_str {K : PySem.W.Frag} : PySem.W.kitAny K (.type "str") [.type "list", .type "tuple"] = some false := by
  unfold PySem.W.kitAny
  rw [kit_ty (show kitB "str" "list" = some false by decide +kernel)]
  unfold PySem.W.kitAny
  rw [kit_ty (show kitB "str" "tuple" = some false by decide +kernel)]
  rfl
section
variable {P : Program} {w : World} {K : PySem.W.Frag} {mg : Str → Option Value} {base : Heap}
theorem alike_step {C : Addr} (T : Top K mg C) (n : Nat) (below : ∀ (f : Addr) (fd : FuncData), Fun K "_law_alike" "_law_alike" s_law_alike f fd → FnOk P w K mg base CX0 n f fd ["_law_found", "_law_due"] (spA n)) {f : Addr} {fd : FuncData} (F : Fun K "_law_alike" "_law_alike" s_law_alike f fd) :
    FnOk P w K mg base CX0 (n + 1) f fd ["_law_found", "_law_due"] (spA (n + 1)) := by
  obtain ⟨f_law_alike, fd_law_alike, F_law_alike, b_law_alike, m_law_alike⟩ := T.d_law_alike
  have G_law_alike := below f_law_alike fd_law_alike F_law_alike
  refine F.ok sc_law_alike (fun vs H Q E h => ?_) (fun cdv A outer s H vs Q E hr h => ?_)
  · obtain ⟨v, u, rfl, _⟩ := h
    rfl
  obtain ⟨v, u, rfl, al, q⟩ := h
  refine ⟨_, (pss_cons (ps_if (pt_val (pe_callB (call_isiTK K rfl) (by rfl) T.m_isinstance (by decide +kernel) (pa_cons (pv 1) (pa_cons (pe_tup (pa_cons (pe_bltn (v := .ty "list") (by rfl) T.m_list (by decide +kernel) rfl) (pa_cons (pe_bltn (v := .ty "tuple") (by rfl) T.m_tuple (by decide +kernel) rfl) pa_nil))) pa_nil)))) (pss_cons (ps_if (PW.pt (pw_or (pt_cmpR op_ne (pe_callB (call_isiKK K rfl) (by rfl) T.m_isinstance (by decide +kernel) (pa_cons (pv 0) (pa_cons (pe_bltn (v := .ty "list") (by rfl) T.m_list (by decide +kernel) rfl) pa_nil))) (pe_callB (call_isiKK K rfl) (by rfl) T.m_isinstance (by decide +kernel) (pa_cons (pv 1) (pa_cons (pe_bltn (v := .ty "list") (by rfl) T.m_list (by decide +kernel) rfl) pa_nil))) (nomark _)) (pw_or1 (pt_cmpR op_ne (pe_callB (call_isiKK K rfl) (by rfl) T.m_isinstance (by decide +kernel) (pa_cons (pv 0) (pa_cons (pe_bltn (v := .ty "tuple") (by rfl) T.m_tuple (by decide +kernel) rfl) pa_nil))) (pe_callB (call_isiKK K rfl) (by rfl) T.m_isinstance (by decide +kernel) (pa_cons (pv 1) (pa_cons (pe_bltn (v := .ty "tuple") (by rfl) T.m_tuple (by decide +kernel) rfl) pa_nil))) (nomark _))))) (pss_one (ps_ret pe_bl)) pss_nil)
      (pss_one (ps_ret (pe_and (pe_cmpR op_eq (pe_callB (call_len_seqK K rfl) (by rfl) T.m_len (by decide +kernel) (pa_cons (pv 0) pa_nil)) (pe_callB (call_len_seqK K rfl) (by rfl) T.m_len (by decide +kernel) (pa_cons (pv 1) pa_nil)) (nomark _)) (pe_one (pe_callB (cr_allK K rfl rfl) (by rfl) T.m_all (by decide +kernel) (pa_cons (pe_lc (own := [("_law_one", 2), ("_law_other", 3)]) (g := gTup K 2 (gCons (gName 2) (gCons (gName 3) gNil))) (tt := tYes) (by rfl) sc_law_alike.nd (pi_zipAK K rfl (by rfl) T.m_zip (pa_cons (pv 0) (pa_cons (pv 1) pa_nil))) (blkOk_by (own := [("_law_one", 2), ("_law_other", 3)]) (N := N_law_alike) (sc := defScope s_law_alike) (by decide +kernel)) (fun _ _ _ _ _ => (pg_tupK K rfl rfl (pgs_cons (pg_name (i := 2) sc_law_alike.nd rfl (Or.inl rfl)) (pgs_cons (pg_name (i := 3) sc_law_alike.nd rfl (Or.inl rfl)) pgs_nil)))) (fun _ _ _ _ _ => pts_nil) (fun _ _ _ _ _ => (pe_call G_law_alike (hr.mono (Nat.le_refl _)) (by rfl) m_law_alike F_law_alike.kp b_law_alike .nil pass0 (pa_cons (pv 2) (pa_cons (pv 3) pa_nil))))) pa_nil))))))) pss_nil)
      (pss_one (ps_ret (pe_and (pe_cmpR op_eq (pe_callB (call_isiKK K rfl) (by rfl) T.m_isinstance (by decide +kernel) (pa_cons (pv 0) (pa_cons (pe_bltn (v := .ty "bool") (by rfl) T.m_bool (by decide +kernel) rfl) pa_nil))) (pe_callB (call_isiKK K rfl) (by rfl) T.m_isinstance (by decide +kernel) (pa_cons (pv 1) (pa_cons (pe_bltn (v := .ty "bool") (by rfl) T.m_bool (by decide +kernel) rfl) pa_nil))) (nomark _)) (pe_one (pe_cmpR (op_eqDK K rfl hr.units) (pv 0) (pv 1) (nomark _))))))), ?_⟩
  refine ⟨_, rfl, (by show 2 ≤ sizeLine; decide), fun tp ntp => ?_⟩
  rcases al with ⟨lf, rfl⟩ | ⟨p, q2, xs, ys, rfl, rfl, kinds, few, al⟩
  · rcases lf with ⟨a, rfl⟩ | ⟨a, rfl, lay⟩
    · refine ⟨_, tp, _, _, _, false, rfl, upd_same, .cons (.ty "list") (.cons (.ty "tuple") .nil), .base (.int _), kit_int, _, rfl, if_bl (fun z => nomatch z) (fun _ => ?_)⟩
      refine ⟨_, rfl, _, _, _, _, false, rfl, .ty "bool", .base (.int _), kit_ty (by decide +kernel), _, rfl, _, _, _, _, false, rfl, .ty "bool", .base (.int _), kit_ty (by decide +kernel), rfl, _, rfl, if_bl (fun _ => ?_) (fun z => nomatch z)⟩
      refine ⟨_, rfl, _, rfl, _, _, .int a, .int a, rfl, rfl, ?_⟩
      rw [show PyData.eqv (.int a) (.int a) = true by simp [PyData.eqv]]
      exact q _ (same_new ntp)
    · refine ⟨_, tp, _, _, _, false, rfl, upd_same, .cons (.ty "list") (.cons (.ty "tuple") .nil), .base (.str _), kit_str, _, rfl, if_bl (fun z => nomatch z) (fun _ => ?_)⟩
      refine ⟨_, rfl, _, _, _, _, false, rfl, .ty "bool", .base (.str _), kit_ty (by decide +kernel), _, rfl, _, _, _, _, false, rfl, .ty "bool", .base (.str _), kit_ty (by decide +kernel), rfl, _, rfl, if_bl (fun _ => ?_) (fun z => nomatch z)⟩
      have sh : SeqAt.shaped (.str a) = true := by
        unfold SeqAt.shaped
        rw [lay]
        rfl
      refine ⟨_, rfl, _, rfl, _, _, .str a, .str a, sh, sh, ?_⟩
      rw [show PyData.eqv (.str a) (.str a) = true by simp [PyData.eqv]]
      exact q _ (same_new ntp)
  rcases kinds with ⟨hp, hq⟩ | ⟨hp, hq⟩
  · have hp1 := same_new (o := .tup [V.ty "list", V.ty "tuple"]) ntp _ _ hp
    have hq1 := same_new (o := .tup [V.ty "list", V.ty "tuple"]) ntp _ _ hq
    refine ⟨_, tp, _, _, _, true, rfl, upd_same, .cons (.ty "list") (.cons (.ty "tuple") .nil), .base (.lst hq1), kit_lst, _, rfl, if_bl (fun _ => ?_) (fun z => nomatch z)⟩
    refine ⟨_, rfl, _, _, _, _, true, rfl, .ty "list", .base (.lst hp1), kit_ty (by decide +kernel), _, rfl, _, _, _, _, true, rfl, .ty "list", .base (.lst hq1), kit_ty (by decide +kernel), rfl, _, rfl, if_bl (fun z => nomatch z) (fun _ => ?_)⟩
    refine ⟨_, rfl, _, _, _, _, false, rfl, .ty "tuple", .base (.lst hp1), kit_ty (by decide +kernel), _, rfl, _, _, _, _, false, rfl, .ty "tuple", .base (.lst hq1), kit_ty (by decide +kernel), rfl, _, rfl, if_bl (fun z => nomatch z) (fun _ => ?_)⟩
    refine ⟨_, rfl, p, _, rfl, .inl (SqL.of hp1), _, rfl, q2, _, rfl, .inl (SqL.of hq1), rfl, _, rfl, if_bl (fun _ => ?_) (fun z => ?_)⟩
    case refine_2 =>
      rw [al.length, decide_eq_true rfl] at z
      cases z
    dsimp only [tNext, tRet, tCB, tCons, tLc]
    refine or_zip (p := p) (q := q2) (xs := xs) (ys := ys) (fun Q q => ⟨_, rfl, _, rfl, q⟩) (.inl ⟨hp1, hq1⟩) al.length (fun J gj sj yj D nD => lc_it (J := J) (n := xs.length) (fun i H5 => H5 D = some (.lst ((List.replicate i true).map V.bl)) ∧ Same (upd H tp (.tup [V.ty "list", V.ty "tuple"])) H5) ⟨upd_same, same_new nD⟩ ?_ ?_ ?_ ?_)
    · rintro i H5 hi ⟨hD, s5⟩
      exact gj i H5 ⟨(s5 _ _ hp1).trans hp1.symm, (s5 _ _ hq1).trans hq1.symm⟩ hi
    · rintro H5 ⟨hD, s5⟩
      exact sj H5 ⟨(s5 _ _ hp1).trans hp1.symm, (s5 _ _ hq1).trans hq1.symm⟩
    · rintro i v H5 H6 hi ⟨hD, s5⟩ y
      obtain ⟨t, x, z, rfl, nt, rfl, ex, ez⟩ := yj i H5 v H6 ⟨(s5 _ _ hp1).trans hp1.symm, (s5 _ _ hq1).trans hq1.symm⟩ y
      obtain ⟨z', ez', ha⟩ := al.getL ex
      rw [ez] at ez'
      cases ez'
      have s6 := s5.trans (same_new (o := .tup [x, z]) nt)
      refine ⟨t, _, rfl, SqT.of upd_same, rfl, _, _, rfl, _, _, rfl, rfl, rfl, yes_in ⟨_, rfl, _, rfl, x, z, rfl, ha.same ((same_new ntp).trans s6), fun H7 s7 => ⟨_, s7 _ _ (same_new nt _ _ hD), ?_, ?_, Same.own (s6.trans s7) nD⟩⟩⟩
      · rw [List.length_map, List.length_replicate]; exact small1000 (by omega)
      · rw [upd_same, List.replicate_succ', List.map_append]; rfl
    · rintro H5 ⟨hD, s5⟩
      refine ⟨D, _, rfl, SqL.of hD, ?_⟩
      rw [show (List.replicate xs.length true).all id = true by simp]
      exact q _ ((same_new ntp).trans s5)
  · have hp1 := same_new (o := .tup [V.ty "list", V.ty "tuple"]) ntp _ _ hp
    have hq1 := same_new (o := .tup [V.ty "list", V.ty "tuple"]) ntp _ _ hq
    refine ⟨_, tp, _, _, _, true, rfl, upd_same, .cons (.ty "list") (.cons (.ty "tuple") .nil), .base (.tup hq1), kit_tup, _, rfl, if_bl (fun _ => ?_) (fun z => nomatch z)⟩
    refine ⟨_, rfl, _, _, _, _, false, rfl, .ty "list", .base (.tup hp1), kit_ty (by decide +kernel), _, rfl, _, _, _, _, false, rfl, .ty "list", .base (.tup hq1), kit_ty (by decide +kernel), rfl, _, rfl, if_bl (fun z => nomatch z) (fun _ => ?_)⟩
    refine ⟨_, rfl, _, _, _, _, true, rfl, .ty "tuple", .base (.tup hp1), kit_ty (by decide +kernel), _, rfl, _, _, _, _, true, rfl, .ty "tuple", .base (.tup hq1), kit_ty (by decide +kernel), rfl, _, rfl, if_bl (fun z => nomatch z) (fun _ => ?_)⟩
    refine ⟨_, rfl, p, _, rfl, .inr (SqT.of hp1), _, rfl, q2, _, rfl, .inr (SqT.of hq1), rfl, _, rfl, if_bl (fun _ => ?_) (fun z => ?_)⟩
    case refine_2 =>
      rw [al.length, decide_eq_true rfl] at z
      cases z
    dsimp only [tNext, tRet, tCB, tCons, tLc]
    refine or_zip (p := p) (q := q2) (xs := xs) (ys := ys) (fun Q q => ⟨_, rfl, _, rfl, q⟩) (.inr ⟨hp1, hq1⟩) al.length (fun J gj sj yj D nD => lc_it (J := J) (n := xs.length) (fun i H5 => H5 D = some (.lst ((List.replicate i true).map V.bl)) ∧ Same (upd H tp (.tup [V.ty "list", V.ty "tuple"])) H5) ⟨upd_same, same_new nD⟩ ?_ ?_ ?_ ?_)
    · rintro i H5 hi ⟨hD, s5⟩
      exact gj i H5 ⟨(s5 _ _ hp1).trans hp1.symm, (s5 _ _ hq1).trans hq1.symm⟩ hi
    · rintro H5 ⟨hD, s5⟩
      exact sj H5 ⟨(s5 _ _ hp1).trans hp1.symm, (s5 _ _ hq1).trans hq1.symm⟩
    · rintro i v H5 H6 hi ⟨hD, s5⟩ y
      obtain ⟨t, x, z, rfl, nt, rfl, ex, ez⟩ := yj i H5 v H6 ⟨(s5 _ _ hp1).trans hp1.symm, (s5 _ _ hq1).trans hq1.symm⟩ y
      obtain ⟨z', ez', ha⟩ := al.getL ex
      rw [ez] at ez'
      cases ez'
      have s6 := s5.trans (same_new (o := .tup [x, z]) nt)
      refine ⟨t, _, rfl, SqT.of upd_same, rfl, _, _, rfl, _, _, rfl, rfl, rfl, yes_in ⟨_, rfl, _, rfl, x, z, rfl, ha.same ((same_new ntp).trans s6), fun H7 s7 => ⟨_, s7 _ _ (same_new nt _ _ hD), ?_, ?_, Same.own (s6.trans s7) nD⟩⟩⟩
      · rw [List.length_map, List.length_replicate]; exact small1000 (by omega)
      · rw [upd_same, List.replicate_succ', List.map_append]; rfl
    · rintro H5 ⟨hD, s5⟩
      refine ⟨D, _, rfl, SqL.of hD, ?_⟩
      rw [show (List.replicate xs.length true).all id = true by simp]
      exact q _ ((same_new ntp).trans s5)
theorem ok_alike {C : Addr} (T : Top K mg C) : ∀ (n : Nat) (f : Addr) (fd : FuncData), Fun K "_law_alike" "_law_alike" s_law_alike f fd → FnOk P w K mg base CX0 n f fd ["_law_found", "_law_due"] (spA n)
  | 0, _, _, _ => ⟨fun _ _ _ _ ⟨_, _, _, h, _⟩ => h.elim, fun _ _ _ _ _ _ _ _ _ _ _ _ _ ⟨_, _, _, h, _⟩ => h.elim⟩
  | n + 1, _, _, F => alike_step T n (ok_alike T n) F
abbrev sp_law_alike (K : PySem.W.Frag) : Sp := spA 6
theorem ok_law_alike {f : Addr} {fd : FuncData} (F : Fun K "_law_alike" "_law_alike" s_law_alike f fd) {C : Addr} (T : Top K mg C) : FnOk P w K mg base CX0 6 f fd ["_law_found", "_law_due"] (sp_law_alike K) := ok_alike T 6 f fd F
end
/-! ### a room of doors alone -/
def insOf (ss : List Str) : List Nat := (List.range ss.length).filter fun j => decide (ss[j]? = some ("in" : Str))
theorem ins_mem {ss : List Str} {k : Nat} (h : k ∈ insOf ss) : ss[k]? = some ("in" : Str) := of_decide_eq_true (List.mem_filter.mp h).2
theorem ins_len {ss : List Str} : (insOf ss).length = ss.count ("in" : Str) := by
  unfold insOf
  have : ∀ n, n ≤ ss.length → ((List.range n).filter fun j => decide (ss[j]? = some ("in" : Str))).length = (ss.take n).count ("in" : Str) := by
    intro n
    induction n with
    | zero => intro _; rfl
    | succ n ih =>
      intro h
      have e : ss[n]? = some ss[n] := List.getElem?_eq_getElem (by omega)
      rw [filt_succ, List.length_append, ih (by omega), List.take_add_one, e, List.count_append]
      by_cases c : ss[n] = "in"
      · rw [if_pos (decide_eq_true (by rw [c]))]
        simp [c]
      · rw [if_neg (by simpa using c)]
        simp [c]
  rw [this _ (Nat.le_refl _), List.take_length]
abbrev doorH (s : Str) : HR := ⟨s, none, 0⟩
theorem door_good {s : Str} (h : s = "in" ∨ s = "out") : GoodHand (doorH s) := ⟨.inr ⟨h, rfl⟩, (show (0 : Int) ≤ 0 by decide), (show (0 : Int) ≤ 30 by decide)⟩
theorem in_out : ("in" : Str) ≠ "out" := by decide +kernel
/-- the belts of a room of doors, as far as hand i -/
structure DB (ss : List Str) (i : Nat) (bs : List BR) : Prop where
  one : ∀ b ∈ bs, ss[b.one]? = some ("in" : Str)
  to : ∀ b ∈ bs, ss[b.to]? = some ("out" : Str) ∧ b.to < i
  th : ∀ b ∈ bs, b.th.length ≤ 6 ∧ ∀ x ∈ b.th, Small x
  cnt : ∀ k, k < i → (bs.map BR.to).count k = if ss[k]? = some ("out" : Str) then 1 else 0
  len : bs.length ≤ i
theorem DB.nil {ss : List Str} : DB ss 0 [] := ⟨(fun _ z => nomatch z), (fun _ z => nomatch z), (fun _ z => nomatch z), fun k h => absurd h (Nat.not_lt_zero _), Nat.le_refl _⟩
theorem DB.none {ss : List Str} {i : Nat} {bs : List BR} (d : DB ss i bs) {k : Nat} (h : i ≤ k) : (bs.map BR.to).count k = 0 := by
  refine List.count_eq_zero.mpr fun hk => ?_
  obtain ⟨b, hb, e⟩ := List.mem_map.mp hk
  have := (d.to b hb).2
  omega
theorem DB.skip {ss : List Str} {i : Nat} {bs : List BR} (d : DB ss i bs) (h : ss[i]? ≠ some ("out" : Str)) : DB ss (i + 1) bs := by
  refine ⟨d.one, fun b hb => ⟨(d.to b hb).1, Nat.lt_succ_of_lt (d.to b hb).2⟩, d.th, fun k hk => ?_, Nat.le_succ_of_le d.len⟩
  by_cases e : k = i
  · subst e
    rw [d.none (Nat.le_refl _), if_neg h]
  · exact d.cnt k (by omega)
theorem DB.more {ss : List Str} {i : Nat} {bs : List BR} (d : DB ss i bs) (h : ss[i]? = some ("out" : Str)) {g : Nat} {th : List Int} (hg : ss[g]? = some ("in" : Str)) (ht : th.length ≤ 6 ∧ ∀ x ∈ th, Small x) : DB ss (i + 1) (bs ++ [⟨g, i, th⟩]) := by
  refine ⟨fun b hb => ?_, fun b hb => ?_, fun b hb => ?_, fun k hk => ?_, by rw [List.length_append]; exact Nat.succ_le_succ d.len⟩
  · rcases List.mem_append.mp hb with hb | hb
    · exact d.one b hb
    · obtain rfl : b = _ := by simpa using hb
      exact hg
  · rcases List.mem_append.mp hb with hb | hb
    · exact ⟨(d.to b hb).1, Nat.lt_succ_of_lt (d.to b hb).2⟩
    · obtain rfl : b = _ := by simpa using hb
      exact ⟨h, Nat.lt_succ_self _⟩
  · rcases List.mem_append.mp hb with hb | hb
    · exact d.th b hb
    · obtain rfl : b = _ := by simpa using hb
      exact ht
  · rw [List.map_append, List.count_append]
    by_cases e : k = i
    · subst e
      rw [d.none (Nat.le_refl _), if_pos h]
      simp
    · rw [d.cnt k (by omega)]
      have : ([(⟨g, i, th⟩ : BR)].map BR.to).count k = 0 := by
        refine List.count_eq_zero.mpr fun z => ?_
        have : k = i := by simpa using z
        exact e this
      rw [this, Nat.add_zero]
theorem DB.ok {ss : List Str} {bs : List BR} (d : DB ss ss.length bs) (hs : ∀ s ∈ ss, s = "in" ∨ s = "out") (l : ss.length ≤ 6) : RoomOk (ss.map doorH) bs := by
  have at_ : ∀ k, (ss.map doorH)[k]? = (ss[k]?).map doorH := fun k => List.getElem?_map ..
  refine ⟨by rw [List.length_map]; omega, fun h hh => ?_, fun b hb => ?_, fun b hb h e => ?_, fun b hb => ⟨Nat.le_trans (d.th b hb).1 (by decide), trivial⟩, ⟨fun k => if ss[k]? = some ("in" : Str) then 0 else 1, fun b hb _ => ?_⟩, fun k h e => ?_, Nat.le_trans d.len (by omega)⟩
  · obtain ⟨s, hm, rfl⟩ := List.mem_map.mp hh
    exact door_good (hs s hm)
  · rw [List.length_map]
    exact ⟨(List.getElem?_eq_some_iff.mp (d.one b hb)).1, (List.getElem?_eq_some_iff.mp (d.to b hb).1).1⟩
  · rw [at_, d.one b hb] at e
    cases e
    exact in_out
  · show (if ss[b.one]? = some ("in" : Str) then (0 : Int) else 1) < (if ss[b.to]? = some ("in" : Str) then (0 : Int) else 1)
    rw [if_pos (d.one b hb), if_neg (by rw [(d.to b hb).1]; exact fun z => in_out (Option.some.inj z).symm)]
    decide
  · rw [at_] at e
    cases q : ss[k]? with
    | none => rw [q] at e; cases e
    | some s =>
      rw [q] at e
      cases e
      have kl := (List.getElem?_eq_some_iff.mp q).1
      rw [d.cnt k kl, q]
      rcases hs s (List.mem_of_getElem? q) with z | z <;> rw [z]
      · rw [if_neg fun z => in_out (Option.some.inj z)]
        decide +kernel
      · rw [if_pos rfl]
        decide +kernel
section
variable {P : Program} {w : World} {K : PySem.W.Frag} {mg : Str → Option Value} {base : Heap}
def sp_law_doors_room (K : PySem.W.Frag) : Sp := fun vs H Q _ => ∃ f c : Addr, vs = [.ref f] ∧ Flow H f c ∧ ∀ (r : Addr) (hs : List HR) (bs : List BR) (H' : Hp), RoomAt H' r hs bs → RoomOk hs bs → (∀ b ∈ bs, b.th.length ≤ 6) → Flow H' f c → But f H H' → Q (.ref r) H'
theorem ok_law_doors_room {f : Addr} {fd : FuncData} (F : Fun K "_law_doors_room" "_law_doors_room" s_law_doors_room f fd) {C : Addr} (T : Top K mg C) : FnOk P w K mg base CX0 3 f fd ["_law_flow_here"] (sp_law_doors_room K) := by
  obtain ⟨f_law_pick, fd_law_pick, F_law_pick, b_law_pick, m_law_pick⟩ := T.d_law_pick
  have G_law_pick := ok_law_pick (P := P) (w := w) (base := base) F_law_pick T
  obtain ⟨f_law_shuffled, fd_law_shuffled, F_law_shuffled, b_law_shuffled, m_law_shuffled⟩ := T.d_law_shuffled
  have G_law_shuffled := ok_law_shuffled (P := P) (w := w) (base := base) F_law_shuffled T
  obtain ⟨f_law_thing, fd_law_thing, F_law_thing, b_law_thing, m_law_thing⟩ := T.d_law_thing
  have G_law_thing := ok_law_thing (P := P) (w := w) (base := base) F_law_thing T
  refine F.ok sc_law_doors_room (fun vs H Q E h => ?_) (fun cdv A outer s H vs Q E hr h => ?_)
  · obtain ⟨f, c, rfl, _⟩ := h
    rfl
  obtain ⟨f, c, rfl, hF, q⟩ := h
  let R1 : TS := fun D' σ' H' => D'.rt = Q ∧ ∃ (iv ov : Int) (sl : Addr) (ss : List Str), σ' = [some (.ref f), some (.int iv), some (.int ov), some (.ref sl), none, none, none, none, none, none] ∧ H' sl = some (.lst (ss.map V.str)) ∧ sl ≠ f ∧ ss.length ≤ 6 ∧ 0 ≤ iv ∧ iv ≤ 3 ∧ ss.count ("in" : Str) = iv.toNat ∧ (ss = [] ∨ 0 < iv) ∧ (∀ s ∈ ss, s = "in" ∨ s = "out") ∧ Flow H' f c ∧ But f H H'
  refine ⟨_, (pss_cons (ps_set (i := 1) sc_law_doors_room.nd rfl (Or.inl rfl) (pe_call G_law_pick (hr.mono (by decide)) (by rfl) m_law_pick F_law_pick.kp b_law_pick .nil pass0 (pa_cons (pv 0) (pa_cons pe_int pa_nil))))
      (pss_cons (ps_set (i := 2) sc_law_doors_room.nd rfl (Or.inl rfl) (pe_ix (ix_listK K rfl) (pe_lst (pa_cons pe_int (pa_cons (pe_op op_add pe_int (pe_call G_law_pick (hr.mono (by decide)) (by rfl) m_law_pick F_law_pick.kp b_law_pick .nil pass0 (pa_cons (pv 0) (pa_cons pe_int pa_nil)))) pa_nil))) (pe_callTy call_int1 (by rfl) T.m_int (by decide +kernel) (pa_cons (pe_cmpR op_gt (pv 1) pe_int (nomark _)) pa_nil)) (fun _ _ => rfl)))
      (pss_cons (ps_set (i := 3) sc_law_doors_room.nd rfl (Or.inl rfl) (pe_call G_law_shuffled (hr.mono (by decide)) (by rfl) m_law_shuffled F_law_shuffled.kp b_law_shuffled .nil pass0 (pa_cons (pv 0) (pa_cons (pe_op op_cat (pe_op op_rep (pe_lst (pa_cons pe_str pa_nil)) (pv 1)) (pe_op op_rep (pe_lst (pa_cons pe_str pa_nil)) (pv 2))) pa_nil))))
      (PSs.to (pss_cons (ps_setLc (i := 4) (own := [("_law_k", 5), ("_law_sort", 6)]) (g := gTup K 2 (gCons (gName 5) (gCons (gName 6) gNil))) (by rfl) sc_law_doors_room.nd rfl rfl (sw_true rfl rfl rfl (by decide +kernel)) (pi_enum (by rfl) T.m_enumerate (pa_cons (pv 3) pa_nil)) (blkOk_by (own := [("_law_k", 5), ("_law_sort", 6)]) (N := N_law_doors_room) (sc := defScope s_law_doors_room) (by decide +kernel)) (fun _ _ _ _ _ => (pg_tupK K rfl rfl (pgs_cons (pg_name (i := 5) sc_law_doors_room.nd rfl (Or.inl rfl)) (pgs_cons (pg_name (i := 6) sc_law_doors_room.nd rfl (Or.inl rfl)) pgs_nil)))) (fun _ _ _ _ _ => pts_one (pt_cmpR op_eq (pv 6) pe_str (nomark _))) (fun _ _ _ _ _ => (pv 5)))
      (pss_cons (ps_set (i := 7) sc_law_doors_room.nd rfl (Or.inl rfl) (pe_lst pa_nil))
      (pss_cons (ps_for PassesOwn.never rfl (pi_enum (by rfl) T.m_enumerate (pa_cons (pv 3) pa_nil)) (pg_tupK K rfl rfl (pgs_cons (pg_name (i := 5) sc_law_doors_room.nd rfl (Or.inl rfl)) (pgs_cons (pg_name (i := 6) sc_law_doors_room.nd rfl (Or.inl rfl)) pgs_nil)))
        (pss_one (ps_if (pt_cmpR op_eq (pv 6) pe_str (nomark _)) (pss_cons (ps_set (i := 8) sc_law_doors_room.nd rfl (Or.inl rfl) (pe_callTy (call_tuple_ofK K rfl) (by rfl) T.m_tuple (by decide +kernel) (pa_cons (pe_lc (own := [("_law_j", 9)]) (g := gName 9) (tt := tYes) (by rfl) sc_law_doors_room.nd (pi_range1 (by rfl) T.m_range (pa_cons (pe_call G_law_pick (hr.mono (by decide)) (by rfl) m_law_pick F_law_pick.kp b_law_pick .nil pass0 (pa_cons (pv 0) (pa_cons pe_int pa_nil))) pa_nil)) (blkOk_by (own := [("_law_j", 9)]) (N := N_law_doors_room) (sc := defScope s_law_doors_room) (by decide +kernel)) (fun _ _ _ _ _ => (pg_name (i := 9) sc_law_doors_room.nd rfl (Or.inl rfl))) (fun _ _ _ _ _ => pts_nil) (fun _ _ _ _ _ => (pe_call G_law_thing (hr.mono (by decide)) (by rfl) m_law_thing F_law_thing.kp b_law_thing .nil pass0 (pa_cons (pv 0) pa_nil)))) pa_nil)))
      (pss_one (ps_expr (pe_bmK K rfl PySem.F.plainAttrs_list PySem.F.slot_list_append PySem.F.type_list_append mt_append (pv 7) (pa_cons (pe_tup (pa_cons (pe_ix (ix_listK K rfl) (pv 4) (pe_call G_law_pick (hr.mono (by decide)) (by rfl) m_law_pick F_law_pick.kp b_law_pick .nil pass0 (pa_cons (pv 0) (pa_cons (pv 1) pa_nil))) (fun _ _ => rfl)) (pa_cons (pv 5) (pa_cons (pv 8) pa_nil)))) pa_nil))))) pss_nil)))
      (pss_one (ps_ret (pe_tup (pa_cons (pe_callTy (call_tuple_ofK K rfl) (by rfl) T.m_tuple (by decide +kernel) (pa_cons (pe_lc (own := [("_law_sort", 6)]) (g := gName 6) (tt := tYes) (by rfl) sc_law_doors_room.nd (pi_listK K rfl (pv 3)) (blkOk_by (own := [("_law_sort", 6)]) (N := N_law_doors_room) (sc := defScope s_law_doors_room) (by decide +kernel)) (fun _ _ _ _ _ => (pg_name (i := 6) sc_law_doors_room.nd rfl (Or.inl rfl))) (fun _ _ _ _ _ => pts_nil) (fun _ _ _ _ _ => (pe_tup (pa_cons (pe_tup (pa_cons (pv 6) pa_nil)) (pa_cons pe_int pa_nil))))) pa_nil)) (pa_cons (pe_callTy (call_tuple_ofK K rfl) (by rfl) T.m_tuple (by decide +kernel) (pa_cons (pv 7) pa_nil)) pa_nil)))))))) R1 ?tail1)))), ?_⟩
  case tail1 =>
    rintro D' σ' H1 ⟨eD, iv, ov, sl, ss, rfl, hsl, nsl, ls, i0, i3, ci, some_, hall, F1, B1⟩
    refine ⟨_, rfl, sl, _, rfl, SqL.of hsl, fun G nG => lc_it (n := ss.length) (fun i H5 => H5 G = some (.lst (((List.range i).filter fun j => decide (ss[j]? = some ("in" : Str))).map nV)) ∧ Same H1 H5) ⟨upd_same, same_new nG⟩ ?_ ?_ ?_ ?_⟩
    · rintro i H5 hi ⟨_, s5⟩
      exact ⟨_, _, SqL.of (s5 _ _ hsl), by rw [List.getElem?_map, List.getElem?_eq_getElem hi]; rfl⟩
    · rintro H5 ⟨_, s5⟩
      exact ⟨_, SqL.of (s5 _ _ hsl), by rw [List.length_map]; exact Nat.le_refl _⟩
    · rintro i x H5 H6 hi ⟨hG, s5⟩ ⟨t, y, rfl, nt, rfl, fy⟩
      obtain ⟨sd, ei⟩ : ∃ sd, ss[i]? = some sd := ⟨_, List.getElem?_eq_getElem hi⟩
      have ey : y = V.str sd := by
        have := fy _ (SqL.of (s5 _ _ hsl))
        rw [List.getElem?_map, ei] at this
        exact (Option.some.inj this).symm
      subst ey
      have hG6 := same_new (o := .tup [.int (i : Nat), V.str sd]) nt _ _ hG
      have few := filt_len (p := fun j => decide (ss[j]? = some ("in" : Str))) i
      refine ⟨t, _, rfl, SqT.of upd_same, rfl, _, _, rfl, _, _, rfl, rfl, rfl, _, rfl, rfl, _, rfl, if_str (fun e => ?_) (fun e => ?_)⟩
      · refine ⟨_, rfl, _, hG6, by rw [List.length_map]; exact small1000 (by omega), ?_, Same.own (s5.trans (same_new nt)) nG⟩
        rw [upd_same, filt_succ, if_pos (decide_eq_true (by rw [ei, e])), List.map_append]
        rfl
      · refine ⟨?_, s5.trans (same_new nt)⟩
        rw [filt_succ, if_neg (fun z => e (by have := of_decide_eq_true z; rw [ei] at this; exact Option.some.inj this)), List.append_nil]
        exact hG6
    · rintro H2 ⟨hG, s2⟩
      have hG : H2 G = some (.lst ((insOf ss).map nV)) := hG
      have F2 := F1.same s2
      have gf : G ≠ f := F1.ne nG
      refine ⟨(by show 0 ≤ sizeLine; decide), fun L nL => ?_⟩
      have lf : L ≠ f := F2.ne nL
      have lc : L ≠ c := F2.nec nL
      have ls_ : L ≠ sl := (ne_of_none (s2 _ _ hsl) nL).symm
      have lg : L ≠ G := (ne_of_none hG nL).symm
      refine ⟨_, rfl, sl, _, rfl, SqL.of (same_new nL _ _ (s2 _ _ hsl)), for_it (n := ss.length) (fun i σ H3 => ∃ (bv : List V) (bs : List BR) (v5 v6 v8 v9 : Option V), σ = [some (.ref f), some (.int iv), some (.int ov), some (.ref sl), some (.ref G), v5, v6, some (.ref L), v8, v9] ∧ H3 L = some (.lst bv) ∧ All2 (BeltAt H3) bv bs ∧ DB ss i bs ∧ H3 sl = some (.lst (ss.map V.str)) ∧ H3 G = some (.lst ((insOf ss).map nV)) ∧ Flow H3 f c ∧ But f H2 H3)
        ⟨[], [], _, _, _, _, rfl, upd_same, .nil, DB.nil, same_new nL _ _ (s2 _ _ hsl), same_new nL _ _ hG, F2.new nL, But.refl.new nL⟩ ?_ ?_ ?_ ?_⟩
      · rintro i σ H3 hi ⟨bv, bs, v5, v6, v8, v9, rfl, hL, al, db, hsl3, hG3, F3, B3⟩
        exact ⟨_, _, SqL.of hsl3, by rw [List.getElem?_map, List.getElem?_eq_getElem hi]; rfl⟩
      · rintro σ H3 ⟨bv, bs, v5, v6, v8, v9, rfl, hL, al, db, hsl3, hG3, F3, B3⟩
        exact ⟨_, SqL.of hsl3, by rw [List.length_map]; exact Nat.le_refl _⟩
      · rintro i x σ H3 H4 hi ⟨bv, bs, v5, v6, v8, v9, rfl, hL, al, db, hsl3, hG3, F3, B3⟩ ⟨t, y, rfl, nt, rfl, fy⟩
        obtain ⟨sd, ei⟩ : ∃ sd, ss[i]? = some sd := ⟨_, List.getElem?_eq_getElem hi⟩
        have ey : y = V.str sd := by
          have := fy _ (SqL.of hsl3)
          rw [List.getElem?_map, ei] at this
          exact (Option.some.inj this).symm
        subst ey
        have F4 := F3.new (o := .tup [.int (i : Nat), V.str sd]) nt
        have B4 := B3.new (o := .tup [.int (i : Nat), V.str sd]) nt
        have s4 := same_new (H := H3) (o := .tup [.int (i : Nat), V.str sd]) nt
        refine ⟨t, _, rfl, SqT.of upd_same, rfl, _, _, rfl, _, _, rfl, rfl, ?_⟩
        refine ⟨_, rfl, rfl, _, rfl, if_str (fun e => ?_) (fun e => ?_)⟩
        · refine ⟨_, rfl, f, c, 7, rfl, by decide, by decide +kernel, F4, fun tv H5 t0 t1 F5 B5 => ?_⟩
          refine ⟨_, rfl, by omega, by omega, fun M nM => lc_range (lo := 0) (n := tv.toNat) (fun j H6 => ∃ vs : List Int, vs.length = j ∧ H6 M = some (.lst (vs.map V.int)) ∧ (∀ y ∈ vs, Small y) ∧ Flow H6 f c ∧ But f H5 H6) ⟨[], rfl, upd_same, (fun _ z => nomatch z), F5.new nM, But.refl.new nM⟩ ?_ ?_⟩
          · rintro j H6 hj ⟨vs, lv, hM, sm, F6, B6⟩
            have mf : M ≠ f := F5.ne nM
            have mc : M ≠ c := F5.nec nM
            refine ⟨rfl, yes_in ⟨_, rfl, f, c, rfl, F6, fun y H7 sy F7 B7 => ⟨_, B7 _ _ hM mf, ?_, vs ++ [y], by rw [List.length_append, lv]; rfl, ?_, ?_, F7.lst mf mc, (B6.trans B7).own nM⟩⟩⟩
            · rw [List.length_map, lv]; exact small1000 (by omega)
            · rw [upd_same, List.map_append]; rfl
            · intro z hz
              rcases List.mem_append.mp hz with hz | hz
              · exact sm z hz
              · obtain rfl : z = y := by simpa using hz
                exact sy
          · rintro H6 ⟨vs, lv, hM, sm, F6, B6⟩
            refine ⟨M, _, rfl, .inl ⟨SqL.of hM, fun tp ntp => ?_⟩⟩
            have F7 := F6.new (o := .tup (vs.map V.int)) ntp
            have B7 : But f H3 (upd H6 tp (.tup (vs.map V.int))) := ((((But.of s4).trans B5).trans B6).new ntp)
            refine ⟨_, rfl, .inl ⟨rfl, _, SqL.of (B7 _ _ hL lf)⟩, _, rfl, _, rfl, _, rfl, f, c, iv, rfl, ?_, ?_, F7, fun gi H8 g0 g1 F8 B8 => ?_⟩
            · rcases some_ with z | z
              · rw [z] at hi; exact absurd hi (Nat.not_lt_zero _)
              · exact z
            · have : iv.natAbs.log2 ≤ iv.natAbs := Nat.log2_le_self _
              omega
            have gl : gi.toNat < (insOf ss).length := by rw [ins_len, ci]; omega
            obtain ⟨g, eg⟩ : ∃ g, (insOf ss)[gi.toNat]? = some g := ⟨_, List.getElem?_eq_getElem gl⟩
            have egi : atI ((insOf ss).map nV) gi = some (nV g) := by
              have : atI ((insOf ss).map nV) ((gi.toNat : Nat) : Int) = some (nV g) := atI_nat (by rw [List.getElem?_map, eg]; rfl)
              rwa [show ((gi.toNat : Nat) : Int) = gi by omega] at this
            have B38 := B7.trans B8
            refine ⟨G, _, _, _, rfl, rfl, SqL.of (B38 _ _ hG3 gf), egi, _, rfl, _, rfl, (by show 3 ≤ sizeLine; decide), fun bt nbt => ⟨L, _, _, rfl, rfl, same_new nbt _ _ (B38 _ _ hL lf), ?_, ?_⟩⟩
            · rw [al.length]
              have := db.len
              exact small1000 (by omega)
            have hL9 := same_new (o := .tup [nV g, .int (i : Nat), V.ref tp]) nbt _ _ (B38 _ _ hL lf)
            have k9 : TK H3 (upd H8 bt (.tup [nV g, .int (i : Nat), V.ref tp])) := (TK.but F3 B38).trans (TK.new nbt)
            refine ⟨bv ++ [.ref bt], bs ++ [⟨g, i, vs⟩], _, _, _, _, rfl, upd_same, ?_, db.more (by rw [ei, e]) (ins_mem (List.mem_of_getElem? eg)) ⟨by omega, sm⟩, ?_, ?_, (F8.new nbt).lst lf lc, ?_⟩
            · refine ((al.imp fun _ _ z => z.keep k9).snoc ⟨bt, tp, rfl, upd_same, same_new nbt _ _ (B8 _ _ upd_same (F6.ne ntp))⟩).imp fun _ _ z => z.keep (TK.lst hL9)
            · rw [upd_ne ls_.symm]; exact same_new nbt _ _ (B38 _ _ hsl3 nsl)
            · rw [upd_ne lg.symm]; exact same_new nbt _ _ (B38 _ _ hG3 gf)
            · exact ((B3.trans B38).new nbt).own nL
        · have k4 : TK H3 _ := TK.new (o := .tup [.int (i : Nat), V.str sd]) nt
          refine ⟨bv, bs, _, _, _, _, rfl, s4 _ _ hL, al.imp fun _ _ z => z.keep k4, db.skip (by rw [ei]; exact fun z => e (Option.some.inj z)), s4 _ _ hsl3, s4 _ _ hG3, F4, B4⟩
      · rintro σ H3 ⟨bv, bs, v5, v6, v8, v9, rfl, hL, al, db, hsl3, hG3, F3, B3⟩
        refine ⟨_, rfl, sl, rfl, ⟨_, SqL.of hsl3⟩, fun E nE => lc_list (K := K) (a := sl) (xs := ss.map V.str) (fun i H4 => ∃ hv, H4 E = some (.lst hv) ∧ All2 (HandAt H4) hv ((ss.take i).map doorH) ∧ Same H3 H4) ⟨[], upd_same, .nil, same_new nE⟩ (fun i H4 _ ⟨_, _, _, s4⟩ => SqL.of (s4 _ _ hsl3)) ?_ ?_⟩
        · rintro i x H4 hx ⟨hv, hE, alh, s4⟩
          have il := (List.getElem?_eq_some_iff.mp hx).1
          rw [List.length_map] at il
          obtain ⟨sd, ei⟩ : ∃ sd, ss[i]? = some sd := ⟨_, List.getElem?_eq_getElem il⟩
          rw [List.getElem?_map, ei] at hx
          cases hx
          refine ⟨rfl, yes_in ⟨_, rfl, (by show 1 ≤ sizeLine; decide), fun a1 na1 => ⟨(by show 2 ≤ sizeLine; decide), fun a2 na2 => ?_⟩⟩⟩
          have s6 : Same H4 _ := (same_new (o := .tup [V.str sd]) na1).trans (same_new (o := .tup [V.ref a1, V.int 0]) na2)
          refine ⟨hv, s6 _ _ hE, ?_, hv ++ [.ref a2], upd_same, ?_, Same.own (s4.trans s6) nE⟩
          · rw [alh.length, List.length_map, List.length_take]; exact small1000 (by omega)
          · rw [List.take_add_one, ei, List.map_append]
            exact ((alh.imp fun _ _ z => z.keep (TK.same s6)).snoc ⟨a2, a1, rfl, upd_same, same_new na2 _ _ upd_same⟩).imp fun _ _ z => z.keep (TK.lst (s6 _ _ hE))
        · rintro H4 ⟨hv, hE, alh, s4⟩
          rw [List.length_map, List.take_length] at alh
          refine ⟨E, _, rfl, .inl ⟨SqL.of hE, fun t1 nt1 => ⟨_, rfl, L, _, rfl, .inl ⟨SqL.of (same_new nt1 _ _ (s4 _ _ hL)), fun t2 nt2 => ⟨(by show 2 ≤ sizeLine; decide), fun t3 nt3 => ?_⟩⟩⟩⟩⟩
          have k : Same H4 (upd (upd (upd H4 t1 (.tup hv)) t2 (.tup bv)) t3 (.tup [V.ref t1, V.ref t2])) := ((same_new nt1).trans (same_new nt2)).trans (same_new nt3)
          rw [eD]
          refine q t3 (ss.map doorH) bs _ ⟨t1, t2, hv, bv, upd_same, same_new nt3 _ _ (same_new nt2 _ _ upd_same), same_new nt3 _ _ upd_same, alh.imp fun _ _ z => z.keep (TK.same k), al.imp fun _ _ z => (z.keep (TK.same s4)).keep (TK.same k)⟩ (db.ok hall ls) (fun b hb => (db.th b hb).1) (((F3.same s4)).same k) ((((B1.trans (But.of s2)).trans B3).trans (But.of s4)).trans (But.of k))
  refine ⟨_, rfl, f, c, 4, rfl, by decide, by decide +kernel, hF, fun iv H1 i0 i1 F1 B1 => ?_⟩
  refine ⟨_, rfl, f, c, 3, rfl, by decide, by decide +kernel, F1, fun ov H2 o0 o1 F2 B2 => ⟨_, _, rfl, rfl, (by show 2 ≤ sizeLine; decide), fun l nl => ?_⟩⟩
  obtain ⟨o, ho, oz, o2, o3⟩ : ∃ o : Int, atI [V.int 0, V.int (1 + ov)] (if decide (iv > 0) = true then 1 else 0) = some (.int o) ∧ (iv = 0 → o = 0) ∧ 0 ≤ o ∧ o ≤ 3 := by
    by_cases z : iv > 0
    · rw [decide_eq_true z]
      exact ⟨1 + ov, rfl, fun e => by omega, by omega, by omega⟩
    · rw [decide_eq_false z]
      exact ⟨0, rfl, fun _ => rfl, by omega, by omega⟩
  have F3 := F2.new (o := .lst [V.int 0, V.int (1 + ov)]) nl
  refine ⟨_, rfl, _, _, rfl, rfl, .inr ⟨_, rfl, l, _, _, _, rfl, rfl, SqL.of upd_same, ho, ?_⟩⟩
  refine ⟨_, rfl, (by show 1 ≤ sizeLine; decide), fun l1 nl1 => ⟨_, rfl, l1, iv, _, rfl, rfl, upd_same, by omega, by omega, little (by show 1 * iv.toNat ≤ 1000; omega), fun p1 np1 => ?_⟩⟩
  rw [flat_rep]
  have F4 := (F3.new (o := .lst [V.str "in"]) nl1).new (o := .lst (List.replicate iv.toNat (V.str "in"))) np1
  refine ⟨(by show 1 ≤ sizeLine; decide), fun l2 nl2 => ⟨_, rfl, l2, o, _, rfl, rfl, upd_same, by omega, by omega, little (by show 1 * o.toNat ≤ 1000; omega), fun p2 np2 => ?_⟩⟩
  rw [flat_rep]
  have F5 := (F4.new (o := .lst [V.str "out"]) nl2).new (o := .lst (List.replicate o.toNat (V.str "out"))) np2
  refine ⟨p1, p2, _, _, rfl, rfl, same_new np2 _ _ (same_new nl2 _ _ upd_same), upd_same, ?_, fun p3 np3 => ?_⟩
  · rw [List.length_replicate, List.length_replicate]; exact little (by omega)
  have F6 := F5.new (o := .lst (List.replicate iv.toNat (V.str "in") ++ List.replicate o.toNat (V.str "out"))) np3
  refine ⟨f, c, p3, _, rfl, SqL.of upd_same, F5.ne np3, ?_, F6, fun p ys H8 hp np hy F8 B8 => ?_⟩
  · rw [List.length_append, List.length_replicate, List.length_replicate]; omega
  have ez : List.replicate iv.toNat (V.str "in") ++ List.replicate o.toNat (V.str "out") = (List.replicate iv.toNat ("in" : Str) ++ List.replicate o.toNat ("out" : Str)).map V.str := by
    rw [List.map_append, List.map_replicate, List.map_replicate]
  rw [ez] at hp
  obtain ⟨ss, rfl, hss⟩ := perm_strs hp
  refine ⟨rfl, iv, o, p, ss, rfl, hy, F6.ne np, ?_, i0, by omega, ?_, ?_, ?_, F8, But.trans ((((((((B1.trans B2).new nl).new nl1).new np1).new nl2).new np2).new np3)) B8⟩
  · rw [hss.length_eq, List.length_append, List.length_replicate, List.length_replicate]; omega
  · rw [hss.count_eq, List.count_append, List.count_replicate, List.count_replicate, if_pos (beq_self_eq_true _), if_neg (by simpa using in_out.symm), Nat.add_zero]
  · by_cases z : 0 < iv
    · exact .inr z
    · refine .inl (List.eq_nil_of_length_eq_zero ?_)
      rw [hss.length_eq, List.length_append, List.length_replicate, List.length_replicate, oz (by omega)]
      show iv.toNat + 0 = 0
      omega
  · intro s hs
    rcases List.mem_append.mp (hss.mem_iff.mp hs) with hs | hs
    · exact .inl (List.mem_replicate.mp hs).2
    · exact .inr (List.mem_replicate.mp hs).2
def sp_law_any_room (K : PySem.W.Frag) : Sp := fun vs H Q _ => ∃ f c : Addr, vs = [.ref f] ∧ Flow H f c ∧ ∀ (r : Addr) (hs : List HR) (bs : List BR) (H' : Hp), RoomAt H' r hs bs → RoomOk hs bs → (∀ b ∈ bs, b.th.length ≤ 6) → Flow H' f c → But f H H' → Q (.ref r) H'
theorem ok_law_any_room {f : Addr} {fd : FuncData} (F : Fun K "_law_any_room" "_law_any_room" s_law_any_room f fd) {C : Addr} (T : Top K mg C) : FnOk P w K mg base CX0 6 f fd ["_law_flow_here"] (sp_law_any_room K) := by
  obtain ⟨f_law_pick, fd_law_pick, F_law_pick, b_law_pick, m_law_pick⟩ := T.d_law_pick
  have G_law_pick := ok_law_pick (P := P) (w := w) (base := base) F_law_pick T
  obtain ⟨f_law_room, fd_law_room, F_law_room, b_law_room, m_law_room⟩ := T.d_law_room
  have G_law_room := ok_law_room (P := P) (w := w) (base := base) F_law_room T
  obtain ⟨f_law_doors_room, fd_law_doors_room, F_law_doors_room, b_law_doors_room, m_law_doors_room⟩ := T.d_law_doors_room
  have G_law_doors_room := ok_law_doors_room (P := P) (w := w) (base := base) F_law_doors_room T
  refine F.ok sc_law_any_room (fun vs H Q E h => ?_) (fun cdv A outer s H vs Q E hr h => ?_)
  · obtain ⟨f, c, rfl, _⟩ := h
    rfl
  obtain ⟨f, c, rfl, hF, q⟩ := h
  refine ⟨_, (pss_cons (ps_set (i := 1) sc_law_any_room.nd rfl (Or.inl rfl) (pe_call G_law_pick (hr.mono (by decide)) (by rfl) m_law_pick F_law_pick.kp b_law_pick .nil pass0 (pa_cons (pv 0) (pa_cons pe_int pa_nil))))
      (pss_cons (ps_if (pt_cmpR op_eq (pv 1) pe_int (nomark _)) (pss_cons (ps_set (i := 2) sc_law_any_room.nd rfl (Or.inl rfl) (pe_call G_law_doors_room (hr.mono (by decide)) (by rfl) m_law_doors_room F_law_doors_room.kp b_law_doors_room .nil pass0 (pa_cons (pv 0) pa_nil)))
      (pss_one (ps_if (pt_cmpR op_gt (pe_callB (call_len_seqK K rfl) (by rfl) T.m_len (by decide +kernel) (pa_cons (pe_ix (ix_tupK K rfl) (pv 2) pe_int (fun _ _ => rfl)) pa_nil)) pe_int (nomark _)) (pss_one (ps_ret (pv 2))) pss_nil))) pss_nil)
      (pss_one (ps_ret (pe_call G_law_room (hr.mono (by decide)) (by rfl) m_law_room F_law_room.kp b_law_room .nil pass0 (pa_cons (pv 0) (pa_cons (pe_ix (ix_listK K rfl) (pe_lst (pa_cons pe_int (pa_cons pe_int (pa_cons pe_int (pa_cons pe_int (pa_cons pe_int (pa_cons pe_int (pa_cons pe_int (pa_cons pe_int pa_nil))))))))) (pv 1) (fun _ _ => rfl)) pa_nil))))))), ?_⟩
  refine ⟨_, rfl, f, c, 8, rfl, by decide, by decide +kernel, hF, fun v H1 v0 v1 F1 B1 => ?_⟩
  have fin : ∀ (H2 : Hp), Flow H2 f c → But f H H2 → ∀ l, H2 l = none → ∃ (p : Addr) (xs : List V) (i : Int) (u : V), V.ref l = .ref p ∧ V.int v = .int i ∧ SqL K (upd H2 l (.lst [V.int 5, V.int 5, V.int 5, V.int 5, V.int 3, V.int 3, V.int 2, V.int 8])) p xs ∧ atI xs i = some u ∧ sp_law_room K [.ref f, u] (upd H2 l (.lst [V.int 5, V.int 5, V.int 5, V.int 5, V.int 3, V.int 3, V.int 2, V.int 8])) Q E0 := fun H2 F2 B2 l nl => by
    obtain ⟨mm, hmm, m1, m8⟩ : ∃ mm : Int, atI [V.int 5, V.int 5, V.int 5, V.int 5, V.int 3, V.int 3, V.int 2, V.int 8] v = some (.int mm) ∧ 1 ≤ mm ∧ mm ≤ 8 := by
      have : v = 0 ∨ v = 1 ∨ v = 2 ∨ v = 3 ∨ v = 4 ∨ v = 5 ∨ v = 6 ∨ v = 7 := by omega
      rcases this with rfl | rfl | rfl | rfl | rfl | rfl | rfl | rfl
      · exact ⟨5, rfl, by decide, by decide⟩
      · exact ⟨5, rfl, by decide, by decide⟩
      · exact ⟨5, rfl, by decide, by decide⟩
      · exact ⟨5, rfl, by decide, by decide⟩
      · exact ⟨3, rfl, by decide, by decide⟩
      · exact ⟨3, rfl, by decide, by decide⟩
      · exact ⟨2, rfl, by decide, by decide⟩
      · exact ⟨8, rfl, by decide, by decide⟩
    exact ⟨l, _, v, _, rfl, rfl, SqL.of upd_same, hmm, f, c, mm, rfl, m1, m8, F2.new nl, fun r hs bs H3 hR ok _ l6 F3 B3 => q r hs bs H3 hR ok l6 F3 ((B2.new nl).trans B3)⟩
  refine ⟨_, rfl, rfl, _, rfl, if_bl (fun _ => ?_) (fun _ => ?_)⟩
  · refine ⟨_, rfl, f, c, rfl, F1, fun r hs bs H2 hR ok l6 F2 B2 => ?_⟩
    obtain ⟨ha, ba, hv, bv, er, eh, eb, alh, alb⟩ := hR.ex
    refine ⟨_, rfl, r, _, _, _, rfl, rfl, SqT.of er, atI_nat (j := 0) rfl, ha, _, rfl, .inr (SqT.of eh), _, _, rfl, rfl, _, rfl, if_bl (fun _ => ?_) (fun _ => ?_)⟩
    · exact ⟨_, rfl, q r hs bs H2 hR ok l6 F2 (B1.trans B2)⟩
    · exact ⟨_, rfl, (by show 8 ≤ sizeLine; decide), fun l nl => ⟨_, rfl, fin H2 F2 (B1.trans B2) l nl⟩⟩
  · exact ⟨_, rfl, (by show 8 ≤ sizeLine; decide), fun l nl => ⟨_, rfl, fin H1 F1 B1 l nl⟩⟩
end
section
variable {P : Program} {w : World} {K : PySem.W.Frag} {mg : Str → Option Value} {base : Heap}
def sp_law_rows (K : PySem.W.Frag) : Sp := fun vs H Q _ => ∃ (f c r : Addr) (hs : List HR) (bs : List BR) (m : Int), vs = [.ref f, .ref r, .int m] ∧ 0 ≤ m ∧ m ≤ 100 ∧ Flow H f c ∧ RoomAt H r hs bs ∧ hs.length ≤ 12 ∧ (∀ h ∈ hs, GoodHand h) ∧
  ∀ (p : Addr) (rv : List V) (rows : List (List Int)) (H' : Hp), H p = none → H' p = some (.lst rv) → All2 (RowAt H') rv rows → rows.length = m.toNat → (∀ x ∈ rows, x.length = (doorsOf "in" hs).length ∧ ∀ y ∈ x, Small y) → Flow H' f c → But f H H' → Q (.ref p) H'
theorem ok_law_rows {f : Addr} {fd : FuncData} (F : Fun K "_law_rows" "_law_rows" s_law_rows f fd) {C : Addr} (T : Top K mg C) : FnOk P w K mg base CX0 3 f fd ["_law_flow_here", "_law_room_here", "_law_many"] (sp_law_rows K) := by
  obtain ⟨f_law_thing, fd_law_thing, F_law_thing, b_law_thing, m_law_thing⟩ := T.d_law_thing
  have G_law_thing := ok_law_thing (P := P) (w := w) (base := base) F_law_thing T
  refine F.ok sc_law_rows (fun vs H Q E h => ?_) (fun cdv A outer s H vs Q E hr h => ?_)
  · obtain ⟨f, c, r, hs, bs, m, rfl, _⟩ := h
    rfl
  obtain ⟨f, c, r, hs, bs, m, rfl, m0, m1, hF, hR, lh, good, q⟩ := h
  obtain ⟨ha, ba, hv, bv, er, eh, eb, alh, alb⟩ := hR.ex
  have lhv := alh.length
  refine ⟨_, (pss_cons (ps_set (i := 3) sc_law_rows.nd rfl (Or.inr rfl) (pe_lc (own := [("_law_hand", 4)]) (g := gName 4) (by rfl) sc_law_rows.nd (pi_tupK K rfl (pe_ix (ix_tupK K rfl) (pv 1) pe_int (fun _ _ => rfl))) (blkOk_by (own := [("_law_hand", 4)]) (N := N_law_rows) (sc := defScope s_law_rows) (by decide +kernel)) (fun _ _ _ _ _ => (pg_name (i := 4) sc_law_rows.nd rfl (Or.inl rfl))) (fun _ _ _ _ _ => pts_one (pt_cmpR (op_eqDK K rfl hr.units) (pe_ix (ix_tupK K rfl) (pv 4) pe_int (fun _ _ => rfl)) (pe_tup (pa_cons pe_str pa_nil)) (nomark _))) (fun _ _ _ _ _ => (pv 4))))
      (pss_one (ps_ret (pe_lc (own := [("_law_k", 6)]) (g := gName 6) (tt := tYes) (by rfl) sc_law_rows.nd (pi_range1 (by rfl) T.m_range (pa_cons (pv 2) pa_nil)) (blkOk_by (own := [("_law_k", 6)]) (N := N_law_rows) (sc := defScope s_law_rows) (by decide +kernel)) (fun _ _ _ _ _ => (pg_name (i := 6) sc_law_rows.nd rfl (Or.inl rfl))) (fun _ _ _ _ _ => pts_nil) (fun _ _ _ _ _ => (pe_callTy (call_tuple_ofK K rfl) (by rfl) T.m_tuple (by decide +kernel) (pa_cons (pe_lc (own := [("_law_door", 5)]) (g := gName 5) (tt := tYes) (by rfl) sc_law_rows.nd (pi_listK K rfl (pv 3)) (blkOk_by (own := [("_law_door", 5)]) (N := N_law_rows) (sc := { kind := .function, names := [(".0", .local), ("_law_k", .local), ("tuple", .globalImplicit), ("_law_doors_here", .cell), ("_law_flow_here", .cell)], isGenerator := false, isCoroutine := false }) (by decide +kernel)) (fun _ _ _ _ _ => (pg_name (i := 5) sc_law_rows.nd rfl (Or.inl rfl))) (fun _ _ _ _ _ => pts_nil) (fun _ _ _ _ _ => (pe_call G_law_thing (hr.mono (by decide)) (by rfl) m_law_thing F_law_thing.kp b_law_thing .nil pass0 (pa_cons (pv 0) pa_nil)))) pa_nil))))))), ?_⟩
  refine ⟨_, rfl, r, _, _, _, rfl, rfl, SqT.of er, atI_nat (j := 0) rfl, ha, rfl, ⟨_, SqT.of eh⟩, fun D nD => lc_tup (K := K) (a := ha) (xs := hv) (fun i H5 => ∃ dv : List V, H5 D = some (.lst dv) ∧ dv.length = ((List.range i).filter fun j => decide (hs[j]?.map HR.wd = some ("in" : Str))).length ∧ Same H H5) ⟨[], upd_same, rfl, same_new nD⟩ (fun i H5 _ ⟨_, _, _, s5⟩ => SqT.of (s5 _ _ eh)) ?_ ?_⟩
  · rintro i x H5 hx ⟨dv, hD, ld, s5⟩
    obtain ⟨hh, eb2, ⟨t2, g, rfl, e1, e2⟩⟩ := alh.getL hx
    have il := (List.getElem?_eq_some_iff.mp eb2).1
    have gh := good _ (List.mem_of_getElem? eb2)
    have few := filt_len (p := fun j => decide (hs[j]?.map HR.wd = some ("in" : Str))) i
    refine ⟨rfl, _, rfl, t2, _, _, _, rfl, rfl, SqT.of (s5 _ _ e1), atI_nat (j := 0) rfl, (by show 1 ≤ sizeLine; decide), fun o1 no1 => ?_⟩
    have s6 := s5.trans (same_new (o := .tup [V.str "in"]) no1)
    have hD6 := same_new (o := .tup [V.str "in"]) no1 _ _ hD
    refine ⟨_, _, rule_dp (s6 _ _ e2), .tup (SqT.of upd_same) (.cons (.str _) .nil), rule_shaped gh.lay, one_shaped (by decide +kernel), _, rfl, ?_⟩
    rw [rule_eqv, gh.door "in" (.inl rfl)]
    by_cases cc : hh.wd = "in"
    · rw [decide_eq_true cc]
      refine if_bl (fun _ => ⟨_, rfl, dv, hD6, small1000 (by omega), _, upd_same, ?_, Same.own s6 nD⟩) (fun z => nomatch z)
      rw [filt_succ, if_pos (decide_eq_true (by rw [eb2, ← cc]; rfl)), List.length_append, List.length_append, ld]
      rfl
    · rw [decide_eq_false cc]
      refine if_bl (fun z => nomatch z) (fun _ => ⟨dv, hD6, ?_, s6⟩)
      rw [filt_succ, if_neg fun z => cc (by have := of_decide_eq_true z; rw [eb2] at this; exact Option.some.inj this), List.append_nil]
      exact ld
  · rintro H5 ⟨dv, hD, ld, s5⟩
    rw [lhv] at ld
    have ld : dv.length = (doorsOf "in" hs).length := ld
    have ldl := doors_len (z := "in") (hs := hs)
    have F5 := hF.same s5
    have df : D ≠ f := hF.ne nD
    refine ⟨_, rfl, _, rfl, by omega, by omega, fun L nL => lc_range (lo := 0) (n := m.toNat) (fun i H6 => ∃ (rv : List V) (rows : List (List Int)), H6 L = some (.lst rv) ∧ H6 D = some (.lst dv) ∧ All2 (RowAt H6) rv rows ∧ rows.length = i ∧ (∀ x ∈ rows, x.length = (doorsOf "in" hs).length ∧ ∀ y ∈ x, Small y) ∧ Flow H6 f c ∧ But f H5 H6) ⟨[], [], upd_same, same_new nL _ _ hD, .nil, rfl, (fun _ z => nomatch z), F5.new nL, But.refl.new nL⟩ ?_ ?_⟩
    · rintro i H6 hi ⟨rv, rows, hL, hD6, al, lr, ok, F6, B6⟩
      refine ⟨rfl, yes_in ⟨_, rfl, D, rfl, ⟨_, SqL.of hD6⟩, fun M nM => lc_list (K := K) (a := D) (xs := dv) (fun j H7 => ∃ vs : List Int, vs.length = j ∧ H7 M = some (.lst (vs.map V.int)) ∧ (∀ y ∈ vs, Small y) ∧ H7 D = some (.lst dv) ∧ Flow H7 f c ∧ But f H6 H7) ⟨[], rfl, upd_same, (fun _ z => nomatch z), same_new nM _ _ hD6, F6.new nM, But.refl.new nM⟩ (fun j H7 _ ⟨_, _, _, _, h, _⟩ => SqL.of h) ?_ ?_⟩⟩
      · rintro j x H7 hx ⟨vs, lv, hM, sm, hD7, F7, B7⟩
        have jl := (List.getElem?_eq_some_iff.mp hx).1
        have mf : M ≠ f := F6.ne nM
        have mc : M ≠ c := F6.nec nM
        have md : D ≠ M := ne_of_none hD6 nM
        refine ⟨rfl, yes_in ⟨_, rfl, f, c, rfl, F7, fun y H8 sy F8 B8 => ⟨_, B8 _ _ hM mf, ?_, vs ++ [y], by rw [List.length_append, lv]; rfl, ?_, ?_, ?_, F8.lst mf mc, (B7.trans B8).own nM⟩⟩⟩
        · rw [List.length_map, lv]; exact small1000 (by omega)
        · rw [upd_same, List.map_append]; rfl
        · intro z hz
          rcases List.mem_append.mp hz with hz | hz
          · exact sm z hz
          · obtain rfl : z = y := by simpa using hz
            exact sy
        · rw [upd_ne md]; exact B8 _ _ hD7 df
      · rintro H7 ⟨vs, lv, hM, sm, hD7, F7, B7⟩
        have lf : L ≠ f := F5.ne nL
        have lc : L ≠ c := F5.nec nL
        refine ⟨M, _, rfl, .inl ⟨SqL.of hM, fun p np => ?_⟩⟩
        have hL7 := same_new (o := .tup (vs.map V.int)) np _ _ (B7 _ _ hL lf)
        refine ⟨rv, hL7, by rw [al.length, lr]; exact small1000 (by omega), rv ++ [V.ref p], rows ++ [vs], upd_same, ?_, ?_, by rw [List.length_append, lr]; rfl, ?_, (F7.new np).lst lf lc, ?_⟩
        · rw [upd_ne (ne_of_none hD nL)]; exact same_new np _ _ hD7
        · exact ((al.imp fun _ _ z => z.keep ((TK.but F6 B7).trans (TK.new np))).snoc ⟨p, rfl, upd_same⟩).imp fun _ _ z => z.keep (TK.lst hL7)
        · intro x hx
          rcases List.mem_append.mp hx with hx | hx
          · exact ok x hx
          · obtain rfl : x = vs := by simpa using hx
            exact ⟨by rw [lv, ld], sm⟩
        · exact ((B6.trans B7).new np).own nL
    · rintro H6 ⟨rv, rows, hL, hD6, al, lr, ok, F6, B6⟩
      exact q L rv rows H6 (same_none s5 nL) hL al lr ok F6 ((But.of s5).trans B6)
end
section
variable {P : Program} {w : World} {K : PySem.W.Frag} {mg : Str → Option Value} {base : Heap}
/-! ### what the law reckons a hand makes -/
theorem five_of {h : HR} (g : GoodHand h) (n0 : h.wd ≠ "in") (n1 : h.wd ≠ "always") (n2 : h.wd ≠ "times") (n3 : h.wd ≠ "pick") (n4 : needs h.wd ≠ 1) : h.wd = "sum" ∨ h.wd = "gap" ∨ h.wd = "below" ∨ h.wd = "most" ∨ h.wd = "least" := by
  have o : h.wd ≠ "out" := fun z => by rw [z] at n4; exact n4 (by decide +kernel)
  have s : h.wd ≠ "same" := fun z => by rw [z] at n4; exact n4 (by decide +kernel)
  rcases g.1 with k | k
  · have := k.wd
    unfold nine at this
    simp only [List.mem_cons, List.not_mem_nil, or_false] at this
    rcases this with z | z | z | z | z | z | z | z | z
    · exact absurd z n1
    · exact absurd z s
    · exact absurd z n2
    · exact .inl z
    · exact .inr (.inl z)
    · exact .inr (.inr (.inl z))
    · exact .inr (.inr (.inr (.inl z)))
    · exact .inr (.inr (.inr (.inr z)))
    · exact absurd z n3
  · exact absurd k.1 (fun z => z.elim n0 o)
theorem one_of {h : HR} (g : GoodHand h) (n1 : h.wd ≠ "always") (n2 : h.wd ≠ "times") (n4 : needs h.wd = 1) : h.wd = "same" ∨ h.wd = "out" := by
  have n4' := n4
  unfold needs at n4
  by_cases a : h.wd ∈ (["in", "always"] : List Str)
  · rw [if_pos a] at n4; cases n4
  · rw [if_neg a] at n4
    by_cases b : h.wd ∈ (["out", "same", "times"] : List Str)
    · simp only [List.mem_cons, List.not_mem_nil, or_false] at b
      rcases b with b | b | b
      · exact .inr b
      · exact .inl b
      · exact absurd b n2
    · rw [if_neg b] at n4
      split at n4 <;> exact absurd n4 (by decide)
abbrev kv5 (a b : Int) : List (Key × V) := [(.inr "sum", .int (a + b)), (.inr "gap", .int (a - b)), (.inr "below", .int (if a < b then 1 else 0)), (.inr "most", .int (if b > a then b else a)), (.inr "least", .int (if b < a then b else a))]
theorem five_val {wd : Str} (h : wd = "sum" ∨ wd = "gap" ∨ wd = "below" ∨ wd = "most" ∨ wd = "least") (n a b c : Int) : valV (mergeK [] (kv5 a b)) (.inr wd) = some (.int (mk wd n a b c)) := by
  rcases h with e | e | e | e | e <;> subst e <;> rfl
def sp_law_made_by (K : PySem.W.Frag) : Sp := fun vs H Q _ => ∃ (r t : Addr) (h : HR) (xs : List Int), vs = [.ref r, .ref t] ∧ H r = some (.tup (ruleL h)) ∧ H t = some (.lst (xs.map V.int)) ∧ GoodHand h ∧ h.wd ≠ "in" ∧ ((xs.length : Nat) : Int) = needs h.wd ∧ ∀ H', Same H H' → Q (.int (mkR h xs)) H'
theorem ok_law_made_by {f : Addr} {fd : FuncData} (F : Fun K "_law_made_by" "_law_made_by" s_law_made_by f fd) {C : Addr} (T : Top K mg C) : FnOk P w K mg base CX0 1 f fd ["_law_rule_here", "_law_things"] (sp_law_made_by K) := by
  refine F.ok sc_law_made_by (fun vs H Q E h => ?_) (fun cdv A outer s H vs Q E hr h => ?_)
  · obtain ⟨r, t, h, xs, rfl, _⟩ := h
    rfl
  obtain ⟨r, t, h, xs, rfl, hr1, ht, g, win, hl, q⟩ := h
  have A := args_of g win hl
  unfold mkR at q
  obtain ⟨n, hn⟩ : ∃ n, n = h.no.getD 0 := ⟨_, rfl⟩
  obtain ⟨a, ha⟩ : ∃ a, a = xs.getD 0 0 := ⟨_, rfl⟩
  obtain ⟨b, hb⟩ : ∃ b, b = xs.getD 1 0 := ⟨_, rfl⟩
  obtain ⟨c, hc⟩ : ∃ c, c = xs.getD 2 0 := ⟨_, rfl⟩
  rw [← hn, ← ha, ← hb, ← hc] at q A
  have q1 := fun H' (s' : Same H H') => q H' s'
  refine ⟨_, (pss_cons (ps_if (pt_cmpR op_eq (pe_ix (ix_tupK K rfl) (pv 0) pe_int (fun _ _ => rfl)) pe_str (nomark _)) (pss_one (ps_ret (pe_ix (ix_tupK K rfl) (pv 0) pe_int (fun _ _ => rfl)))) pss_nil)
      (pss_cons (ps_set (i := 2) sc_law_made_by.nd rfl (Or.inl rfl) (pe_ix (ix_listK K rfl) (pv 1) pe_int (fun _ _ => rfl)))
      (pss_cons (ps_if (pt_cmpR op_eq (pe_ix (ix_tupK K rfl) (pv 0) pe_int (fun _ _ => rfl)) pe_str (nomark _)) (pss_one (ps_ret (pe_op op_mul (pe_ix (ix_tupK K rfl) (pv 0) pe_int (fun _ _ => rfl)) (pv 2)))) pss_nil)
      (pss_cons (ps_if (pt_cmpR op_eq (pe_ix (ix_tupK K rfl) (pv 0) pe_int (fun _ _ => rfl)) pe_str (nomark _)) (pss_one (ps_ret (pe_ix (ix_listK K rfl) (pe_lst (pa_cons (pe_ix (ix_listK K rfl) (pv 1) pe_int (fun _ _ => rfl)) (pa_cons (pe_ix (ix_listK K rfl) (pv 1) pe_int (fun _ _ => rfl)) pa_nil))) (pe_callTy call_int1 (by rfl) T.m_int (by decide +kernel) (pa_cons (pe_cmpR op_ne (pv 2) pe_int (nomark _)) pa_nil)) (fun _ _ => rfl)))) pss_nil)
      (pss_cons (ps_if (pt_cmpR op_eq (pe_callB (call_len_seqK K rfl) (by rfl) T.m_len (by decide +kernel) (pa_cons (pv 1) pa_nil)) pe_int (nomark _)) (pss_one (ps_ret (pv 2))) pss_nil)
      (pss_cons (ps_set (i := 3) sc_law_made_by.nd rfl (Or.inl rfl) (pe_ix (ix_listK K rfl) (pv 1) pe_int (fun _ _ => rfl)))
      (pss_cons (ps_set (i := 4) sc_law_made_by.nd rfl (Or.inl rfl) (pe_disp (pps_cons pe_str (pe_op op_add (pv 2) (pv 3)) (pps_cons pe_str (pe_op op_sub (pv 2) (pv 3)) (pps_cons pe_str (pe_callTy call_int1 (by rfl) T.m_int (by decide +kernel) (pa_cons (pe_cmpR op_lt (pv 2) (pv 3) (nomark _)) pa_nil)) (pps_cons pe_str (pe_callB (call_max2 rfl) (by rfl) T.m_max (by decide +kernel) (pa_cons (pv 2) (pa_cons (pv 3) pa_nil))) (pps_cons pe_str (pe_callB (call_min2 rfl) (by rfl) T.m_min (by decide +kernel) (pa_cons (pv 2) (pa_cons (pv 3) pa_nil))) pps_nil))))) (by rfl) (by rfl) (fun z => by cases z) (by decide)))
      (pss_one (ps_ret (pe_dget (hu_of hr) (pv 4) (pe_ix (ix_tupK K rfl) (pv 0) pe_int (fun _ _ => rfl)) (fun _ _ => rfl))))))))))), ?_⟩
  refine ⟨_, rfl, r, _, _, _, rfl, rfl, SqT.of hr1, atI_nat (j := 0) rfl, rfl, _, rfl, if_str (fun e1 => ?_) (fun e1 => ?_)⟩
  · have q := q1 H (fun _ _ e => e)
    unfold mk at q
    rw [if_pos e1] at q
    exact ⟨_, rfl, r, _, _, _, rfl, rfl, SqT.of hr1, atI_nat (j := 1) (A.r1 (.inl e1)), q⟩
  refine ⟨_, rfl, t, _, _, _, rfl, rfl, SqL.of ht, atI_nat (j := 0) (A.t0 e1), ?_⟩
  refine ⟨_, rfl, r, _, _, _, rfl, rfl, SqT.of hr1, atI_nat (j := 0) rfl, rfl, _, rfl, if_str (fun e2 => ?_) (fun e2 => ?_)⟩
  · have q := q1 H (fun _ _ e => e)
    unfold mk at q
    rw [if_neg e1, if_pos e2] at q
    exact ⟨_, rfl, r, _, _, _, rfl, rfl, SqT.of hr1, atI_nat (j := 1) (A.r1 (.inr e2)), _, rfl, _, _, rfl, rfl, .inl A.big, q⟩
  refine ⟨_, rfl, r, _, _, _, rfl, rfl, SqT.of hr1, atI_nat (j := 0) rfl, rfl, _, rfl, if_str (fun e3 => ?_) (fun e3 => ?_)⟩
  · refine ⟨_, rfl, t, _, _, _, rfl, rfl, SqL.of ht, atI_nat (j := 2) (A.t2 e3), _, rfl, t, _, _, _, rfl, rfl, SqL.of ht, atI_nat (j := 1) (A.t1 (.inl e3)), (by show 2 ≤ sizeLine; decide), fun p np => ?_⟩
    have q := q1 _ (same_new (o := .lst [V.int c, V.int b]) np)
    unfold mk at q
    rw [if_neg e1, if_neg e2, if_pos e3] at q
    by_cases z : a = 0
    · rw [if_pos z] at q
      refine ⟨_, rfl, rfl, .inr ⟨_, rfl, p, _, _, .int c, rfl, rfl, SqL.of upd_same, ?_, q⟩⟩
      rw [z]
      rfl
    · rw [if_neg z] at q
      refine ⟨_, rfl, rfl, .inr ⟨_, rfl, p, _, _, .int b, rfl, rfl, SqL.of upd_same, ?_, q⟩⟩
      rw [show (!decide (V.int a = V.int 0)) = true by rw [decide_eq_false fun y => z (V.int.inj y)]; rfl]
      rfl
  refine ⟨_, rfl, t, _, rfl, .inl (SqL.of ht), rfl, _, rfl, if_bl (fun e4 => ?_) (fun e4 => ?_)⟩
  · have e5 : needs h.wd = 1 := by
      have := V.int.inj (of_decide_eq_true e4)
      rw [List.length_map] at this
      omega
    have q := q1 H (fun _ _ e => e)
    unfold mk at q
    rw [if_neg e1, if_neg e2, if_neg e3, if_pos (one_of g e1 e2 e5)] at q
    exact ⟨_, rfl, q⟩
  have e5 : needs h.wd ≠ 1 := fun z => of_decide_eq_false e4 (by rw [List.length_map, hl, z])
  have f5 := five_of g win e1 e2 e3 e5
  have n1 : h.wd ≠ "same" := fun z => by rw [z] at f5; exact absurd f5 (by decide +kernel)
  have n2 : h.wd ≠ "out" := fun z => by rw [z] at f5; exact absurd f5 (by decide +kernel)
  refine ⟨_, rfl, t, _, _, _, rfl, rfl, SqL.of ht, atI_nat (j := 1) (A.t1 (.inr ⟨e1, e2, n1, n2⟩)), ?_⟩
  refine fun d nd => ⟨_, rfl, _, rfl, _, _, rfl, rfl, _, rfl, _, rfl, _, _, rfl, rfl, _, rfl, _, rfl, _, _, rfl, rfl, .inr ⟨_, rfl, _, rfl, _, rfl, _, _, rfl, _, rfl, _, rfl, _, _, rfl, upd_same, kv5 a b, ?_, (by show 5 ≤ 15; decide), ?_⟩⟩
  · by_cases z : a < b
    · simp [z, kV]
    · simp [z, kV]
  have s1 : Same H (upd (upd H d (.dK [])) d (.dK (mergeK [] (kv5 a b)))) := by rw [upd_upd]; exact same_new nd
  refine ⟨_, rfl, _, rfl, r, _, _, _, rfl, rfl, SqT.of (s1 _ _ hr1), atI_nat (j := 0) rfl, d, .int (mk h.wd n a b c), rfl, ?_, q1 _ s1⟩
  have := DGet.k (k := Sum.inr h.wd) (upd_same (H := upd H d (.dK [])) (a := d) (o := .dK (mergeK [] (kv5 a b))))
  rw [five_val f5 n a b c] at this
  exact this
end
theorem or_enum {K : PySem.W.Frag} {ta : TA} {σ : L2.St} {H : Hp} {R : It → Hp → Prop} {a : Addr} {xs : List V} (ht : ∀ Q : List V → Hp → Prop, Q [.ref a] H → ta σ H Q) (h : H a = some (.lst xs) ∨ H a = some (.tup xs))
    (k : ∀ J : It, (∀ i H', H' a = H a → i < xs.length → J.go i H') → (∀ H', H' a = H a → J.stop xs.length H') → (∀ i H' v H'', H' a = H a → J.yld i H' v H'' → ∃ T x, v = .ref T ∧ H' T = none ∧ H'' = upd H' T (.tup [nV i, x]) ∧ xs[i]? = some x) → R J H) :
    iEnum K ta σ H R ∨ iEnumT K ta σ H R := by
  rcases h with e | e
  · refine .inl (ht _ ⟨a, xs, rfl, SqL.of e, k _ (fun i H' q hi => ?_) (fun H' q => ?_) fun i H' x H'' q y => ?_⟩)
    · exact ⟨xs, _, SqL.of (q.trans e), List.getElem?_eq_getElem hi⟩
    · exact ⟨xs, SqL.of (q.trans e), Nat.le_refl _⟩
    · obtain ⟨T, x, q1, q2, q3, q4⟩ := y
      exact ⟨T, x, q1, q2, q3, q4 _ (SqL.of (q.trans e))⟩
  · refine .inr (ht _ ⟨a, xs, rfl, SqT.of e, k _ (fun i H' q hi => ?_) (fun H' q => ?_) fun i H' x H'' q y => ?_⟩)
    · exact ⟨SqT.of (q.trans e), hi⟩
    · exact ⟨SqT.of (q.trans e), rfl⟩
    · exact y
theorem filt_le {α : Type} {p q : α → Bool} (h : ∀ x, p x = true → q x = true) : ∀ l : List α, (l.filter p).length ≤ (l.filter q).length
  | [] => Nat.le_refl _
  | a :: l => by
    have ih := filt_le h l
    rw [List.filter_cons, List.filter_cons]
    cases ep : p a with
    | true => rw [h a ep, if_pos rfl, if_pos rfl, List.length_cons, List.length_cons]; omega
    | false =>
      cases eq : q a with
      | true => rw [if_neg Bool.false_ne_true, if_pos rfl, List.length_cons]; omega
      | false => rw [if_neg Bool.false_ne_true, if_neg Bool.false_ne_true]; exact ih
theorem filt_eq {α : Type} {p q : α → Bool} (h : ∀ x, p x = true → q x = true) : ∀ l : List α, (l.filter p).length = (l.filter q).length → ∀ x ∈ l, q x = true → p x = true
  | [], _, _, hx, _ => nomatch hx
  | a :: l, e, x, hx, qx => by
    have ih := filt_eq h l
    have le := filt_le h l
    rw [List.filter_cons, List.filter_cons] at e
    cases ep : p a with
    | true =>
      rw [ep, h a ep, if_pos rfl, if_pos rfl, List.length_cons, List.length_cons] at e
      rcases List.mem_cons.mp hx with z | z
      · rw [z]; exact ep
      · exact ih (by omega) x z qx
    | false =>
      cases eq : q a with
      | true => rw [ep, eq, if_neg Bool.false_ne_true, if_pos rfl, List.length_cons] at e; omega
      | false =>
        rw [ep, eq, if_neg Bool.false_ne_true, if_neg Bool.false_ne_true] at e
        rcases List.mem_cons.mp hx with z | z
        · rw [z, eq] at qx; cases qx
        · exact ih e x z qx
theorem filt_lt {α : Type} {p q : α → Bool} (h : ∀ x, p x = true → q x = true) {l : List α} {x : α} (hx : x ∈ l) (h1 : q x = true) (h2 : p x = false) : (l.filter p).length < (l.filter q).length := by
  have le := filt_le h l
  have ne : (l.filter p).length ≠ (l.filter q).length := fun e => by
    have := filt_eq h l e x hx h1
    rw [h2] at this
    cases this
  omega
def missing (n : Nat) (pm : Nat → Option Int) : List Nat := (List.range n).filter fun k => !(pm k).isSome
theorem mem_missing {n k : Nat} {pm : Nat → Option Int} : k ∈ missing n pm ↔ k < n ∧ pm k = none := by
  unfold missing
  rw [List.mem_filter, List.mem_range]
  cases pm k <;> simp
def av (pm : Nat → Option Int) (k : Nat) (b : BR) : Bool := decide (b.to = k) && (!b.th.isEmpty || (pm b.one).isSome)
theorem av_to {pm : Nat → Option Int} {k : Nat} (b : BR) (h : av pm k b = true) : decide (b.to = k) = true := by
  unfold av at h
  rw [Bool.and_eq_true] at h
  exact h.1
theorem av_all {cur : List BR} {pm : Nat → Option Int} {k : Nat} (h : ∀ b ∈ cur, b.to = k → b.th = [] → (pm b.one).isSome = true) : cur.filter (av pm k) = cur.filter fun b => decide (b.to = k) := by
  refine List.filter_congr fun b hb => ?_
  unfold av
  by_cases e : b.to = k
  · rw [decide_eq_true e, Bool.true_and]
    cases z : b.th with
    | nil => rw [h b hb e z]; rfl
    | cons x l => rfl
  · rw [decide_eq_false e, Bool.false_and]
theorem av_len {cur : List BR} {pm : Nat → Option Int} {k : Nat} (h : (cur.filter (av pm k)).length = (cur.filter fun b => decide (b.to = k)).length) : ∀ b ∈ cur, b.to = k → b.th = [] → (pm b.one).isSome = true := fun b hb e z => by
  have := filt_eq av_to cur h b hb (decide_eq_true e)
  unfold av at this
  rw [z, Bool.and_eq_true] at this
  simpa using this.2
theorem filt_to {cur : List BR} {k : Nat} : (cur.filter fun b => decide (b.to = k)).length = (cur.map BR.to).count k := by
  rw [← takes_len (f := fun _ => 0)]
  unfold takes
  rw [List.length_map]
theorem head_first {ms : List (List Int)} {b : BR} (f : Nat → Int) (h : ms.length < b.th.length) : b.th[ms.length]? = some (valB f (standB ms b)) := by
  rw [stand_head f (fun z => by rw [z] at h; exact absurd h (Nat.not_lt_zero _)), List.getD_eq_getElem?_getD, List.getElem?_append_left h, List.getElem?_eq_getElem h]
  rfl
theorem head_later {ms : List (List Int)} {b : BR} (f : Nat → Int) {m : List Int} (h1 : b.th ≠ []) (h2 : b.th.length ≤ ms.length) (hm : ms[ms.length - b.th.length]? = some m) : valB f (standB ms b) = gD m b.one := by
  rw [stand_head f h1, List.getD_eq_getElem?_getD, List.getElem?_append_right h2, List.getElem?_map, hm]
  rfl
abbrev sgW (r a ha ba fo : Addr) (v5 v6 v7 v8 v9 v10 v11 v12 v13 v14 : Option V) : L2.St := [some (.ref r), some (.ref a), some (.ref ha), some (.ref ba), some (.ref fo), v5, v6, v7, v8, v9, v10, v11, v12, v13, v14]
/-- what stands within one bell of the law's reckoning -/
structure LW (hs : List HR) (cur : List BR) (ins : List Int) (d : Addr) (H0 H : Hp) (kvs : List (Key × V)) (pm : Nat → Option Int) : Prop where
  at_ : H d = some (.dK kvs)
  dm : DM kvs pm
  part : Part hs cur ins pm
  door : ∀ (k : Nat) (h : HR), hs[k]? = some h → h.wd = "in" → (pm k).isSome = true
  same : Same H0 H
theorem LW.go {hs : List HR} {cur : List BR} {ins : List Int} {d : Addr} {H0 H H' : Hp} {kvs : List (Key × V)} {pm : Nat → Option Int} (l : LW hs cur ins d H0 H kvs pm) (s : Same H H') : LW hs cur ins d H0 H' kvs pm := { l with at_ := s _ _ l.at_, same := l.same.trans s }
section
variable {P : Program} {w : World} {K : PySem.W.Frag} {mg : Str → Option Value} {base : Heap}
def sp_law_worked (K : PySem.W.Frag) : Sp := fun vs H Q _ => ∃ (r a : Addr) (hs : List HR) (bs : List BR) (rows : List (List Int)), vs = [.ref r, .ref a] ∧ RoomAt H r hs bs ∧ RoomOk hs bs ∧ RowsAt H a rows ∧ (∀ x ∈ rows, x.length = (doorsOf "in" hs).length) ∧ rows.length ≤ 100 ∧
  ∀ (p : Addr) (ov : List V) (ms : List (List Int)) (H' : Hp), H p = none → H' p = some (.lst ov) → All2 (RowAt H') ov ms → WS hs bs rows ms → Same H H' → Q (.ref p) H'
theorem ok_law_worked {f : Addr} {fd : FuncData} (F : Fun K "_law_worked" "_law_worked" s_law_worked f fd) {C : Addr} (T : Top K mg C) : FnOk P w K mg base CX0 2 f fd ["_law_room_here", "_law_rows_here"] (sp_law_worked K) := by
  obtain ⟨f_law_needs, fd_law_needs, F_law_needs, b_law_needs, m_law_needs⟩ := T.d_law_needs
  have G_law_needs := ok_law_needs (P := P) (w := w) (base := base) F_law_needs T
  obtain ⟨f_law_made_by, fd_law_made_by, F_law_made_by, b_law_made_by, m_law_made_by⟩ := T.d_law_made_by
  have G_law_made_by := ok_law_made_by (P := P) (w := w) (base := base) F_law_made_by T
  refine F.ok sc_law_worked (fun vs H Q E h => ?_) (fun cdv A outer s H vs Q E hr h => ?_)
  · obtain ⟨r, a, hs, bs, rows, rfl, _⟩ := h
    rfl
  obtain ⟨r, a, hs, bs, rows, rfl, hR, ok, ⟨rv, hrv, alr⟩, hw, lr, q⟩ := h
  obtain ⟨ha, ba, hv, bv, er, eh, eb, alh, alb⟩ := hR.ex
  have lh := ok.hands
  have lb := ok.many
  have lrv := alr.length
  have lhv := alh.length
  have lbv := alb.length
  have ldl := doors_len (z := "in") (hs := hs)
  obtain ⟨rk, hrk⟩ := ok.rk
  refine ⟨_, (pss_cons (ps_asg (pv 0) (pg_tupK K rfl rfl (pgs_cons (pg_name (i := 2) sc_law_worked.nd rfl (Or.inr rfl)) (pgs_cons (pg_name (i := 3) sc_law_worked.nd rfl (Or.inl rfl)) pgs_nil))))
      (pss_cons (ps_set (i := 4) sc_law_worked.nd rfl (Or.inl rfl) (pe_lst pa_nil))
      (pss_cons (ps_for PassesOwn.never rfl (pi_or (pi_enum (by rfl) T.m_enumerate (pa_cons (pv 1) pa_nil)) (pi_enumT K rfl (by rfl) T.m_enumerate (pa_cons (pv 1) pa_nil))) (pg_tupK K rfl rfl (pgs_cons (pg_name (i := 5) sc_law_worked.nd rfl (Or.inl rfl)) (pgs_cons (pg_name (i := 6) sc_law_worked.nd rfl (Or.inl rfl)) pgs_nil)))
        (pss_cons (ps_setLc (i := 7) (own := [("_law_k", 8)]) (g := gName 8) (by rfl) sc_law_worked.nd rfl rfl (sw_true rfl rfl rfl (by decide +kernel)) (pi_range1 (by rfl) T.m_range (pa_cons (pe_callB (call_len_seqK K rfl) (by rfl) T.m_len (by decide +kernel) (pa_cons (pv 2) pa_nil)) pa_nil)) (blkOk_by (own := [("_law_k", 8)]) (N := N_law_worked) (sc := defScope s_law_worked) (by decide +kernel)) (fun _ _ _ _ _ => (pg_name (i := 8) sc_law_worked.nd rfl (Or.inl rfl))) (fun _ _ _ _ _ => pts_one (pt_cmpR (op_eqDK K rfl hr.units) (pe_ix (ix_tupK K rfl) (pe_ix (ix_tupK K rfl) (pv 2) (pv 8) (fun _ _ => rfl)) pe_int (fun _ _ => rfl)) (pe_tup (pa_cons pe_str pa_nil)) (nomark _))) (fun _ _ _ _ _ => (pv 8)))
      (pss_cons (ps_set (i := 9) sc_law_worked.nd rfl (Or.inr rfl) (pe_dictZip K rfl rfl (by rfl) T.m_dict (by rfl) T.m_zip (pa_cons (pv 7) (pa_cons (pv 6) pa_nil))))
      (pss_cons (ps_for PassesOwn.never rfl (pi_range1 (by rfl) T.m_range (pa_cons (pe_callB (call_len_seqK K rfl) (by rfl) T.m_len (by decide +kernel) (pa_cons (pv 2) pa_nil)) pa_nil)) (pg_name (i := 10) sc_law_worked.nd rfl (Or.inl rfl))
        (pss_one (ps_for PassesOwn.never rfl (pi_range1 (by rfl) T.m_range (pa_cons (pe_callB (call_len_seqK K rfl) (by rfl) T.m_len (by decide +kernel) (pa_cons (pv 2) pa_nil)) pa_nil)) (pg_name (i := 8) sc_law_worked.nd rfl (Or.inl rfl))
        (pss_cons (ps_if (pt_cmp (pc_din (hu_of hr) (pv 8) (pv 9)) (by with_unfolding_all rfl)) (pss_one ps_continue) pss_nil)
      (pss_cons (ps_set (i := 11) sc_law_worked.nd rfl (Or.inl rfl) (pe_lst pa_nil))
      (pss_cons (ps_for PassesOwn.never rfl (pi_tupK K rfl (pv 3)) (pg_tupK K rfl rfl (pgs_cons (pg_name (i := 12) sc_law_worked.nd rfl (Or.inl rfl)) (pgs_cons (pg_name (i := 13) sc_law_worked.nd rfl (Or.inl rfl)) (pgs_cons (pg_name (i := 14) sc_law_worked.nd rfl (Or.inl rfl)) pgs_nil))))
        (pss_one (ps_if (PW.pt (pw_and (pt_cmpR op_eq (pv 13) (pv 8) (nomark _)) (pw_and1 (pt_cmpR op_lt (pv 5) (pe_callB (call_len_seqK K rfl) (by rfl) T.m_len (by decide +kernel) (pa_cons (pv 14) pa_nil)) (nomark _))))) (pss_one (ps_expr (pe_bmK K rfl PySem.F.plainAttrs_list PySem.F.slot_list_append PySem.F.type_list_append mt_append (pv 11) (pa_cons (pe_ix (ix_tupK K rfl) (pv 14) (pv 5) (fun _ _ => rfl)) pa_nil)))) (pss_one (ps_if (PW.pt (pw_and (pt_cmpR op_eq (pv 13) (pv 8) (nomark _)) (pw_and1 (pt_cmpR op_gt (pe_callB (call_len_seqK K rfl) (by rfl) T.m_len (by decide +kernel) (pa_cons (pv 14) pa_nil)) pe_int (nomark _))))) (pss_one (ps_expr (pe_bmK K rfl PySem.F.plainAttrs_list PySem.F.slot_list_append PySem.F.type_list_append mt_append (pv 11) (pa_cons (pe_ix (ix_tupK K rfl) (pe_ix (ix_listK K rfl) (pv 4) (pe_op op_sub (pv 5) (pe_callB (call_len_seqK K rfl) (by rfl) T.m_len (by decide +kernel) (pa_cons (pv 14) pa_nil))) (fun _ _ => rfl)) (pv 12) (fun _ _ => rfl)) pa_nil)))) (pss_one (ps_if (PW.pt (pw_and (pt_cmpR op_eq (pv 13) (pv 8) (nomark _)) (pw_and1 (pt_cmp (pc_din (hu_of hr) (pv 12) (pv 9)) (by with_unfolding_all rfl))))) (pss_one (ps_expr (pe_bmK K rfl PySem.F.plainAttrs_list PySem.F.slot_list_append PySem.F.type_list_append mt_append (pv 11) (pa_cons (pe_dget (hu_of hr) (pv 9) (pv 12) (fun _ _ => rfl)) pa_nil)))) pss_nil)))))))
      (pss_one (ps_if (pt_cmpR op_eq (pe_callB (call_len_seqK K rfl) (by rfl) T.m_len (by decide +kernel) (pa_cons (pv 11) pa_nil)) (pe_call G_law_needs (hr.mono (by decide)) (by rfl) m_law_needs F_law_needs.kp b_law_needs .nil pass0 (pa_cons (pe_ix (ix_tupK K rfl) (pe_ix (ix_tupK K rfl) (pv 2) (pv 8) (fun _ _ => rfl)) pe_int (fun _ _ => rfl)) pa_nil)) (nomark _)) (pss_one (ps_dput (hu_of hr) (pv 9) (pv 8) (pe_call G_law_made_by (hr.mono (by decide)) (by rfl) m_law_made_by F_law_made_by.kp b_law_made_by .nil pass0 (pa_cons (pe_ix (ix_tupK K rfl) (pe_ix (ix_tupK K rfl) (pv 2) (pv 8) (fun _ _ => rfl)) pe_int (fun _ _ => rfl)) (pa_cons (pv 11) pa_nil))) (by rfl))) pss_nil))))))))
      (pss_one (ps_expr (pe_bmK K rfl PySem.F.plainAttrs_list PySem.F.slot_list_append PySem.F.type_list_append mt_append (pv 4) (pa_cons (pe_callTy (call_tuple_ofK K rfl) (by rfl) T.m_tuple (by decide +kernel) (pa_cons (pe_lc (own := [("_law_k", 8)]) (g := gName 8) (tt := tYes) (by rfl) sc_law_worked.nd (pi_range1 (by rfl) T.m_range (pa_cons (pe_callB (call_len_seqK K rfl) (by rfl) T.m_len (by decide +kernel) (pa_cons (pv 2) pa_nil)) pa_nil)) (blkOk_by (own := [("_law_k", 8)]) (N := N_law_worked) (sc := defScope s_law_worked) (by decide +kernel)) (fun _ _ _ _ _ => (pg_name (i := 8) sc_law_worked.nd rfl (Or.inl rfl))) (fun _ _ _ _ _ => pts_nil) (fun _ _ _ _ _ => (pe_dget (hu_of hr) (pv 9) (pv 8) (fun _ _ => rfl)))) pa_nil)) pa_nil))))))))
      (pss_one (ps_ret (pv 4)))))), ?_⟩
  refine ⟨_, rfl, r, _, rfl, SqT.of er, rfl, _, _, rfl, _, _, rfl, rfl, (by show 0 ≤ sizeLine; decide), fun fo nfo => ?_⟩
  have s1 : Same H (upd H fo (.lst [])) := same_new nfo
  refine or_enum (a := a) (xs := rv) (fun Q q => ⟨_, rfl, q⟩) (hrv.imp (s1 _ _) (s1 _ _)) (fun J gj sj yj => for_it (J := J) (n := rv.length) (fun t σ H2 => ∃ (fv : List V) (ms : List (List Int)) (v5 v6 v7 v8 v9 v10 v11 v12 v13 v14 : Option V), σ = sgW r a ha ba fo v5 v6 v7 v8 v9 v10 v11 v12 v13 v14 ∧ H2 fo = some (.lst fv) ∧ All2 (RowAt H2) fv ms ∧ WS hs bs (rows.take t) ms ∧ Same H H2)
    ⟨[], [], none, none, none, none, none, none, none, none, none, none, rfl, upd_same, .nil, WS.nil, s1⟩ ?_ ?_ ?_ ?_)
  · rintro t σ H2 ht ⟨fv, ms, v5, v6, v7, v8, v9, v10, v11, v12, v13, v14, rfl, hfo, alf, ws, s2⟩
    exact gj t H2 ((either_stays s2 hrv).trans (either_stays s1 hrv).symm) ht
  · rintro σ H2 ⟨fv, ms, v5, v6, v7, v8, v9, v10, v11, v12, v13, v14, rfl, hfo, alf, ws, s2⟩
    exact sj H2 ((either_stays s2 hrv).trans (either_stays s1 hrv).symm)
  · rintro t x σ H2 H3 htl ⟨fv, ms, v5, v6, v7, v8, v9, v10, v11, v12, v13, v14, rfl, hfo, alf, ws, s2⟩ y
    obtain ⟨tt, x, rfl, ntt, rfl, ex⟩ := yj t H2 x H3 ((either_stays s2 hrv).trans (either_stays s1 hrv).symm) y
    obtain ⟨row, er2, ⟨tr, rfl, htr⟩⟩ := alr.getL ex
    have lms : ms.length = t := by
      have := ws.len
      rw [List.length_take] at this
      omega
    have lrow := hw row (List.mem_of_getElem? er2)
    have mrow := ws.row
    have s3 := s2.trans (same_new (o := .tup [nV t, V.ref tr]) ntt)
    have hfo3 := same_new (o := .tup [nV t, V.ref tr]) ntt _ _ hfo
    refine ⟨tt, _, rfl, SqT.of upd_same, rfl, _, _, rfl, _, _, rfl, rfl, ?_⟩
    -- the in doors
    refine ⟨_, rfl, ha, _, rfl, .inr (SqT.of (s3 _ _ eh)), _, rfl, by omega, by omega, fun D nD => lc_range (lo := 0) (n := hv.length) (fun i H5 => H5 D = some (.lst (((List.range i).filter fun j => decide (hs[j]?.map HR.wd = some ("in" : Str))).map nV)) ∧ Same (upd H2 tt (.tup [nV t, V.ref tr])) H5) ⟨upd_same, same_new nD⟩ ?_ ?_⟩
    · rintro i H5 hi ⟨hD, s5⟩
      have eh1 : hs[i]? = some hs[i] := List.getElem?_eq_getElem (by omega)
      obtain ⟨x, ex, ⟨t1, g, rfl, e1, e2⟩⟩ := alh.get eh1
      have gh := ok.good _ (List.mem_of_getElem? eh1)
      have few := filt_len (p := fun j => decide (hs[j]?.map HR.wd = some ("in" : Str))) i
      have s4 := s3.trans s5
      refine ⟨rfl, _, rfl, _, rfl, ha, _, _, _, rfl, rfl, SqT.of (s4 _ _ eh), at0 ex, t1, _, _, _, rfl, rfl, SqT.of (s4 _ _ e1), atI_nat (j := 0) rfl, (by show 1 ≤ sizeLine; decide), fun o1 no1 => ?_⟩
      have s6 := s5.trans (same_new (o := .tup [V.str "in"]) no1)
      have hD6 := same_new (o := .tup [V.str "in"]) no1 _ _ hD
      refine ⟨_, _, rule_dp ((s3.trans s6) _ _ e2), .tup (SqT.of upd_same) (.cons (.str _) .nil), rule_shaped gh.lay, one_shaped (by decide +kernel), _, rfl, ?_⟩
      rw [rule_eqv, gh.door "in" (.inl rfl)]
      by_cases c : hs[i].wd = "in"
      · rw [decide_eq_true c]
        refine if_bl (fun _ => ⟨_, rfl, _, hD6, by rw [List.length_map]; exact small1000 (by omega), ?_, Same.own s6 nD⟩) (fun z => nomatch z)
        rw [upd_same, filt_succ, if_pos (decide_eq_true (by rw [eh1, ← c]; rfl)), List.map_append, Int.zero_add]
        rfl
      · rw [decide_eq_false c]
        refine if_bl (fun z => nomatch z) (fun _ => ⟨?_, s6⟩)
        rw [filt_succ, if_neg fun z => c (by have := of_decide_eq_true z; rw [eh1] at this; exact Option.some.inj this), List.append_nil]
        exact hD6
    · rintro H4 ⟨hD, s4⟩
      have hD : H4 D = some (.lst ((doorsOf "in" hs).map nV)) := by rw [hD, lhv]; rfl
      have s5 := s3.trans s4
      refine ⟨_, rfl, _, rfl, D, tr, (doorsOf "in" hs).map kN, row.map V.int, rfl, SqL.of (by rw [hD, List.map_map]; rfl), SqT.of (s5 _ _ htr), fun d nd => ?_⟩
      obtain ⟨cur, hcur⟩ : ∃ cur, cur = stand bs ms := ⟨_, rfl⟩
      have bok : BellOk hs cur := by rw [hcur]; exact ok.bell ms
      have crk : ∀ p ∈ looseOf cur, rk p.1 < rk p.2 := by rw [hcur, loose_stand]; exact hrk
      have len0 : (mergeK [] (((doorsOf "in" hs).map kN).zip (row.map V.int))).length ≤ 12 := by
        refine Nat.le_trans (length_mergeK _ []) ?_
        rw [List.length_zip, List.length_map, List.length_map, List.length_nil]
        omega
      have miss0 : ∀ pm, (missing hs.length pm).length ≤ hs.length := fun pm => filt_len _
      have lw0 : LW hs cur row d H4 (upd H4 d (.dK (mergeK [] (((doorsOf "in" hs).map kN).zip (row.map V.int))))) _ (doorM hs row) := ⟨upd_same, doorM_dm lrow, doorM_part, fun k h e w => doorM_all lrow e w, same_new nd⟩
      -- the rounds
      refine ⟨_, rfl, ha, _, rfl, .inr (SqT.of (lw0.same _ _ (s5 _ _ eh))), _, rfl, by omega, by omega, for_range (lo := 0) (n := hv.length) (fun i σ H5 => ∃ (w8 w10 w11 w12 w13 w14 : Option V) (kvs : List (Key × V)) (pm : Nat → Option Int), σ = sgW r a ha ba fo (some (nV t)) (some (.ref tr)) (some (.ref D)) w8 (some (.ref d)) w10 w11 w12 w13 w14 ∧ LW hs cur row d H4 H5 kvs pm ∧ kvs.length ≤ 12 + 12 * i ∧ (missing hs.length pm).length + i ≤ hs.length)
        ⟨_, _, _, _, _, _, _, _, rfl, lw0, len0, by have := miss0 (doorM hs row); omega⟩ ?_ ?_⟩
      · rintro i σ H5 hi ⟨w8, w10, w11, w12, w13, w14, kvs, pm, rfl, lw, lk, lm⟩
        have lw6 := lw
        obtain ⟨ll, hll⟩ : ∃ ll, ll = missing hs.length pm := ⟨_, rfl⟩
        have lll : ll.length ≤ 12 := by rw [hll]; have := miss0 pm; omega
        have ndl : ll.Nodup := by rw [hll]; exact List.nodup_range.filter _
        have mll : ∀ k ∈ ll, k < hs.length ∧ pm k = none := fun k hk => mem_missing.mp (by rw [← hll]; exact hk)
        have nll : ∀ k, k < hs.length → k ∉ ll → (pm k).isSome = true := fun k hk hn => by
          cases e : pm k with
          | none => exact absurd (by rw [hll]; exact mem_missing.mpr ⟨hk, e⟩) hn
          | some v => rfl
        -- each of them
        refine ⟨_, rfl, ha, _, rfl, .inr (SqT.of (lw.same _ _ (s5 _ _ eh))), _, rfl, by omega, by omega, for_range (lo := 0) (n := hv.length) (fun j σ H7 => ∃ (w8 w11 w12 w13 w14 : Option V) (kvs' : List (Key × V)) (pm' : Nat → Option Int), σ = sgW r a ha ba fo (some (nV t)) (some (.ref tr)) (some (.ref D)) w8 (some (.ref d)) (some (.int (0 + ((i : Nat) : Int)))) w11 w12 w13 w14 ∧ LW hs cur row d H4 H7 kvs' pm' ∧ kvs'.length ≤ 12 + 12 * i + j ∧ (∀ k, (pm k).isSome = true → pm' k = pm k) ∧ (∀ k, j ≤ k → pm' k = pm k) ∧ (∀ k ∈ ll, k < j → free (looseOf cur) ll k → (pm' k).isSome = true))
          ⟨_, _, _, _, _, kvs, pm, rfl, lw6, by omega, fun _ _ => rfl, fun k hk => rfl, fun k hk hj => absurd hj (Nat.not_lt_zero _)⟩ ?_ ?_⟩
        · rintro k σ H7 kv ⟨u8, u11, u12, u13, u14, kvs', pm', rfl, lw7, lk7, ext, rest, done⟩
          show tIfS _ _ _ _ (sgW r a ha ba fo (some (nV t)) (some (.ref tr)) (some (.ref D)) (some (.int (0 + ((k : Nat) : Int)))) (some (.ref d)) (some (.int (0 + ((i : Nat) : Int)))) u11 u12 u13 u14) H7
          rw [Int.zero_add (k : Int)]
          have kn : k < hs.length := by omega
          refine ⟨_, rfl, _, rfl, d, _, rfl, dget_of lw7.at_ (lw7.dm k), _, rfl, if_bl (fun c => ?_) (fun c => ?_)⟩
          · rw [Option.isSome_map] at c
            refine ⟨_, _, _, _, _, kvs', pm', rfl, lw7, by omega, ext, fun j hj => rest j (by omega), fun j hj jk fr => ?_⟩
            by_cases e : j = k
            · rw [e]; exact c
            · exact done j hj (by omega) fr
          rw [Option.isSome_map] at c
          have new : pm' k = none := by
            cases e : pm' k with
            | none => rfl
            | some v => rw [e] at c; cases c
          have kz : pm k = none := by rw [← rest k (Nat.le_refl _)]; exact new
          have eh2 : hs[k]? = some hs[k] := List.getElem?_eq_getElem kn
          have win : hs[k].wd ≠ "in" := fun z => by
            have := lw7.door k _ eh2 z
            rw [new] at this
            cases this
          have gk := ok.good _ (List.mem_of_getElem? eh2)
          have isfree : free (looseOf cur) ll k → ∀ b ∈ cur, b.to = k → b.th = [] → (pm' b.one).isSome = true := fun fr b b1 b2 b3 => by
            have e := nll b.one (bok.ends b b1).1 (fr _ (mem_loose b1 b3) b2)
            rw [ext _ e]
            exact e
          refine ⟨(by show 0 ≤ sizeLine; decide), fun tl ntl => ?_⟩
          have lw8 := lw7.go (same_new (o := .lst []) ntl)
          have hba := s5 _ _ eb
          obtain ⟨f, hf⟩ : ∃ f : Nat → Int, f = fun j => (pm' j).getD 0 := ⟨_, rfl⟩
          -- what is there for it
          refine ⟨_, rfl, ba, rfl, ⟨_, SqT.of (lw8.same _ _ hba)⟩, for_tup (K := K) (a := ba) (xs := bv) (fun m σ H8 => ∃ (z11 z13 z14 : Option V), σ = sgW r a ha ba fo (some (nV t)) (some (.ref tr)) (some (.ref D)) (some (nV k)) (some (.ref d)) (some (.int (0 + ((i : Nat) : Int)))) (some (.ref tl)) z11 z13 z14 ∧ H8 tl = some (.lst ((((cur.take m).filter (av pm' k)).map (valB f)).map V.int)) ∧ Same H7 H8)
            ⟨_, _, _, rfl, upd_same, same_new ntl⟩ (fun m σ H8 _ ⟨_, _, _, _, _, s8⟩ => SqT.of (s8 _ _ (lw7.same _ _ hba))) ?_ ?_⟩
          · rintro m x σ H8 hx ⟨z11, z13, z14, rfl, hth, s8⟩
            obtain ⟨b, eb2, ⟨t1, g1, rfl, e1, e2⟩⟩ := alb.getL hx
            have ml := (List.getElem?_eq_some_iff.mp eb2).1
            have ec : cur[m]? = some (standB ms b) := by rw [hcur, List.getElem?_map, eb2]; rfl
            have s9 := (s5.trans lw7.same).trans s8
            have few : (((cur.take m).filter (av pm' k)).map (valB f)).length ≤ 20 := by
              rw [List.length_map]
              refine Nat.le_trans (List.length_filter_le ..) ?_
              rw [List.length_take]
              have := bok.belts
              omega
            have step : ∀ v : Int, av pm' k (standB ms b) = true → v = valB f (standB ms b) → (upd H8 tl (.lst ((((cur.take m).filter (av pm' k)).map (valB f)).map V.int ++ [V.int v]))) tl = some (.lst ((((cur.take (m + 1)).filter (av pm' k)).map (valB f)).map V.int)) := fun v h1 h2 => by
              rw [upd_same, List.take_add_one, ec, List.filter_append, List.map_append, List.map_append, h2]
              simp [h1]
            have stay : av pm' k (standB ms b) = false → H8 tl = some (.lst ((((cur.take (m + 1)).filter (av pm' k)).map (valB f)).map V.int)) := fun h1 => by
              rw [hth, List.take_add_one, ec, List.filter_append, List.map_append, List.map_append]
              simp [h1]
            have avto : b.to ≠ k → av pm' k (standB ms b) = false := fun z => by
              unfold av
              rw [stand_to, decide_eq_false z, Bool.false_and]
            have avth : b.to = k → b.th ≠ [] → av pm' k (standB ms b) = true := fun z1 z2 => by
              unfold av
              rw [stand_to, decide_eq_true z1, Bool.true_and]
              have : (standB ms b).th ≠ [] := fun z => z2 ((stand_th ms b).mp z)
              cases e : (standB ms b).th with
              | nil => exact absurd e this
              | cons x l => rfl
            have avno : b.to = k → b.th = [] → av pm' k (standB ms b) = (pm' b.one).isSome := fun z1 z2 => by
              unfold av
              rw [stand_to, decide_eq_true z1, Bool.true_and, (stand_th ms b).mpr z2, stand_one]
              rfl
            have own : ∀ {ys : List V}, Same H7 (upd H8 tl (.lst ys)) := Same.own s8 ntl
            refine ⟨t1, _, rfl, SqT.of (s9 _ _ e1), rfl, _, _, rfl, _, _, rfl, _, _, rfl, rfl, ?_⟩
            have sz : ((((cur.take m).filter (av pm' k)).map (valB f)).map V.int).length < sizeLine := by rw [List.length_map]; exact small1000 (by omega)
            refine ⟨_, rfl, _, rfl, rfl, _, rfl, if_bl (fun c => ?_) (fun c => ?_)⟩
            · have c : b.to = k := by have := V.int.inj (of_decide_eq_true c); omega
              refine ⟨_, rfl, _, rfl, g1, _, rfl, .inr (SqT.of (s9 _ _ e2)), _, _, rfl, rfl, _, rfl, if_bl (fun c2 => ?_) (fun c2 => ?_)⟩
              · have c2 : ms.length < b.th.length := by
                  have := of_decide_eq_true c2
                  rw [List.length_map] at this
                  omega
                refine ⟨_, rfl, .inl ⟨rfl, _, SqL.of hth⟩, _, rfl, _, rfl, g1, _, _, _, rfl, rfl, SqT.of (s9 _ _ e2), atI_nat (j := t) (by rw [← lms, List.getElem?_map, head_first f c2]; rfl), tl, _, _, rfl, rfl, hth, sz, ?_⟩
                exact ⟨_, _, _, rfl, step _ (avth c fun z => by rw [z] at c2; exact absurd c2 (Nat.not_lt_zero _)) rfl, own⟩
              have c2 : b.th.length ≤ ms.length := by
                have := of_decide_eq_false c2
                rw [List.length_map] at this
                omega
              refine ⟨_, rfl, _, rfl, rfl, _, rfl, if_bl (fun _ => ?_) (fun z => absurd (show V.int ((b.to : Nat) : Int) = V.int ((k : Nat) : Int) by rw [c]) (of_decide_eq_false z))⟩
              refine ⟨_, rfl, g1, _, rfl, .inr (SqT.of (s9 _ _ e2)), _, _, rfl, rfl, _, rfl, if_bl (fun c3 => ?_) (fun c3 => ?_)⟩
              · have c3 : b.th ≠ [] := fun z => by
                  have := of_decide_eq_true c3
                  rw [z] at this
                  exact absurd this (by decide)
                have pos := List.length_pos_iff.mpr c3
                have em : ms[ms.length - b.th.length]? = some (ms[ms.length - b.th.length]'(by omega)) := List.getElem?_eq_getElem _
                obtain ⟨mm, hmm⟩ : ∃ mm, mm = ms[ms.length - b.th.length]'(by omega) := ⟨_, rfl⟩
                rw [← hmm] at em
                obtain ⟨vm, evm, ⟨tm, rfl, htm⟩⟩ := alf.get em
                have lmm := mrow mm (List.mem_of_getElem? em)
                have s10 := ((same_new (o := .tup [nV t, V.ref tr]) ntt).trans (s4.trans lw7.same)).trans s8
                refine ⟨_, rfl, .inl ⟨rfl, _, SqL.of hth⟩, _, rfl, _, rfl, _, rfl, g1, _, rfl, .inr (SqT.of (s9 _ _ e2)), _, _, rfl, rfl, fo, fv, _, _, rfl, rfl, SqL.of (s10 _ _ hfo), ?_, _, rfl, tm, _, _, _, rfl, rfl, SqT.of (s10 _ _ htm), at_row (k := b.one) (by have := (ok.ends b (List.mem_of_getElem? eb2)).1; omega), tl, _, _, rfl, rfl, hth, sz, ?_⟩
                · rw [List.length_map, show ((t : Nat) : Int) - ((b.th.length : Nat) : Int) = ((ms.length - b.th.length : Nat) : Int) by omega]
                  exact atI_nat evm
                · exact ⟨_, _, _, rfl, step _ (avth c c3) (head_later f c3 c2 em).symm, own⟩
              have c3 : b.th = [] := by
                cases e : b.th with
                | nil => rfl
                | cons x l =>
                  have := of_decide_eq_false c3
                  rw [e] at this
                  exact absurd (by show (0 : Int) < (((x :: l).map V.int).length : Nat); simp) this
              have an := avno c c3
              refine ⟨_, rfl, _, rfl, rfl, _, rfl, if_bl (fun _ => ?_) (fun z => absurd (show V.int ((b.to : Nat) : Int) = V.int ((k : Nat) : Int) by rw [c]) (of_decide_eq_false z))⟩
              have lw9 := lw7.go s8
              refine ⟨_, rfl, _, rfl, d, _, rfl, dget_of lw9.at_ (lw9.dm b.one), _, rfl, if_bl (fun c4 => ?_) (fun c4 => ?_)⟩
              · rw [Option.isSome_map] at c4
                obtain ⟨v, hv2⟩ := Option.isSome_iff_exists.mp c4
                refine ⟨_, rfl, .inl ⟨rfl, _, SqL.of hth⟩, _, rfl, _, rfl, d, .int v, rfl, dget_of lw9.at_ (by rw [lw9.dm, hv2]; rfl), tl, _, _, rfl, rfl, hth, sz, ?_⟩
                refine ⟨_, _, _, rfl, step _ (by rw [an]; exact c4) ?_, own⟩
                rw [valB_nil ((stand_th ms b).mpr c3), stand_one, hf]
                show v = (pm' b.one).getD 0
                rw [hv2]
                rfl
              · rw [Option.isSome_map] at c4
                exact ⟨_, _, _, rfl, stay (by rw [an]; exact c4), s8⟩
            · have c : b.to ≠ k := fun z => of_decide_eq_false c (by rw [z])
              have cf : ¬ (V.int ((b.to : Nat) : Int) = V.int ((k : Nat) : Int)) := fun z => c (by have := V.int.inj z; omega)
              refine ⟨_, rfl, _, rfl, rfl, _, rfl, if_bl (fun z => absurd (of_decide_eq_true z) cf) (fun _ => ?_)⟩
              refine ⟨_, rfl, _, rfl, rfl, _, rfl, if_bl (fun z => absurd (of_decide_eq_true z) cf) (fun _ => ?_)⟩
              exact ⟨_, _, _, rfl, stay (avto c), s8⟩
          · rintro σ H8 ⟨z11, z13, z14, rfl, hth, s8⟩
            rw [lbv, List.take_of_length_le (by rw [hcur, List.length_map]; exact Nat.le_refl _)] at hth
            have lw8 := lw7.go s8
            have s9 := s5.trans lw8.same
            obtain ⟨xs, hxs⟩ : ∃ xs, xs = (cur.filter (av pm' k)).map (valB f) := ⟨_, rfl⟩
            rw [← hxs] at hth
            obtain ⟨v, ev, ⟨tk, rk2, rfl, h1, h2⟩⟩ := alh.get eh2
            have lxs : xs.length = (cur.filter (av pm' k)).length := by rw [hxs, List.length_map]
            have cnt := bok.count k _ eh2
            rw [← filt_to] at cnt
            refine ⟨_, rfl, tl, _, rfl, .inl (SqL.of hth), _, rfl, _, rfl, ha, _, _, _, rfl, rfl, SqT.of (s9 _ _ eh), atI_nat ev, tk, _, _, _, rfl, rfl, SqT.of (s9 _ _ h1), atI_nat (j := 0) rfl, rk2, hs[k].wd, _, rfl, SqT.of (s9 _ _ h2), fun H9 s10 => ⟨rfl, _, rfl, if_bl (fun c => ?_) (fun c => ?_)⟩⟩
            · have c : ((xs.length : Nat) : Int) = needs hs[k].wd := by
                have := V.int.inj (of_decide_eq_true c)
                rw [List.length_map] at this
                exact this
              have there := av_len (cur := cur) (pm := pm') (k := k) (by omega)
              have ex2 : xs = takes cur f k := by
                rw [hxs, av_all there]
                rfl
              have s11 := s9.trans s10
              refine ⟨_, rfl, _, rfl, ha, _, _, _, rfl, rfl, SqT.of (s11 _ _ eh), atI_nat ev, tk, _, _, _, rfl, rfl, SqT.of (s11 _ _ h1), atI_nat (j := 0) rfl, _, rfl, rk2, tl, hs[k], xs, rfl, s11 _ _ h2, s10 _ _ hth, gk, win, c, fun H10 s12 => ?_⟩
              have lw10 := lw8.go (s10.trans s12)
              refine ⟨_, rfl, _, rfl, d, _, rfl, DPut.k (k := kN k) lw10.at_ (small1000 (by omega)), ?_⟩
              refine ⟨_, _, _, _, _, _, putM pm' k (mkR hs[k] xs), rfl, ⟨upd_same, lw10.dm.put k _, ?_, fun j h e w => ?_, Same.own lw10.same nd⟩, ?_, fun j hj => ?_, fun j hj => ?_, fun j hj jk fr => ?_⟩
              · rw [ex2, hf]
                exact lw10.part.put eh2 win new there
              · by_cases e' : j = k
                · rw [show putM pm' k (mkR hs[k] xs) j = some _ from if_pos e']; rfl
                · rw [show putM pm' k (mkR hs[k] xs) j = pm' j from if_neg e']
                  exact lw10.door j h e w
              · have := length_putK kvs' (kN k) (V.int (mkR hs[k] xs))
                exact Nat.le_trans this (by omega)
              · have e' : j ≠ k := fun z => by rw [z, kz] at hj; cases hj
                rw [show putM pm' k (mkR hs[k] xs) j = pm' j from if_neg e']
                exact ext j hj
              · have e' : j ≠ k := by omega
                rw [show putM pm' k (mkR hs[k] xs) j = pm' j from if_neg e']
                exact rest j (by omega)
              · by_cases e' : j = k
                · rw [show putM pm' k (mkR hs[k] xs) j = some _ from if_pos e']; rfl
                · rw [show putM pm' k (mkR hs[k] xs) j = pm' j from if_neg e']
                  exact done j hj (by omega) fr
            · have c : ¬ ((xs.length : Nat) : Int) = needs hs[k].wd := fun z => of_decide_eq_false c (by rw [List.length_map, z])
              have nofree : ¬ free (looseOf cur) ll k := fun fr => c (by
                have := av_all (isfree fr)
                rw [lxs, this]
                exact cnt)
              refine ⟨_, _, _, _, _, kvs', pm', rfl, lw8.go s10, by omega, ext, fun j hj => rest j (by omega), fun j hj jk fr => ?_⟩
              by_cases e : j = k
              · rw [e] at fr; exact absurd fr nofree
              · exact done j hj (by omega) fr
        · rintro σ H7 ⟨u8, u11, u12, u13, u14, kvs', pm', rfl, lw7, lk7, ext, rest, done⟩
          refine ⟨_, _, _, _, _, _, kvs', pm', rfl, lw7, by omega, ?_⟩
          have mono : ∀ k, (!(pm' k).isSome) = true → (!(pm k).isSome) = true := fun k hk => by
            cases e : (pm k).isSome with
            | false => rfl
            | true => rw [ext k e, e] at hk; cases hk
          by_cases e : ll = []
          · have le : (missing hs.length pm').length ≤ ll.length := by rw [hll]; exact filt_le mono _
            rw [e] at le
            have : (missing hs.length pm').length = 0 := Nat.le_zero.mp le
            omega
          · obtain ⟨k, hk, fr⟩ := some_free crk e
            obtain ⟨kn, kz⟩ := mll k hk
            have dk := done k hk (by omega) fr
            have : (missing hs.length pm').length < (missing hs.length pm).length := filt_lt mono (List.mem_range.mpr kn) (by rw [kz]; rfl) (by rw [dk]; rfl)
            omega
      · rintro σ H5 ⟨w8, w10, w11, w12, w13, w14, kvs, pm, rfl, lw, lk, lm⟩
        have m0 : missing hs.length pm = [] := List.eq_nil_of_length_eq_zero (by omega)
        have full : ∀ k, k < hs.length → (pm k).isSome = true := fun k hk => by
          cases e : pm k with
          | none =>
            have := mem_missing.mpr ⟨hk, e⟩
            rw [m0] at this
            cases this
          | some v => rfl
        have s6 := s5.trans lw.same
        have s7 := (same_new (o := .tup [nV t, V.ref tr]) ntt).trans (s4.trans lw.same)
        refine ⟨_, rfl, .inl ⟨rfl, _, SqL.of (s7 _ _ hfo)⟩, _, rfl, ha, _, rfl, .inr (SqT.of (s6 _ _ eh)), _, rfl, by omega, by omega, fun M nM => lc_range (lo := 0) (n := hv.length) (fun j H6 => H6 M = some (.lst ((fullM j pm).map V.int)) ∧ H6 d = some (.dK kvs) ∧ Same H5 H6) ⟨upd_same, same_new nM _ _ lw.at_, same_new nM⟩ ?_ ?_⟩
        · rintro j H6 hj ⟨hM, hd6, s8⟩
          obtain ⟨v, ev⟩ := Option.isSome_iff_exists.mp (full j (by omega))
          refine ⟨rfl, yes_in ⟨_, rfl, _, rfl, d, .int v, rfl, dget0 hd6 (by rw [lw.dm, ev]; rfl), _, hM, ?_, ?_, ?_, Same.own s8 nM⟩⟩
          · rw [List.length_map, List.length_map, List.length_range]; exact small1000 (by omega)
          · rw [upd_same]
            unfold fullM
            rw [List.range_succ, List.map_append, List.map_append]
            simp [ev]
          · rw [upd_ne (ne_of_none lw.at_ nM)]; exact hd6
        · rintro H6 ⟨hM, hd6, s8⟩
          rw [lhv] at hM
          refine ⟨M, _, rfl, .inl ⟨SqL.of hM, fun p np => ?_⟩⟩
          have s9 := (s7.trans s8).trans (same_new (o := .tup ((fullM hs.length pm).map V.int)) np)
          have hfo9 := s9 _ _ hfo
          refine ⟨fo, _, _, rfl, rfl, hfo9, by rw [alf.length, lms]; exact small1000 (by omega), ?_⟩
          refine ⟨fv ++ [V.ref p], ms ++ [fullM hs.length pm], _, _, _, _, _, _, _, _, _, _, rfl, upd_same, ?_, ?_, Same.own (s2.trans s9) nfo⟩
          · exact ((alf.imp fun _ _ z => z.keep (TK.same s9)).snoc ⟨p, rfl, upd_same⟩).imp fun _ _ z => z.keep (TK.lst hfo9)
          · rw [List.take_add_one, er2]
            have := lw.part.full full
            rw [hcur] at this
            exact ws.snoc this
  · rintro σ H2 ⟨fv, ms, v5, v6, v7, v8, v9, v10, v11, v12, v13, v14, rfl, hfo, alf, ws, s2⟩
    rw [lrv, List.take_length] at ws
    exact ⟨_, rfl, q fo fv ms H2 nfo hfo alf ws s2⟩
end
/-! ### slices and sums of tuples, whatever they are -/
theorem slA_of {K : PySem.W.Frag} {H : Hp} {a : Addr} {xs : List V} {lo hi : Option Int} {Q : VK} (h : H a = some (.tup xs)) (k : ∀ (p : Addr) (H' : Hp), H' p = some (.tup (cutV xs lo hi)) → Same H H' → Q (.ref p) H') : rSlA K (.ref a) lo hi H Q := by
  refine ⟨a, xs, rfl, SqT.of h, fun z => k a H ?_ (Same.refl _), fun _ p np => k p _ upd_same (same_new np)⟩
  unfold cutV
  rw [z.1, z.2, List.drop_zero, Nat.sub_zero, List.take_length]
  exact h
theorem catA_of {K : PySem.W.Frag} {H : Hp} {a b : Addr} {xs ys : List V} {Q : VK} (h : H a = some (.tup xs)) (g : H b = some (.tup ys)) (l : xs.length + ys.length ≤ 1000) (k : ∀ (p : Addr) (H' : Hp), H' p = some (.tup (xs ++ ys)) → Same H H' → Q (.ref p) H') : rCatA K (.ref a) (.ref b) H Q := by
  refine ⟨a, b, xs, ys, rfl, rfl, SqT.of h, SqT.of g, little l, fun e => k b H ?_ (Same.refl _), fun _ e => k a H ?_ (Same.refl _), fun _ _ p np => k p _ upd_same (same_new np)⟩
  · rw [e]; exact g
  · rw [e, List.append_nil]; exact h
theorem cut_take (xs : List V) (k : Nat) : cutV xs none (some ((k : Nat) : Int)) = xs.take k := by
  unfold cutV
  rw [HT.sIx_nat, HT.sIx_none, List.drop_zero, Nat.sub_zero]
  by_cases h : k ≤ xs.length
  · rw [Nat.min_eq_left h]
  · rw [Nat.min_eq_right (by omega), List.take_length, List.take_of_length_le (by omega)]
theorem cut_part {xs : List V} {lo hi : Option Int} : ∀ x ∈ cutV xs lo hi, x ∈ xs := fun x hx => List.mem_of_mem_drop (List.mem_of_mem_take hx)
theorem cut_nats {ns : List Nat} {lo hi : Option Int} : ∃ ms : List Nat, cutV (ns.map nV) lo hi = ms.map nV ∧ ms.length ≤ ns.length ∧ ∀ x ∈ ms, x ∈ ns := by
  refine ⟨(ns.drop (HT.sIx (ns.map nV).length 0 lo)).take (HT.sIx (ns.map nV).length (ns.map nV).length hi - HT.sIx (ns.map nV).length 0 lo), ?_, ?_, fun x hx => List.mem_of_mem_drop (List.mem_of_mem_take hx)⟩
  · unfold cutV
    rw [List.map_take, List.map_drop]
  · rw [List.length_take, List.length_drop]
    omega
structure HOk (hs : List HR) : Prop where
  hands : hs.length ≤ 12
  good : ∀ h ∈ hs, GoodHand h
section
variable {P : Program} {w : World} {K : PySem.W.Frag} {mg : Str → Option Value} {base : Heap}
def sp_law_doors (K : PySem.W.Frag) : Sp := fun vs H Q _ => ∃ (r : Addr) (hs : List HR) (bs : List BR) (z : Str), vs = [.ref r, .str z] ∧ (z = "in" ∨ z = "out") ∧ RoomAt H r hs bs ∧ HOk hs ∧ ∀ (p : Addr) (H' : Hp), H p = none → H' p = some (.lst ((doorsOf z hs).map nV)) → Same H H' → Q (.ref p) H'
theorem ok_law_doors {f : Addr} {fd : FuncData} (F : Fun K "_law_doors" "_law_doors" s_law_doors f fd) {C : Addr} (T : Top K mg C) : FnOk P w K mg base CX0 1 f fd ["_law_room_here", "_law_word"] (sp_law_doors K) := by
  refine F.ok sc_law_doors (fun vs H Q E h => ?_) (fun cdv A outer s H vs Q E hr h => ?_)
  · obtain ⟨r, hs, bs, z, rfl, _⟩ := h
    rfl
  obtain ⟨r, hs, bs, z, rfl, hz, hR, ok, q⟩ := h
  have oz : SeqAt.shaped (.tuple [.str z]) = true := by rcases hz with rfl | rfl <;> exact one_shaped (by decide +kernel)
  obtain ⟨ha, ba, hv, bv, er, eh, eb, alh, alb⟩ := id hR.ex
  have lhv := alh.length
  have lh := ok.hands
  refine ⟨_, (pss_one (ps_ret (pe_lc (own := [("_law_k", 2), ("_law_hand", 3)]) (g := gTup K 2 (gCons (gName 2) (gCons (gName 3) gNil))) (by rfl) sc_law_doors.nd (pi_enumT K rfl (by rfl) T.m_enumerate (pa_cons (pe_ix (ix_tupK K rfl) (pv 0) pe_int (fun _ _ => rfl)) pa_nil)) (blkOk_by (own := [("_law_k", 2), ("_law_hand", 3)]) (N := N_law_doors) (sc := defScope s_law_doors) (by decide +kernel)) (fun _ _ _ _ _ => (pg_tupK K rfl rfl (pgs_cons (pg_name (i := 2) sc_law_doors.nd rfl (Or.inl rfl)) (pgs_cons (pg_name (i := 3) sc_law_doors.nd rfl (Or.inl rfl)) pgs_nil)))) (fun _ _ _ _ _ => pts_one (pt_cmpR (op_eqDK K rfl hr.units) (pe_ix (ix_tupK K rfl) (pv 3) pe_int (fun _ _ => rfl)) (pe_tup (pa_cons (pv 1) pa_nil)) (nomark _))) (fun _ _ _ _ _ => (pv 2))))), ?_⟩
  refine ⟨_, rfl, r, _, _, _, rfl, rfl, SqT.of er, atI_nat (j := 0) rfl, ha, hv, rfl, SqT.of eh, fun D nD => lc_it (J := IteT K ha hv) (n := hv.length) (fun i H5 => H5 D = some (.lst (((List.range i).filter fun j => decide (hs[j]?.map HR.wd = some z)).map nV)) ∧ Same H H5) ⟨upd_same, same_new nD⟩ ?_ ?_ ?_ ?_⟩
  · rintro i H5 hi ⟨hD, s5⟩
    exact ⟨SqT.of (s5 _ _ eh), hi⟩
  · rintro H5 ⟨hD, s5⟩
    exact ⟨SqT.of (s5 _ _ eh), rfl⟩
  · rintro i x H5 H6 hi ⟨hD, s5⟩ ⟨t, y, rfl, nt, rfl, ey⟩
    obtain ⟨hh, eb2, ⟨t2, g, rfl, e1, e2⟩⟩ := alh.getL ey
    have gh := ok.good _ (List.mem_of_getElem? eb2)
    have s6 := s5.trans (same_new (o := .tup [V.int ((i : Nat) : Int), V.ref t2]) nt)
    have hD6 := same_new (o := .tup [V.int ((i : Nat) : Int), V.ref t2]) nt _ _ hD
    have few := filt_len (p := fun j => decide (hs[j]?.map HR.wd = some z)) i
    refine ⟨t, _, rfl, SqT.of upd_same, rfl, _, _, rfl, _, _, rfl, rfl, rfl, _, rfl, t2, _, _, _, rfl, rfl, SqT.of (s6 _ _ e1), atI_nat (j := 0) rfl, ?_⟩
    generalize upd H5 t (.tup [V.int ((i : Nat) : Int), V.ref t2]) = H6 at s6 hD6 ⊢
    refine ⟨_, rfl, (by show 1 ≤ sizeLine; decide), fun o1 no1 => ?_⟩
    have s7 := s6.trans (same_new (o := .tup [V.str z]) no1)
    have hD7 := same_new (o := .tup [V.str z]) no1 _ _ hD6
    refine ⟨_, _, rule_dp (s7 _ _ e2), .tup (SqT.of upd_same) (.cons (.str _) .nil), rule_shaped gh.lay, oz, _, rfl, ?_⟩
    rw [rule_eqv, gh.door z hz]
    by_cases c : hh.wd = z
    · rw [decide_eq_true c]
      refine if_bl (fun _ => ⟨_, rfl, _, hD7, by rw [List.length_map]; exact small1000 (by omega), ?_, Same.own s7 nD⟩) (fun z => nomatch z)
      rw [upd_same, filt_succ, if_pos (decide_eq_true (by rw [eb2, ← c]; rfl)), List.map_append]
      rfl
    · rw [decide_eq_false c]
      refine if_bl (fun z => nomatch z) (fun _ => ⟨?_, s7⟩)
      rw [filt_succ, if_neg fun z => c (by have := of_decide_eq_true z; rw [eb2] at this; exact Option.some.inj this), List.append_nil]
      exact hD7
  · rintro H5 ⟨hD, s5⟩
    refine q D H5 nD ?_ s5
    rw [hD, lhv]
    rfl
end
def takenAt (b : BR) (ms : List (List Int)) (t : Nat) : Int := if t < b.th.length then gD b.th t else gD (ms.getD (t - b.th.length) []) b.one
/-! ### what hands make, by bells; rooms moved go on -/
/-- what a hand makes at a bell -/
def Vm (ms : List (List Int)) (s k : Nat) : Int := gD (ms.getD s []) k
theorem getD_at {ms : List (List Int)} {s : Nat} {m : List Int} (h : ms[s]? = some m) : ms.getD s [] = m := by
  rw [List.getD_eq_getElem?_getD, h]; rfl
theorem taken_at_eq {b : BR} {ms : List (List Int)} {s : Nat} (h : s ≤ ms.length) (m : List Int) (hm : ms[s]? = some m) : valB (gD m) (standB (ms.take s) b) = takenAt b ms s := by
  have ls : (ms.take s).length = s := by rw [List.length_take]; omega
  unfold takenAt
  by_cases e : b.th = []
  · rw [valB_nil ((stand_th _ b).mpr e), stand_one, e]
    rw [if_neg (by show ¬ s < 0; omega)]
    show gD m b.one = gD (ms.getD (s - 0) []) b.one
    rw [Nat.sub_zero, getD_at hm]
  · rw [stand_head _ e, ls]
    by_cases c : s < b.th.length
    · rw [if_pos c, List.getD_eq_getElem?_getD, List.getElem?_append_left c]
      show _ = b.th.getD s 0
      rw [List.getD_eq_getElem?_getD]
    · rw [if_neg c, List.getD_eq_getElem?_getD, List.getElem?_append_right (by omega), List.getElem?_map]
      have pos := List.length_pos_iff.mpr e
      rw [List.getElem?_take_of_lt (by omega)]
      have l : s - b.th.length < ms.length := by
        have := (List.getElem?_eq_some_iff.mp hm).1
        omega
      rw [List.getElem?_eq_getElem l, List.getD_eq_getElem?_getD, List.getElem?_eq_getElem l]
      rfl
theorem takes_stand {bs : List BR} {ms : List (List Int)} {s k : Nat} {m : List Int} (hm : ms[s]? = some m) : takes (stand bs (ms.take s)) (gD m) k = (bs.filter fun b => decide (b.to = k)).map fun b => takenAt b ms s := by
  have hl : s ≤ ms.length := Nat.le_of_lt (List.getElem?_eq_some_iff.mp hm).1
  unfold takes
  induction bs with
  | nil => rfl
  | cons b bs ih =>
    rw [show stand (b :: bs) (ms.take s) = standB (ms.take s) b :: stand bs (ms.take s) from rfl, List.filter_cons, List.filter_cons, stand_to]
    by_cases c : b.to = k
    · rw [if_pos (decide_eq_true c), if_pos (decide_eq_true c), List.map_cons, List.map_cons, ih, taken_at_eq hl m hm]
    · rw [if_neg (by rw [decide_eq_false c]; exact Bool.false_ne_true), if_neg (by rw [decide_eq_false c]; exact Bool.false_ne_true)]
      exact ih
theorem WS.hand {hs : List HR} {bs : List BR} {rows ms : List (List Int)} (a : WS hs bs rows ms) {s k : Nat} {h : HR} (sl : s < ms.length) (eh : hs[k]? = some h) (w : h.wd ≠ "in") : Vm ms s k = mkR h ((bs.filter fun b => decide (b.to = k)).map fun b => takenAt b ms s) := by
  have em : ms[s]? = some ms[s] := List.getElem?_eq_getElem sl
  have er : rows[s]? = some (rows[s]'(by rw [← a.len]; exact sl)) := List.getElem?_eq_getElem _
  have B := a.at_ s _ _ er em
  have q := B.hand k h eh w
  rw [takes_stand em] at q
  unfold Vm
  rw [getD_at em]
  show ms[s].getD k 0 = _
  rw [List.getD_eq_getElem?_getD, q]
  rfl
theorem WS.door {hs : List HR} {bs : List BR} {rows ms : List (List Int)} (a : WS hs bs rows ms) {s k j : Nat} (sl : s < ms.length) (ed : (doorsOf "in" hs)[j]? = some k) : Vm ms s k = gD (rows.getD s []) j := by
  have em : ms[s]? = some ms[s] := List.getElem?_eq_getElem sl
  have er : rows[s]? = some (rows[s]'(by rw [← a.len]; exact sl)) := List.getElem?_eq_getElem _
  have B := a.at_ s _ _ er em
  unfold Vm
  rw [getD_at em, getD_at er]
  show ms[s].getD k 0 = (rows[s]'_).getD j 0
  rw [List.getD_eq_getElem?_getD, List.getD_eq_getElem?_getD, B.door j k ed]
def goingN (bs : List BR) (k : Nat) : List Nat := (List.range bs.length).filter fun i => decide (bs[i]?.map BR.one = some k)
section
variable {P : Program} {w : World} {K : PySem.W.Frag} {mg : Str → Option Value} {base : Heap}
def sp_goings (K : PySem.W.Frag) : Sp := fun vs H Q _ => ∃ (r : Addr) (hs : List HR) (bs : List BR) (k : Nat), vs = [.ref r, nV k] ∧ RoomAt H r hs bs ∧ bs.length ≤ 400 ∧ ∀ (p : Addr) (H' : Hp), H p = none → H' p = some (.lst ((goingN bs k).map nV)) → Same H H' → Q (.ref p) H'
theorem ok_goings {f : Addr} {fd : FuncData} (F : Fun K "goings" "goings" s_goings f fd) {C : Addr} (T : Top K mg C) : FnOk P w K mg base CX0 1 f fd ["room", "hand"] (sp_goings K) := by
  refine F.ok sc_goings (fun vs H Q E h => ?_) (fun cdv A outer s H vs Q E hr h => ?_)
  · obtain ⟨r, hs, bs, k, rfl, _⟩ := h
    rfl
  obtain ⟨r, hs, bs, k, rfl, hR, lb, q⟩ := h
  obtain ⟨ha, ba, hv, bv, er, eh, eb, alh, alb⟩ := hR.ex
  have lbv := alb.length
  refine ⟨_, (pss_one (ps_ret (pe_lc (own := [("number", 2), ("belt", 3)]) (g := gTup K 2 (gCons (gName 2) (gCons (gName 3) gNil))) (by rfl) sc_goings.nd (pi_enumT K rfl (by rfl) T.m_enumerate (pa_cons (pe_ix (ix_tupK K rfl) (pv 0) pe_int (fun _ _ => rfl)) pa_nil)) (blkOk_by (own := [("number", 2), ("belt", 3)]) (N := N_goings) (sc := defScope s_goings) (by decide +kernel)) (fun _ _ _ _ _ => (pg_tupK K rfl rfl (pgs_cons (pg_name (i := 2) sc_goings.nd rfl (Or.inl rfl)) (pgs_cons (pg_name (i := 3) sc_goings.nd rfl (Or.inl rfl)) pgs_nil)))) (fun _ _ _ _ _ => pts_one (pt_cmpR op_eq (pe_ix (ix_tupK K rfl) (pv 3) pe_int (fun _ _ => rfl)) (pv 1) (nomark _))) (fun _ _ _ _ _ => (pv 2))))), ?_⟩
  refine ⟨_, rfl, r, _, _, _, rfl, rfl, SqT.of er, atI_nat (j := 1) rfl, ba, bv, rfl, SqT.of eb, fun D nD => lc_it (J := IteT K ba bv) (n := bv.length) (fun i H5 => H5 D = some (.lst (((List.range i).filter fun j => decide (bs[j]?.map BR.one = some k)).map nV)) ∧ Same H H5) ⟨upd_same, same_new nD⟩ ?_ ?_ ?_ ?_⟩
  · rintro i H5 hi ⟨hD, s5⟩
    exact ⟨SqT.of (s5 _ _ eb), hi⟩
  · rintro H5 ⟨hD, s5⟩
    exact ⟨SqT.of (s5 _ _ eb), rfl⟩
  · rintro i x H5 H6 hi ⟨hD, s5⟩ ⟨t, y, rfl, nt, rfl, ey⟩
    obtain ⟨b, eb2, ⟨t2, g, rfl, e1, e2⟩⟩ := alb.getL ey
    have s6 := s5.trans (same_new (o := .tup [V.int ((i : Nat) : Int), V.ref t2]) nt)
    have hD6 := same_new (o := .tup [V.int ((i : Nat) : Int), V.ref t2]) nt _ _ hD
    have few := filt_len (p := fun j => decide (bs[j]?.map BR.one = some k)) i
    refine ⟨t, _, rfl, SqT.of upd_same, rfl, _, _, rfl, _, _, rfl, rfl, rfl, _, rfl, t2, _, _, _, rfl, rfl, SqT.of (s6 _ _ e1), atI_nat (j := 0) rfl, _, rfl, rfl, _, rfl, if_bl (fun c => ?_) (fun c => ?_)⟩
    · have c : b.one = k := by have := V.int.inj (of_decide_eq_true c); omega
      refine ⟨_, rfl, _, hD6, by rw [List.length_map]; exact small1000 (by omega), ?_, Same.own s6 nD⟩
      rw [upd_same, filt_succ, if_pos (decide_eq_true (by rw [eb2, ← c]; rfl)), List.map_append]
      rfl
    · have c : ¬ b.one = k := fun z => of_decide_eq_false c (by rw [z])
      refine ⟨?_, s6⟩
      rw [filt_succ, if_neg fun z => c (by have := of_decide_eq_true z; rw [eb2] at this; exact Option.some.inj this), List.append_nil]
      exact hD6
  · rintro H5 ⟨hD, s5⟩
    refine q D H5 nD ?_ s5
    rw [hD, lbv]
    rfl
end

/-! ### a Floor -/
/-- the lists of a Floor: (0, j) what lies on belt j, (1, k) what was given to hand k, (2, k) what hand k made; (3, _) lists that stay -/
abbrev Sl := Nat × Nat
abbrev ff (ra ga la ca oa da : Addr) : List (Str × V) := [("rules", .ref ra), ("given", .ref ga), ("lying", .ref la), ("coming", .ref ca), ("going", .ref oa), ("done", .ref da)]
def VS (hs : List HR) (bs : List BR) (s : Sl) : Prop := (s.1 = 0 ∧ s.2 < bs.length) ∨ (s.1 = 1 ∧ s.2 ∈ doorsOf "in" hs) ∨ (s.1 = 2 ∧ s.2 < hs.length)
/-- a list of numbers that stays -/
def NlAt (tg : Addr → Option Sl) (H : Hp) (v : V) (ns : List Nat) : Prop := ∃ t : Addr, v = .ref t ∧ H t = some (.lst (ns.map nV)) ∧ tg t = some (3, 0)
def RlAt (H : Hp) (v : V) (h : HR) : Prop := ∃ t : Addr, v = .ref t ∧ H t = some (.tup (ruleL h))
/-- what is tagged is a list -/
def Tg (H : Hp) (tg : Addr → Option Sl) : Prop := ∀ p s, tg p = some s → ∃ xs, H p = some (.lst xs)
/-- all tagged lists stand, and all that is no list -/
def Kp (tg : Addr → Option Sl) (H H' : Hp) : Prop := ∀ b o, H b = some o → (tg b ≠ none ∨ ∀ xs, o ≠ .lst xs) → H' b = some o
/-- all stands but what is tagged -/
def Bt (tg : Addr → Option Sl) (H H' : Hp) : Prop := ∀ b o, H b = some o → tg b = none → H' b = some o
theorem Kp.same {tg : Addr → Option Sl} {H H' : Hp} (s : Same H H') : Kp tg H H' := fun b o e _ => s b o e
theorem Kp.but {tg : Addr → Option Sl} {H H' : Hp} {f c : Addr} (F : Flow H f c) (b : But f H H') (n : tg f = none) : Kp tg H H' := fun x o e h => b x o e fun z => by
  obtain ⟨ns, i, a, q, r, e1, _⟩ := F
  rw [z] at e h
  rw [e1] at e
  rcases h with h | h
  · exact h n
  · exact h _ (Option.some.inj e).symm
theorem Kp.lst {tg : Addr → Option Sl} {H : Hp} {p : Addr} {xs ys : List V} (e : H p = some (.lst xs)) (n : tg p = none) : Kp tg H (upd H p (.lst ys)) := fun x o e1 h => by
  rw [upd_ne fun z => ?_]
  · exact e1
  · rw [z, e] at e1
    rcases h with h | h
    · exact h (by rw [z]; exact n)
    · exact h _ (Option.some.inj e1).symm
theorem Kp.trans {tg : Addr → Option Sl} {H H1 H2 : Hp} (a : Kp tg H H1) (b : Kp tg H1 H2) : Kp tg H H2 := fun x o e h => b x o (a x o e h) h
theorem Kp.tk {tg : Addr → Option Sl} {H H' : Hp} (a : Kp tg H H') : TK H H' := fun x xs e => a x _ e (.inr fun _ z => nomatch z)
theorem Bt.refl {tg : Addr → Option Sl} {H : Hp} : Bt tg H H := fun _ _ e _ => e
theorem Bt.trans {tg : Addr → Option Sl} {H H1 H2 : Hp} (a : Bt tg H H1) (b : Bt tg H1 H2) : Bt tg H H2 := fun x o e h => b x o (a x o e h) h
theorem Bt.same {tg : Addr → Option Sl} {H H1 H2 : Hp} (a : Bt tg H H1) (s : Same H1 H2) : Bt tg H H2 := fun x o e h => s x o (a x o e h)
theorem Bt.flow {tg : Addr → Option Sl} {H H' : Hp} {f c : Addr} (a : Bt tg H H') (F : Flow H f c) (n1 : tg f = none) (n2 : tg c = none) : Flow H' f c := by
  obtain ⟨ns, i, x, q, r, e1, e2, e⟩ := F
  exact ⟨ns, i, x, q, r, a _ _ e1 n1, a _ _ e2 n2, e⟩
theorem Tg.tup {H : Hp} {tg : Addr → Option Sl} {p : Addr} {o : HO} (g : Tg H tg) (e : H p = some o) (n : ∀ xs, o ≠ .lst xs) : tg p = none := by
  cases z : tg p with
  | none => rfl
  | some s =>
    obtain ⟨xs, h⟩ := g p s z
    rw [e] at h
    exact absurd (Option.some.inj h) (n xs)
theorem Tg.free {H : Hp} {tg : Addr → Option Sl} {p : Addr} (g : Tg H tg) (e : H p = none) : tg p = none := by
  cases z : tg p with
  | none => rfl
  | some s =>
    obtain ⟨xs, h⟩ := g p s z
    rw [e] at h
    cases h
theorem Bt.tk {tg : Addr → Option Sl} {H H' : Hp} (a : Bt tg H H') (g : Tg H tg) : TK H H' := fun x xs e => a x _ e (g.tup e fun _ z => nomatch z)
theorem Tg.kp {H H' : Hp} {tg : Addr → Option Sl} (g : Tg H tg) (k : Kp tg H H') : Tg H' tg := fun p s e => by
  obtain ⟨xs, h⟩ := g p s e
  exact ⟨xs, k p _ h (.inl (by rw [e]; exact fun z => nomatch z))⟩
/-- a Floor at F; cn: what is on its lists -/
structure FlA (C : Addr) (H : Hp) (F : Addr) (hs : List HR) (bs : List BR) (cn : Sl → List Int) (tg : Addr → Option Sl) (dx ra ga la ca oa da : Addr) (kvs : List (Key × V)) (A : Sl → Addr) (rv cv ov : List V) : Prop where
  hF : H F = some (.ins C dx (ff ra ga la ca oa da))
  hr : H ra = some (.lst rv)
  alr : All2 (RlAt H) rv hs
  hg : H ga = some (.dK kvs)
  gv : ∀ k, k < hs.length → valV kvs (kN k) = if k ∈ doorsOf "in" hs then some (.ref (A (1, k))) else none
  hl : H la = some (.lst ((List.range bs.length).map fun j => V.ref (A (0, j))))
  hc : H ca = some (.lst cv)
  alc : All2 (NlAt tg H) cv ((List.range hs.length).map (comingN bs))
  ho : H oa = some (.lst ov)
  alo : All2 (NlAt tg H) ov ((List.range hs.length).map (goingN bs))
  hd : H da = some (.lst ((List.range hs.length).map fun k => V.ref (A (2, k))))
  sl : ∀ s, VS hs bs s → H (A s) = some (.lst ((cn s).map V.int)) ∧ tg (A s) = some s
  tr : tg ra = some (3, 0)
  tl : tg la = some (3, 0)
  tc : tg ca = some (3, 0)
  to : tg oa = some (3, 0)
  td : tg da = some (3, 0)
  own : Tg H tg
def FlAt (C : Addr) (H : Hp) (F : Addr) (hs : List HR) (bs : List BR) (cn : Sl → List Int) (tg : Addr → Option Sl) : Prop := ∃ (dx ra ga la ca oa da : Addr) (kvs : List (Key × V)) (A : Sl → Addr) (rv cv ov : List V), FlA C H F hs bs cn tg dx ra ga la ca oa da kvs A rv cv ov
theorem FlA.kp {C : Addr} {H H' : Hp} {F : Addr} {hs : List HR} {bs : List BR} {cn : Sl → List Int} {tg : Addr → Option Sl} {dx ra ga la ca oa da : Addr} {kvs : List (Key × V)} {A : Sl → Addr} {rv cv ov : List V} (a : FlA C H F hs bs cn tg dx ra ga la ca oa da kvs A rv cv ov) (k : Kp tg H H') : FlA C H' F hs bs cn tg dx ra ga la ca oa da kvs A rv cv ov := by
  have kl : ∀ {p : Addr} {o : HO} {s : Sl}, H p = some o → tg p = some s → H' p = some o := fun e t => k _ _ e (.inl (by rw [t]; exact fun z => nomatch z))
  have nl : ∀ {v : V} {ns : List Nat}, NlAt tg H v ns → NlAt tg H' v ns := fun ⟨t, e, h, g⟩ => ⟨t, e, kl h g, g⟩
  exact ⟨k _ _ a.hF (.inr fun _ z => nomatch z), kl a.hr a.tr, a.alr.imp fun _ _ ⟨t, e, h⟩ => ⟨t, e, k.tk _ _ h⟩, k _ _ a.hg (.inr fun _ z => nomatch z), a.gv, kl a.hl a.tl, kl a.hc a.tc, a.alc.imp fun _ _ z => nl z, kl a.ho a.to, a.alo.imp fun _ _ z => nl z, kl a.hd a.td, fun s v => ⟨kl (a.sl s v).1 (a.sl s v).2, (a.sl s v).2⟩, a.tr, a.tl, a.tc, a.to, a.td, a.own.kp k⟩
theorem FlAt.kp {C : Addr} {H H' : Hp} {F : Addr} {hs : List HR} {bs : List BR} {cn : Sl → List Int} {tg : Addr → Option Sl} (a : FlAt C H F hs bs cn tg) (k : Kp tg H H') : FlAt C H' F hs bs cn tg := by
  obtain ⟨dx, ra, ga, la, ca, oa, da, kvs, A, rv, cv, ov, a⟩ := a
  exact ⟨dx, ra, ga, la, ca, oa, da, kvs, A, rv, cv, ov, a.kp k⟩
theorem FlAt.own {C : Addr} {H : Hp} {F : Addr} {hs : List HR} {bs : List BR} {cn : Sl → List Int} {tg : Addr → Option Sl} (a : FlAt C H F hs bs cn tg) : Tg H tg := by
  obtain ⟨dx, ra, ga, la, ca, oa, da, kvs, A, rv, cv, ov, a⟩ := a
  exact a.own
abbrev putS (cn : Sl → List Int) (s : Sl) (xs : List Int) : Sl → List Int := fun t => if t = s then xs else cn t
theorem FlA.put {C : Addr} {H : Hp} {F : Addr} {hs : List HR} {bs : List BR} {cn : Sl → List Int} {tg : Addr → Option Sl} {dx ra ga la ca oa da : Addr} {kvs : List (Key × V)} {A : Sl → Addr} {rv cv ov : List V} (a : FlA C H F hs bs cn tg dx ra ga la ca oa da kvs A rv cv ov) {s : Sl} (v : VS hs bs s) (xs : List Int) : FlA C (upd H (A s) (.lst (xs.map V.int))) F hs bs (putS cn s xs) tg dx ra ga la ca oa da kvs A rv cv ov ∧ Bt tg H (upd H (A s) (.lst (xs.map V.int))) := by
  obtain ⟨h0, t0⟩ := a.sl s v
  have s3 : s ≠ (3, 0) := fun e => by
    rw [e] at v
    rcases v with ⟨z, _⟩ | ⟨z, _⟩ | ⟨z, _⟩ <;> exact absurd z (by decide)
  have off : ∀ {p : Addr} {o : HO}, H p = some o → p ≠ A s → (upd H (A s) (.lst (xs.map V.int))) p = some o := fun e n => by rw [upd_ne n]; exact e
  have fx : ∀ {p : Addr} {o : HO}, H p = some o → tg p = some (3, 0) → (upd H (A s) (.lst (xs.map V.int))) p = some o := fun e t => off e fun z => by
    rw [z, t0] at t
    exact s3 (Option.some.inj t)
  have nx : ∀ {p : Addr} {o : HO}, H p = some o → (∀ ys, o ≠ .lst ys) → (upd H (A s) (.lst (xs.map V.int))) p = some o := fun e n => off e fun z => by
    rw [z, h0] at e
    exact n _ (Option.some.inj e).symm
  have nl : ∀ {v : V} {ns : List Nat}, NlAt tg H v ns → NlAt tg (upd H (A s) (.lst (xs.map V.int))) v ns := fun ⟨t, e, h, g⟩ => ⟨t, e, fx h g, g⟩
  refine ⟨⟨nx a.hF (fun _ z => nomatch z), fx a.hr a.tr, a.alr.imp fun _ _ ⟨t, e, h⟩ => ⟨t, e, nx h (fun _ z => nomatch z)⟩, nx a.hg (fun _ z => nomatch z), a.gv, fx a.hl a.tl, fx a.hc a.tc, a.alc.imp fun _ _ z => nl z, fx a.ho a.to, a.alo.imp fun _ _ z => nl z, fx a.hd a.td, fun u vu => ?_, a.tr, a.tl, a.tc, a.to, a.td, fun p u e => ?_⟩, fun b o e n => off e fun z => ?_⟩
  · obtain ⟨h1, t1⟩ := a.sl u vu
    refine ⟨?_, t1⟩
    by_cases z : u = s
    · subst z
      rw [upd_same]
      show _ = some (HO.lst ((if u = u then xs else cn u).map V.int))
      rw [if_pos rfl]
    · rw [off h1 fun y => z (by rw [y, t0] at t1; exact (Option.some.inj t1).symm)]
      show _ = some (HO.lst ((if u = s then xs else cn u).map V.int))
      rw [if_neg z]
  · obtain ⟨ys, h⟩ := a.own p u e
    by_cases z : p = A s
    · exact ⟨_, by rw [z, upd_same]⟩
    · exact ⟨ys, off h z⟩
  · rw [z, t0] at n
    cases n
structure Fp where
  dx : Addr
  ra : Addr
  ga : Addr
  la : Addr
  ca : Addr
  oa : Addr
  da : Addr
  kvs : List (Key × V)
  A : Sl → Addr
  rv : List V
  cv : List V
  ov : List V
abbrev FlB (C : Addr) (H : Hp) (F : Addr) (hs : List HR) (bs : List BR) (cn : Sl → List Int) (tg : Addr → Option Sl) (p : Fp) : Prop := FlA C H F hs bs cn tg p.dx p.ra p.ga p.la p.ca p.oa p.da p.kvs p.A p.rv p.cv p.ov
theorem FlAt.b {C : Addr} {H : Hp} {F : Addr} {hs : List HR} {bs : List BR} {cn : Sl → List Int} {tg : Addr → Option Sl} (a : FlAt C H F hs bs cn tg) : ∃ p, FlB C H F hs bs cn tg p := by
  obtain ⟨dx, ra, ga, la, ca, oa, da, kvs, A, rv, cv, ov, a⟩ := a
  exact ⟨⟨dx, ra, ga, la, ca, oa, da, kvs, A, rv, cv, ov⟩, a⟩
theorem FlA.at_ {C : Addr} {H : Hp} {F : Addr} {hs : List HR} {bs : List BR} {cn : Sl → List Int} {tg : Addr → Option Sl} {p : Fp} (a : FlB C H F hs bs cn tg p) : FlAt C H F hs bs cn tg := ⟨_, _, _, _, _, _, _, _, _, _, _, _, a⟩
/-- from which lists a hand takes -/
def srcs (hs : List HR) (bs : List BR) (k : Nat) : List Sl := if k ∈ doorsOf "in" hs then [(1, k)] else (comingN bs k).map fun j => (0, j)
theorem coming_lt {bs : List BR} {k j : Nat} (h : j ∈ comingN bs k) : j < bs.length := List.mem_range.mp (List.mem_filter.mp h).1
theorem going_lt {bs : List BR} {k j : Nat} (h : j ∈ goingN bs k) : j < bs.length := List.mem_range.mp (List.mem_filter.mp h).1
theorem srcs_vs {hs : List HR} {bs : List BR} {k : Nat} : ∀ s ∈ srcs hs bs k, VS hs bs s := fun s h => by
  unfold srcs at h
  by_cases c : k ∈ doorsOf "in" hs
  · rw [if_pos c] at h
    rw [List.mem_singleton.mp h]
    exact .inr (.inl ⟨rfl, c⟩)
  · rw [if_neg c] at h
    obtain ⟨j, hj, rfl⟩ := List.mem_map.mp h
    exact .inl ⟨rfl, coming_lt hj⟩
theorem srcs_nd {hs : List HR} {bs : List BR} {k : Nat} : (srcs hs bs k).Nodup := by
  unfold srcs
  by_cases c : k ∈ doorsOf "in" hs
  · rw [if_pos c]
    exact List.pairwise_singleton ..
  · rw [if_neg c]
    refine List.Pairwise.map _ (fun a b h e => h ?_) (List.nodup_range.filter _)
    exact congrArg Prod.snd e
theorem srcs_len {hs : List HR} {bs : List BR} {k : Nat} (lb : bs.length ≤ 20) : (srcs hs bs k).length ≤ 20 := by
  unfold srcs
  by_cases c : k ∈ doorsOf "in" hs
  · rw [if_pos c]; show 1 ≤ 20; decide
  · rw [if_neg c, List.length_map]
    have := filt_len (p := fun i => decide (bs[i]?.map BR.to = some k)) bs.length
    unfold comingN
    omega
/-- all is there that a hand takes -/
def rdy (hs : List HR) (bs : List BR) (cn : Sl → List Int) (k : Nat) : Bool := (srcs hs bs k).all fun s => decide ((((cn s).length : Nat) : Int) > 0)
theorem rg_ref {n j : Nat} {f : Nat → V} (h : j < n) : atI ((List.range n).map f) ((j : Nat) : Int) = some (f j) := atI_nat (by rw [List.getElem?_map, List.getElem?_range h]; rfl)
theorem nl_get {tg : Addr → Option Sl} {H : Hp} {cv : List V} {n k : Nat} {g : Nat → List Nat} (al : All2 (NlAt tg H) cv ((List.range n).map g)) (h : k < n) : ∃ t : Addr, cv[k]? = some (.ref t) ∧ H t = some (.lst ((g k).map nV)) ∧ tg t = some (3, 0) := by
  obtain ⟨x, ex, t, rfl, h1, h2⟩ := al.get (show ((List.range n).map g)[k]? = some (g k) by rw [List.getElem?_map, List.getElem?_range h]; rfl)
  exact ⟨t, ex, h1, h2⟩
section
variable {P : Program} {w : World} {K : PySem.W.Frag} {mg : Str → Option Value} {base : Heap}
def sp_Floor_sources (K : PySem.W.Frag) (C : Addr) : Sp := fun vs H Q _ => ∃ (F : Addr) (hs : List HR) (bs : List BR) (cn : Sl → List Int) (tg : Addr → Option Sl) (p : Fp) (k : Nat), vs = [.ref F, nV k] ∧ FlB C H F hs bs cn tg p ∧ k < hs.length ∧ bs.length ≤ 20 ∧
  ∀ (D : Addr) (H' : Hp), H D = none → H' D = some (.lst ((srcs hs bs k).map fun s => V.ref (p.A s))) → Same H H' → Q (.ref D) H'
theorem ok_Floor_sources {f : Addr} {fd : FuncData} (F : Fun K "sources" "Floor.sources" s_Floor_sources f fd) {C : Addr} (T : Top K mg C) : FnOk P w K mg base CX0 1 f fd ["self", "hand"] (sp_Floor_sources K C) := by
  refine F.ok sc_Floor_sources (fun vs H Q E h => ?_) (fun cdv A outer s H vs Q E hr h => ?_)
  · obtain ⟨F, hs, bs, cn, tg, p, k, rfl, _⟩ := h
    rfl
  obtain ⟨F, hs, bs, cn, tg, p, k, rfl, a, hk, lb, q⟩ := h
  refine ⟨_, (pss_cons (ps_if (pt_cmp (pc_din (hu_of hr) (pv 1) (pe_fldK K rfl (pv 0) rfl)) (by with_unfolding_all rfl)) (pss_one (ps_ret (pe_lst (pa_cons (pe_dget (hu_of hr) (pe_fldK K rfl (pv 0) rfl) (pv 1) (fun _ _ => rfl)) pa_nil)))) pss_nil)
      (pss_one (ps_ret (pe_lc (own := [("belt", 2)]) (g := gName 2) (tt := tYes) (by rfl) sc_Floor_sources.nd (pi_listK K rfl (pe_ix (ix_listK K rfl) (pe_fldK K rfl (pv 0) rfl) (pv 1) (fun _ _ => rfl))) (blkOk_by (own := [("belt", 2)]) (N := N_Floor_sources) (sc := defScope s_Floor_sources) (by decide +kernel)) (fun _ _ _ _ _ => (pg_name (i := 2) sc_Floor_sources.nd rfl (Or.inl rfl))) (fun _ _ _ _ _ => pts_nil) (fun _ _ _ _ _ => (pe_ix (ix_listK K rfl) (pe_fldK K rfl (pv 0) rfl) (pv 2) (fun _ _ => rfl))))))), ?_⟩
  refine ⟨_, rfl, _, rfl, F, C, p.dx, _, _, rfl, a.hF, T.cl, T.n_given, rfl, p.ga, _, rfl, dget_of a.hg (a.gv k hk), ?_⟩
  unfold srcs at q
  by_cases c : k ∈ doorsOf "in" hs
  · rw [if_pos c] at q ⊢
    refine ⟨_, rfl, if_bl (fun _ => ?_) (fun z => by cases z)⟩
    refine ⟨_, rfl, F, C, p.dx, _, _, rfl, a.hF, T.cl, T.n_given, rfl, _, rfl, p.ga, .ref (p.A (1, k)), rfl, dget_of a.hg (by rw [a.gv k hk, if_pos c]), (by show 1 ≤ sizeLine; decide), fun D nD => ?_⟩
    exact q D _ nD upd_same (same_new nD)
  · rw [if_neg c] at q ⊢
    refine ⟨_, rfl, if_bl (fun z => by cases z) (fun _ => ?_)⟩
    obtain ⟨t, et, ht, _⟩ := nl_get a.alc hk
    refine ⟨_, rfl, F, C, p.dx, _, _, rfl, a.hF, T.cl, T.n_coming, rfl, _, rfl, p.ca, _, _, _, rfl, rfl, SqL.of a.hc, atI_nat et, t, rfl, ⟨_, SqL.of ht⟩, fun D nD => lc_list (K := K) (a := t) (xs := (comingN bs k).map nV) (fun i H5 => H5 D = some (.lst ((((comingN bs k).take i).map fun j => ((0, j) : Sl)).map fun s => V.ref (p.A s))) ∧ Same H H5) ⟨upd_same, same_new nD⟩ (fun i H5 _ ⟨_, s5⟩ => SqL.of (s5 _ _ ht)) ?_ ?_⟩
    · rintro i x H5 hx ⟨hD, s5⟩
      rw [List.getElem?_map] at hx
      cases ej : (comingN bs k)[i]? with
      | none => rw [ej] at hx; cases hx
      | some j =>
      rw [ej] at hx
      obtain rfl : nV j = x := Option.some.inj hx
      have jl := coming_lt (List.mem_of_getElem? ej)
      have lc := filt_len (p := fun i => decide (bs[i]?.map BR.to = some k)) bs.length
      have lc : (comingN bs k).length ≤ bs.length := lc
      refine ⟨rfl, yes_in ⟨_, rfl, F, C, p.dx, _, _, rfl, s5 _ _ a.hF, T.cl, T.n_lying, rfl, _, rfl, p.la, _, _, _, rfl, rfl, SqL.of (s5 _ _ a.hl), rg_ref jl, _, hD, by rw [List.length_map, List.length_map, List.length_take]; exact small1000 (by omega), ?_, Same.own s5 nD⟩⟩
      rw [upd_same, List.take_add_one, ej, List.map_append, List.map_append]
      rfl
    · rintro H5 ⟨hD, s5⟩
      rw [List.length_map, List.take_length] at hD
      exact q D H5 nD hD s5
def sp_Floor_can_work (K : PySem.W.Frag) (C : Addr) : Sp := fun vs H Q _ => ∃ (F : Addr) (hs : List HR) (bs : List BR) (cn : Sl → List Int) (tg : Addr → Option Sl) (p : Fp) (k : Nat), vs = [.ref F, nV k] ∧ FlB C H F hs bs cn tg p ∧ k < hs.length ∧ bs.length ≤ 20 ∧
  ∀ H', Same H H' → Q (.bl (rdy hs bs cn k)) H'
theorem ok_Floor_can_work {f : Addr} {fd : FuncData} (F : Fun K "can_work" "Floor.can_work" s_Floor_can_work f fd) {C : Addr} (T : Top K mg C) : FnOk P w K mg base CX0 2 f fd ["self", "hand"] (sp_Floor_can_work K C) := by
  obtain ⟨f_Floor_sources, fd_Floor_sources, F_Floor_sources, b_Floor_sources, m_Floor_sources⟩ := T.d_Floor_sources
  have G_Floor_sources := ok_Floor_sources (P := P) (w := w) (base := base) F_Floor_sources T
  refine F.ok sc_Floor_can_work (fun vs H Q E h => ?_) (fun cdv A outer s H vs Q E hr h => ?_)
  · obtain ⟨F, hs, bs, cn, tg, p, k, rfl, _⟩ := h
    rfl
  obtain ⟨F, hs, bs, cn, tg, p, k, rfl, a, hk, lb, q⟩ := h
  have ls := srcs_len (hs := hs) (bs := bs) (k := k) lb
  refine ⟨_, (pss_one (ps_ret (pe_callB (cr_allK K rfl rfl) (by rfl) T.m_all (by decide +kernel) (pa_cons (pe_lc (own := [("things", 2)]) (g := gName 2) (tt := tYes) (by rfl) sc_Floor_can_work.nd (pi_listK K rfl (pe_meth (pv 0) T.cl m_Floor_sources G_Floor_sources (hr.mono (by decide)) b_Floor_sources .nil pass0 (pa_cons (pv 1) pa_nil))) (blkOk_by (own := [("things", 2)]) (N := N_Floor_can_work) (sc := defScope s_Floor_can_work) (by decide +kernel)) (fun _ _ _ _ _ => (pg_name (i := 2) sc_Floor_can_work.nd rfl (Or.inl rfl))) (fun _ _ _ _ _ => pts_nil) (fun _ _ _ _ _ => (pe_cmpR op_gt (pe_callB (call_len_seqK K rfl) (by rfl) T.m_len (by decide +kernel) (pa_cons (pv 2) pa_nil)) pe_int (nomark _)))) pa_nil)))), ?_⟩
  refine ⟨_, rfl, F, p.dx, _, rfl, a.hF, rfl, _, rfl, F, hs, bs, cn, tg, p, k, rfl, a, hk, lb, fun S H1 nS hS s1 => ⟨S, rfl, ⟨_, SqL.of hS⟩, fun D nD => lc_list (K := K) (a := S) (xs := (srcs hs bs k).map fun s => V.ref (p.A s)) (fun i H5 => H5 D = some (.lst ((((srcs hs bs k).take i).map fun s => decide ((((cn s).length : Nat) : Int) > 0)).map V.bl)) ∧ Same H1 H5) ⟨upd_same, same_new nD⟩ (fun i H5 _ ⟨_, s5⟩ => SqL.of (s5 _ _ hS)) ?_ ?_⟩⟩
  · rintro i x H5 hx ⟨hD, s5⟩
    rw [List.getElem?_map] at hx
    cases es : (srcs hs bs k)[i]? with
    | none => rw [es] at hx; cases hx
    | some s =>
    rw [es] at hx
    obtain rfl : V.ref (p.A s) = x := Option.some.inj hx
    obtain ⟨h1, _⟩ := a.sl s (srcs_vs s (List.mem_of_getElem? es))
    refine ⟨rfl, yes_in ⟨_, rfl, p.A s, _, rfl, .inl (SqL.of (s5 _ _ (s1 _ _ h1))), _, _, rfl, rfl, _, hD, by rw [List.length_map, List.length_map, List.length_take]; exact small1000 (by omega), ?_, Same.own s5 nD⟩⟩
    rw [upd_same, List.take_add_one, es, List.map_append, List.map_append, List.length_map]
    rfl
  · rintro H5 ⟨hD, s5⟩
    rw [List.length_map, List.take_length] at hD
    refine ⟨D, _, rfl, SqL.of hD, ?_⟩
    rw [List.all_map]
    exact q H5 (s1.trans s5)
def sp_Floor_ready (K : PySem.W.Frag) (C : Addr) : Sp := fun vs H Q _ => ∃ (F : Addr) (hs : List HR) (bs : List BR) (cn : Sl → List Int) (tg : Addr → Option Sl), vs = [.ref F] ∧ FlAt C H F hs bs cn tg ∧ hs.length ≤ 12 ∧ bs.length ≤ 20 ∧
  ∀ (D : Addr) (H' : Hp), H D = none → H' D = some (.lst (((List.range hs.length).filter (rdy hs bs cn)).map nV)) → Same H H' → Q (.ref D) H'
theorem ok_Floor_ready {f : Addr} {fd : FuncData} (F : Fun K "ready" "Floor.ready" s_Floor_ready f fd) {C : Addr} (T : Top K mg C) : FnOk P w K mg base CX0 3 f fd ["self"] (sp_Floor_ready K C) := by
  obtain ⟨f_Floor_can_work, fd_Floor_can_work, F_Floor_can_work, b_Floor_can_work, m_Floor_can_work⟩ := T.d_Floor_can_work
  have G_Floor_can_work := ok_Floor_can_work (P := P) (w := w) (base := base) F_Floor_can_work T
  refine F.ok sc_Floor_ready (fun vs H Q E h => ?_) (fun cdv A outer s H vs Q E hr h => ?_)
  · obtain ⟨F, hs, bs, cn, tg, rfl, _⟩ := h
    rfl
  obtain ⟨F, hs, bs, cn, tg, rfl, a, lh, lb, q⟩ := h
  obtain ⟨p, a⟩ := a.b
  have lr := a.alr.length
  refine ⟨_, (pss_one (ps_ret (pe_lc (own := [("hand", 1)]) (g := gName 1) (by rfl) sc_Floor_ready.nd (pi_range1 (by rfl) T.m_range (pa_cons (pe_callB (call_len_seqK K rfl) (by rfl) T.m_len (by decide +kernel) (pa_cons (pe_fldK K rfl (pv 0) rfl) pa_nil)) pa_nil)) (blkOk_by (own := [("hand", 1)]) (N := N_Floor_ready) (sc := defScope s_Floor_ready) (by decide +kernel)) (fun _ _ _ _ _ => (pg_name (i := 1) sc_Floor_ready.nd rfl (Or.inl rfl))) (fun _ _ _ _ _ => pts_one (pt_val (pe_meth (pv 0) T.cl m_Floor_can_work G_Floor_can_work (hr.mono (by decide)) b_Floor_can_work .nil pass0 (pa_cons (pv 1) pa_nil)))) (fun _ _ _ _ _ => (pv 1))))), ?_⟩
  refine ⟨_, rfl, F, C, p.dx, _, _, rfl, a.hF, T.cl, T.n_rules, rfl, p.ra, _, rfl, .inl (SqL.of a.hr), _, rfl, by omega, by omega, fun D nD => lc_range (lo := 0) (n := p.rv.length) (fun i H5 => H5 D = some (.lst (((List.range i).filter (rdy hs bs cn)).map nV)) ∧ Same H H5) ⟨upd_same, same_new nD⟩ ?_ ?_⟩
  · rintro i H5 hi ⟨hD, s5⟩
    have few := filt_len (p := rdy hs bs cn) i
    refine ⟨rfl, _, rfl, F, p.dx, _, rfl, s5 _ _ a.hF, rfl, _, rfl, F, hs, bs, cn, tg, p, i, by rw [Int.zero_add]; rfl, a.kp (Kp.same s5), by omega, lb, fun H6 s6 => ⟨_, rfl, if_bl (fun z => ?_) (fun z => ?_)⟩⟩
    · refine ⟨_, rfl, _, s6 _ _ hD, by rw [List.length_map]; exact small1000 (by omega), ?_, Same.own (s5.trans s6) nD⟩
      rw [upd_same, filt_succ, if_pos z, List.map_append, Int.zero_add]
      rfl
    · refine ⟨?_, s5.trans s6⟩
      rw [filt_succ, if_neg (by rw [z]; exact Bool.false_ne_true), List.append_nil]
      exact s6 _ _ hD
  · rintro H5 ⟨hD, s5⟩
    rw [lr] at hD
    exact q D H5 nD hD s5
def sp_Floor_made (K : PySem.W.Frag) (C : Addr) : Sp := fun vs H Q _ => ∃ (F : Addr) (hs : List HR) (bs : List BR) (cn : Sl → List Int) (tg : Addr → Option Sl) (k : Nat), vs = [.ref F, nV k] ∧ FlAt C H F hs bs cn tg ∧ k < hs.length ∧
  ∀ (D : Addr) (H' : Hp), H D = none → H' D = some (.lst ((cn (2, k)).map V.int)) → Same H H' → Q (.ref D) H'
theorem ok_Floor_made {f : Addr} {fd : FuncData} (F : Fun K "made" "Floor.made" s_Floor_made f fd) {C : Addr} (T : Top K mg C) : FnOk P w K mg base CX0 1 f fd ["self", "hand"] (sp_Floor_made K C) := by
  refine F.ok sc_Floor_made (fun vs H Q E h => ?_) (fun cdv A outer s H vs Q E hr h => ?_)
  · obtain ⟨F, hs, bs, cn, tg, k, rfl, _⟩ := h
    rfl
  obtain ⟨F, hs, bs, cn, tg, k, rfl, a, hk, q⟩ := h
  obtain ⟨p, a⟩ := a.b
  obtain ⟨h1, _⟩ := a.sl (2, k) (.inr (.inr ⟨rfl, hk⟩))
  refine ⟨_, (pss_one (ps_ret (pe_callTy (call_list_ofK K rfl) (by rfl) T.m_list (by decide +kernel) (pa_cons (pe_ix (ix_listK K rfl) (pe_fldK K rfl (pv 0) rfl) (pv 1) (fun _ _ => rfl)) pa_nil)))), ?_⟩
  refine ⟨_, rfl, F, C, p.dx, _, _, rfl, a.hF, T.cl, T.n_done, rfl, _, rfl, p.da, _, _, _, rfl, rfl, SqL.of a.hd, rg_ref hk, p.A (2, k), _, rfl, .inl (SqL.of h1), fun D nD => ?_⟩
  exact q D _ nD upd_same (same_new nD)
def sp_Floor_give (K : PySem.W.Frag) (C : Addr) : Sp := fun vs H Q _ => ∃ (F : Addr) (hs : List HR) (bs : List BR) (cn : Sl → List Int) (tg : Addr → Option Sl) (k : Nat) (z : Int), vs = [.ref F, nV k, .int z] ∧ FlAt C H F hs bs cn tg ∧ k < hs.length ∧ k ∈ doorsOf "in" hs ∧ (cn (1, k)).length ≤ 900 ∧
  ∀ H', FlAt C H' F hs bs (putS cn (1, k) (cn (1, k) ++ [z])) tg → Bt tg H H' → Q .non H'
theorem ok_Floor_give {f : Addr} {fd : FuncData} (F : Fun K "give" "Floor.give" s_Floor_give f fd) {C : Addr} (T : Top K mg C) : FnOk P w K mg base CX0 1 f fd ["self", "hand", "thing"] (sp_Floor_give K C) := by
  refine F.ok sc_Floor_give (fun vs H Q E h => ?_) (fun cdv A outer s H vs Q E hr h => ?_)
  · obtain ⟨F, hs, bs, cn, tg, k, z, rfl, _⟩ := h
    rfl
  obtain ⟨F, hs, bs, cn, tg, k, z, rfl, a, hk, kd, lz, q⟩ := h
  obtain ⟨p, a⟩ := a.b
  have v1 : VS hs bs (1, k) := .inr (.inl ⟨rfl, kd⟩)
  obtain ⟨h1, _⟩ := a.sl (1, k) v1
  obtain ⟨a2, b2⟩ := a.put v1 (cn (1, k) ++ [z])
  refine ⟨_, (pss_one (ps_expr (pe_bmK K rfl PySem.F.plainAttrs_list PySem.F.slot_list_append PySem.F.type_list_append mt_append (pe_dget (hu_of hr) (pe_fldK K rfl (pv 0) rfl) (pv 1) (fun _ _ => rfl)) (pa_cons (pv 2) pa_nil)))), ?_⟩
  refine ⟨_, rfl, F, C, p.dx, _, _, rfl, a.hF, T.cl, T.n_given, rfl, _, rfl, p.ga, .ref (p.A (1, k)), rfl, dget_of a.hg (by rw [a.gv k hk, if_pos kd]), .inl ⟨rfl, _, SqL.of h1⟩, _, rfl, p.A (1, k), _, _, rfl, rfl, h1, by rw [List.length_map]; exact small1000 (by omega), ?_⟩
  have := q _ a2.at_ b2
  rw [List.map_append] at this
  exact this
end
theorem nd_at {α : Type} {l : List α} (nd : l.Nodup) {i j : Nat} {a : α} (h1 : l[i]? = some a) (h2 : l[j]? = some a) : i = j := by
  have i1 := (List.getElem?_eq_some_iff.mp h1)
  have i2 := (List.getElem?_eq_some_iff.mp h2)
  obtain ⟨l1, e1⟩ := i1
  obtain ⟨l2, e2⟩ := i2
  exact (List.getElem_inj nd).mp (e1.trans e2.symm)
theorem ps_dead {X : Cx} {st : Stmt} : PS X st (fun _ _ _ => False) := ⟨fun _ _ _ _ _ _ h => h.elim⟩
/-- what a hand makes of what it then takes -/
def wkV (hs : List HR) (bs : List BR) (cn : Sl → List Int) (k : Nat) : Int := if k ∈ doorsOf "in" hs then (cn (1, k)).getD 0 0 else match hs[k]? with
  | some h => mkR h ((comingN bs k).map fun j => (cn (0, j)).getD 0 0)
  | none => 0
def popC (hs : List HR) (bs : List BR) (cn : Sl → List Int) (k i : Nat) : Sl → List Int := fun s => if s ∈ (srcs hs bs k).take i then (cn s).tail else cn s
def putC (bs : List BR) (cn : Sl → List Int) (k : Nat) (z : Int) (i : Nat) : Sl → List Int := fun s => if s ∈ ((goingN bs k).take i).map (fun j => ((0, j) : Sl)) then cn s ++ [z] else cn s
/-- the lists behind its work -/
def wkC (hs : List HR) (bs : List BR) (cn : Sl → List Int) (k : Nat) : Sl → List Int := putS (putC bs (popC hs bs cn k (srcs hs bs k).length) k (wkV hs bs cn k) (goingN bs k).length) (2, k) (cn (2, k) ++ [wkV hs bs cn k])
theorem take_new {α : Type} [DecidableEq α] {l : List α} (nd : l.Nodup) {i : Nat} {x : α} (e : l[i]? = some x) : x ∉ l.take i ∧ ∀ y, y ∈ l.take (i + 1) ↔ y = x ∨ y ∈ l.take i := by
  have il := (List.getElem?_eq_some_iff.mp e).1
  have ex := (List.getElem?_eq_some_iff.mp e).2
  refine ⟨fun h => ?_, fun y => ?_⟩
  · obtain ⟨j, hj⟩ := List.getElem?_of_mem h
    have jl := (List.getElem?_eq_some_iff.mp hj).1
    rw [List.length_take] at jl
    rw [List.getElem?_take_of_lt (by omega)] at hj
    have := nd_at nd e hj
    omega
  · rw [List.take_add_one, e]
    constructor
    · intro h
      rcases List.mem_append.mp h with h | h
      · exact .inr h
      · exact .inl (List.mem_singleton.mp h)
    · rintro (h | h)
      · exact List.mem_append_right _ (List.mem_singleton.mpr h)
      · exact List.mem_append_left _ h
theorem popC_next {hs : List HR} {bs : List BR} {cn : Sl → List Int} {k i : Nat} {s : Sl} (e : (srcs hs bs k)[i]? = some s) : popC hs bs cn k i s = cn s ∧ putS (popC hs bs cn k i) s (cn s).tail = popC hs bs cn k (i + 1) := by
  obtain ⟨n, m⟩ := take_new srcs_nd e
  refine ⟨if_neg n, funext fun y => ?_⟩
  show (if y = s then (cn s).tail else if y ∈ (srcs hs bs k).take i then (cn y).tail else cn y) = if y ∈ (srcs hs bs k).take (i + 1) then (cn y).tail else cn y
  by_cases a : y = s
  · rw [if_pos a, if_pos ((m y).mpr (.inl a)), a]
  · rw [if_neg a]
    by_cases b : y ∈ (srcs hs bs k).take i
    · rw [if_pos b, if_pos ((m y).mpr (.inr b))]
    · rw [if_neg b, if_neg fun z => ((m y).mp z).elim a b]
theorem going_nd {bs : List BR} {k : Nat} : (goingN bs k).Nodup := List.nodup_range.filter _
theorem putC_next {bs : List BR} {cn : Sl → List Int} {k i j : Nat} {z : Int} (e : (goingN bs k)[i]? = some j) : putC bs cn k z i (0, j) = cn (0, j) ∧ putS (putC bs cn k z i) (0, j) (cn (0, j) ++ [z]) = putC bs cn k z (i + 1) := by
  obtain ⟨n, m⟩ := take_new going_nd e
  have mm : ∀ {i : Nat} {y : Sl}, y ∈ ((goingN bs k).take i).map (fun j => ((0, j) : Sl)) ↔ ∃ x ∈ (goingN bs k).take i, ((0, x) : Sl) = y := List.mem_map
  refine ⟨if_neg fun h => ?_, funext fun y => ?_⟩
  · obtain ⟨x, hx, ex⟩ := mm.mp h
    have := congrArg Prod.snd ex
    simp only at this
    rw [this] at hx
    exact n hx
  show (if y = (0, j) then cn (0, j) ++ [z] else if y ∈ ((goingN bs k).take i).map (fun j => ((0, j) : Sl)) then cn y ++ [z] else cn y) = if y ∈ ((goingN bs k).take (i + 1)).map (fun j => ((0, j) : Sl)) then cn y ++ [z] else cn y
  by_cases a : y = (0, j)
  · rw [if_pos a, if_pos (mm.mpr ⟨j, (m j).mpr (.inl rfl), a.symm⟩), a]
  · rw [if_neg a]
    by_cases b : y ∈ ((goingN bs k).take i).map (fun j => ((0, j) : Sl))
    · obtain ⟨x, hx, ex⟩ := mm.mp b
      rw [if_pos b, if_pos (mm.mpr ⟨x, (m x).mpr (.inr hx), ex⟩)]
    · rw [if_neg b, if_neg fun h => ?_]
      obtain ⟨x, hx, ex⟩ := mm.mp h
      rcases (m x).mp hx with w | w
      · exact a (by rw [← ex, w])
      · exact b (mm.mpr ⟨x, w, ex⟩)
theorem going_len {bs : List BR} {k : Nat} : (goingN bs k).length ≤ bs.length := filt_len _
theorem coming_need {hs : List HR} {bs : List BR} {k : Nat} {h : HR} (ok : RoomOk hs bs) (e : hs[k]? = some h) : (((comingN bs k).length : Nat) : Int) = needs h.wd := by
  rw [← ok.count k h e, ← takes_len (f := fun _ => 0), ← coming_takes, List.length_map]
section
variable {P : Program} {w : World} {K : PySem.W.Frag} {mg : Str → Option Value} {base : Heap}
def sp_Floor_work (K : PySem.W.Frag) (C : Addr) : Sp := fun vs H Q _ => ∃ (F : Addr) (hs : List HR) (bs : List BR) (cn : Sl → List Int) (tg : Addr → Option Sl) (k : Nat), vs = [.ref F, nV k] ∧ FlAt C H F hs bs cn tg ∧ RoomOk hs bs ∧ k < hs.length ∧ rdy hs bs cn k = true ∧ (∀ s, VS hs bs s → (cn s).length ≤ 900) ∧
  ∀ H', FlAt C H' F hs bs (wkC hs bs cn k) tg → Bt tg H H' → Q (.int (wkV hs bs cn k)) H'
theorem ok_Floor_work {f : Addr} {fd : FuncData} (F : Fun K "work" "Floor.work" s_Floor_work f fd) {C : Addr} (T : Top K mg C) : FnOk P w K mg base CX0 3 f fd ["self", "hand"] (sp_Floor_work K C) := by
  obtain ⟨f_Floor_sources, fd_Floor_sources, F_Floor_sources, b_Floor_sources, m_Floor_sources⟩ := T.d_Floor_sources
  have G_Floor_sources := ok_Floor_sources (P := P) (w := w) (base := base) F_Floor_sources T
  obtain ⟨f_Floor_can_work, fd_Floor_can_work, F_Floor_can_work, b_Floor_can_work, m_Floor_can_work⟩ := T.d_Floor_can_work
  have G_Floor_can_work := ok_Floor_can_work (P := P) (w := w) (base := base) F_Floor_can_work T
  obtain ⟨f_made_by, fd_made_by, F_made_by, b_made_by, m_made_by⟩ := T.d_made_by
  have G_made_by := ok_made_by (P := P) (w := w) (base := base) F_made_by T
  refine F.ok sc_Floor_work (fun vs H Q E h => ?_) (fun cdv A outer s H vs Q E hr h => ?_)
  · obtain ⟨F, hs, bs, cn, tg, k, rfl, _⟩ := h
    rfl
  obtain ⟨F, hs, bs, cn, tg, k, rfl, a, ok, hk, rd, len, q⟩ := h
  obtain ⟨p, a⟩ := a.b
  have lb := ok.many
  have ls := srcs_len (hs := hs) (bs := bs) (k := k) lb
  have some1 : ∀ s ∈ srcs hs bs k, ∃ x r, cn s = x :: r := fun s hs' => by
    have := of_decide_eq_true (List.all_eq_true.mp rd s hs')
    cases e : cn s with
    | nil => rw [e] at this; exact absurd this (by show ¬ ((0 : Nat) : Int) > 0; omega)
    | cons x r => exact ⟨x, r, rfl⟩
  let hd : List Int := (srcs hs bs k).map fun s => (cn s).getD 0 0
  let R1 : TS := fun D' σ' H' => D'.rt = Q ∧ ∃ (t : Addr) (v3 : Option V), σ' = [some (.ref F), some (nV k), some (.ref t), v3, none, none] ∧ FlB C H' F hs bs cn tg p ∧ H' t = some (.tup (hd.map V.int)) ∧ Bt tg H H'
  let R2 : TS := fun D' σ' H' => D'.rt = Q ∧ ∃ (t : Addr) (v3 : Option V), σ' = [some (.ref F), some (nV k), some (.ref t), v3, none, none] ∧ FlB C H' F hs bs (popC hs bs cn k (srcs hs bs k).length) tg p ∧ H' t = some (.tup (hd.map V.int)) ∧ Bt tg H H'
  let R3 : TS := fun D' σ' H' => D'.rt = Q ∧ ∃ (t : Addr) (v3 : Option V), σ' = [some (.ref F), some (nV k), some (.ref t), v3, some (.int (wkV hs bs cn k)), none] ∧ FlB C H' F hs bs (popC hs bs cn k (srcs hs bs k).length) tg p ∧ Bt tg H H'
  let R4 : TS := fun D' σ' H' => D'.rt = Q ∧ ∃ (t : Addr) (v3 v5 : Option V), σ' = [some (.ref F), some (nV k), some (.ref t), v3, some (.int (wkV hs bs cn k)), v5] ∧ FlB C H' F hs bs (putC bs (popC hs bs cn k (srcs hs bs k).length) k (wkV hs bs cn k) (goingN bs k).length) tg p ∧ Bt tg H H'
  refine ⟨_, (pss_cons (ps_if (pt_not (pt_val (pe_meth (pv 0) T.cl m_Floor_can_work G_Floor_can_work (hr.mono (by decide)) b_Floor_can_work .nil pass0 (pa_cons (pv 1) pa_nil)))) (pss_one ps_dead) pss_nil)
      (pss_cons (ps_set (i := 2) sc_Floor_work.nd rfl (Or.inl rfl) (pe_callTy (call_tuple_ofK K rfl) (by rfl) T.m_tuple (by decide +kernel) (pa_cons (pe_lc (own := [("things", 3)]) (g := gName 3) (tt := tYes) (by rfl) sc_Floor_work.nd (pi_listK K rfl (pe_meth (pv 0) T.cl m_Floor_sources G_Floor_sources (hr.mono (by decide)) b_Floor_sources .nil pass0 (pa_cons (pv 1) pa_nil))) (blkOk_by (own := [("things", 3)]) (N := N_Floor_work) (sc := defScope s_Floor_work) (by decide +kernel)) (fun _ _ _ _ _ => (pg_name (i := 3) sc_Floor_work.nd rfl (Or.inl rfl))) (fun _ _ _ _ _ => pts_nil) (fun _ _ _ _ _ => (pe_ix (ix_listK K rfl) (pv 3) pe_int (fun _ _ => rfl)))) pa_nil)))
      (PSs.to (pss_cons (ps_for PassesOwn.never rfl (pi_listK K rfl (pe_meth (pv 0) T.cl m_Floor_sources G_Floor_sources (hr.mono (by decide)) b_Floor_sources .nil pass0 (pa_cons (pv 1) pa_nil))) (pg_name (i := 3) sc_Floor_work.nd rfl (Or.inl rfl))
        (pss_one (ps_expr (pe_bmK K rfl PySem.F.plainAttrs_list PySem.F.slot_list_pop PySem.F.type_list_pop mt_popAt (pv 3) (pa_cons pe_int pa_nil)))))
      (PSs.to (pss_cons (ps_set (i := 4) sc_Floor_work.nd rfl (Or.inl rfl) (pe_ifExp (pt_cmp (pc_din (hu_of hr) (pv 1) (pe_fldK K rfl (pv 0) rfl)) (by with_unfolding_all rfl)) (pe_ix (ix_tupK K rfl) (pv 2) pe_int (fun _ _ => rfl)) (pe_call G_made_by (hr.mono (by decide)) (by rfl) m_made_by F_made_by.kp b_made_by .nil pass0 (pa_cons (pe_ix (ix_listK K rfl) (pe_fldK K rfl (pv 0) rfl) (pv 1) (fun _ _ => rfl)) (pa_cons (pv 2) pa_nil)))))
      (PSs.to (pss_cons (ps_for PassesOwn.never rfl (pi_listK K rfl (pe_ix (ix_listK K rfl) (pe_fldK K rfl (pv 0) rfl) (pv 1) (fun _ _ => rfl))) (pg_name (i := 5) sc_Floor_work.nd rfl (Or.inl rfl))
        (pss_one (ps_expr (pe_bmK K rfl PySem.F.plainAttrs_list PySem.F.slot_list_append PySem.F.type_list_append mt_append (pe_ix (ix_listK K rfl) (pe_fldK K rfl (pv 0) rfl) (pv 5) (fun _ _ => rfl)) (pa_cons (pv 4) pa_nil)))))
      (PSs.to (pss_cons (ps_expr (pe_bmK K rfl PySem.F.plainAttrs_list PySem.F.slot_list_append PySem.F.type_list_append mt_append (pe_ix (ix_listK K rfl) (pe_fldK K rfl (pv 0) rfl) (pv 1) (fun _ _ => rfl)) (pa_cons (pv 4) pa_nil)))
      (pss_one (ps_ret (pv 4)))) R4 ?tail4)) R3 ?tail3)) R2 ?tail2)) R1 ?tail1))), ?_⟩
  case tail1 =>
    rintro D' σ' H1 ⟨eD, t, v3, rfl, a1, ht, b1⟩
    refine ⟨_, rfl, F, p.dx, _, rfl, a1.hF, rfl, _, rfl, F, hs, bs, cn, tg, p, k, rfl, a1, hk, lb, fun S H2 nS hS s2 => ?_⟩
    have tS : tg S = none := a1.own.free nS
    refine ⟨S, rfl, ⟨_, SqL.of hS⟩, for_list (K := K) (a := S) (xs := (srcs hs bs k).map fun s => V.ref (p.A s)) (fun i σ H5 => ∃ v3 : Option V, σ = [some (.ref F), some (nV k), some (.ref t), v3, none, none] ∧ FlB C H5 F hs bs (popC hs bs cn k i) tg p ∧ H5 S = some (.lst ((srcs hs bs k).map fun s => V.ref (p.A s))) ∧ H5 t = some (.tup (hd.map V.int)) ∧ Bt tg H H5) ⟨v3, rfl, ?_, hS, s2 _ _ ht, b1.same s2⟩ (fun i σ H5 _ ⟨_, _, _, h, _⟩ => SqL.of h) ?_ ?_⟩
    · have e0 : popC hs bs cn k 0 = cn := funext fun s => if_neg (by rw [List.take_zero]; exact fun z => nomatch z)
      rw [e0]
      exact a1.kp (Kp.same s2)
    · rintro i x σ H5 hx ⟨v3, rfl, a5, hS5, ht5, b5⟩
      rw [List.getElem?_map] at hx
      cases es : (srcs hs bs k)[i]? with
      | none => rw [es] at hx; cases hx
      | some s =>
      rw [es] at hx
      obtain rfl : V.ref (p.A s) = x := Option.some.inj hx
      have sm := List.mem_of_getElem? es
      have vs := srcs_vs s sm
      obtain ⟨e1, e2⟩ := popC_next (cn := cn) es
      obtain ⟨h1, t1⟩ := a5.sl s vs
      obtain ⟨x0, r0, e0⟩ := some1 s sm
      rw [e1, e0] at h1
      obtain ⟨a6, b6⟩ := a5.put vs (cn s).tail
      rw [e2, e0] at a6
      rw [e0] at b6
      refine ⟨_, rfl, .inl ⟨rfl, _, SqL.of h1⟩, p.A s, _, 0, 0, .int x0, rfl, rfl, h1, by decide, by decide, ?_, rfl, ?_⟩
      · rw [seqIndex_of (by decide) (by show (0 : Int) < (((V.int x0 :: r0.map V.int).length : Nat) : Int); rw [List.length_cons]; omega)]
        rfl
      exact ⟨_, rfl, a6, b6 _ _ hS5 tS, b6 _ _ ht5 (a5.own.tup ht5 fun _ z => nomatch z), b5.trans b6⟩
    · rintro σ H5 ⟨v3, rfl, a5, hS5, ht5, b5⟩
      rw [List.length_map] at a5
      exact ⟨eD, t, v3, rfl, a5, ht5, b5⟩
  case tail2 =>
    rintro D' σ' H1 ⟨eD, t, v3, rfl, a1, ht, b1⟩
    refine ⟨_, rfl, _, rfl, F, C, p.dx, _, _, rfl, a1.hF, T.cl, T.n_given, rfl, p.ga, _, rfl, dget_of a1.hg (a1.gv k hk), ?_⟩
    by_cases c : k ∈ doorsOf "in" hs
    · rw [if_pos c]
      refine ⟨_, rfl, if_bl (fun _ => ?_) (fun z => by cases z)⟩
      have ehd : hd = [(cn (1, k)).getD 0 0] := by
        show (srcs hs bs k).map _ = _
        unfold srcs
        rw [if_pos c]
        rfl
      have ev : wkV hs bs cn k = (cn (1, k)).getD 0 0 := if_pos c
      rw [ehd] at ht
      refine ⟨_, rfl, t, _, _, _, rfl, rfl, SqT.of ht, atI_nat (j := 0) rfl, ?_⟩
      exact ⟨eD, t, v3, by rw [ev]; rfl, a1, b1⟩
    · rw [if_neg c]
      refine ⟨_, rfl, if_bl (fun z => by cases z) (fun _ => ?_)⟩
      have eh : hs[k]? = some hs[k] := List.getElem?_eq_getElem hk
      have ehd : hd = (comingN bs k).map fun j => (cn (0, j)).getD 0 0 := by
        show (srcs hs bs k).map _ = _
        unfold srcs
        rw [if_neg c, List.map_map]
        rfl
      have ev : wkV hs bs cn k = mkR hs[k] ((comingN bs k).map fun j => (cn (0, j)).getD 0 0) := by
        unfold wkV
        rw [if_neg c, eh]
      have wn : hs[k].wd ≠ "in" := fun z => c (mem_doors.mpr ⟨_, eh, z⟩)
      rw [ehd] at ht
      obtain ⟨x, ex, tr, rfl, hrl⟩ := a1.alr.get eh
      have A := args_of (xs := (comingN bs k).map fun j => (cn (0, j)).getD 0 0) (ok.good _ (List.mem_of_getElem? eh)) wn (by rw [List.length_map]; exact coming_need ok eh)
      refine ⟨_, rfl, F, C, p.dx, _, _, rfl, a1.hF, T.cl, T.n_rules, rfl, _, rfl, p.ra, _, _, _, rfl, rfl, SqL.of a1.hr, atI_nat ex, _, rfl, tr, t, _, _, hs[k].wd, _, _, _, _, rfl, SqT.of hrl, SqT.of ht, A.r0, A.r1, A.t0, A.t1, A.t2, A.big, fun H2 s2 => ?_⟩
      exact ⟨eD, t, v3, by rw [ev]; rfl, a1.kp (Kp.same s2), b1.same s2⟩
  case tail3 =>
    rintro D' σ' H1 ⟨eD, t, v3, rfl, a1, b1⟩
    obtain ⟨l, el, hl, tl⟩ := nl_get a1.alo hk
    refine ⟨_, rfl, F, C, p.dx, _, _, rfl, a1.hF, T.cl, T.n_going, rfl, _, rfl, p.oa, _, _, _, rfl, rfl, SqL.of a1.ho, atI_nat el, l, rfl, ⟨_, SqL.of hl⟩, for_list (K := K) (a := l) (xs := (goingN bs k).map nV) (fun i σ H5 => ∃ v5 : Option V, σ = [some (.ref F), some (nV k), some (.ref t), v3, some (.int (wkV hs bs cn k)), v5] ∧ FlB C H5 F hs bs (putC bs (popC hs bs cn k (srcs hs bs k).length) k (wkV hs bs cn k) i) tg p ∧ H5 l = some (.lst ((goingN bs k).map nV)) ∧ Bt tg H H5) ⟨none, rfl, ?_, hl, b1⟩ (fun i σ H5 _ ⟨_, _, _, h, _⟩ => SqL.of h) ?_ ?_⟩
    · have e0 : putC bs (popC hs bs cn k (srcs hs bs k).length) k (wkV hs bs cn k) 0 = popC hs bs cn k (srcs hs bs k).length := funext fun s => if_neg (by rw [List.take_zero]; exact fun z => nomatch z)
      rw [e0]
      exact a1
    · rintro i x σ H5 hx ⟨v5, rfl, a5, hl5, b5⟩
      rw [List.getElem?_map] at hx
      cases ej : (goingN bs k)[i]? with
      | none => rw [ej] at hx; cases hx
      | some j =>
      rw [ej] at hx
      obtain rfl : nV j = x := Option.some.inj hx
      have jl := going_lt (List.mem_of_getElem? ej)
      have vs : VS hs bs (0, j) := .inl ⟨rfl, jl⟩
      obtain ⟨e1, e2⟩ := putC_next (cn := popC hs bs cn k (srcs hs bs k).length) (z := wkV hs bs cn k) ej
      obtain ⟨h1, t1⟩ := a5.sl (0, j) vs
      rw [e1] at h1
      obtain ⟨a6, b6⟩ := a5.put vs (popC hs bs cn k (srcs hs bs k).length (0, j) ++ [wkV hs bs cn k])
      rw [e2] at a6
      have ln : (popC hs bs cn k (srcs hs bs k).length (0, j)).length ≤ 900 := by
        unfold popC
        have := len (0, j) vs
        split
        · rw [List.length_tail]; omega
        · exact this
      refine ⟨_, rfl, F, C, p.dx, _, _, rfl, a5.hF, T.cl, T.n_lying, rfl, _, rfl, p.la, _, _, _, rfl, rfl, SqL.of a5.hl, rg_ref jl, .inl ⟨rfl, _, SqL.of h1⟩, _, rfl, p.A (0, j), _, _, rfl, rfl, h1, by rw [List.length_map]; exact small1000 (by omega), ?_⟩
      rw [List.map_append] at a6 b6
      refine ⟨_, rfl, a6, ?_, b5.trans b6⟩
      rw [upd_ne fun z => ?_]
      · exact hl5
      · rw [z, t1] at tl
        exact absurd (show (0 : Nat) = 3 from congrArg Prod.fst (Option.some.inj tl)) (by decide)
    · rintro σ H5 ⟨v5, rfl, a5, hl5, b5⟩
      rw [List.length_map] at a5
      exact ⟨eD, t, v3, v5, rfl, a5, b5⟩
  case tail4 =>
    rintro D' σ' H1 ⟨eD, t, v3, v5, rfl, a1, b1⟩
    have vs : VS hs bs (2, k) := .inr (.inr ⟨rfl, hk⟩)
    obtain ⟨h1, t1⟩ := a1.sl (2, k) vs
    have e2 : putC bs (popC hs bs cn k (srcs hs bs k).length) k (wkV hs bs cn k) (goingN bs k).length (2, k) = cn (2, k) := by
      have n1 : ((2, k) : Sl) ∉ ((goingN bs k).take (goingN bs k).length).map (fun j => ((0, j) : Sl)) := fun z => by
        obtain ⟨x, _, e⟩ := List.mem_map.mp z
        exact absurd (show (0 : Nat) = 2 from congrArg Prod.fst e) (by decide)
      have n2 : ((2, k) : Sl) ∉ (srcs hs bs k).take (srcs hs bs k).length := fun z => by
        rw [List.take_length] at z
        unfold srcs at z
        split at z
        · exact absurd (show (2 : Nat) = 1 from congrArg Prod.fst (List.mem_singleton.mp z)) (by decide)
        · obtain ⟨x, _, e⟩ := List.mem_map.mp z
          exact absurd (show (0 : Nat) = 2 from congrArg Prod.fst e) (by decide)
      show (if _ then _ else _) = _
      rw [if_neg n1]
      show (if _ then _ else _) = _
      rw [if_neg n2]
    rw [e2] at h1
    obtain ⟨a6, b6⟩ := a1.put vs (cn (2, k) ++ [wkV hs bs cn k])
    have ln := len (2, k) vs
    refine ⟨_, rfl, F, C, p.dx, _, _, rfl, a1.hF, T.cl, T.n_done, rfl, _, rfl, p.da, _, _, _, rfl, rfl, SqL.of a1.hd, rg_ref hk, .inl ⟨rfl, _, SqL.of h1⟩, _, rfl, p.A (2, k), _, _, rfl, rfl, h1, by rw [List.length_map]; exact small1000 (by omega), ?_⟩
    refine ⟨_, rfl, ?_⟩
    rw [eD]
    rw [List.map_append] at a6 b6
    exact q _ a6.at_ (b1.trans b6)
  refine ⟨_, rfl, F, p.dx, _, rfl, a.hF, rfl, _, rfl, F, hs, bs, cn, tg, p, k, rfl, a, hk, lb, fun H1 s1 => ⟨_, rfl, ?_⟩⟩
  rw [rd]
  refine if_bl (fun z => nomatch z) (fun _ => ?_)
  have a1 := a.kp (Kp.same s1)
  refine ⟨_, rfl, F, p.dx, _, rfl, a1.hF, rfl, _, rfl, F, hs, bs, cn, tg, p, k, rfl, a1, hk, lb, fun S H2 nS hS s2 => ⟨S, rfl, ⟨_, SqL.of hS⟩, fun D nD => lc_list (K := K) (a := S) (xs := (srcs hs bs k).map fun s => V.ref (p.A s)) (fun i H5 => H5 D = some (.lst ((((srcs hs bs k).take i).map fun s => (cn s).getD 0 0).map V.int)) ∧ Same H2 H5) ⟨upd_same, same_new nD⟩ (fun i H5 _ ⟨_, s5⟩ => SqL.of (s5 _ _ hS)) ?_ ?_⟩⟩
  · rintro i x H5 hx ⟨hD, s5⟩
    rw [List.getElem?_map] at hx
    cases es : (srcs hs bs k)[i]? with
    | none => rw [es] at hx; cases hx
    | some s =>
    rw [es] at hx
    obtain rfl : V.ref (p.A s) = x := Option.some.inj hx
    have sm := List.mem_of_getElem? es
    obtain ⟨x0, r0, e0⟩ := some1 s sm
    obtain ⟨h1, _⟩ := a1.sl s (srcs_vs s sm)
    rw [e0] at h1
    refine ⟨rfl, yes_in ⟨_, rfl, p.A s, _, _, _, rfl, rfl, SqL.of (s5 _ _ (s2 _ _ h1)), atI_nat (j := 0) rfl, _, hD, by rw [List.length_map, List.length_map, List.length_take]; exact small1000 (by omega), ?_, Same.own s5 nD⟩⟩
    rw [upd_same, List.take_add_one, es, List.map_append, List.map_append]
    show _ = some (HO.lst (_ ++ [V.int ((cn s).getD 0 0)]))
    rw [e0]
    rfl
  · rintro H5 ⟨hD, s5⟩
    rw [List.length_map, List.take_length] at hD
    refine ⟨D, _, rfl, .inl ⟨SqL.of hD, fun t nt => ?_⟩⟩
    have u := same_new (o := .tup (hd.map V.int)) nt
    exact ⟨rfl, t, _, rfl, a1.kp (Kp.same ((s2.trans s5).trans u)), upd_same, Bt.refl.same (((s1.trans s2).trans s5).trans u)⟩
end
/-! ### a dict, comprehended over a list -/
abbrev DSt (g : TG) (tt : TT) (tk tv : TE) (vs : List Nat) (σ : L2.St) (D : Addr) (x : V) (H' : Hp) (N : Hp → Prop) : Prop := g x (wipe σ vs) H' fun σ2 H2 => wipe σ2 vs = wipe σ vs ∧ tt σ2 H2 fun b H3 => if b = true then (tk σ2 H3 fun y H4 => tv σ2 H4 fun z H5 => ∃ kvs k, y = kV k ∧ H5 D = some (.dK kvs) ∧ kvs.length < sizeLine ∧ N (upd H5 D (.dK (putK kvs k z)))) else N H3
theorem dcl {K : PySem.W.Frag} {a : Addr} {xs : List V} {g : TG} {tt : TT} {tk tv : TE} {vs : List Nat} {σ : L2.St} {H1 : Hp} {D : Addr} {Qd : Hp → Prop} (Pv : Nat → Hp → Prop) (h0 : Pv 0 (upd H1 D (.dK []))) (hl : ∀ i H, Pv i H → SqL K H a xs) (hs : ∀ i x H, xs[i]? = some x → Pv i H → DSt g tt tk tv vs σ D x H (Pv (i + 1))) (hd : ∀ H, Pv xs.length H → Qd H) :
    ∃ W : Nat → Nat → Hp → Prop, (∃ m, W 0 m (upd H1 D (.dK []))) ∧ ∀ i m H, W i m H → ((Itl K a).stop i H ∧ Qd H) ∨ ((Itl K a).go i H ∧ ∃ Nx : Hp → Prop, (∀ H', Nx H' → ∃ m', m' < m ∧ W (i + 1) m' H') ∧ ∀ x H', (Itl K a).yld i H x H' → DSt g tt tk tv vs σ D x H' Nx) := by
  refine ⟨fun i m H => Pv i H ∧ i + m = xs.length, ⟨xs.length, h0, Nat.zero_add _⟩, fun i m H st => ?_⟩
  obtain ⟨here, total⟩ := st
  have seen := hl i H here
  cases m with
  | zero =>
    have : i = xs.length := by omega
    subst this
    exact .inl ⟨⟨xs, seen, Nat.le_refl _⟩, hd H here⟩
  | succ m =>
    have lt : i < xs.length := by omega
    refine .inr ⟨⟨xs, xs[i], seen, List.getElem?_eq_getElem lt⟩, Pv (i + 1), fun H' p' => ⟨m, Nat.lt_succ_self m, p', by omega⟩, fun x H' y => ?_⟩
    obtain ⟨rfl, y⟩ := y
    exact hs i x _ (y xs seen) here
/-! ### a Floor begun -/
theorem ins_tk59 {C p dx : Addr} {H : Hp} {fs gs : List (Str × V)} (h : H p = some (.ins C dx fs)) : TK H (upd H p (.ins C dx gs)) := fun x zs e => by
  rw [upd_ne (ne_of e h (fun z => nomatch z))]
  exact e
abbrev putT (tg : Addr → Option Sl) (p : Addr) (s : Sl) : Addr → Option Sl := fun q => if q = p then some s else tg q
def Gr (tg tg' : Addr → Option Sl) : Prop := ∀ q s, tg q = some s → tg' q = some s
theorem Gr.refl {tg : Addr → Option Sl} : Gr tg tg := fun _ _ e => e
theorem Gr.trans {t1 t2 t3 : Addr → Option Sl} (a : Gr t1 t2) (b : Gr t2 t3) : Gr t1 t3 := fun q s e => b q s (a q s e)
theorem Gr.put {tg : Addr → Option Sl} {p : Addr} {s : Sl} (n : tg p = none) : Gr tg (putT tg p s) := fun q u e => by
  show (if q = p then some s else tg q) = _
  by_cases z : q = p
  · rw [z, n] at e; cases e
  · rw [if_neg z]; exact e
theorem putT_at {tg : Addr → Option Sl} {p : Addr} {s : Sl} : putT tg p s p = some s := if_pos rfl
theorem Tg.same {H H' : Hp} {tg : Addr → Option Sl} (g : Tg H tg) (s : Same H H') : Tg H' tg := fun p u e => by
  obtain ⟨xs, h⟩ := g p u e
  exact ⟨xs, s _ _ h⟩
theorem Tg.new {H : Hp} {tg : Addr → Option Sl} {p : Addr} {s : Sl} {xs : List V} (g : Tg H tg) (n : H p = none) : Tg (upd H p (.lst xs)) (putT tg p s) := fun q u e => by
  by_cases z : q = p
  · exact ⟨xs, by rw [z, upd_same]⟩
  · have e : (if q = p then some s else tg q) = some u := e
    rw [if_neg z] at e
    obtain ⟨ys, h⟩ := g q u e
    exact ⟨ys, by rw [upd_ne z]; exact h⟩
theorem Tg.mark {H : Hp} {tg : Addr → Option Sl} {p : Addr} {s : Sl} {xs : List V} (g : Tg H tg) (h0 : H p = some (.lst xs)) : Tg H (putT tg p s) := fun q u e => by
  by_cases z : q = p
  · exact ⟨xs, by rw [z]; exact h0⟩
  · have e : (if q = p then some s else tg q) = some u := e
    rw [if_neg z] at e
    exact g q u e
theorem Tg.upd {H : Hp} {tg : Addr → Option Sl} {p : Addr} {o : HO} (g : Tg H tg) (n : tg p = none) : Tg (L2.upd H p o) tg := fun q u e => by
  obtain ⟨ys, h⟩ := g q u e
  exact ⟨ys, by rw [upd_ne fun z => by rw [z, n] at e; cases e]; exact h⟩
/-- how far a Floor is begun: all that stood ahead stands, F apart -/
structure I0 (C : Addr) (H0 H : Hp) (F dx r ha ba nl : Addr) (fs : List (Str × V)) (hs : List HR) (bs : List BR) (hv bv : List V) (tg : Addr → Option Sl) : Prop where
  hF : H F = some (.ins C dx fs)
  room : RoomAt H r hs bs
  eh : H ha = some (.tup hv)
  eb : H ba = some (.tup bv)
  alh : All2 (HandAt H) hv hs
  alb : All2 (BeltAt H) bv bs
  hn : H nl = some (.lst ((List.range hs.length).map nV))
  own : Tg H tg
  old : ∀ p o, H0 p = some o → tg p = none
  tn : tg nl = none
  tF : tg F = none
  bt : But F H0 H
/-- a step: what was made is kept, and put into a field of F -/
theorem I0.go {C : Addr} {H0 H H1 : Hp} {F dx r ha ba nl : Addr} {fs fs' : List (Str × V)} {hs : List HR} {bs : List BR} {hv bv : List V} {tg tg' : Addr → Option Sl} (i : I0 C H0 H F dx r ha ba nl fs hs bs hv bv tg) (s : Same H H1) (g : Tg H1 tg') (gr : ∀ p o, H p = some o → tg' p = tg p) : I0 C H0 (upd H1 F (.ins C dx fs')) F dx r ha ba nl fs' hs bs hv bv tg' := by
  have k : TK H (upd H1 F (.ins C dx fs')) := (TK.same s).trans (ins_tk59 (s _ _ i.hF))
  have tF : tg' F = none := (gr F _ i.hF).trans i.tF
  refine ⟨upd_same, i.room.keep k, k _ _ i.eh, k _ _ i.eb, i.alh.imp fun _ _ z => z.keep k, i.alb.imp fun _ _ z => z.keep k, by rw [upd_ne (ne_of i.hn i.hF fun z => nomatch z)]; exact s _ _ i.hn, g.upd tF, fun p o e => ?_, (gr nl _ i.hn).trans i.tn, tF, (i.bt.same s).upd⟩
  by_cases z : p = F
  · rw [z]; exact tF
  · exact (gr p _ (i.bt _ _ e z)).trans (i.old p o e)
theorem putK_le (kvs : List (Key × V)) (k : Key) (v : V) : (putK kvs k v).length ≤ kvs.length + 1 := by
  unfold putK
  split
  · rw [List.length_map]; exact Nat.le_succ _
  · rw [List.length_append]; exact Nat.le_refl _
theorem TK.dic {H : Hp} {p : Addr} {kvs lvs : List (Key × V)} (h : H p = some (.dK kvs)) : TK H (upd H p (.dK lvs)) := fun x zs e => by
  rw [upd_ne (ne_of e h (fun z => nomatch z))]
  exact e
/-- a list that is tagged -/
def Fx (H : Hp) (tg : Addr → Option Sl) (p : Addr) (xs : List V) (s : Sl) : Prop := H p = some (.lst xs) ∧ tg p = some s
/-- from one cut to the next: all stands but F, tags stay -/
structure Stp (F : Addr) (H H' : Hp) (tg tg' : Addr → Option Sl) : Prop where
  h : ∀ p o, H p = some o → p ≠ F → H' p = some o
  t : ∀ p o, H p = some o → tg' p = tg p
theorem Fx.go {F C dx : Addr} {fs : List (Str × V)} {H H' : Hp} {tg tg' : Addr → Option Sl} {p : Addr} {xs : List V} {s : Sl} (f : Fx H tg p xs s) (hF : H F = some (.ins C dx fs)) (k : Stp F H H' tg tg') : Fx H' tg' p xs s := ⟨k.h _ _ f.1 (ne_of f.1 hF fun z => nomatch z), (k.t _ _ f.1).trans f.2⟩
theorem Stp.tk {F C dx : Addr} {fs : List (Str × V)} {H H' : Hp} {tg tg' : Addr → Option Sl} (k : Stp F H H' tg tg') (hF : H F = some (.ins C dx fs)) : TK H H' := fun p xs e => k.h _ _ e (ne_of e hF fun z => nomatch z)
theorem Stp.nl {F C dx : Addr} {fs : List (Str × V)} {H H' : Hp} {tg tg' : Addr → Option Sl} {v : V} {ns : List Nat} (k : Stp F H H' tg tg') (hF : H F = some (.ins C dx fs)) (n : NlAt tg H v ns) : NlAt tg' H' v ns := by
  obtain ⟨t, e, h1, h2⟩ := n
  exact ⟨t, e, k.h _ _ h1 (ne_of h1 hF fun z => nomatch z), (k.t _ _ h1).trans h2⟩
/-- a store of a field behind new things -/
theorem stp_of {F C dx : Addr} {fs : List (Str × V)} {H H1 : Hp} {tg tg' : Addr → Option Sl} (s : Same H H1) (gr : ∀ p o, H p = some o → tg' p = tg p) : Stp F H (upd H1 F (.ins C dx fs)) tg tg' := ⟨fun p o e n => by rw [upd_ne n]; exact s _ _ e, gr⟩
def cn0 (bs : List BR) : Sl → List Int := fun s => if s.1 = 0 then (match bs[s.2]? with | some b => b.th | none => []) else []
section
variable {P : Program} {w : World} {K : PySem.W.Frag} {mg : Str → Option Value} {base : Heap}
def sp_Floor___init__ (K : PySem.W.Frag) (C : Addr) : Sp := fun vs H Q _ => ∃ (F r dx : Addr) (hs : List HR) (bs : List BR), vs = [.ref F, .ref r] ∧ H F = some (.ins C dx []) ∧ RoomAt H r hs bs ∧ RoomOk hs bs ∧
  ∀ (tg : Addr → Option Sl) (H' : Hp), FlAt C H' F hs bs (cn0 bs) tg → (∀ p o, H p = some o → tg p = none) → But F H H' → Q .non H'
theorem ok_Floor___init__ {f : Addr} {fd : FuncData} (F : Fun K "__init__" "Floor.__init__" s_Floor___init__ f fd) {C : Addr} (T : Top K mg C) : FnOk P w K mg base CX0 2 f fd ["self", "room"] (sp_Floor___init__ K C) := by
  obtain ⟨f_comings, fd_comings, F_comings, b_comings, m_comings⟩ := T.d_comings
  have G_comings := ok_comings (P := P) (w := w) (base := base) F_comings T
  obtain ⟨f_goings, fd_goings, F_goings, b_goings, m_goings⟩ := T.d_goings
  have G_goings := ok_goings (P := P) (w := w) (base := base) F_goings T
  refine F.ok sc_Floor___init__ (fun vs H Q E h => ?_) (fun cdv A outer s H vs Q E hr h => ?_)
  · obtain ⟨F, r, dx, hs, bs, rfl, _⟩ := h
    rfl
  obtain ⟨aI, mI, hI⟩ := T.x_in
  obtain ⟨F, r, dx, hs, bs, rfl, hF, hR, ok, q⟩ := h
  obtain ⟨ha, ba, hv, bv, er, eh, eb, alh, alb⟩ := id hR.ex
  have lh := ok.hands
  have lb := ok.many
  have lhv := alh.length
  have lbv := alb.length
  let sg : Addr → Option V → Option V → Option V → Option V → Option V → Option V → L2.St := fun nl v5 v6 v7 v8 v9 v10 => [some (.ref F), some (.ref r), some (.ref ha), some (.ref ba), some (.ref nl), v5, v6, v7, v8, v9, v10]
  let R1 : TS := fun D' σ' H' => D'.rt = Q ∧ (D'.nx = fun _ H2 => Q .non H2) ∧ ∃ (nl : Addr) (tg : Addr → Option Sl), σ' = sg nl none none none none none none ∧ I0 C H H' F dx r ha ba nl [] hs bs hv bv tg
  let R2 : TS := fun D' σ' H' => D'.rt = Q ∧ (D'.nx = fun _ H2 => Q .non H2) ∧ ∃ (nl ra : Addr) (rv : List V) (tg : Addr → Option Sl) (v5 v6 : Option V), σ' = sg nl v5 v6 none none none none ∧ I0 C H H' F dx r ha ba nl [("rules", .ref ra)] hs bs hv bv tg ∧ Fx H' tg ra rv (3, 0) ∧ All2 (RlAt H') rv hs
  let R3 : TS := fun D' σ' H' => D'.rt = Q ∧ (D'.nx = fun _ H2 => Q .non H2) ∧ ∃ (nl ra ga : Addr) (rv : List V) (kvs : List (Key × V)) (A1 : Nat → Addr) (tg : Addr → Option Sl) (v5 v6 v7 : Option V), σ' = sg nl v5 v6 v7 none none none ∧ I0 C H H' F dx r ha ba nl [("rules", .ref ra), ("given", .ref ga)] hs bs hv bv tg ∧ Fx H' tg ra rv (3, 0) ∧ All2 (RlAt H') rv hs ∧
    H' ga = some (.dK kvs) ∧ (∀ k, k < hs.length → valV kvs (kN k) = if k ∈ doorsOf "in" hs then some (.ref (A1 k)) else none) ∧ (∀ k ∈ doorsOf "in" hs, Fx H' tg (A1 k) [] (1, k))
  let R4 : TS := fun D' σ' H' => D'.rt = Q ∧ (D'.nx = fun _ H2 => Q .non H2) ∧ ∃ (nl ra ga la : Addr) (rv : List V) (kvs : List (Key × V)) (A1 A0 : Nat → Addr) (tg : Addr → Option Sl) (v5 v6 v7 v8 v9 v10 : Option V), σ' = sg nl v5 v6 v7 v8 v9 v10 ∧ I0 C H H' F dx r ha ba nl [("rules", .ref ra), ("given", .ref ga), ("lying", .ref la)] hs bs hv bv tg ∧ Fx H' tg ra rv (3, 0) ∧ All2 (RlAt H') rv hs ∧
    H' ga = some (.dK kvs) ∧ (∀ k, k < hs.length → valV kvs (kN k) = if k ∈ doorsOf "in" hs then some (.ref (A1 k)) else none) ∧ (∀ k ∈ doorsOf "in" hs, Fx H' tg (A1 k) [] (1, k)) ∧ Fx H' tg la ((List.range bs.length).map fun j => V.ref (A0 j)) (3, 0) ∧ (∀ j b, bs[j]? = some b → Fx H' tg (A0 j) (b.th.map V.int) (0, j))
  let R5 : TS := fun D' σ' H' => D'.rt = Q ∧ (D'.nx = fun _ H2 => Q .non H2) ∧ ∃ (nl ra ga la ca : Addr) (rv cv : List V) (kvs : List (Key × V)) (A1 A0 : Nat → Addr) (tg : Addr → Option Sl) (v5 v6 v7 v8 v9 v10 : Option V), σ' = sg nl v5 v6 v7 v8 v9 v10 ∧ I0 C H H' F dx r ha ba nl [("rules", .ref ra), ("given", .ref ga), ("lying", .ref la), ("coming", .ref ca)] hs bs hv bv tg ∧ Fx H' tg ra rv (3, 0) ∧ All2 (RlAt H') rv hs ∧
    H' ga = some (.dK kvs) ∧ (∀ k, k < hs.length → valV kvs (kN k) = if k ∈ doorsOf "in" hs then some (.ref (A1 k)) else none) ∧ (∀ k ∈ doorsOf "in" hs, Fx H' tg (A1 k) [] (1, k)) ∧ Fx H' tg la ((List.range bs.length).map fun j => V.ref (A0 j)) (3, 0) ∧ (∀ j b, bs[j]? = some b → Fx H' tg (A0 j) (b.th.map V.int) (0, j)) ∧ Fx H' tg ca cv (3, 0) ∧ All2 (NlAt tg H') cv ((List.range hs.length).map (comingN bs))
  let R6 : TS := fun D' σ' H' => D'.rt = Q ∧ (D'.nx = fun _ H2 => Q .non H2) ∧ ∃ (nl ra ga la ca oa : Addr) (rv cv ov : List V) (kvs : List (Key × V)) (A1 A0 : Nat → Addr) (tg : Addr → Option Sl) (v5 v6 v7 v8 v9 v10 : Option V), σ' = sg nl v5 v6 v7 v8 v9 v10 ∧ I0 C H H' F dx r ha ba nl [("rules", .ref ra), ("given", .ref ga), ("lying", .ref la), ("coming", .ref ca), ("going", .ref oa)] hs bs hv bv tg ∧ Fx H' tg ra rv (3, 0) ∧ All2 (RlAt H') rv hs ∧
    H' ga = some (.dK kvs) ∧ (∀ k, k < hs.length → valV kvs (kN k) = if k ∈ doorsOf "in" hs then some (.ref (A1 k)) else none) ∧ (∀ k ∈ doorsOf "in" hs, Fx H' tg (A1 k) [] (1, k)) ∧ Fx H' tg la ((List.range bs.length).map fun j => V.ref (A0 j)) (3, 0) ∧ (∀ j b, bs[j]? = some b → Fx H' tg (A0 j) (b.th.map V.int) (0, j)) ∧ Fx H' tg ca cv (3, 0) ∧ All2 (NlAt tg H') cv ((List.range hs.length).map (comingN bs)) ∧ Fx H' tg oa ov (3, 0) ∧ All2 (NlAt tg H') ov ((List.range hs.length).map (goingN bs))
  refine ⟨_, (pss_cons (ps_asg (pv 1) (pg_tupK K rfl rfl (pgs_cons (pg_name (i := 2) sc_Floor___init__.nd rfl (Or.inr rfl)) (pgs_cons (pg_name (i := 3) sc_Floor___init__.nd rfl (Or.inl rfl)) pgs_nil))))
      (pss_cons (ps_set (i := 4) sc_Floor___init__.nd rfl (Or.inl rfl) (pe_listRg rfl (by rfl) T.m_list (prg_1 (by rfl) T.m_range (pe_callB (call_len_seqK K rfl) (by rfl) T.m_len (by decide +kernel) (pa_cons (pv 2) pa_nil)))))
      (PSs.to (pss_cons (ps_fldK K rfl (pv 0) (pe_lc (own := [("rule", 5), ("moments", 6)]) (g := gTup K 2 (gCons (gName 5) (gCons (gName 6) gNil))) (tt := tYes) (by rfl) sc_Floor___init__.nd (pi_tupK K rfl (pv 2)) (blkOk_by (own := [("rule", 5), ("moments", 6)]) (N := N_Floor___init__) (sc := defScope s_Floor___init__) (by decide +kernel)) (fun _ _ _ _ _ => (pg_tupK K rfl rfl (pgs_cons (pg_name (i := 5) sc_Floor___init__.nd rfl (Or.inl rfl)) (pgs_cons (pg_name (i := 6) sc_Floor___init__.nd rfl (Or.inl rfl)) pgs_nil)))) (fun _ _ _ _ _ => pts_nil) (fun _ _ _ _ _ => (pv 5))) rfl)
      (PSs.to (pss_cons (ps_fldK K rfl (pv 0) (pe_dc (own := [("hand", 7)]) (g := gName 7) (by rfl) sc_Floor___init__.nd (pi_listK K rfl (pv 4)) (blkOk_by (own := [("hand", 7)]) (N := N_Floor___init__) (sc := defScope s_Floor___init__) (by decide +kernel)) (fun _ _ _ _ _ => (pg_name (i := 7) sc_Floor___init__.nd rfl (Or.inl rfl))) (fun _ _ _ _ _ => pts_one (pt_cmpR (op_eqDK K rfl hr.units) (pe_ix (ix_tupK K rfl) (pe_ix (ix_tupK K rfl) (pv 2) (pv 7) (fun _ _ => rfl)) pe_int (fun _ _ => rfl)) (pe_glob (v := .ref aI) (by rfl) mI rfl) (nomark _))) (fun _ _ _ _ _ => (pv 7)) (fun _ _ _ _ _ => (pe_lst pa_nil))) rfl)
      (PSs.to (pss_cons (ps_fldK K rfl (pv 0) (pe_lc (own := [("giver", 8), ("taker", 9), ("things", 10)]) (g := gTup K 3 (gCons (gName 8) (gCons (gName 9) (gCons (gName 10) gNil)))) (tt := tYes) (by rfl) sc_Floor___init__.nd (pi_tupK K rfl (pv 3)) (blkOk_by (own := [("giver", 8), ("taker", 9), ("things", 10)]) (N := N_Floor___init__) (sc := defScope s_Floor___init__) (by decide +kernel)) (fun _ _ _ _ _ => (pg_tupK K rfl rfl (pgs_cons (pg_name (i := 8) sc_Floor___init__.nd rfl (Or.inl rfl)) (pgs_cons (pg_name (i := 9) sc_Floor___init__.nd rfl (Or.inl rfl)) (pgs_cons (pg_name (i := 10) sc_Floor___init__.nd rfl (Or.inl rfl)) pgs_nil))))) (fun _ _ _ _ _ => pts_nil) (fun _ _ _ _ _ => (pe_callTy (call_list_ofK K rfl) (by rfl) T.m_list (by decide +kernel) (pa_cons (pv 10) pa_nil)))) rfl)
      (PSs.to (pss_cons (ps_fldK K rfl (pv 0) (pe_lc (own := [("hand", 7)]) (g := gName 7) (tt := tYes) (by rfl) sc_Floor___init__.nd (pi_listK K rfl (pv 4)) (blkOk_by (own := [("hand", 7)]) (N := N_Floor___init__) (sc := defScope s_Floor___init__) (by decide +kernel)) (fun _ _ _ _ _ => (pg_name (i := 7) sc_Floor___init__.nd rfl (Or.inl rfl))) (fun _ _ _ _ _ => pts_nil) (fun _ _ _ _ _ => (pe_call G_comings (hr.mono (by decide)) (by rfl) m_comings F_comings.kp b_comings .nil pass0 (pa_cons (pv 1) (pa_cons (pv 7) pa_nil))))) rfl)
      (PSs.to (pss_cons (ps_fldK K rfl (pv 0) (pe_lc (own := [("hand", 7)]) (g := gName 7) (tt := tYes) (by rfl) sc_Floor___init__.nd (pi_listK K rfl (pv 4)) (blkOk_by (own := [("hand", 7)]) (N := N_Floor___init__) (sc := defScope s_Floor___init__) (by decide +kernel)) (fun _ _ _ _ _ => (pg_name (i := 7) sc_Floor___init__.nd rfl (Or.inl rfl))) (fun _ _ _ _ _ => pts_nil) (fun _ _ _ _ _ => (pe_call G_goings (hr.mono (by decide)) (by rfl) m_goings F_goings.kp b_goings .nil pass0 (pa_cons (pv 1) (pa_cons (pv 7) pa_nil))))) rfl)
      (PSs.to (pss_one (ps_fldK K rfl (pv 0) (pe_lc (own := [("hand", 7)]) (g := gName 7) (tt := tYes) (by rfl) sc_Floor___init__.nd (pi_listK K rfl (pv 4)) (blkOk_by (own := [("hand", 7)]) (N := N_Floor___init__) (sc := defScope s_Floor___init__) (by decide +kernel)) (fun _ _ _ _ _ => (pg_name (i := 7) sc_Floor___init__.nd rfl (Or.inl rfl))) (fun _ _ _ _ _ => pts_nil) (fun _ _ _ _ _ => (pe_lst pa_nil))) rfl)) R6 ?tail6)) R5 ?tail5)) R4 ?tail4)) R3 ?tail3)) R2 ?tail2)) R1 ?tail1))), ?_⟩
  case tail1 =>
    rintro D' σ' H1 ⟨eD, eN, nl, tg, rfl, i⟩
    refine ⟨_, rfl, ha, rfl, ⟨_, SqT.of i.eh⟩, fun D nD => lc_tup (K := K) (a := ha) (xs := hv) (fun j H5 => ∃ rv : List V, H5 D = some (.lst rv) ∧ All2 (RlAt H5) rv (hs.take j) ∧ Same H1 H5) ⟨[], upd_same, .nil, same_new nD⟩ (fun j H5 _ ⟨_, _, _, s5⟩ => SqT.of (s5 _ _ i.eh)) ?_ ?_⟩
    · rintro j x H5 hx ⟨rv, hD, al, s5⟩
      obtain ⟨hh, eb2, ⟨t2, g, rfl, e1, e2⟩⟩ := i.alh.getL hx
      have il := (List.getElem?_eq_some_iff.mp eb2).1
      have lr := al.length
      rw [List.length_take] at lr
      refine ⟨t2, _, rfl, SqT.of (s5 _ _ e1), rfl, _, _, rfl, _, _, rfl, rfl, rfl, yes_in ⟨_, rfl, rv, hD, small1000 (by omega), rv ++ [.ref g], upd_same, ?_, Same.own s5 nD⟩⟩
      rw [List.take_add_one, eb2]
      exact (al.snoc ⟨g, rfl, s5 _ _ e2⟩).imp fun _ _ ⟨t, e, h⟩ => ⟨t, e, TK.lst hD _ _ h⟩
    rintro H5 ⟨rv, hD, al, s5⟩
    rw [lhv, List.take_length] at al
    have tD : tg D = none := i.own.free nD
    have gr : ∀ p o, H1 p = some o → putT tg D (3, 0) p = tg p := fun p o e => if_neg (ne_of_none e nD)
    refine ⟨_, rfl, F, C, dx, _, rfl, s5 _ _ i.hF, T.cl, T.n_rules, (by show 0 < 1000; decide), ?_⟩
    have st : Stp F H5 (upd H5 F (.ins C dx [("rules", .ref D)])) (putT tg D (3, 0)) (putT tg D (3, 0)) := stp_of (Same.refl _) fun _ _ _ => rfl
    exact ⟨eD, eN, nl, D, rv, putT tg D (3, 0), _, _, rfl, i.go s5 ((i.own.same s5).mark hD) gr, Fx.go ⟨hD, putT_at⟩ (s5 _ _ i.hF) st, al.imp fun _ _ ⟨t, e, h⟩ => ⟨t, e, st.tk (s5 _ _ i.hF) _ _ h⟩⟩
  case tail2 =>
    rintro D' σ' H1 ⟨eD, eN, nl, ra, rv, tg, v5, v6, rfl, i, hra, alr⟩
    refine ⟨_, rfl, nl, rfl, ⟨_, SqL.of i.hn⟩, fun D nD => dcl (K := K) (a := nl) (xs := (List.range hs.length).map nV) (fun j H5 => ∃ (kvs : List (Key × V)) (A1 : Nat → Addr) (tg5 : Addr → Option Sl), H5 D = some (.dK kvs) ∧ (∀ k, valV kvs (kN k) = if k < j ∧ k ∈ doorsOf "in" hs then some (.ref (A1 k)) else none) ∧ kvs.length ≤ j ∧ (∀ k ∈ doorsOf "in" hs, k < j → Fx H5 tg5 (A1 k) [] (1, k)) ∧ Tg H5 tg5 ∧ (∀ p o, H1 p = some o → tg5 p = tg p) ∧ Same H1 H5) ⟨[], fun _ => 0, tg, upd_same, (fun k => (if_neg fun z => absurd z.1 (Nat.not_lt_zero _)).symm), Nat.le_refl _, (fun k _ z => absurd z (Nat.not_lt_zero _)), i.own.upd (i.own.free nD), (fun _ _ _ => rfl), same_new nD⟩ (fun j H5 ⟨_, _, _, _, _, _, _, _, _, s5⟩ => SqL.of (s5 _ _ i.hn)) ?_ ?_⟩
    · rintro j x H5 hx ⟨kvs, A1, tg5, hD, gv, lk, fx, own, gr, s5⟩
      rw [List.getElem?_map] at hx
      have jl : j < hs.length := by
        refine Classical.byContradiction fun z => ?_
        rw [List.getElem?_eq_none (by rw [List.length_range]; omega)] at hx
        cases hx
      rw [List.getElem?_range jl] at hx
      obtain rfl : nV j = x := Option.some.inj hx
      have eh1 : hs[j]? = some hs[j] := List.getElem?_eq_getElem jl
      obtain ⟨x, ex, ⟨t2, g, rfl, e1, e2⟩⟩ := i.alh.get eh1
      have gh := ok.good _ (List.mem_of_getElem? eh1)
      unfold DSt
      refine ⟨rfl, _, rfl, _, rfl, ha, _, _, _, rfl, rfl, SqT.of (s5 _ _ i.eh), atI_nat ex, t2, _, _, _, rfl, rfl, SqT.of (s5 _ _ e1), atI_nat (j := 0) rfl, ?_⟩
      refine ⟨_, _, rule_dp (s5 _ _ e2), .tup (hI _) (.cons (.str _) .nil), rule_shaped gh.lay, one_shaped (by decide +kernel), _, rfl, ?_⟩
      rw [rule_eqv, gh.door "in" (.inl rfl)]
      by_cases c : hs[j].wd = "in"
      · have jd : j ∈ doorsOf "in" hs := mem_doors.mpr ⟨_, eh1, c⟩
        rw [decide_eq_true c]
        refine if_bl (fun _ => ⟨_, rfl, (by show 0 ≤ sizeLine; decide), fun p np => ?_⟩) (fun z => nomatch z)
        have u := same_new (o := .lst []) np
        have pD : p ≠ D := fun z => by rw [z, hD] at np; cases np
        have tp : tg5 p = none := own.free np
        have gp := Gr.put (s := (1, j)) tp
        have dk : ∀ {q : Addr} {xs : List V}, (upd H5 p (.lst [])) q = some (.lst xs) → (upd (upd H5 p (.lst [])) D (.dK (putK kvs (kN j) (.ref p)))) q = some (.lst xs) := fun {q xs} e => by
          rw [upd_ne fun z => ?_]
          · exact e
          · rw [z, u _ _ hD] at e
            cases e
        refine ⟨kvs, kN j, rfl, u _ _ hD, small1000 (by omega), putK kvs (kN j) (.ref p), fun k => if k = j then p else A1 k, putT tg5 p (1, j), upd_same, fun k => ?_, Nat.le_trans (putK_le ..) (by omega), fun k kd kl => ?_, ?_, fun q o e => ?_, Same.own (s5.trans u) nD⟩
        · rw [valV_put]
          by_cases z : k = j
          · subst z
            rw [if_pos rfl, if_pos ⟨Nat.lt_succ_self _, jd⟩]
            show _ = some (V.ref (if k = k then p else A1 k))
            rw [if_pos rfl]
          · rw [if_neg fun y => z (kN_inj y), gv k]
            show _ = if k < j + 1 ∧ k ∈ doorsOf "in" hs then some (V.ref (if k = j then p else A1 k)) else none
            rw [if_neg z]
            by_cases y : k < j ∧ k ∈ doorsOf "in" hs
            · rw [if_pos y, if_pos ⟨by omega, y.2⟩]
            · rw [if_neg y, if_neg fun w => y ⟨by omega, w.2⟩]
        · by_cases z : k = j
          · subst z
            show Fx _ _ (if k = k then p else A1 k) _ _
            rw [if_pos rfl]
            exact ⟨dk upd_same, putT_at⟩
          · show Fx _ _ (if k = j then p else A1 k) _ _
            rw [if_neg z]
            obtain ⟨f1, f2⟩ := fx k kd (by omega)
            exact ⟨dk (u _ _ f1), gp _ _ f2⟩
        · refine (own.new np).upd ?_
          show (if D = p then _ else tg5 D) = none
          rw [if_neg pD.symm]
          exact own.tup hD fun _ z => nomatch z
        · show (if q = p then _ else tg5 q) = _
          rw [if_neg (ne_of_none (s5 _ _ e) np)]
          exact gr q o e
      · have jd : j ∉ doorsOf "in" hs := fun z => by
          obtain ⟨h, e, w⟩ := mem_doors.mp z
          rw [eh1] at e
          cases e
          exact c w
        rw [decide_eq_false c]
        refine if_bl (fun z => nomatch z) (fun _ => ?_)
        refine ⟨kvs, A1, tg5, hD, fun k => ?_, by omega, fun k kd kl => fx k kd ?_, own, gr, s5⟩
        · rw [gv k]
          by_cases y : k < j ∧ k ∈ doorsOf "in" hs
          · rw [if_pos y, if_pos ⟨by omega, y.2⟩]
          · rw [if_neg y, if_neg fun w => y ⟨?_, w.2⟩]
            have : k ≠ j := fun z => jd (z ▸ w.2)
            omega
        · have : k ≠ j := fun z => jd (z ▸ kd)
          omega
    · rintro H5 ⟨kvs, A1, tg5, hD, gv, lk, fx, own, gr, s5⟩
      rw [List.length_map, List.length_range] at gv fx
      refine ⟨_, rfl, F, C, dx, _, rfl, s5 _ _ i.hF, T.cl, T.n_given, (by show 1 < 1000; decide), ?_⟩
      have st : Stp F H1 (upd H5 F (.ins C dx [("rules", .ref ra), ("given", .ref D)])) tg tg5 := stp_of s5 gr
      have s2 : Stp F H5 (upd H5 F (.ins C dx [("rules", .ref ra), ("given", .ref D)])) tg5 tg5 := stp_of (Same.refl _) fun _ _ _ => rfl
      have hF5 := s5 _ _ i.hF
      refine ⟨eD, eN, nl, ra, D, rv, kvs, A1, tg5, _, _, _, rfl, i.go s5 own gr, Fx.go hra i.hF st, alr.imp fun _ _ ⟨t, e, h⟩ => ⟨t, e, st.tk i.hF _ _ h⟩, s2.h _ _ hD (ne_of hD hF5 fun z => nomatch z), fun k hk => ?_, fun k kd => Fx.go (fx k kd (by obtain ⟨h, e, _⟩ := mem_doors.mp kd; exact (List.getElem?_eq_some_iff.mp e).1)) hF5 s2⟩
      rw [gv k]
      by_cases y : k ∈ doorsOf "in" hs
      · rw [if_pos ⟨hk, y⟩, if_pos y]
      · rw [if_neg y, if_neg fun w => y w.2]
  case tail3 =>
    rintro D' σ' H1 ⟨eD, eN, nl, ra, ga, rv, kvs, A1, tg, v5, v6, v7, rfl, i, hra, alr, hga, gv, fx1⟩
    refine ⟨_, rfl, ba, rfl, ⟨_, SqT.of i.eb⟩, fun D nD => lc_tup (K := K) (a := ba) (xs := bv) (fun j H5 => ∃ (A0 : Nat → Addr) (tg5 : Addr → Option Sl), H5 D = some (.lst ((List.range j).map fun k => V.ref (A0 k))) ∧ (∀ k b, k < j → bs[k]? = some b → Fx H5 tg5 (A0 k) (b.th.map V.int) (0, k)) ∧ Tg H5 tg5 ∧ (∀ p o, H1 p = some o → tg5 p = tg p) ∧ tg5 D = none ∧ Same H1 H5) ⟨fun _ => 0, tg, upd_same, (fun k _ z => absurd z (Nat.not_lt_zero _)), i.own.upd (i.own.free nD), (fun _ _ _ => rfl), i.own.free nD, same_new nD⟩ (fun j H5 _ ⟨_, _, _, _, _, _, _, s5⟩ => SqT.of (s5 _ _ i.eb)) ?_ ?_⟩
    · rintro j x H5 hx ⟨A0, tg5, hD, fx, own, gr, tD, s5⟩
      obtain ⟨b, eb2, ⟨t, g, rfl, e1, e2⟩⟩ := i.alb.getL hx
      have jl := (List.getElem?_eq_some_iff.mp eb2).1
      refine ⟨t, _, rfl, SqT.of (s5 _ _ e1), rfl, _, _, rfl, _, _, rfl, _, _, rfl, rfl, rfl, yes_in ⟨_, rfl, g, _, rfl, .inr (SqT.of (s5 _ _ e2)), fun p np => ?_⟩⟩
      have u := same_new (o := .lst (b.th.map V.int)) np
      have pD : p ≠ D := fun z => by rw [z, hD] at np; cases np
      have gp := Gr.put (s := (0, j)) (own.free np)
      have dk : ∀ {q : Addr} {xs ys : List V}, q ≠ D → (upd H5 p (.lst (b.th.map V.int))) q = some (.lst xs) → (upd (upd H5 p (.lst (b.th.map V.int))) D (.lst ys)) q = some (.lst xs) := fun n e => by rw [upd_ne n]; exact e
      refine ⟨_, u _ _ hD, by rw [List.length_map, List.length_range]; exact small1000 (by omega), fun k => if k = j then p else A0 k, putT tg5 p (0, j), ?_, fun k b' kl e => ?_, (own.new np).upd ?_, fun q o e => ?_, ?_, Same.own (s5.trans u) nD⟩
      · rw [upd_same, List.range_succ, List.map_append]
        refine congrArg (fun z => some (HO.lst z)) ?_
        refine congr (congrArg _ (List.map_congr_left fun k hk => ?_)) ?_
        · show V.ref (A0 k) = V.ref (if k = j then p else A0 k)
          rw [if_neg (Nat.ne_of_lt (List.mem_range.mp hk))]
        · show [V.ref p] = [V.ref (if j = j then p else A0 j)]
          rw [if_pos rfl]
      · by_cases z : k = j
        · subst z
          rw [eb2] at e
          cases e
          show Fx _ _ (if k = k then p else A0 k) _ _
          rw [if_pos rfl]
          exact ⟨dk pD upd_same, putT_at⟩
        · show Fx _ _ (if k = j then p else A0 k) _ _
          rw [if_neg z]
          obtain ⟨f1, f2⟩ := fx k b' (by omega) e
          exact ⟨dk (fun y => by rw [y, tD] at f2; cases f2) (u _ _ f1), gp _ _ f2⟩
      · show (if D = p then _ else tg5 D) = none
        rw [if_neg pD.symm]
        exact tD
      · show (if q = p then _ else tg5 q) = _
        rw [if_neg (ne_of_none (s5 _ _ e) np)]
        exact gr q o e
      · show (if D = p then _ else tg5 D) = none
        rw [if_neg pD.symm]
        exact tD
    · rintro H5 ⟨A0, tg5, hD, fx, own, gr, tD, s5⟩
      rw [lbv] at hD fx
      have hF5 := s5 _ _ i.hF
      refine ⟨_, rfl, F, C, dx, _, rfl, hF5, T.cl, T.n_lying, (by show 2 < 1000; decide), ?_⟩
      have gr' : ∀ p o, H1 p = some o → putT tg5 D (3, 0) p = tg p := fun p o e => (if_neg (ne_of_none e nD)).trans (gr p o e)
      have st : Stp F H1 (upd H5 F (.ins C dx [("rules", .ref ra), ("given", .ref ga), ("lying", .ref D)])) tg (putT tg5 D (3, 0)) := stp_of s5 gr'
      have s2 : Stp F H5 (upd H5 F (.ins C dx [("rules", .ref ra), ("given", .ref ga), ("lying", .ref D)])) (putT tg5 D (3, 0)) (putT tg5 D (3, 0)) := stp_of (Same.refl _) fun _ _ _ => rfl
      exact ⟨eD, eN, nl, ra, ga, D, rv, kvs, A1, A0, putT tg5 D (3, 0), _, _, _, _, _, _, rfl, i.go s5 (own.mark hD) gr', Fx.go hra i.hF st, alr.imp fun _ _ ⟨t, e, h⟩ => ⟨t, e, st.tk i.hF _ _ h⟩, st.h _ _ hga (ne_of hga i.hF fun z => nomatch z), gv, fun k kd => Fx.go (fx1 k kd) i.hF st, Fx.go ⟨hD, putT_at⟩ hF5 s2, fun j b e => by
        obtain ⟨f1, f2⟩ := fx j b (List.getElem?_eq_some_iff.mp e).1 e
        exact Fx.go ⟨f1, Gr.put tD _ _ f2⟩ hF5 s2⟩
  case tail4 =>
    rintro D' σ' H1 ⟨eD, eN, nl, ra, ga, la, rv, kvs, A1, A0, tg, v5, v6, v7, v8, v9, v10, rfl, i, hra, alr, hga, gv, fx1, hla, fx0⟩
    refine ⟨_, rfl, nl, rfl, ⟨_, SqL.of i.hn⟩, fun D nD => lc_list (K := K) (a := nl) (xs := (List.range hs.length).map nV) (fun j H5 => ∃ (nv : List V) (tg5 : Addr → Option Sl), H5 D = some (.lst nv) ∧ All2 (NlAt tg5 H5) nv ((List.range j).map (comingN bs)) ∧ Tg H5 tg5 ∧ (∀ p o, H1 p = some o → tg5 p = tg p) ∧ tg5 D = none ∧ Same H1 H5) ⟨[], tg, upd_same, .nil, i.own.upd (i.own.free nD), (fun _ _ _ => rfl), i.own.free nD, same_new nD⟩ (fun j H5 _ ⟨_, _, _, _, _, _, _, s5⟩ => SqL.of (s5 _ _ i.hn)) ?_ ?_⟩
    · rintro j x H5 hx ⟨nv, tg5, hD, al, own, gr, tD, s5⟩
      rw [List.getElem?_map] at hx
      have jl : j < hs.length := by
        refine Classical.byContradiction fun z => ?_
        rw [List.getElem?_eq_none (by rw [List.length_range]; omega)] at hx
        cases hx
      rw [List.getElem?_range jl] at hx
      obtain rfl : nV j = x := Option.some.inj hx
      have lnv := al.length
      rw [List.length_map, List.length_range] at lnv
      refine ⟨rfl, yes_in ⟨_, rfl, _, rfl, r, hs, bs, j, rfl, i.room.keep (TK.same s5), by omega, fun p H6 np hp s6 => ?_⟩⟩
      have pD : p ≠ D := fun z => by rw [z, hD] at np; cases np
      have tp := own.free np
      have gp := Gr.put (s := (3, 0)) tp
      refine ⟨nv, s6 _ _ hD, small1000 (by omega), nv ++ [.ref p], putT tg5 p (3, 0), upd_same, ?_, ((own.same s6).mark hp).upd ?_, fun q o e => ?_, ?_, Same.own (s5.trans s6) nD⟩
      · rw [List.range_succ, List.map_append]
        have old : All2 (NlAt (putT tg5 p (3, 0)) (upd H6 D (.lst (nv ++ [.ref p])))) nv ((List.range j).map (comingN bs)) := al.imp fun v ns ⟨t, e, h1, h2⟩ => ⟨t, e, by rw [upd_ne fun y => by rw [y, tD] at h2; cases h2]; exact s6 _ _ h1, gp _ _ h2⟩
        exact old.snoc ⟨p, rfl, by rw [upd_ne pD]; exact hp, putT_at⟩
      · show (if D = p then _ else tg5 D) = none
        rw [if_neg pD.symm]
        exact tD
      · show (if q = p then _ else tg5 q) = _
        rw [if_neg (ne_of_none (s5 _ _ e) np)]
        exact gr q o e
      · show (if D = p then _ else tg5 D) = none
        rw [if_neg pD.symm]
        exact tD
    · rintro H5 ⟨nv, tg5, hD, al, own, gr, tD, s5⟩
      rw [List.length_map, List.length_range] at al
      have hF5 := s5 _ _ i.hF
      refine ⟨_, rfl, F, C, dx, _, rfl, hF5, T.cl, T.n_coming, (by show 3 < 1000; decide), ?_⟩
      have gr' : ∀ p o, H1 p = some o → putT tg5 D (3, 0) p = tg p := fun p o e => (if_neg (ne_of_none e nD)).trans (gr p o e)
      have st : Stp F H1 (upd H5 F (.ins C dx [("rules", .ref ra), ("given", .ref ga), ("lying", .ref la), ("coming", .ref D)])) tg (putT tg5 D (3, 0)) := stp_of s5 gr'
      have s2 : Stp F H5 (upd H5 F (.ins C dx [("rules", .ref ra), ("given", .ref ga), ("lying", .ref la), ("coming", .ref D)])) (putT tg5 D (3, 0)) (putT tg5 D (3, 0)) := stp_of (Same.refl _) fun _ _ _ => rfl
      exact ⟨eD, eN, nl, ra, ga, la, D, rv, nv, kvs, A1, A0, putT tg5 D (3, 0), _, _, _, _, _, _, rfl, i.go s5 (own.mark hD) gr', Fx.go hra i.hF st, alr.imp fun _ _ ⟨t, e, h⟩ => ⟨t, e, st.tk i.hF _ _ h⟩, st.h _ _ hga (ne_of hga i.hF fun z => nomatch z), gv, fun k kd => Fx.go (fx1 k kd) i.hF st, Fx.go hla i.hF st, fun j b e => Fx.go (fx0 j b e) i.hF st, Fx.go ⟨hD, putT_at⟩ hF5 s2, al.imp fun _ _ ⟨t, e, h1, h2⟩ => s2.nl hF5 ⟨t, e, h1, Gr.put tD _ _ h2⟩⟩
  case tail5 =>
    rintro D' σ' H1 ⟨eD, eN, nl, ra, ga, la, ca, rv, cv, kvs, A1, A0, tg, v5, v6, v7, v8, v9, v10, rfl, i, hra, alr, hga, gv, fx1, hla, fx0, hca, alc⟩
    refine ⟨_, rfl, nl, rfl, ⟨_, SqL.of i.hn⟩, fun D nD => lc_list (K := K) (a := nl) (xs := (List.range hs.length).map nV) (fun j H5 => ∃ (nv : List V) (tg5 : Addr → Option Sl), H5 D = some (.lst nv) ∧ All2 (NlAt tg5 H5) nv ((List.range j).map (goingN bs)) ∧ Tg H5 tg5 ∧ (∀ p o, H1 p = some o → tg5 p = tg p) ∧ tg5 D = none ∧ Same H1 H5) ⟨[], tg, upd_same, .nil, i.own.upd (i.own.free nD), (fun _ _ _ => rfl), i.own.free nD, same_new nD⟩ (fun j H5 _ ⟨_, _, _, _, _, _, _, s5⟩ => SqL.of (s5 _ _ i.hn)) ?_ ?_⟩
    · rintro j x H5 hx ⟨nv, tg5, hD, al, own, gr, tD, s5⟩
      rw [List.getElem?_map] at hx
      have jl : j < hs.length := by
        refine Classical.byContradiction fun z => ?_
        rw [List.getElem?_eq_none (by rw [List.length_range]; omega)] at hx
        cases hx
      rw [List.getElem?_range jl] at hx
      obtain rfl : nV j = x := Option.some.inj hx
      have lnv := al.length
      rw [List.length_map, List.length_range] at lnv
      refine ⟨rfl, yes_in ⟨_, rfl, _, rfl, r, hs, bs, j, rfl, i.room.keep (TK.same s5), by omega, fun p H6 np hp s6 => ?_⟩⟩
      have pD : p ≠ D := fun z => by rw [z, hD] at np; cases np
      have tp := own.free np
      have gp := Gr.put (s := (3, 0)) tp
      refine ⟨nv, s6 _ _ hD, small1000 (by omega), nv ++ [.ref p], putT tg5 p (3, 0), upd_same, ?_, ((own.same s6).mark hp).upd ?_, fun q o e => ?_, ?_, Same.own (s5.trans s6) nD⟩
      · rw [List.range_succ, List.map_append]
        have old : All2 (NlAt (putT tg5 p (3, 0)) (upd H6 D (.lst (nv ++ [.ref p])))) nv ((List.range j).map (goingN bs)) := al.imp fun v ns ⟨t, e, h1, h2⟩ => ⟨t, e, by rw [upd_ne fun y => by rw [y, tD] at h2; cases h2]; exact s6 _ _ h1, gp _ _ h2⟩
        exact old.snoc ⟨p, rfl, by rw [upd_ne pD]; exact hp, putT_at⟩
      · show (if D = p then _ else tg5 D) = none
        rw [if_neg pD.symm]
        exact tD
      · show (if q = p then _ else tg5 q) = _
        rw [if_neg (ne_of_none (s5 _ _ e) np)]
        exact gr q o e
      · show (if D = p then _ else tg5 D) = none
        rw [if_neg pD.symm]
        exact tD
    · rintro H5 ⟨nv, tg5, hD, al, own, gr, tD, s5⟩
      rw [List.length_map, List.length_range] at al
      have hF5 := s5 _ _ i.hF
      refine ⟨_, rfl, F, C, dx, _, rfl, hF5, T.cl, T.n_going, (by show 4 < 1000; decide), ?_⟩
      have gr' : ∀ p o, H1 p = some o → putT tg5 D (3, 0) p = tg p := fun p o e => (if_neg (ne_of_none e nD)).trans (gr p o e)
      have st : Stp F H1 (upd H5 F (.ins C dx [("rules", .ref ra), ("given", .ref ga), ("lying", .ref la), ("coming", .ref ca), ("going", .ref D)])) tg (putT tg5 D (3, 0)) := stp_of s5 gr'
      have s2 : Stp F H5 (upd H5 F (.ins C dx [("rules", .ref ra), ("given", .ref ga), ("lying", .ref la), ("coming", .ref ca), ("going", .ref D)])) (putT tg5 D (3, 0)) (putT tg5 D (3, 0)) := stp_of (Same.refl _) fun _ _ _ => rfl
      exact ⟨eD, eN, nl, ra, ga, la, ca, D, rv, cv, nv, kvs, A1, A0, putT tg5 D (3, 0), _, _, _, _, _, _, rfl, i.go s5 (own.mark hD) gr', Fx.go hra i.hF st, alr.imp fun _ _ ⟨t, e, h⟩ => ⟨t, e, st.tk i.hF _ _ h⟩, st.h _ _ hga (ne_of hga i.hF fun z => nomatch z), gv, fun k kd => Fx.go (fx1 k kd) i.hF st, Fx.go hla i.hF st, fun j b e => Fx.go (fx0 j b e) i.hF st, Fx.go hca i.hF st, alc.imp fun _ _ z => st.nl i.hF z, Fx.go ⟨hD, putT_at⟩ hF5 s2, al.imp fun _ _ ⟨t, e, h1, h2⟩ => s2.nl hF5 ⟨t, e, h1, Gr.put tD _ _ h2⟩⟩
  case tail6 =>
    rintro D' σ' H1 ⟨eD, eN, nl, ra, ga, la, ca, oa, rv, cv, ov, kvs, A1, A0, tg, v5, v6, v7, v8, v9, v10, rfl, i, hra, alr, hga, gv, fx1, hla, fx0, hca, alc, hoa, alo⟩
    refine ⟨_, rfl, nl, rfl, ⟨_, SqL.of i.hn⟩, fun D nD => lc_list (K := K) (a := nl) (xs := (List.range hs.length).map nV) (fun j H5 => ∃ (A2 : Nat → Addr) (tg5 : Addr → Option Sl), H5 D = some (.lst ((List.range j).map fun k => V.ref (A2 k))) ∧ (∀ k, k < j → Fx H5 tg5 (A2 k) [] (2, k)) ∧ Tg H5 tg5 ∧ (∀ p o, H1 p = some o → tg5 p = tg p) ∧ tg5 D = none ∧ Same H1 H5) ⟨fun _ => 0, tg, upd_same, (fun k z => absurd z (Nat.not_lt_zero _)), i.own.upd (i.own.free nD), (fun _ _ _ => rfl), i.own.free nD, same_new nD⟩ (fun j H5 _ ⟨_, _, _, _, _, _, _, s5⟩ => SqL.of (s5 _ _ i.hn)) ?_ ?_⟩
    · rintro j x H5 hx ⟨A2, tg5, hD, fx, own, gr, tD, s5⟩
      have jl := (List.getElem?_eq_some_iff.mp hx).1
      rw [List.length_map, List.length_range] at jl
      refine ⟨rfl, yes_in ⟨(by show 0 ≤ sizeLine; decide), fun p np => ?_⟩⟩
      have u := same_new (o := .lst []) np
      have pD : p ≠ D := fun z => by rw [z, hD] at np; cases np
      have gp := Gr.put (s := (2, j)) (own.free np)
      have dk : ∀ {q : Addr} {xs ys : List V}, q ≠ D → (upd H5 p (.lst [])) q = some (.lst xs) → (upd (upd H5 p (.lst [])) D (.lst ys)) q = some (.lst xs) := fun n e => by rw [upd_ne n]; exact e
      refine ⟨_, u _ _ hD, by rw [List.length_map, List.length_range]; exact small1000 (by omega), fun k => if k = j then p else A2 k, putT tg5 p (2, j), ?_, fun k kl => ?_, (own.new np).upd ?_, fun q o e => ?_, ?_, Same.own (s5.trans u) nD⟩
      · rw [upd_same, List.range_succ, List.map_append]
        refine congrArg (fun z => some (HO.lst z)) ?_
        refine congr (congrArg _ (List.map_congr_left fun k hk => ?_)) ?_
        · show V.ref (A2 k) = V.ref (if k = j then p else A2 k)
          rw [if_neg (Nat.ne_of_lt (List.mem_range.mp hk))]
        · show [V.ref p] = [V.ref (if j = j then p else A2 j)]
          rw [if_pos rfl]
      · by_cases z : k = j
        · subst z
          show Fx _ _ (if k = k then p else A2 k) _ _
          rw [if_pos rfl]
          exact ⟨dk pD upd_same, putT_at⟩
        · show Fx _ _ (if k = j then p else A2 k) _ _
          rw [if_neg z]
          obtain ⟨f1, f2⟩ := fx k (by omega)
          exact ⟨dk (fun y => by rw [y, tD] at f2; cases f2) (u _ _ f1), gp _ _ f2⟩
      · show (if D = p then _ else tg5 D) = none
        rw [if_neg pD.symm]
        exact tD
      · show (if q = p then _ else tg5 q) = _
        rw [if_neg (ne_of_none (s5 _ _ e) np)]
        exact gr q o e
      · show (if D = p then _ else tg5 D) = none
        rw [if_neg pD.symm]
        exact tD
    · rintro H5 ⟨A2, tg5, hD, fx, own, gr, tD, s5⟩
      rw [List.length_map, List.length_range] at hD fx
      have hF5 := s5 _ _ i.hF
      refine ⟨_, rfl, F, C, dx, _, rfl, hF5, T.cl, T.n_done, (by show 5 < 1000; decide), ?_⟩
      have gr' : ∀ p o, H1 p = some o → putT tg5 D (3, 0) p = tg p := fun p o e => (if_neg (ne_of_none e nD)).trans (gr p o e)
      have st : Stp F H1 (upd H5 F (.ins C dx [("rules", .ref ra), ("given", .ref ga), ("lying", .ref la), ("coming", .ref ca), ("going", .ref oa), ("done", .ref D)])) tg (putT tg5 D (3, 0)) := stp_of s5 gr'
      have s2 : Stp F H5 (upd H5 F (.ins C dx [("rules", .ref ra), ("given", .ref ga), ("lying", .ref la), ("coming", .ref ca), ("going", .ref oa), ("done", .ref D)])) (putT tg5 D (3, 0)) (putT tg5 D (3, 0)) := stp_of (Same.refl _) fun _ _ _ => rfl
      have I := i.go (fs' := [("rules", .ref ra), ("given", .ref ga), ("lying", .ref la), ("coming", .ref ca), ("going", .ref oa), ("done", .ref D)]) s5 (own.mark hD) gr'
      have hra' := Fx.go hra i.hF st
      have hla' := Fx.go hla i.hF st
      have hca' := Fx.go hca i.hF st
      have hoa' := Fx.go hoa i.hF st
      have hD' := Fx.go (tg := putT tg5 D (3, 0)) ⟨hD, putT_at⟩ hF5 s2
      show D'.nx _ _
      rw [eN]
      refine q (putT tg5 D (3, 0)) _ ⟨dx, ra, ga, la, ca, oa, D, kvs, fun s => if s.1 = 0 then A0 s.2 else if s.1 = 1 then A1 s.2 else A2 s.2, rv, cv, ov, I.hF, hra'.1, alr.imp fun _ _ ⟨t, e, h⟩ => ⟨t, e, st.tk i.hF _ _ h⟩, st.h _ _ hga (ne_of hga i.hF fun z => nomatch z), gv, hla'.1, hca'.1, alc.imp fun _ _ z => st.nl i.hF z, hoa'.1, alo.imp fun _ _ z => st.nl i.hF z, hD'.1, ?_, hra'.2, hla'.2, hca'.2, hoa'.2, hD'.2, I.own⟩ I.old I.bt
      rintro ⟨a, j⟩ (⟨rfl, jl⟩ | ⟨rfl, jd⟩ | ⟨rfl, jl⟩)
      · have eb1 : bs[j]? = some bs[j] := List.getElem?_eq_getElem jl
        obtain ⟨f1, f2⟩ := Fx.go (fx0 j _ eb1) i.hF st
        refine ⟨?_, f2⟩
        have e : cn0 bs (0, j) = bs[j].th := by
          show (match bs[j]? with | some b => b.th | none => []) = _
          rw [eb1]
        rw [e]
        exact f1
      · obtain ⟨f1, f2⟩ := Fx.go (fx1 j jd) i.hF st
        exact ⟨f1, f2⟩
      · obtain ⟨f1, f2⟩ := fx j jl
        exact Fx.go ⟨f1, Gr.put tD _ _ f2⟩ hF5 s2
  refine ⟨_, rfl, r, _, rfl, SqT.of er, rfl, _, _, rfl, _, _, rfl, rfl, ?_⟩
  refine ⟨_, rfl, ha, _, rfl, .inr (SqT.of eh), _, rfl, ⟨by omega, by omega, by omega, by omega, by omega⟩, fun nl nnl => ?_⟩
  have u := same_new (o := .lst (rgV 0 ((hv.length : Nat) : Int))) nnl
  have e0 : rgV 0 ((hv.length : Nat) : Int) = (List.range hs.length).map nV := by
    unfold rgV
    rw [Int.sub_zero, Int.toNat_natCast, lhv]
    refine List.map_congr_left fun j _ => ?_
    rw [Int.zero_add]
  refine ⟨rfl, rfl, nl, fun _ => none, rfl, ⟨u _ _ hF, hR.keep (TK.same u), u _ _ eh, u _ _ eb, alh.imp fun _ _ z => z.keep (TK.same u), alb.imp fun _ _ z => z.keep (TK.same u), by rw [upd_same, e0], (fun _ _ z => nomatch z), (fun _ _ _ => rfl), rfl, rfl, But.of u⟩⟩
end
/-! ### hands work in any order, and make what the bells tell -/
structure Cn59 (hs : List HR) (bs : List BR) (rows ms : List (List Int)) (G : Nat) (c : Nat → Nat) (cn : Sl → List Int) : Prop where
  top : ∀ k, k < hs.length → c k ≤ ms.length
  don : ∀ k, k < hs.length → cn (2, k) = (ms.take (c k)).map fun m => gD m k
  lie : ∀ j b, bs[j]? = some b → c b.to ≤ b.th.length + c b.one ∧ cn (0, j) = (b.th ++ (ms.take (c b.one)).map fun m => gD m b.one).drop (c b.to)
  giv : ∀ i k, (doorsOf "in" hs)[i]? = some k → c k ≤ G ∧ cn (1, k) = ((rows.take G).map fun r => gD r i).drop (c k)
  row : G ≤ rows.length
theorem head_drop {xs : List Int} {n : Nat} (h : (((xs.drop n).length : Nat) : Int) > 0) : n < xs.length ∧ (xs.drop n).getD 0 0 = xs.getD n 0 ∧ (xs.drop n).tail = xs.drop (n + 1) := by
  rw [List.length_drop] at h
  refine ⟨by omega, ?_, by rw [List.tail_drop]⟩
  rw [List.getD_eq_getElem?_getD, List.getElem?_drop, List.getD_eq_getElem?_getD, Nat.add_zero]
theorem no_coming {hs : List HR} {bs : List BR} {k : Nat} (ok : RoomOk hs bs) (kd : k ∈ doorsOf "in" hs) {b : BR} (hb : b ∈ bs) : b.to ≠ k := fun z => by
  obtain ⟨h, e, wd⟩ := mem_doors.mp kd
  have n := ok.count k h e
  rw [wd, show needs "in" = 0 by decide +kernel] at n
  have pos := List.count_pos_iff.mpr (List.mem_map.mpr ⟨b, hb, z⟩ : k ∈ bs.map BR.to)
  omega
theorem in_srcs {hs : List HR} {bs : List BR} {k j : Nat} {b : BR} (ok : RoomOk hs bs) (e : bs[j]? = some b) : ((0, j) : Sl) ∈ srcs hs bs k ↔ b.to = k := by
  unfold srcs
  by_cases c : k ∈ doorsOf "in" hs
  · rw [if_pos c]
    constructor
    · intro h
      exact absurd (show (0 : Nat) = 1 from congrArg Prod.fst (List.mem_singleton.mp h)) (by decide)
    · intro h
      exact absurd h (no_coming ok c (List.mem_of_getElem? e))
  · rw [if_neg c, List.mem_map]
    constructor
    · rintro ⟨x, hx, ex⟩
      have : x = j := congrArg Prod.snd ex
      rw [this] at hx
      have := of_decide_eq_true (List.mem_filter.mp hx).2
      rw [e] at this
      exact Option.some.inj this
    · intro h
      refine ⟨j, List.mem_filter.mpr ⟨List.mem_range.mpr (List.getElem?_eq_some_iff.mp e).1, decide_eq_true ?_⟩, rfl⟩
      rw [e, ← h]
      rfl
theorem in_going {bs : List BR} {k j : Nat} {b : BR} (e : bs[j]? = some b) : ((0, j) : Sl) ∈ (goingN bs k).map (fun j => ((0, j) : Sl)) ↔ b.one = k := by
  rw [List.mem_map]
  constructor
  · rintro ⟨x, hx, ex⟩
    have : x = j := congrArg Prod.snd ex
    rw [this] at hx
    have := of_decide_eq_true (List.mem_filter.mp hx).2
    rw [e] at this
    exact Option.some.inj this
  · intro h
    refine ⟨j, List.mem_filter.mpr ⟨List.mem_range.mpr (List.getElem?_eq_some_iff.mp e).1, decide_eq_true ?_⟩, rfl⟩
    rw [e, ← h]
    rfl
theorem rdy_at {hs : List HR} {bs : List BR} {cn : Sl → List Int} {k : Nat} (rd : rdy hs bs cn k = true) : ∀ s ∈ srcs hs bs k, (((cn s).length : Nat) : Int) > 0 := fun s h => of_decide_eq_true (List.all_eq_true.mp rd s h)
theorem Cn59.val {hs : List HR} {bs : List BR} {rows ms : List (List Int)} {G : Nat} {c : Nat → Nat} {cn : Sl → List Int} (a : Cn59 hs bs rows ms G c cn) (ok : RoomOk hs bs) (ws : WS hs bs rows ms) {k : Nat} (hk : k < hs.length) (rd : rdy hs bs cn k = true) (ck : c k < ms.length) : wkV hs bs cn k = Vm ms (c k) k := by
  have rd := rdy_at rd
  by_cases d : k ∈ doorsOf "in" hs
  · obtain ⟨i, ei⟩ := List.getElem?_of_mem d
    have sm : ((1, k) : Sl) ∈ srcs hs bs k := by unfold srcs; rw [if_pos d]; exact List.mem_singleton.mpr rfl
    have r1 := rd _ sm
    obtain ⟨_, e⟩ := a.giv i k ei
    rw [e] at r1
    obtain ⟨l1, h1, _⟩ := head_drop r1
    have ev : wkV hs bs cn k = (cn (1, k)).getD 0 0 := if_pos d
    rw [ev, e, h1, ws.door ck ei]
    rw [List.length_map, List.length_take] at l1
    rw [List.getD_eq_getElem?_getD, List.getElem?_map, List.getElem?_take_of_lt (by omega), List.getD_eq_getElem?_getD, List.getElem?_eq_getElem (by omega)]
    rfl
  · have eh : hs[k]? = some hs[k] := List.getElem?_eq_getElem hk
    have wn : hs[k].wd ≠ "in" := fun z => d (mem_doors.mpr ⟨_, eh, z⟩)
    have ev : wkV hs bs cn k = mkR hs[k] ((comingN bs k).map fun j => (cn (0, j)).getD 0 0) := by
      unfold wkV
      rw [if_neg d, eh]
    rw [ev, ws.hand ck eh wn]
    refine congrArg _ ?_
    have fm := filt_map (fun o : Option BR => decide (o.map BR.to = some k)) (fun o => match o with | some b => takenAt b ms (c k) | none => 0) bs bs.length (Nat.le_refl _)
    rw [List.take_length] at fm
    have e1 : ((bs.filter fun b => decide (b.to = k)).map fun b => takenAt b ms (c k)) = (comingN bs k).map fun i => match bs[i]? with | some b => takenAt b ms (c k) | none => 0 := by
      unfold comingN
      rw [fm]
      refine congr (congrArg _ rfl) ?_
      refine List.filter_congr fun b _ => ?_
      show decide (b.to = k) = decide (some b.to = some k)
      by_cases z : b.to = k
      · rw [decide_eq_true z, decide_eq_true (by rw [z])]
      · rw [decide_eq_false z, decide_eq_false fun y => z (Option.some.inj y)]
    rw [e1]
    refine List.map_congr_left fun j hj => ?_
    have jl := coming_lt hj
    have eb : bs[j]? = some bs[j] := List.getElem?_eq_getElem jl
    have to : bs[j].to = k := by
      have := of_decide_eq_true (List.mem_filter.mp hj).2
      rw [eb] at this
      exact Option.some.inj this
    obtain ⟨le, e⟩ := a.lie j _ eb
    have r1 := rd _ ((in_srcs ok eb).mpr to)
    rw [e] at r1
    obtain ⟨l1, h1, _⟩ := head_drop r1
    obtain ⟨o1, _⟩ := ok.ends _ (List.getElem_mem jl)
    have t1 := a.top _ o1
    rw [List.length_append, List.length_map, List.length_take] at l1
    rw [to] at l1 le
    rw [e, h1, to, eb]
    show _ = takenAt bs[j] ms (c k)
    unfold takenAt
    by_cases z : c k < bs[j].th.length
    · rw [if_pos z, List.getD_eq_getElem?_getD, List.getElem?_append_left z]
      show _ = bs[j].th.getD (c k) 0
      exact (List.getD_eq_getElem?_getD ..).symm
    · rw [if_neg z, List.getD_eq_getElem?_getD, List.getElem?_append_right (by omega), List.getElem?_map, List.getElem?_take_of_lt (by omega), List.getElem?_eq_getElem (by omega), getD_at (List.getElem?_eq_getElem (by omega))]
      rfl
theorem take_one {ms : List (List Int)} {n k : Nat} (h : n < ms.length) : (ms.take (n + 1)).map (fun m => gD m k) = (ms.take n).map (fun m => gD m k) ++ [Vm ms n k] := by
  have e : ms[n]? = some ms[n] := List.getElem?_eq_getElem h
  rw [List.take_add_one, e, List.map_append]
  unfold Vm
  rw [getD_at e]
  rfl
theorem Cn59.work {hs : List HR} {bs : List BR} {rows ms : List (List Int)} {G : Nat} {c : Nat → Nat} {cn : Sl → List Int} (a : Cn59 hs bs rows ms G c cn) (ok : RoomOk hs bs) (ws : WS hs bs rows ms) {k : Nat} (hk : k < hs.length) (rd : rdy hs bs cn k = true) (ck : c k < ms.length) : Cn59 hs bs rows ms G (fun j => if j = k then c k + 1 else c j) (wkC hs bs cn k) := by
  have ev := a.val ok ws hk rd ck
  have rd := rdy_at rd
  have pop : ∀ s, popC hs bs cn k (srcs hs bs k).length s = if s ∈ srcs hs bs k then (cn s).tail else cn s := fun s => by
    show (if s ∈ (srcs hs bs k).take (srcs hs bs k).length then (cn s).tail else cn s) = _
    rw [List.take_length]
  have full : ∀ s, wkC hs bs cn k s = if s = (2, k) then cn (2, k) ++ [Vm ms (c k) k] else if s ∈ (goingN bs k).map (fun j => ((0, j) : Sl)) then (if s ∈ srcs hs bs k then (cn s).tail else cn s) ++ [Vm ms (c k) k] else if s ∈ srcs hs bs k then (cn s).tail else cn s := fun s => by
    show (if s = (2, k) then cn (2, k) ++ [wkV hs bs cn k] else if s ∈ ((goingN bs k).take (goingN bs k).length).map (fun j => ((0, j) : Sl)) then popC hs bs cn k (srcs hs bs k).length s ++ [wkV hs bs cn k] else popC hs bs cn k (srcs hs bs k).length s) = _
    rw [List.take_length, ev, pop]
  have ng : ∀ {s : Sl}, s.1 ≠ 0 → s ∉ (goingN bs k).map (fun j => ((0, j) : Sl)) := fun h z => by
    obtain ⟨x, _, e⟩ := List.mem_map.mp z
    exact h (congrArg Prod.fst e).symm
  have ns2 : ∀ {j : Nat}, ((2, j) : Sl) ∉ srcs hs bs k := fun {j} z => by
    rcases srcs_vs _ z with ⟨h, _⟩ | ⟨h, _⟩ | ⟨_, _⟩
    · exact absurd (show (2 : Nat) = 0 from h) (by decide)
    · exact absurd (show (2 : Nat) = 1 from h) (by decide)
    · unfold srcs at z
      split at z
      · exact absurd (show (2 : Nat) = 1 from congrArg Prod.fst (List.mem_singleton.mp z)) (by decide)
      · obtain ⟨x, _, e⟩ := List.mem_map.mp z
        exact absurd (show (0 : Nat) = 2 from congrArg Prod.fst e) (by decide)
  refine ⟨fun j hj => ?_, fun j hj => ?_, fun j b eb => ?_, fun i j ei => ?_, a.row⟩
  · show (if j = k then c k + 1 else c j) ≤ _
    split
    · omega
    · exact a.top j hj
  · rw [full]
    show _ = (ms.take (if j = k then c k + 1 else c j)).map fun m => gD m j
    by_cases z : j = k
    · subst z
      rw [if_pos rfl, if_pos rfl, take_one ck, a.don _ hj]
    · rw [if_neg (fun y => z (congrArg Prod.snd y)), if_neg z, if_neg (ng (by show (2 : Nat) ≠ 0; decide)), if_neg ns2, a.don j hj]
  · obtain ⟨le, e⟩ := a.lie j b eb
    obtain ⟨o1, o2⟩ := ok.ends b (List.mem_of_getElem? eb)
    have t1 := a.top _ o1
    rw [full, if_neg (fun y => absurd (show (0 : Nat) = 2 from congrArg Prod.fst y) (by decide))]
    show (if b.to = k then c k + 1 else c b.to) ≤ b.th.length + (if b.one = k then c k + 1 else c b.one) ∧ _ = (b.th ++ (ms.take (if b.one = k then c k + 1 else c b.one)).map fun m => gD m b.one).drop (if b.to = k then c k + 1 else c b.to)
    have lX : (b.th ++ (ms.take (c b.one)).map fun m => gD m b.one).length = b.th.length + c b.one := by rw [List.length_append, List.length_map, List.length_take]; omega
    have part : (if ((0, j) : Sl) ∈ srcs hs bs k then (cn (0, j)).tail else cn (0, j)) = (b.th ++ (ms.take (c b.one)).map fun m => gD m b.one).drop (if b.to = k then c k + 1 else c b.to) ∧ (if b.to = k then c k + 1 else c b.to) ≤ b.th.length + c b.one := by
      by_cases t : b.to = k
      · have r1 := rd _ ((in_srcs ok eb).mpr t)
        rw [e] at r1
        obtain ⟨l1, _, h2⟩ := head_drop r1
        rw [if_pos ((in_srcs ok eb).mpr t), if_pos t, e, h2, t]
        rw [lX, t] at l1
        exact ⟨rfl, by omega⟩
      · rw [if_neg fun z => t ((in_srcs ok eb).mp z), if_neg t]
        exact ⟨e, le⟩
    by_cases g : b.one = k
    · rw [if_pos ((in_going eb).mpr g), part.1, if_pos g]
      have p2 := part.2
      rw [g] at p2 lX ⊢
      refine ⟨by omega, ?_⟩
      rw [take_one ck, ← List.append_assoc]
      exact (List.drop_append_of_le_length (by rw [lX]; exact p2)).symm
    · rw [if_neg fun z => g ((in_going eb).mp z), part.1, if_neg g]
      exact ⟨part.2, rfl⟩
  · obtain ⟨le, e⟩ := a.giv i j ei
    rw [full, if_neg (fun y => absurd (show (1 : Nat) = 2 from congrArg Prod.fst y) (by decide)), if_neg (ng (by show (1 : Nat) ≠ 0; decide))]
    show (if j = k then c k + 1 else c j) ≤ G ∧ _ = ((rows.take G).map fun r => gD r i).drop (if j = k then c k + 1 else c j)
    have jd := List.mem_of_getElem? ei
    by_cases z : j = k
    · subst z
      have sm : ((1, j) : Sl) ∈ srcs hs bs j := by unfold srcs; rw [if_pos jd]; exact List.mem_singleton.mpr rfl
      have r1 := rd _ sm
      rw [e] at r1
      obtain ⟨l1, _, h2⟩ := head_drop r1
      rw [List.length_map, List.length_take] at l1
      rw [if_pos rfl, if_pos sm, e, h2]
      exact ⟨by omega, rfl⟩
    · have sm : ((1, j) : Sl) ∉ srcs hs bs k := fun y => by
        unfold srcs at y
        split at y
        · exact z (congrArg Prod.snd (List.mem_singleton.mp y))
        · obtain ⟨x, _, e⟩ := List.mem_map.mp y
          exact absurd (show (0 : Nat) = 1 from congrArg Prod.fst e) (by decide)
      rw [if_neg z, if_neg sm]
      exact ⟨le, e⟩
/-- given rows more -/
def gvC (hs : List HR) (cn : Sl → List Int) (R : List (List Int)) (t i : Nat) : Sl → List Int := fun s => if s.1 = 1 ∧ s.2 ∈ doorsOf "in" hs then cn s ++ ((R.take t).map fun r => gD r ((doorsOf "in" hs).idxOf s.2)) ++ (if (doorsOf "in" hs).idxOf s.2 < i then [gD (R.getD t []) ((doorsOf "in" hs).idxOf s.2)] else []) else cn s
theorem Cn59.give {hs : List HR} {bs : List BR} {rows ms R : List (List Int)} {G : Nat} {c : Nat → Nat} {cn : Sl → List Int} (a : Cn59 hs bs rows ms G c cn) (l : G + R.length ≤ rows.length) (e : R = (rows.drop G).take R.length) : Cn59 hs bs rows ms (G + R.length) c (gvC hs cn R R.length 0) := by
  refine ⟨a.top, fun k hk => ?_, fun j b eb => ?_, fun i k ei => ?_, l⟩
  · rw [show gvC hs cn R R.length 0 (2, k) = cn (2, k) from if_neg fun z => absurd (show (2 : Nat) = 1 from z.1) (by decide)]
    exact a.don k hk
  · rw [show gvC hs cn R R.length 0 (0, j) = cn (0, j) from if_neg fun z => absurd (show (0 : Nat) = 1 from z.1) (by decide)]
    exact a.lie j b eb
  · obtain ⟨le, e1⟩ := a.giv i k ei
    have kd := List.mem_of_getElem? ei
    have ix := idx_at doors_nodup ei
    refine ⟨by omega, ?_⟩
    rw [show gvC hs cn R R.length 0 (1, k) = cn (1, k) ++ ((R.take R.length).map fun r => gD r ((doorsOf "in" hs).idxOf k)) ++ (if (doorsOf "in" hs).idxOf k < 0 then [gD (R.getD R.length []) ((doorsOf "in" hs).idxOf k)] else []) from if_pos ⟨rfl, kd⟩, if_neg (Nat.not_lt_zero _), List.append_nil, List.take_length, ix, e1]
    have lr := a.row
    have e2 : rows.take (G + R.length) = rows.take G ++ R := by rw [List.take_add, ← e]
    rw [e2, List.map_append, List.drop_append_of_le_length (by rw [List.length_map, List.length_take]; omega)]
theorem Cn59.start {hs : List HR} {bs : List BR} {rows ms : List (List Int)} : Cn59 hs bs rows ms 0 (fun _ => 0) (cn0 bs) := by
  refine ⟨fun _ _ => Nat.zero_le _, fun k _ => ?_, fun j b eb => ⟨Nat.zero_le _, ?_⟩, fun i k ei => ⟨Nat.le_refl _, ?_⟩, Nat.zero_le _⟩
  · rw [List.take_zero]; rfl
  · rw [List.take_zero, List.map_nil, List.append_nil, List.drop_zero]
    show (match bs[j]? with | some b => b.th | none => []) = _
    rw [eb]
  · rw [List.take_zero]; rfl
theorem Cn59.len {hs : List HR} {bs : List BR} {rows ms : List (List Int)} {G : Nat} {c : Nat → Nat} {cn : Sl → List Int} (a : Cn59 hs bs rows ms G c cn) (ok : RoomOk hs bs) (l6 : ∀ b ∈ bs, b.th.length ≤ 6) (lm : ms.length ≤ 60) (lr : rows.length ≤ 60) {s : Sl} (v : VS hs bs s) : (cn s).length ≤ 100 := by
  obtain ⟨x, j⟩ := s
  rcases v with ⟨z, jl⟩ | ⟨z, jd⟩ | ⟨z, jl⟩
  · obtain rfl : x = 0 := z
    have jl : j < bs.length := jl
    have eb : bs[j]? = some bs[j] := List.getElem?_eq_getElem jl
    obtain ⟨_, e⟩ := a.lie j _ eb
    have := l6 _ (List.getElem_mem jl)
    rw [e, List.length_drop, List.length_append, List.length_map, List.length_take]
    omega
  · obtain rfl : x = 1 := z
    obtain ⟨i, ei⟩ := List.getElem?_of_mem jd
    obtain ⟨_, e⟩ := a.giv i _ ei
    rw [e, List.length_drop, List.length_map, List.length_take]
    omega
  · obtain rfl : x = 2 := z
    rw [a.don j jl, List.length_map, List.length_take]
    omega
abbrev levL (n : Nat) (lv : Nat → Int) : List V := (List.range n).map fun p => V.int (lv p)
theorem rg_at {n p : Nat} {f : Nat → V} (h : p < n) : ((List.range n).map f)[p]? = some (f p) := by
  rw [List.getElem?_map, List.getElem?_range h]; rfl
theorem lev_set {n : Nat} {f : Nat → Int} {j : Nat} {z : Int} (hj : j < n) : (levL n f).set j (V.int z) = levL n fun k => if k = j then z else f k := by
  refine List.ext_getElem? fun m => ?_
  by_cases e : m = j
  · subst e
    rw [List.getElem?_set_self (by rw [List.length_map, List.length_range]; exact hj), rg_at hj]
    show _ = some (V.int (if m = m then z else f m))
    rw [if_pos rfl]
  · rw [List.getElem?_set_ne (fun z => e z.symm)]
    by_cases l : m < n
    · rw [rg_at l, rg_at l]
      show _ = some (V.int (if m = j then z else f m))
      rw [if_neg e]
    · rw [List.getElem?_eq_none (by rw [List.length_map, List.length_range]; omega), List.getElem?_eq_none (by rw [List.length_map, List.length_range]; omega)]

theorem nats_at {ns : List Nat} {i : Nat} {x : V} (h : (ns.map nV)[i]? = some x) : ∃ n : Nat, ns[i]? = some n ∧ x = nV n := by
  rw [List.getElem?_map] at h
  cases e : ns[i]? with
  | none => rw [e] at h; cases h
  | some n => rw [e] at h; exact ⟨n, rfl, (Option.some.inj h).symm⟩
theorem Bt.lst {tg : Addr → Option Sl} {H H' : Hp} {p : Addr} {xs : List V} (b : Bt tg H H') (e : H p = some (.lst xs)) (n : tg p = none) : H' p = some (.lst xs) := b _ _ e n
theorem gvC_len {hs : List HR} {cn : Sl → List Int} {R : List (List Int)} {t i n : Nat} {s : Sl} (h : (cn s).length ≤ n) : (gvC hs cn R t i s).length ≤ n + t + 1 := by
  unfold gvC
  split
  · rw [List.length_append, List.length_append, List.length_map, List.length_take]
    split
    · show _ + _ + 1 ≤ _
      omega
    · show _ + _ + 0 ≤ _
      omega
  · omega
theorem gvC_one {hs : List HR} {cn : Sl → List Int} {R : List (List Int)} {t i k : Nat} {row : List Int} (ei : (doorsOf "in" hs)[i]? = some k) (er : R[t]? = some row) : putS (gvC hs cn R t i) (1, k) (gvC hs cn R t i (1, k) ++ [gD row i]) = gvC hs cn R t (i + 1) := by
  have kd := List.mem_of_getElem? ei
  have ix := idx_at doors_nodup ei
  have rw1 : R.getD t [] = row := getD_at er
  funext s
  show (if s = (1, k) then gvC hs cn R t i (1, k) ++ [gD row i] else gvC hs cn R t i s) = _
  by_cases z : s = (1, k)
  · subst z
    rw [if_pos rfl]
    have e : ∀ i', gvC hs cn R t i' (1, k) = cn (1, k) ++ ((R.take t).map fun r => gD r i) ++ (if i < i' then [gD row i] else []) := fun i' => by
      have h : gvC hs cn R t i' (1, k) = cn (1, k) ++ ((R.take t).map fun r => gD r ((doorsOf "in" hs).idxOf k)) ++ (if (doorsOf "in" hs).idxOf k < i' then [gD (R.getD t []) ((doorsOf "in" hs).idxOf k)] else []) := if_pos ⟨rfl, kd⟩
      rw [h, ix, rw1]
    rw [e i, e (i + 1), if_neg (Nat.lt_irrefl i), if_pos (Nat.lt_succ_self i), List.append_nil]
  · rw [if_neg z]
    unfold gvC
    by_cases y : s.1 = 1 ∧ s.2 ∈ doorsOf "in" hs
    · rw [if_pos y, if_pos y]
      have ne : (doorsOf "in" hs).idxOf s.2 ≠ i := fun w => by
        obtain ⟨i', ei'⟩ := List.getElem?_of_mem y.2
        have ix' := idx_at doors_nodup ei'
        rw [ix'] at w
        rw [w, ei] at ei'
        exact z (Prod.ext y.1 (Option.some.inj ei').symm)
      by_cases w : (doorsOf "in" hs).idxOf s.2 < i
      · rw [if_pos w, if_pos (by omega)]
      · rw [if_neg w, if_neg (by omega)]
    · rw [if_neg y, if_neg y]
theorem gvC_row {hs : List HR} {cn : Sl → List Int} {R : List (List Int)} {t : Nat} {row : List Int} (er : R[t]? = some row) : gvC hs cn R t (doorsOf "in" hs).length = gvC hs cn R (t + 1) 0 := by
  funext s
  unfold gvC
  by_cases y : s.1 = 1 ∧ s.2 ∈ doorsOf "in" hs
  · rw [if_pos y, if_pos y, if_pos (List.idxOf_lt_length_of_mem y.2), if_neg (Nat.not_lt_zero _), List.append_nil, List.take_add_one, er, List.map_append, getD_at er, List.append_assoc]
    rfl
  · rw [if_neg y, if_neg y]
theorem gvC_zero {hs : List HR} {cn : Sl → List Int} {R : List (List Int)} : gvC hs cn R 0 0 = cn := by
  funext s
  unfold gvC
  split
  · rw [List.take_zero, if_neg (Nat.not_lt_zero _), List.append_nil]
    exact List.append_nil _
  · rfl
section
variable {P : Program} {w : World} {K : PySem.W.Frag} {mg : Str → Option Value} {base : Heap}
def sp_law_give_all (K : PySem.W.Frag) (C : Addr) : Sp := fun vs H Q _ => ∃ (F r a : Addr) (hs : List HR) (bs : List BR) (cn : Sl → List Int) (tg : Addr → Option Sl) (rv : List V) (R : List (List Int)), vs = [.ref F, .ref r, .ref a] ∧ FlAt C H F hs bs cn tg ∧ RoomAt H r hs bs ∧ RoomOk hs bs ∧ H a = some (.lst rv) ∧ tg a = none ∧ All2 (RowAt H) rv R ∧ (∀ x ∈ R, x.length = (doorsOf "in" hs).length) ∧ (∀ s, VS hs bs s → (cn s).length ≤ 400) ∧ R.length ≤ 100 ∧
  ∀ H', FlAt C H' F hs bs (gvC hs cn R R.length 0) tg → Bt tg H H' → Q .non H'
theorem ok_law_give_all {f : Addr} {fd : FuncData} (F : Fun K "_law_give_all" "_law_give_all" s_law_give_all f fd) {C : Addr} (T : Top K mg C) : FnOk P w K mg base CX0 2 f fd ["_law_floor", "_law_room_here", "_law_rows_here"] (sp_law_give_all K C) := by
  obtain ⟨f_law_doors, fd_law_doors, F_law_doors, b_law_doors, m_law_doors⟩ := T.d_law_doors
  have G_law_doors := ok_law_doors (P := P) (w := w) (base := base) F_law_doors T
  obtain ⟨f_Floor_give, fd_Floor_give, F_Floor_give, b_Floor_give, m_Floor_give⟩ := T.d_Floor_give
  have G_Floor_give := ok_Floor_give (P := P) (w := w) (base := base) F_Floor_give T
  refine F.ok sc_law_give_all (fun vs H Q E h => ?_) (fun cdv A outer s H vs Q E hr h => ?_)
  · obtain ⟨F, r, a, hs, bs, cn, tg, rv, R, rfl, _⟩ := h
    rfl
  obtain ⟨F, r, a, hs, bs, cn, tg, rv, R, rfl, fl, hR, ok, ha, ta, al, wid, len, lR, q⟩ := h
  have lrv := al.length
  refine ⟨_, (pss_cons (ps_set (i := 3) sc_law_give_all.nd rfl (Or.inl rfl) (pe_call G_law_doors (hr.mono (by decide)) (by rfl) m_law_doors F_law_doors.kp b_law_doors .nil pass0 (pa_cons (pv 1) (pa_cons pe_str pa_nil))))
      (pss_one (ps_for PassesOwn.never rfl (pi_listK K rfl (pv 2)) (pg_name (i := 4) sc_law_give_all.nd rfl (Or.inl rfl))
        (pss_one (ps_for PassesOwn.never rfl (pi_zipLT K rfl (by rfl) T.m_zip (pa_cons (pv 3) (pa_cons (pv 4) pa_nil))) (pg_tupK K rfl rfl (pgs_cons (pg_name (i := 5) sc_law_give_all.nd rfl (Or.inl rfl)) (pgs_cons (pg_name (i := 6) sc_law_give_all.nd rfl (Or.inl rfl)) pgs_nil)))
        (pss_one (ps_expr (pe_meth (pv 0) T.cl m_Floor_give G_Floor_give (hr.mono (by decide)) b_Floor_give .nil pass0 (pa_cons (pv 5) (pa_cons (pv 6) pa_nil)))))))))), ?_⟩
  refine ⟨_, rfl, r, hs, bs, "in", rfl, .inl rfl, hR, ⟨ok.hands, ok.good⟩, fun D H1 nD hD s1 => ?_⟩
  have tD : tg D = none := fl.own.free nD
  have fl1 := fl.kp (Kp.same s1)
  refine ⟨_, rfl, a, rfl, ⟨_, SqL.of (s1 _ _ ha)⟩, for_list (K := K) (a := a) (xs := rv) (fun t σ H5 => ∃ v4 v5 v6 : Option V, σ = [some (.ref F), some (.ref r), some (.ref a), some (.ref D), v4, v5, v6] ∧ FlAt C H5 F hs bs (gvC hs cn R t 0) tg ∧ Bt tg H1 H5) ⟨none, none, none, rfl, by rw [gvC_zero]; exact fl1, Bt.refl⟩ (fun t σ H5 _ ⟨_, _, _, _, _, b5⟩ => SqL.of (b5 _ _ (s1 _ _ ha) ta)) ?_ ?_⟩
  · rintro t x σ H5 hx ⟨v4, v5, v6, rfl, fl5, b5⟩
    have k5 : TK H H5 := (TK.same s1).trans (b5.tk fl1.own)
    obtain ⟨row, er, tr, rfl, htr⟩ := (al.imp fun _ _ z => z.keep k5).getL hx
    have lrow := wid row (List.mem_of_getElem? er)
    have tl := (List.getElem?_eq_some_iff.mp er).1
    have hD5 := b5 _ _ hD tD
    refine ⟨_, rfl, _, rfl, D, tr, _, _, rfl, SqL.of hD5, SqT.of htr, for_it (n := (doorsOf "in" hs).length) (fun i σ H6 => ∃ v5 v6 : Option V, σ = [some (.ref F), some (.ref r), some (.ref a), some (.ref D), some (.ref tr), v5, v6] ∧ FlAt C H6 F hs bs (gvC hs cn R t i) tg ∧ H6 D = some (.lst ((doorsOf "in" hs).map nV)) ∧ H6 tr = some (.tup (row.map V.int)) ∧ Bt tg H1 H6) ⟨v5, v6, rfl, fl5, hD5, htr, b5⟩ ?_ ?_ ?_ ?_⟩
    · rintro i σ H6 hi ⟨v5, v6, rfl, fl6, hD6, ht6, b6⟩
      exact ⟨SqL.of hD6, SqT.of ht6, by rw [List.length_map]; exact hi, by rw [List.length_map]; omega⟩
    · rintro σ H6 ⟨v5, v6, rfl, fl6, hD6, ht6, b6⟩
      exact ⟨SqL.of hD6, SqT.of ht6, by rw [List.length_map]; exact Nat.le_refl _, by rw [List.length_map]; omega, .inl (by rw [List.length_map])⟩
    · rintro i x σ H6 H7 hi ⟨v5, v6, rfl, fl6, hD6, ht6, b6⟩ ⟨T', x1, y1, rfl, nT, rfl, hx1, hy1⟩
      obtain ⟨k, ek, rfl⟩ := nats_at hx1
      have kd := List.mem_of_getElem? ek
      obtain ⟨h0, eh, _⟩ := mem_doors.mp kd
      have kl := (List.getElem?_eq_some_iff.mp eh).1
      obtain rfl : V.int (gD row i) = y1 := by
        have il : i < row.length := by omega
        rw [List.getElem?_map, gD_get il] at hy1
        exact Option.some.inj hy1
      have u := same_new (o := .tup [nV k, V.int (gD row i)]) nT
      have hT' : (upd H6 T' (.tup [nV k, V.int (gD row i)])) T' = some (.tup [nV k, V.int (gD row i)]) := upd_same
      have fl7 := fl6.kp (Kp.same u)
      obtain ⟨p, a7⟩ := fl7.b
      have vs : VS hs bs (1, k) := .inr (.inl ⟨rfl, kd⟩)
      have ln := gvC_len (hs := hs) (R := R) (t := t) (i := i) (len _ vs)
      refine ⟨T', _, rfl, SqT.of hT', rfl, _, _, rfl, _, _, rfl, rfl, ?_⟩
      refine ⟨_, rfl, F, p.dx, _, rfl, a7.hF, rfl, _, rfl, _, rfl, F, hs, bs, _, tg, k, gD row i, rfl, fl7, kl, kd, by omega, fun H8 fl8 b8 => ?_⟩
      rw [gvC_one ek er] at fl8
      have b68 : Bt tg H6 H8 := (Bt.refl.same u).trans b8
      exact ⟨_, _, rfl, fl8, b68 _ _ hD6 tD, b68 _ _ ht6 (fl6.own.tup ht6 fun _ z => nomatch z), b6.trans b68⟩
    · rintro σ H6 ⟨v5, v6, rfl, fl6, hD6, ht6, b6⟩
      rw [gvC_row er] at fl6
      exact ⟨_, _, _, rfl, fl6, b6⟩
  · rintro σ H5 ⟨v4, v5, v6, rfl, fl5, b5⟩
    rw [lrv] at fl5
    exact q H5 fl5 ((Bt.refl.same s1).trans b5)
end
theorem ixN_nat {n k : Nat} (h : k < n) : ixN n ((k : Nat) : Int) = some k := by
  unfold ixN
  rw [if_pos (by omega), if_pos (by omega)]
  simp
/-- what stands fast while hands work -/
structure W59 (C : Addr) (H : Hp) (f c F dl cl : Addr) (hs : List HR) (bs : List BR) (rows ms : List (List Int)) (dv : List V) (G : Nat) (cc : Nat → Nat) (cn : Sl → List Int) (tg : Addr → Option Sl) : Prop where
  fl : Flow H f c
  fa : FlAt C H F hs bs cn tg
  ok : RoomOk hs bs
  l6 : ∀ b ∈ bs, b.th.length ≤ 6
  ws : WS hs bs rows ms
  cs : Cn59 hs bs rows ms G cc cn
  lm : ms.length ≤ 60
  hd : H dl = some (.lst dv)
  ald : All2 (RowAt H) dv ms
  hc : H cl = some (.lst (levL hs.length fun k => ((cc k : Nat) : Int)))
  tf : tg f = none
  tc : tg c = none
  td : tg dl = none
  tl : tg cl = none
  n1 : cl ≠ f
  n2 : cl ≠ c
  n3 : cl ≠ dl
  n4 : dl ≠ f
theorem W59.rows {C : Addr} {H : Hp} {f c F dl cl : Addr} {hs : List HR} {bs : List BR} {rows ms : List (List Int)} {dv : List V} {G : Nat} {cc : Nat → Nat} {cn : Sl → List Int} {tg : Addr → Option Sl} (w : W59 C H f c F dl cl hs bs rows ms dv G cc cn tg) : rows.length ≤ 60 := by
  have := w.ws.len
  have := w.lm
  omega
theorem W59.same {C : Addr} {H H' : Hp} {f c F dl cl : Addr} {hs : List HR} {bs : List BR} {rows ms : List (List Int)} {dv : List V} {G : Nat} {cc : Nat → Nat} {cn : Sl → List Int} {tg : Addr → Option Sl} (w : W59 C H f c F dl cl hs bs rows ms dv G cc cn tg) (s : Same H H') : W59 C H' f c F dl cl hs bs rows ms dv G cc cn tg :=
  ⟨w.fl.same s, w.fa.kp (Kp.same s), w.ok, w.l6, w.ws, w.cs, w.lm, s _ _ w.hd, w.ald.imp fun _ _ z => z.keep (TK.same s), s _ _ w.hc, w.tf, w.tc, w.td, w.tl, w.n1, w.n2, w.n3, w.n4⟩
theorem W59.pick {C : Addr} {H H' : Hp} {f c F dl cl : Addr} {hs : List HR} {bs : List BR} {rows ms : List (List Int)} {dv : List V} {G : Nat} {cc : Nat → Nat} {cn : Sl → List Int} {tg : Addr → Option Sl} (w : W59 C H f c F dl cl hs bs rows ms dv G cc cn tg) (F' : Flow H' f c) (b : But f H H') : W59 C H' f c F dl cl hs bs rows ms dv G cc cn tg :=
  ⟨F', w.fa.kp (Kp.but w.fl b w.tf), w.ok, w.l6, w.ws, w.cs, w.lm, b _ _ w.hd w.n4, w.ald.imp fun _ _ z => z.keep (TK.but w.fl b), b _ _ w.hc w.n1, w.tf, w.tc, w.td, w.tl, w.n1, w.n2, w.n3, w.n4⟩
/-- all else stands -/
def Ot (tg : Addr → Option Sl) (f cl : Addr) (H H' : Hp) : Prop := ∀ b o, H b = some o → tg b = none → b ≠ f → b ≠ cl → H' b = some o
theorem Ot.refl {tg : Addr → Option Sl} {f cl : Addr} {H : Hp} : Ot tg f cl H H := fun _ _ e _ _ _ => e
theorem Ot.same {tg : Addr → Option Sl} {f cl : Addr} {H H1 H2 : Hp} (a : Ot tg f cl H H1) (s : Same H1 H2) : Ot tg f cl H H2 := fun b o e t n1 n2 => s _ _ (a b o e t n1 n2)
theorem Ot.but {tg : Addr → Option Sl} {f cl : Addr} {H H1 H2 : Hp} (a : Ot tg f cl H H1) (s : But f H1 H2) : Ot tg f cl H H2 := fun b o e t n1 n2 => s _ _ (a b o e t n1 n2) n1
theorem Ot.bt {tg : Addr → Option Sl} {f cl : Addr} {H H1 H2 : Hp} (a : Ot tg f cl H H1) (s : Bt tg H1 H2) : Ot tg f cl H H2 := fun b o e t n1 n2 => s _ _ (a b o e t n1 n2) t
theorem Ot.upd {tg : Addr → Option Sl} {f cl : Addr} {H H1 : Hp} {o : HO} (a : Ot tg f cl H H1) : Ot tg f cl H (L2.upd H1 cl o) := fun b u e t n1 n2 => by rw [upd_ne n2]; exact a b u e t n1 n2
theorem filt_take {α : Type} {p : α → Bool} {l : List α} {i : Nat} {x : α} (e : l[i]? = some x) : (l.take (i + 1)).filter p = (l.take i).filter p ++ if p x = true then [x] else [] := by
  rw [List.take_add_one, e, List.filter_append]
  show _ ++ [x].filter p = _
  rw [List.filter_cons, List.filter_nil]
section
variable {P : Program} {w : World} {K : PySem.W.Frag} {mg : Str → Option Value} {base : Heap}
def sp_law_work_on (K : PySem.W.Frag) (C : Addr) : Sp := fun vs H Q _ => ∃ (f c F dl cl : Addr) (hs : List HR) (bs : List BR) (rows ms : List (List Int)) (dv : List V) (G : Nat) (cc : Nat → Nat) (cn : Sl → List Int) (tg : Addr → Option Sl) (n : Int), vs = [.ref f, .ref F, .ref dl, .ref cl, .int n] ∧ W59 C H f c F dl cl hs bs rows ms dv G cc cn tg ∧ 0 ≤ n ∧ n ≤ 200 ∧
  ∀ (cc' : Nat → Nat) (cn' : Sl → List Int) (H' : Hp), W59 C H' f c F dl cl hs bs rows ms dv G cc' cn' tg → Ot tg f cl H H' → Q (.bl true) H'
theorem ok_law_work_on {f : Addr} {fd : FuncData} (F : Fun K "_law_work_on" "_law_work_on" s_law_work_on f fd) {C : Addr} (T : Top K mg C) : FnOk P w K mg base CX0 7 f fd ["_law_flow_here", "_law_floor", "_law_due", "_law_counts", "_law_turns"] (sp_law_work_on K C) := by
  obtain ⟨f_Floor_ready, fd_Floor_ready, F_Floor_ready, b_Floor_ready, m_Floor_ready⟩ := T.d_Floor_ready
  have G_Floor_ready := ok_Floor_ready (P := P) (w := w) (base := base) F_Floor_ready T
  obtain ⟨f_law_pick, fd_law_pick, F_law_pick, b_law_pick, m_law_pick⟩ := T.d_law_pick
  have G_law_pick := ok_law_pick (P := P) (w := w) (base := base) F_law_pick T
  obtain ⟨f_law_alike, fd_law_alike, F_law_alike, b_law_alike, m_law_alike⟩ := T.d_law_alike
  have G_law_alike := ok_law_alike (P := P) (w := w) (base := base) F_law_alike T
  obtain ⟨f_Floor_work, fd_Floor_work, F_Floor_work, b_Floor_work, m_Floor_work⟩ := T.d_Floor_work
  have G_Floor_work := ok_Floor_work (P := P) (w := w) (base := base) F_Floor_work T
  refine F.ok sc_law_work_on (fun vs H Q E h => ?_) (fun cdv A outer s H vs Q E hr h => ?_)
  · obtain ⟨f, c, F, dl, cl, hs, bs, rows, ms, dv, G, cc, cn, tg, n, rfl, _⟩ := h
    rfl
  obtain ⟨f, c, F, dl, cl, hs, bs, rows, ms, dv, G, cc, cn, tg, n, rfl, W, n0, n2, q⟩ := h
  let sg : Option V → Option V → Option V → L2.St := fun v5 v6 v7 => [some (.ref f), some (.ref F), some (.ref dl), some (.ref cl), some (.int n), v5, v6, v7]
  refine ⟨_, (pss_cons (ps_for PassesOwn.never rfl (pi_range1 (by rfl) T.m_range (pa_cons (pv 4) pa_nil)) (pg_name (i := 5) sc_law_work_on.nd rfl (Or.inl rfl))
        (pss_cons (ps_setLc (i := 6) (own := [("_law_k", 7)]) (g := gName 7) (by rfl) sc_law_work_on.nd rfl rfl (sw_true rfl rfl rfl (by decide +kernel)) (pi_listK K rfl (pe_meth0 (pv 1) T.cl m_Floor_ready G_Floor_ready (hr.mono (by decide)) b_Floor_ready .nil pass0)) (blkOk_by (own := [("_law_k", 7)]) (N := N_law_work_on) (sc := defScope s_law_work_on) (by decide +kernel)) (fun _ _ _ _ _ => (pg_name (i := 7) sc_law_work_on.nd rfl (Or.inl rfl))) (fun _ _ _ _ _ => pts_one (pt_cmpR op_lt (pe_ix (ix_listK K rfl) (pv 3) (pv 7) (fun _ _ => rfl)) (pe_callB (call_len_seqK K rfl) (by rfl) T.m_len (by decide +kernel) (pa_cons (pv 2) pa_nil)) (nomark _))) (fun _ _ _ _ _ => (pv 7)))
      (pss_one (ps_if (pt_cmpR op_gt (pe_callB (call_len_seqK K rfl) (by rfl) T.m_len (by decide +kernel) (pa_cons (pv 6) pa_nil)) pe_int (nomark _)) (pss_cons (ps_set (i := 7) sc_law_work_on.nd rfl (Or.inl rfl) (pe_ix (ix_listK K rfl) (pv 6) (pe_call G_law_pick (hr.mono (by decide)) (by rfl) m_law_pick F_law_pick.kp b_law_pick .nil pass0 (pa_cons (pv 0) (pa_cons (pe_callB (call_len_seqK K rfl) (by rfl) T.m_len (by decide +kernel) (pa_cons (pv 6) pa_nil)) pa_nil))) (fun _ _ => rfl)))
      (pss_cons (ps_if (pt_not (pt_val (pe_call G_law_alike (hr.mono (by decide)) (by rfl) m_law_alike F_law_alike.kp b_law_alike .nil pass0 (pa_cons (pe_meth (pv 1) T.cl m_Floor_work G_Floor_work (hr.mono (by decide)) b_Floor_work .nil pass0 (pa_cons (pv 7) pa_nil)) (pa_cons (pe_ix (ix_tupK K rfl) (pe_ix (ix_listK K rfl) (pv 2) (pe_ix (ix_listK K rfl) (pv 3) (pv 7) (fun _ _ => rfl)) (fun _ _ => rfl)) (pv 7) (fun _ _ => rfl)) pa_nil))))) (pss_one (ps_ret pe_bl)) pss_nil)
      (pss_one (ps_asg (pe_op op_add (pe_ix (ix_listK K rfl) (pv 3) (pv 7) (fun _ _ => rfl)) pe_int) (pg_sub (pv 3) (pv 7) set_list))))) pss_nil))))
      (pss_one (ps_ret pe_bl))), ?_⟩
  refine ⟨_, rfl, _, rfl, by omega, by omega, for_range (lo := 0) (n := n.toNat) (fun i σ H5 => ∃ (cc' : Nat → Nat) (cn' : Sl → List Int) (v5 v6 v7 : Option V), σ = sg v5 v6 v7 ∧ W59 C H5 f c F dl cl hs bs rows ms dv G cc' cn' tg ∧ Ot tg f cl H H5) ⟨cc, cn, none, none, none, rfl, W, Ot.refl⟩ ?_ ?_⟩
  · rintro i σ H5 hi ⟨cc, cn, v5, v6, v7, rfl, W, ot⟩
    have lh := W.ok.hands
    have lb := W.ok.many
    have ldv := W.ald.length
    obtain ⟨p, a⟩ := W.fa.b
    refine ⟨_, rfl, F, p.dx, _, rfl, a.hF, rfl, F, hs, bs, cn, tg, rfl, W.fa, lh, lb, fun S H6 nS hS s6 => ⟨S, rfl, ⟨_, SqL.of hS⟩, fun D nD => lc_list (K := K) (a := S) (xs := ((List.range hs.length).filter (rdy hs bs cn)).map nV) (fun j H7 => H7 D = some (.lst (((((List.range hs.length).filter (rdy hs bs cn)).take j).filter fun k => decide (((cc k : Nat) : Int) < ((dv.length : Nat) : Int))).map nV)) ∧ Same H6 H7) ⟨upd_same, same_new nD⟩ (fun j H7 _ ⟨_, s7⟩ => SqL.of (s7 _ _ hS)) ?_ ?_⟩⟩
    · rintro j x H7 hx ⟨hD, s7⟩
      obtain ⟨k, ek, rfl⟩ := nats_at hx
      have km := List.mem_filter.mp (List.mem_of_getElem? ek)
      have kl := List.mem_range.mp km.1
      have s67 := s6.trans s7
      have jl := (List.getElem?_eq_some_iff.mp ek).1
      have few := filt_len (p := rdy hs bs cn) hs.length
      have few2 := List.length_filter_le (fun k => decide (((cc k : Nat) : Int) < ((dv.length : Nat) : Int))) (((List.range hs.length).filter (rdy hs bs cn)).take j)
      rw [List.length_take] at few2
      refine ⟨rfl, _, rfl, _, rfl, cl, _, _, _, rfl, rfl, SqL.of (s67 _ _ W.hc), atI_nat (rg_at kl), _, rfl, dl, _, rfl, .inl (SqL.of (s67 _ _ W.hd)), _, _, rfl, rfl, _, rfl, if_bl (fun z => ⟨_, rfl, _, hD, by rw [List.length_map]; exact small1000 (by omega), ?_, Same.own s7 nD⟩) (fun z => ⟨?_, s7⟩)⟩
      · rw [upd_same, filt_take ek, if_pos z, List.map_append]
        rfl
      · rw [filt_take ek, if_neg (by rw [z]; exact Bool.false_ne_true), List.append_nil]
        exact hD
    rintro H7 ⟨hD, s7⟩
    rw [List.length_map, List.take_length] at hD
    generalize esm : (((List.range hs.length).filter (rdy hs bs cn)).filter fun k => decide (((cc k : Nat) : Int) < ((dv.length : Nat) : Int))) = sm at hD
    have lsm : sm.length ≤ 12 := by
      have h1 := List.length_filter_le (fun k => decide (((cc k : Nat) : Int) < ((dv.length : Nat) : Int))) ((List.range hs.length).filter (rdy hs bs cn))
      have h2 := filt_len (p := rdy hs bs cn) hs.length
      rw [esm] at h1
      omega
    have s67 := s6.trans s7
    have W7 := W.same s67
    have Df : D ≠ f := fun z => by
      rw [z] at nD
      obtain ⟨_, _, _, _, _, e1, _⟩ := W.fl.same s6
      rw [e1] at nD
      cases nD
    refine ⟨_, rfl, D, _, rfl, .inl (SqL.of hD), _, _, rfl, rfl, _, rfl, if_bl (fun z => ?_) (fun _ => ⟨cc, cn, _, _, _, rfl, W7, ot.same s67⟩)⟩
    have z : (((sm.map nV).length : Nat) : Int) > 0 := of_decide_eq_true z
    rw [List.length_map] at z
    refine ⟨_, rfl, _, rfl, _, rfl, D, _, rfl, .inl (SqL.of hD), f, c, ((sm.length : Nat) : Int), by rw [List.length_map]; rfl, by omega, log_small (by omega), W7.fl, fun v H8 v0 v1 F8 B8 => ?_⟩
    obtain ⟨vn, rfl⟩ : ∃ vn : Nat, v = ((vn : Nat) : Int) := ⟨v.toNat, by omega⟩
    have W8 := W7.pick F8 B8
    obtain ⟨k, ek⟩ : ∃ k, sm[vn]? = some k := ⟨_, List.getElem?_eq_getElem (by omega)⟩
    have km : k ∈ (((List.range hs.length).filter (rdy hs bs cn)).filter fun k => decide (((cc k : Nat) : Int) < ((dv.length : Nat) : Int))) := by rw [esm]; exact List.mem_of_getElem? ek
    obtain ⟨km1, km2⟩ := List.mem_filter.mp km
    obtain ⟨km3, rd⟩ := List.mem_filter.mp km1
    have kl := List.mem_range.mp km3
    have ck : cc k < ms.length := by
      have := of_decide_eq_true km2
      omega
    have hD8 := B8 _ _ hD Df
    refine ⟨D, _, _, _, rfl, rfl, SqL.of hD8, atI_nat (show (sm.map nV)[vn]? = some (nV k) by rw [List.getElem?_map, ek]; rfl), ?_⟩
    obtain ⟨p8, a8⟩ := W8.fa.b
    have len9 : ∀ s, VS hs bs s → (cn s).length ≤ 900 := fun s vs => Nat.le_trans (W8.cs.len W8.ok W8.l6 W8.lm W8.rows vs) (by decide)
    refine ⟨_, rfl, F, p8.dx, _, rfl, a8.hF, rfl, _, rfl, F, hs, bs, cn, tg, k, rfl, W8.fa, W8.ok, kl, rd, len9, fun H9 fa9 b9 => ?_⟩
    have ev := W8.cs.val W8.ok W8.ws kl rd ck
    have hc9 := b9 _ _ W8.hc W8.tl
    have hd9 := b9 _ _ W8.hd W8.td
    obtain ⟨y, ey, tr, rfl, htr⟩ := W8.ald.get (List.getElem?_eq_getElem ck)
    have htr9 := b9.tk W8.fa.own _ _ htr
    have lrow := (W8.ws.row ms[cc k] (List.getElem_mem ck))
    have em : gD ms[cc k] k = wkV hs bs cn k := by
      rw [ev]
      unfold Vm
      rw [getD_at (List.getElem?_eq_getElem ck)]
    refine ⟨_, rfl, _, rfl, _, rfl, cl, _, _, _, rfl, rfl, SqL.of hc9, atI_nat (rg_at kl), dl, _, _, _, rfl, rfl, SqL.of hd9, atI_nat ey, _, rfl, tr, _, _, _, rfl, rfl, SqT.of htr9, at_row (by omega), ?_⟩
    refine ⟨_, _, rfl, by rw [em]; exact Al.int, fun H10 s10 => ⟨_, rfl, if_bl (fun z => nomatch z) (fun _ => ?_)⟩⟩
    have hc10 := s10 _ _ hc9
    refine ⟨_, rfl, _, rfl, cl, _, _, _, rfl, rfl, SqL.of hc10, atI_nat (rg_at kl), _, _, rfl, rfl, _, rfl, _, rfl, cl, _, _, k, rfl, rfl, hc10, ixN_nat (by rw [List.length_map, List.length_range]; exact kl), ?_⟩
    have u : Kp tg H10 (upd H10 cl (.lst ((levL hs.length fun k => ((cc k : Nat) : Int)).set k (V.int (((cc k : Nat) : Int) + 1))))) := Kp.lst hc10 W.tl
    have b98 : Bt tg H8 H10 := b9.same s10
    refine ⟨fun j => if j = k then cc k + 1 else cc j, wkC hs bs cn k, _, _, _, rfl, ⟨(b98.flow W8.fl W.tf W.tc).lst W.n1 W.n2, (fa9.kp (Kp.same s10)).kp u, W.ok, W.l6, W.ws, W8.cs.work W8.ok W8.ws kl rd ck, W.lm, by rw [upd_ne W.n3.symm]; exact b98 _ _ W8.hd W.td, W8.ald.imp fun _ _ z => (z.keep (b98.tk W8.fa.own)).keep u.tk, ?_, W.tf, W.tc, W.td, W.tl, W.n1, W.n2, W.n3, W.n4⟩, (((ot.same s67).but B8).bt b98).upd⟩
    rw [upd_same, lev_set kl]
    refine congrArg (fun z => some (HO.lst z)) (List.map_congr_left fun j _ => congrArg V.int ?_)
    show (if j = k then ((cc k : Nat) : Int) + 1 else ((cc j : Nat) : Int)) = (((if j = k then cc k + 1 else cc j : Nat)) : Int)
    by_cases y : j = k
    · rw [if_pos y, if_pos y]; rfl
    · rw [if_neg y, if_neg y]
  · rintro σ H5 ⟨cc', cn', v5, v6, v7, rfl, W5, ot⟩
    exact q cc' cn' H5 W5 ot
def sp_law_all_made (K : PySem.W.Frag) (C : Addr) : Sp := fun vs H Q _ => ∃ (f c F dl cl : Addr) (hs : List HR) (bs : List BR) (rows ms : List (List Int)) (dv : List V) (G : Nat) (cc : Nat → Nat) (cn : Sl → List Int) (tg : Addr → Option Sl), vs = [.ref F, .ref dl, .ref cl] ∧ W59 C H f c F dl cl hs bs rows ms dv G cc cn tg ∧ ∀ H', Same H H' → Q (.bl true) H'
theorem ok_law_all_made {f : Addr} {fd : FuncData} (F : Fun K "_law_all_made" "_law_all_made" s_law_all_made f fd) {C : Addr} (T : Top K mg C) : FnOk P w K mg base CX0 7 f fd ["_law_floor", "_law_due", "_law_counts"] (sp_law_all_made K C) := by
  obtain ⟨f_Floor_made, fd_Floor_made, F_Floor_made, b_Floor_made, m_Floor_made⟩ := T.d_Floor_made
  have G_Floor_made := ok_Floor_made (P := P) (w := w) (base := base) F_Floor_made T
  obtain ⟨f_law_alike, fd_law_alike, F_law_alike, b_law_alike, m_law_alike⟩ := T.d_law_alike
  have G_law_alike := ok_law_alike (P := P) (w := w) (base := base) F_law_alike T
  refine F.ok sc_law_all_made (fun vs H Q E h => ?_) (fun cdv A outer s H vs Q E hr h => ?_)
  · obtain ⟨f, c, F, dl, cl, hs, bs, rows, ms, dv, G, cc, cn, tg, rfl, _⟩ := h
    rfl
  obtain ⟨f, c, F, dl, cl, hs, bs, rows, ms, dv, G, cc, cn, tg, rfl, W, q⟩ := h
  have lh := W.ok.hands
  have ldv := W.ald.length
  have llv : (levL hs.length fun k => ((cc k : Nat) : Int)).length = hs.length := by rw [List.length_map, List.length_range]
  refine ⟨_, (pss_cons (ps_for PassesOwn.never rfl (pi_range1 (by rfl) T.m_range (pa_cons (pe_callB (call_len_seqK K rfl) (by rfl) T.m_len (by decide +kernel) (pa_cons (pv 2) pa_nil)) pa_nil)) (pg_name (i := 3) sc_law_all_made.nd rfl (Or.inr rfl))
        (pss_cons (ps_setLc (i := 4) (own := [("_law_at", 5)]) (g := gName 5) (tt := tYes) (by rfl) sc_law_all_made.nd rfl rfl (sw_true rfl rfl rfl (by decide +kernel)) (pi_range1 (by rfl) T.m_range (pa_cons (pe_ix (ix_listK K rfl) (pv 2) (pv 3) (fun _ _ => rfl)) pa_nil)) (blkOk_by (own := [("_law_at", 5)]) (N := N_law_all_made) (sc := defScope s_law_all_made) (by decide +kernel)) (fun _ _ _ _ _ => (pg_name (i := 5) sc_law_all_made.nd rfl (Or.inl rfl))) (fun _ _ _ _ _ => pts_nil) (fun _ _ _ _ _ => (pe_ix (ix_tupK K rfl) (pe_ix (ix_listK K rfl) (pv 1) (pv 5) (fun _ _ => rfl)) (pv 3) (fun _ _ => rfl))))
      (pss_cons (ps_set (i := 6) sc_law_all_made.nd rfl (Or.inl rfl) (pe_meth (pv 0) T.cl m_Floor_made G_Floor_made (hr.mono (by decide)) b_Floor_made .nil pass0 (pa_cons (pv 3) pa_nil)))
      (pss_cons (ps_if (pt_not (pt_val (pe_call G_law_alike (hr.mono (by decide)) (by rfl) m_law_alike F_law_alike.kp b_law_alike .nil pass0 (pa_cons (pv 6) (pa_cons (pv 4) pa_nil))))) (pss_one (ps_ret pe_bl)) pss_nil)
      (pss_cons (ps_expr (pe_bmK K rfl PySem.F.plainAttrs_list PySem.F.slot_list_append PySem.F.type_list_append mt_append (pv 6) (pa_cons pe_int pa_nil)))
      (pss_one (ps_if (pt_not (pt_val (pe_call G_law_alike (hr.mono (by decide)) (by rfl) m_law_alike F_law_alike.kp b_law_alike .nil pass0 (pa_cons (pe_meth (pv 0) T.cl m_Floor_made G_Floor_made (hr.mono (by decide)) b_Floor_made .nil pass0 (pa_cons (pv 3) pa_nil)) (pa_cons (pv 4) pa_nil))))) (pss_one (ps_ret pe_bl)) pss_nil)))))))
      (pss_one (ps_ret pe_bl))), ?_⟩
  refine ⟨_, rfl, cl, _, rfl, .inl (SqL.of W.hc), _, rfl, by rw [llv]; omega, by rw [llv]; omega, for_range (lo := 0) (n := (levL hs.length fun k => ((cc k : Nat) : Int)).length) (fun i σ H5 => ∃ v3 v4 v5 v6 : Option V, σ = [some (.ref F), some (.ref dl), some (.ref cl), v3, v4, v5, v6] ∧ Same H H5) ⟨none, none, none, none, rfl, Same.refl _⟩ ?_ ?_⟩
  · rintro k σ H5 hk ⟨v3, v4, v5, v6, rfl, s5⟩
    rw [llv] at hk
    have W5 := W.same s5
    have tk := W.cs.top k hk
    have lm := W.lm
    refine ⟨_, rfl, _, rfl, cl, _, _, _, rfl, rfl, SqL.of W5.hc, at0 (rg_at hk), _, rfl, (by dsimp only; omega), (by dsimp only; omega), fun D nD => lc_range (lo := 0) (n := (((cc k : Nat) : Int)).toNat) (fun i H6 => H6 D = some (.lst (((ms.take i).map fun m => gD m k).map V.int)) ∧ Same H5 H6) ⟨upd_same, same_new nD⟩ ?_ ?_⟩
    · rintro i H6 hi ⟨hD, s6⟩
      have il : i < ms.length := by omega
      obtain ⟨y, ey, tr, rfl, htr⟩ := W5.ald.get (List.getElem?_eq_getElem il)
      have lrow := W.ws.row ms[i] (List.getElem_mem il)
      refine ⟨rfl, yes_in ⟨_, rfl, _, rfl, dl, _, _, _, rfl, rfl, SqL.of (s6 _ _ W5.hd), at0 ey, _, rfl, tr, _, _, _, rfl, rfl, SqT.of (s6 _ _ htr), (show atI (ms[i].map V.int) (0 + ((k : Nat) : Int)) = some (.int (gD ms[i] k)) by rw [Int.zero_add]; exact at_row (by omega)), _, hD, by rw [List.length_map, List.length_map, List.length_take]; exact small1000 (by omega), ?_, Same.own s6 nD⟩⟩
      · rw [upd_same, List.take_add_one, List.getElem?_eq_getElem il, List.map_append, List.map_append]
        rfl
    rintro H6 ⟨hD, s6⟩
    rw [Int.toNat_natCast, ← W.cs.don k hk] at hD
    have W6 := W5.same s6
    obtain ⟨p, a6⟩ := W6.fa.b
    have ln : (cn (2, k)).length ≤ 100 := W.cs.len W.ok W.l6 W.lm W.rows (.inr (.inr ⟨rfl, hk⟩))
    refine ⟨_, rfl, F, p.dx, _, rfl, a6.hF, rfl, _, rfl, F, hs, bs, cn, tg, k, by rw [Int.zero_add]; rfl, W6.fa, hk, fun p1 H7 np1 hp1 s7 => ?_⟩
    refine ⟨_, rfl, _, rfl, _, _, rfl, Al.lst hp1 (s7 _ _ hD) (by rw [List.length_map]; omega) (Al.ints _), fun H8 s8 => ⟨_, rfl, if_bl (fun z => nomatch z) (fun _ => ?_)⟩⟩
    have hp8 := s8 _ _ hp1
    refine ⟨_, rfl, .inl ⟨rfl, _, SqL.of hp8⟩, p1, _, _, rfl, rfl, hp8, by rw [List.length_map]; exact small1000 (by omega), ?_⟩
    have np : H6 p1 = none := np1
    have s9 : Same H6 (upd H8 p1 (.lst ((cn (2, k)).map V.int ++ [V.int 9]))) := Same.own (s7.trans s8) np
    have hD9 := s9 _ _ hD
    generalize upd H8 p1 (.lst ((cn (2, k)).map V.int ++ [V.int 9])) = H9 at s9 hD9 ⊢
    have W9 := W6.same s9
    obtain ⟨p9, a9⟩ := W9.fa.b
    refine ⟨_, rfl, F, p9.dx, _, rfl, a9.hF, rfl, _, rfl, F, hs, bs, cn, tg, k, by rw [Int.zero_add]; rfl, W9.fa, hk, fun p2 H10 np2 hp2 s10 => ?_⟩
    refine ⟨_, rfl, _, _, rfl, Al.lst hp2 (s10 _ _ hD9) (by rw [List.length_map]; omega) (Al.ints _), fun H11 s11 => ⟨_, rfl, if_bl (fun z => nomatch z) (fun _ => ?_)⟩⟩
    exact ⟨_, _, _, _, rfl, (((s5.trans s6).trans s9).trans s10).trans s11⟩
  · rintro σ H5 ⟨v3, v4, v5, v6, rfl, s5⟩
    exact q H5 s5
end
theorem made_same {C p dx : Addr} {H H' : Hp} (np : H p = none) (ndx : H dx = none) (ne : dx ≠ p) (b : But p (upd (upd H dx (.own p)) p (.ins C dx [])) H') : Same H H' := fun x o e => by
  have xp : x ≠ p := ne_of_none e np
  have xd : x ≠ dx := ne_of_none e ndx
  exact b _ _ (by rw [upd_ne xp, upd_ne xd]; exact e) xp
theorem All2.takeN {α β : Type} {R : α → β → Prop} {xs : List α} {ys : List β} (a : All2 R xs ys) (n : Nat) : All2 R (xs.take n) (ys.take n) := by
  induction a generalizing n with
  | nil => rw [List.take_nil, List.take_nil]; exact .nil
  | cons h _ ih =>
    cases n with
    | zero => exact .nil
    | succ n => exact .cons h (ih n)
theorem All2.dropN {α β : Type} {R : α → β → Prop} {xs : List α} {ys : List β} (a : All2 R xs ys) (n : Nat) : All2 R (xs.drop n) (ys.drop n) := by
  induction a generalizing n with
  | nil => rw [List.drop_nil, List.drop_nil]; exact .nil
  | cons h t ih =>
    cases n with
    | zero => exact .cons h t
    | succ n => exact ih n
theorem All2.cat {α β : Type} {R : α → β → Prop} {xs xs' : List α} {ys ys' : List β} (a : All2 R xs ys) (b : All2 R xs' ys') : All2 R (xs ++ xs') (ys ++ ys') := by
  induction a with
  | nil => exact b
  | cons h _ ih => exact .cons h ih
theorem lev0 (n : Nat) : (List.replicate n [V.int 0]).flatten = levL n fun _ => (((0 : Nat) : Int)) := by
  induction n with
  | zero => rfl
  | succ n ih =>
    rw [List.replicate_succ', List.flatten_append, ih]
    unfold levL
    rw [List.range_succ, List.map_append]
    rfl
/-- what stands when the rows are drawn -/
structure D59 (H : Hp) (f c r rl dl : Addr) (hs : List HR) (bs : List BR) (rows rest ms : List (List Int)) (rv dv : List V) : Prop where
  fl : Flow H f c
  room : RoomAt H r hs bs
  ok : RoomOk hs bs
  l6 : ∀ b ∈ bs, b.th.length ≤ 6
  ws : WS hs bs (rows ++ rest) ms
  hr : H rl = some (.lst rv)
  alr : All2 (RowAt H) rv rows
  fit : ∀ x ∈ rows, x.length = (doorsOf "in" hs).length
  lr : rows.length ≤ 20
  le : rest.length = 9
  hd : H dl = some (.lst dv)
  ald : All2 (RowAt H) dv ms
  n1 : rl ≠ f
  n2 : dl ≠ f
theorem D59.same {H H' : Hp} {f c r rl dl : Addr} {hs : List HR} {bs : List BR} {rows rest ms : List (List Int)} {rv dv : List V} (d : D59 H f c r rl dl hs bs rows rest ms rv dv) (s : Same H H') : D59 H' f c r rl dl hs bs rows rest ms rv dv :=
  ⟨d.fl.same s, d.room.keep (TK.same s), d.ok, d.l6, d.ws, s _ _ d.hr, d.alr.imp fun _ _ z => z.keep (TK.same s), d.fit, d.lr, d.le, s _ _ d.hd, d.ald.imp fun _ _ z => z.keep (TK.same s), d.n1, d.n2⟩
theorem D59.but {H H' : Hp} {f c r rl dl : Addr} {hs : List HR} {bs : List BR} {rows rest ms : List (List Int)} {rv dv : List V} (d : D59 H f c r rl dl hs bs rows rest ms rv dv) (F : Flow H' f c) (b : But f H H') : D59 H' f c r rl dl hs bs rows rest ms rv dv :=
  ⟨F, d.room.keep (TK.but d.fl b), d.ok, d.l6, d.ws, b _ _ d.hr d.n1, d.alr.imp fun _ _ z => z.keep (TK.but d.fl b), d.fit, d.lr, d.le, b _ _ d.hd d.n2, d.ald.imp fun _ _ z => z.keep (TK.but d.fl b), d.n1, d.n2⟩
theorem Ot.tk {C : Addr} {tg : Addr → Option Sl} {f c cl F : Addr} {H H' : Hp} {hs : List HR} {bs : List BR} {cn : Sl → List Int} {xs : List V} (a : Ot tg f cl H H') (fa : FlAt C H F hs bs cn tg) (fl : Flow H f c) (hc : H cl = some (.lst xs)) : TK H H' := fun x zs e => by
  obtain ⟨p, b⟩ := fa.b
  obtain ⟨_, _, _, _, _, e1, _⟩ := fl
  exact a x _ e (b.own.tup e fun _ z => nomatch z) (ne_of e e1 fun z => nomatch z) (ne_of e hc fun z => nomatch z)
section
variable {P : Program} {w : World} {K : PySem.W.Frag} {mg : Str → Option Value} {base : Heap}
def sp_law (K : PySem.W.Frag) : Sp := fun vs H Q _ => ∃ (a : Addr) (ns : List Int), vs = [.ref a] ∧ SqL K H a (ns.map V.int) ∧ ns.length ≤ 63 ∧ ∀ H', Q (.bl true) H'
theorem ok_law {f : Addr} {fd : FuncData} (F : Fun K "law" "law" s_law f fd) {C : Addr} (T : Top K mg C) : FnOk P w K mg base CX0 8 f fd ["_law_script"] (sp_law K) := by
  obtain ⟨f_law_flow, fd_law_flow, F_law_flow, b_law_flow, m_law_flow⟩ := T.d_law_flow
  have G_law_flow := ok_law_flow (P := P) (w := w) (base := base) F_law_flow T
  obtain ⟨f_law_any_room, fd_law_any_room, F_law_any_room, b_law_any_room, m_law_any_room⟩ := T.d_law_any_room
  have G_law_any_room := ok_law_any_room (P := P) (w := w) (base := base) F_law_any_room T
  obtain ⟨f_law_pick, fd_law_pick, F_law_pick, b_law_pick, m_law_pick⟩ := T.d_law_pick
  have G_law_pick := ok_law_pick (P := P) (w := w) (base := base) F_law_pick T
  obtain ⟨f_law_rows, fd_law_rows, F_law_rows, b_law_rows, m_law_rows⟩ := T.d_law_rows
  have G_law_rows := ok_law_rows (P := P) (w := w) (base := base) F_law_rows T
  obtain ⟨f_law_worked, fd_law_worked, F_law_worked, b_law_worked, m_law_worked⟩ := T.d_law_worked
  have G_law_worked := ok_law_worked (P := P) (w := w) (base := base) F_law_worked T
  obtain ⟨f_Floor___init__, fd_Floor___init__, F_Floor___init__, b_Floor___init__, m_Floor___init__⟩ := T.d_Floor___init__
  have G_Floor___init__ := ok_Floor___init__ (P := P) (w := w) (base := base) F_Floor___init__ T
  obtain ⟨f_law_give_all, fd_law_give_all, F_law_give_all, b_law_give_all, m_law_give_all⟩ := T.d_law_give_all
  have G_law_give_all := ok_law_give_all (P := P) (w := w) (base := base) F_law_give_all T
  obtain ⟨f_law_room, fd_law_room, F_law_room, b_law_room, m_law_room⟩ := T.d_law_room
  have G_law_room := ok_law_room (P := P) (w := w) (base := base) F_law_room T
  obtain ⟨f_law_work_on, fd_law_work_on, F_law_work_on, b_law_work_on, m_law_work_on⟩ := T.d_law_work_on
  have G_law_work_on := ok_law_work_on (P := P) (w := w) (base := base) F_law_work_on T
  obtain ⟨f_law_all_made, fd_law_all_made, F_law_all_made, b_law_all_made, m_law_all_made⟩ := T.d_law_all_made
  have G_law_all_made := ok_law_all_made (P := P) (w := w) (base := base) F_law_all_made T
  refine F.ok sc_law (fun vs H Q E h => ?_) (fun cdv A outer s H vs Q E hr h => ?_)
  · obtain ⟨a, ns, rfl, _⟩ := h
    rfl
  obtain ⟨a, ns, rfl, hS, hlen, q⟩ := h
  let R1 : TS := fun D' σ' H' => D'.rt = Q ∧ ∃ (f c r : Addr) (g : Bool) (hs : List HR) (bs : List BR), σ' = [some (.ref a), some (.ref f), some (.bl g), some (.ref r), none, none, none, none, none, none] ∧ RoomAt H' r hs bs ∧ RoomOk hs bs ∧ (∀ b ∈ bs, b.th.length ≤ 6) ∧ Flow H' f c
  let R2 : TS := fun D' σ' H' => D'.rt = Q ∧ ∃ (f c r rl dl : Addr) (g : Bool) (hs : List HR) (bs : List BR) (rows rest ms : List (List Int)) (rv dv : List V) (n : Nat), σ' = [some (.ref a), some (.ref f), some (.bl g), some (.ref r), some (nV rows.length), some (.ref rl), some (.ref dl), some (nV n), none, none] ∧ D59 H' f c r rl dl hs bs rows rest ms rv dv ∧ n ≤ rows.length
  let R3 : TS := fun D' σ' H' => D'.rt = Q ∧ ∃ (f c r rl dl F cl : Addr) (g : Bool) (hs : List HR) (bs : List BR) (rows rest ms : List (List Int)) (rv dv : List V) (n : Nat) (cc : Nat → Nat) (cn : Sl → List Int) (tg : Addr → Option Sl), σ' = [some (.ref a), some (.ref f), some (.bl g), some (.ref r), some (nV rows.length), some (.ref rl), some (.ref dl), some (nV n), some (.ref F), some (.ref cl)] ∧ D59 H' f c r rl dl hs bs rows rest ms rv dv ∧ n ≤ rows.length ∧ W59 C H' f c F dl cl hs bs (rows ++ rest) ms dv n cc cn tg ∧ tg rl = none
  refine ⟨_, (pss_cons (ps_set (i := 1) sc_law.nd rfl (Or.inl rfl) (pe_call G_law_flow (hr.mono (by decide)) (by rfl) m_law_flow F_law_flow.kp b_law_flow .nil pass0 (pa_cons (pv 0) pa_nil)))
      (pss_cons (ps_set (i := 2) sc_law.nd rfl (Or.inl rfl) (pe_cmpR op_eq (pe_call G_law_pick (hr.mono (by decide)) (by rfl) m_law_pick F_law_pick.kp b_law_pick .nil pass0 (pa_cons (pv 1) (pa_cons pe_int pa_nil))) pe_int (nomark _)))
      (pss_cons (ps_set (i := 3) sc_law.nd rfl (Or.inl rfl) (pe_call G_law_any_room (hr.mono (by decide)) (by rfl) m_law_any_room F_law_any_room.kp b_law_any_room .nil pass0 (pa_cons (pv 1) pa_nil)))
      (pss_cons (ps_if (pt_val (pv 2)) (pss_one (ps_set (i := 3) sc_law.nd rfl (Or.inl rfl) (pe_call G_law_room (hr.mono (by decide)) (by rfl) m_law_room F_law_room.kp b_law_room .nil pass0 (pa_cons (pv 1) (pa_cons pe_int pa_nil))))) pss_nil)
      (PSs.to (pss_cons (ps_set (i := 4) sc_law.nd rfl (Or.inl rfl) (pe_call G_law_pick (hr.mono (by decide)) (by rfl) m_law_pick F_law_pick.kp b_law_pick .nil pass0 (pa_cons (pv 1) (pa_cons (pe_ix (ix_listK K rfl) (pe_lst (pa_cons pe_int (pa_cons pe_int pa_nil))) (pe_callTy call_int1 (by rfl) T.m_int (by decide +kernel) (pa_cons (pv 2) pa_nil)) (fun _ _ => rfl)) pa_nil))))
      (pss_cons (ps_set (i := 5) sc_law.nd rfl (Or.inl rfl) (pe_call G_law_rows (hr.mono (by decide)) (by rfl) m_law_rows F_law_rows.kp b_law_rows .nil pass0 (pa_cons (pv 1) (pa_cons (pv 3) (pa_cons (pv 4) pa_nil)))))
      (pss_cons (ps_set (i := 6) sc_law.nd rfl (Or.inl rfl) (pe_call G_law_worked (hr.mono (by decide)) (by rfl) m_law_worked F_law_worked.kp b_law_worked .nil pass0 (pa_cons (pv 3) (pa_cons (pe_op op_cat (pv 5) (pe_call G_law_rows (hr.mono (by decide)) (by rfl) m_law_rows F_law_rows.kp b_law_rows .nil pass0 (pa_cons (pv 1) (pa_cons (pv 3) (pa_cons pe_int pa_nil))))) pa_nil))))
      (pss_cons (ps_set (i := 7) sc_law.nd rfl (Or.inl rfl) (pe_call G_law_pick (hr.mono (by decide)) (by rfl) m_law_pick F_law_pick.kp b_law_pick .nil pass0 (pa_cons (pv 1) (pa_cons (pe_op op_add (pv 4) pe_int) pa_nil))))
      (PSs.to (pss_cons (ps_set (i := 8) sc_law.nd rfl (Or.inl rfl) (pe_make m_Floor___init__ G_Floor___init__ (hr.mono (by decide)) (by rfl) T.mgC b_Floor___init__ .nil pass0 (pa_cons (pv 3) pa_nil)))
      (pss_cons (ps_set (i := 9) sc_law.nd rfl (Or.inl rfl) (pe_op op_rep (pe_lst (pa_cons pe_int pa_nil)) (pe_callB (call_len_seqK K rfl) (by rfl) T.m_len (by decide +kernel) (pa_cons (pe_ix (ix_tupK K rfl) (pv 3) pe_int (fun _ _ => rfl)) pa_nil))))
      (pss_cons (ps_expr (pe_call G_law_give_all (hr.mono (by decide)) (by rfl) m_law_give_all F_law_give_all.kp b_law_give_all .nil pass0 (pa_cons (pv 8) (pa_cons (pv 3) (pa_cons (pe_slice (sl_listK K rfl) (pv 5) po_none (po_some (pv 7))) pa_nil)))))
      (pss_cons (ps_if (PW.pt (pw_or (pt_not (pt_val (pe_call G_law_work_on (hr.mono (by decide)) (by rfl) m_law_work_on F_law_work_on.kp b_law_work_on .nil pass0 (pa_cons (pv 1) (pa_cons (pv 8) (pa_cons (pv 6) (pa_cons (pv 9) (pa_cons (pe_call G_law_pick (hr.mono (by decide)) (by rfl) m_law_pick F_law_pick.kp b_law_pick .nil pass0 (pa_cons (pv 1) (pa_cons pe_int pa_nil))) pa_nil)))))))) (pw_or1 (pt_not (pt_val (pe_call G_law_all_made (hr.mono (by decide)) (by rfl) m_law_all_made F_law_all_made.kp b_law_all_made .nil pass0 (pa_cons (pv 8) (pa_cons (pv 6) (pa_cons (pv 9) pa_nil))))))))) (pss_one (ps_ret pe_bl)) pss_nil)
      (PSs.to (pss_cons (ps_expr (pe_call G_law_give_all (hr.mono (by decide)) (by rfl) m_law_give_all F_law_give_all.kp b_law_give_all .nil pass0 (pa_cons (pv 8) (pa_cons (pv 3) (pa_cons (pe_slice (sl_listK K rfl) (pv 5) (po_some (pv 7)) po_none) pa_nil)))))
      (pss_one (ps_ret (pe_and (pe_call G_law_work_on (hr.mono (by decide)) (by rfl) m_law_work_on F_law_work_on.kp b_law_work_on .nil pass0 (pa_cons (pv 1) (pa_cons (pv 8) (pa_cons (pv 6) (pa_cons (pv 9) (pa_cons (pe_ix (ix_listK K rfl) (pe_lst (pa_cons pe_int (pa_cons pe_int pa_nil))) (pe_callTy call_int1 (by rfl) T.m_int (by decide +kernel) (pa_cons (pv 2) pa_nil)) (fun _ _ => rfl)) pa_nil)))))) (pe_one (pe_call G_law_all_made (hr.mono (by decide)) (by rfl) m_law_all_made F_law_all_made.kp b_law_all_made .nil pass0 (pa_cons (pv 8) (pa_cons (pv 6) (pa_cons (pv 9) pa_nil))))))))) R3 ?tail3))))) R2 ?tail2))))) R1 ?tail1))))), ?_⟩
  case tail3 =>
    rintro D' σ' H1 ⟨eD, f, c, r, rl, dl, F, cl, g, hs, bs, rows, rest, ms, rv, dv, n, cc, cn, tg, rfl, d, ln, W, tr⟩
    have lrv := d.alr.length
    have lr := d.lr
    refine ⟨_, rfl, _, rfl, _, rfl, _, rfl, _, rfl, rl, rv, rfl, SqL.of d.hr, fun x1 nx1 => ?_⟩
    rw [cut_drop]
    have u4 := same_new (o := .lst (rv.drop n)) nx1
    have W2 := W.same u4
    obtain ⟨p3, a3⟩ := W.fa.b
    have tx1 : tg x1 = none := a3.own.free nx1
    refine ⟨F, r, x1, hs, bs, cn, tg, rv.drop n, rows.drop n, rfl, W2.fa, d.room.keep (TK.same u4), d.ok, upd_same, tx1, (All2.dropN d.alr n).imp fun _ _ z => RowAt.keep z (TK.same u4), fun x hx => d.fit x (List.mem_of_mem_drop hx), fun s vs => Nat.le_trans (W.cs.len W.ok W.l6 W.lm W.rows vs) (by decide), by rw [List.length_drop]; omega, fun H4 fa4 b4 => ?_⟩
    have g4 := W.cs.give (R := rows.drop n) (by rw [List.length_drop, List.length_append]; omega) (by rw [List.drop_append_of_le_length ln, List.take_left])
    obtain ⟨p4, a4⟩ := W2.fa.b
    have tk34 : TK _ H4 := b4.tk a4.own
    have W4 : W59 C H4 f c F dl cl hs bs (rows ++ rest) ms dv (n + (rows.drop n).length) cc (gvC hs cn (rows.drop n) (rows.drop n).length 0) tg := ⟨b4.flow W2.fl W.tf W.tc, fa4, d.ok, d.l6, d.ws, g4, W.lm, b4 _ _ W2.hd W.td, W2.ald.imp fun _ _ z => RowAt.keep z tk34, b4 _ _ W2.hc W.tl, W.tf, W.tc, W.td, W.tl, W.n1, W.n2, W.n3, W.n4⟩
    obtain ⟨mm, e1, e2, e3⟩ : ∃ mm : Int, atI [V.int 40, V.int 150] (if g = true then 1 else 0) = some (.int mm) ∧ 0 ≤ mm ∧ mm ≤ 200 := by
      cases g
      · exact ⟨40, rfl, by decide, by decide⟩
      · exact ⟨150, rfl, by decide, by decide⟩
    refine ⟨_, rfl, _, rfl, _, rfl, _, rfl, (by show 2 ≤ sizeLine; decide), fun p np => ⟨_, rfl, .inr ⟨g, rfl, p, _, _, _, rfl, rfl, SqL.of upd_same, e1, f, c, F, dl, cl, hs, bs, _, _, _, _, _, _, tg, mm, rfl, W4.same (same_new np), e2, e3, fun cc' cn' H6 W6 ot => ⟨_, rfl, if_bl (fun _ => ?_) (fun z => nomatch z)⟩⟩⟩⟩
    refine ⟨_, rfl, _, rfl, _, rfl, f, c, F, dl, cl, hs, bs, _, _, _, _, _, _, tg, rfl, W6, fun H7 s7 => ?_⟩
    rw [eD]
    exact q _
  case tail2 =>
    rintro D' σ' H1 ⟨eD, f, c, r, rl, dl, g, hs, bs, rows, rest, ms, rv, dv, n, rfl, d, ln⟩
    refine ⟨_, rfl, fun F dx nF ndx ne => ?_⟩
    have sm : ∀ b o, H1 b = some o → upd (upd H1 dx (.own F)) F (.ins C dx []) b = some o := fun b o e => by
      rw [upd_ne (ne_of_none e nF), upd_ne (ne_of_none e ndx)]; exact e
    refine ⟨F, r, dx, hs, bs, rfl, upd_same, d.room.keep (TK.same sm), d.ok, fun tg H2 fa2 old b2 => ⟨rfl, ?_⟩⟩
    have s2 := made_same nF ndx ne b2
    have d2 := d.same s2
    have free : ∀ b o, H1 b = some o → tg b = none := fun b o e => old b o (sm b o e)
    obtain ⟨_, _, _, _, _, ef, ec, _⟩ := d.fl
    have tf := free _ _ ef
    have tc := free _ _ ec
    have td := free _ _ d.hd
    have tr := free _ _ d.hr
    obtain ⟨ha, ba, hv, bv, er, eh, eb, alh, alb⟩ := d2.room.ex
    have lhv := alh.length
    have lh := d.ok.hands
    refine ⟨(by show 1 ≤ sizeLine; decide), fun l1 n1 => ?_⟩
    have u1 := same_new (o := .lst [V.int 0]) n1
    refine ⟨_, rfl, r, _, _, _, rfl, rfl, SqT.of (u1 _ _ er), atI_nat (j := 0) rfl, ha, _, rfl, .inr (SqT.of (u1 _ _ eh)), l1, _, _, rfl, rfl, upd_same, by omega, by omega, (by show 1 * ((hv.length : Nat) : Int).toNat ≤ sizeLine; exact little (by omega)), fun cl ncl => ?_⟩
    have u2 := same_new (o := .lst (List.replicate ((hv.length : Nat) : Int).toNat [V.int 0]).flatten) ncl
    have hcl : upd (upd H2 l1 (.lst [V.int 0])) cl (.lst (List.replicate ((hv.length : Nat) : Int).toNat [V.int 0]).flatten) cl = some (.lst (levL hs.length fun _ => (((0 : Nat) : Int)))) := by
      rw [upd_same, Int.toNat_natCast, lhv, lev0]
    have s3 := u1.trans u2
    have ncl2 : H2 cl = none := same_none u1 ncl
    generalize upd (upd H2 l1 (.lst [V.int 0])) cl (.lst (List.replicate ((hv.length : Nat) : Int).toNat [V.int 0]).flatten) = H3 at hcl s3
    have d3 := d2.same s3
    obtain ⟨p2, a2⟩ := fa2.b
    have tl : tg cl = none := a2.own.free ncl2
    have fa3 := fa2.kp (Kp.same s3)
    have nf : cl ≠ f := d2.fl.ne ncl2
    have nc : cl ≠ c := d2.fl.nec ncl2
    have nr : cl ≠ rl := (ne_of_none d2.hr ncl2).symm
    have nd : cl ≠ dl := (ne_of_none d2.hd ncl2).symm
    have lrv := d.alr.length
    refine ⟨_, rfl, _, rfl, _, rfl, _, rfl, _, rfl, rl, rv, rfl, SqL.of d3.hr, fun x1 nx1 => ?_⟩
    rw [cut_take]
    have u4 := same_new (o := .lst (rv.take n)) nx1
    obtain ⟨p3, a3⟩ := fa3.b
    have tx1 : tg x1 = none := a3.own.free nx1
    refine ⟨F, r, x1, hs, bs, cn0 bs, tg, rv.take n, rows.take n, rfl, fa3.kp (Kp.same u4), d3.room.keep (TK.same u4), d.ok, upd_same, tx1, (All2.takeN d3.alr n).imp fun _ _ z => RowAt.keep z (TK.same u4), fun x hx => d.fit x (List.mem_of_mem_take hx), fun s vs => ?_, by rw [List.length_take]; have := d.lr; omega, fun H4 fa4 b4 => ?_⟩
    · have := (Cn59.start (hs := hs) (bs := bs) (rows := rows ++ rest) (ms := ms)).len d.ok d.l6 (by rw [d.ws.len, List.length_append, d.le]; have := d.lr; omega) (by rw [List.length_append, d.le]; have := d.lr; omega) vs
      omega
    have g4 := (Cn59.start (hs := hs) (bs := bs) (rows := rows ++ rest) (ms := ms)).give (R := rows.take n) (by rw [List.length_take, List.length_append]; omega) (by rw [List.drop_zero, List.length_take, List.take_append_of_le_length (by omega), Nat.min_eq_left ln])
    rw [Nat.zero_add, List.length_take, Nat.min_eq_left ln] at g4
    rw [List.length_take, Nat.min_eq_left ln] at fa4
    have s34 : Bt tg H3 H4 := (Bt.refl.same u4).trans b4
    have tk34 : TK H3 H4 := s34.tk a3.own
    have lr := d.lr
    have W4 : W59 C H4 f c F dl cl hs bs (rows ++ rest) ms dv n (fun _ => 0) (gvC hs (cn0 bs) (rows.take n) n 0) tg := ⟨s34.flow d3.fl tf tc, fa4, d.ok, d.l6, d.ws, g4, by rw [d.ws.len, List.length_append, d.le]; omega, s34 _ _ d3.hd td, d3.ald.imp fun _ _ z => RowAt.keep z tk34, s34 _ _ hcl tl, tf, tc, td, tl, nf, nc, nd, d.n2⟩
    have d4 : D59 H4 f c r rl dl hs bs rows rest ms rv dv := ⟨W4.fl, d3.room.keep tk34, d.ok, d.l6, d.ws, s34 _ _ d3.hr tr, d3.alr.imp fun _ _ z => RowAt.keep z tk34, d.fit, d.lr, d.le, W4.hd, W4.ald, d.n1, d.n2⟩
    refine ⟨_, rfl, _, rfl, _, rfl, _, rfl, _, rfl, f, c, 41, rfl, by decide, by decide +kernel, W4.fl, fun v H5 v0 v1 F5 B5 => ?_⟩
    have W5 := W4.pick F5 B5
    have d5 := d4.but F5 B5
    refine ⟨f, c, F, dl, cl, hs, bs, _, _, _, _, _, _, tg, v, rfl, W5, v0, by omega, fun cc' cn' H6 W6 ot => ⟨_, rfl, if_bl (fun z => nomatch z) (fun _ => ?_)⟩⟩
    have tk56 := ot.tk W5.fa W5.fl W5.hc
    have d6 : D59 H6 f c r rl dl hs bs rows rest ms rv dv := ⟨W6.fl, d5.room.keep tk56, d.ok, d.l6, d.ws, ot _ _ d5.hr tr d.n1 nr.symm, d5.alr.imp fun _ _ z => RowAt.keep z tk56, d.fit, d.lr, d.le, W6.hd, W6.ald, d.n1, d.n2⟩
    refine ⟨_, rfl, _, rfl, _, rfl, f, c, F, dl, cl, hs, bs, _, _, _, _, _, _, tg, rfl, W6, fun H7 s7 => ⟨_, rfl, if_bl (fun z => nomatch z) (fun _ => ?_)⟩⟩
    exact ⟨eD, f, c, r, rl, dl, F, cl, g, hs, bs, rows, rest, ms, rv, dv, n, cc', cn', tg, rfl, d6.same s7, ln, W6.same s7, tr⟩
  case tail1 =>
    rintro D' σ' H1 ⟨eD, f, c, r, g, hs, bs, rfl, hR, ok, l6, F1⟩
    refine ⟨_, rfl, (by show 2 ≤ sizeLine; decide), fun p np => ?_⟩
    have F2 := F1.new (o := .lst [V.int 9, V.int 21]) np
    have R2' := hR.keep (TK.new (o := .lst [V.int 9, V.int 21]) np)
    have hp2 : upd H1 p (.lst [V.int 9, V.int 21]) p = some (.lst [V.int 9, V.int 21]) := upd_same
    generalize upd H1 p (.lst [V.int 9, V.int 21]) = H2 at F2 R2' hp2 ⊢
    obtain ⟨mm, e1, e2, e3, e4⟩ : ∃ mm : Int, atI [V.int 9, V.int 21] (if g = true then 1 else 0) = some (.int mm) ∧ 0 < mm ∧ mm ≤ 21 ∧ mm.natAbs.log2 < 9000 := by
      cases g
      · exact ⟨9, rfl, by decide, by decide, by decide +kernel⟩
      · exact ⟨21, rfl, by decide, by decide, by decide +kernel⟩
    refine ⟨_, rfl, .inr ⟨g, rfl, p, _, _, _, rfl, rfl, SqL.of hp2, e1, f, c, mm, rfl, e2, e4, F2, fun m H3 m0 m1 F3 B3 => ?_⟩⟩
    have R3' := R2'.keep (TK.but F2 B3)
    obtain ⟨m, rfl⟩ : ∃ j : Nat, m = ((j : Nat) : Int) := ⟨m.toNat, by omega⟩
    refine ⟨_, rfl, _, rfl, _, rfl, f, c, r, hs, bs, _, rfl, by omega, by omega, F3, R3', ok.hands, ok.good, fun rl rv rows H4 nrl hrl alr lrows fit F4 B4 => ?_⟩
    have R4' := R3'.keep (TK.but F3 B4)
    rw [Int.toNat_natCast] at lrows
    subst lrows
    have rlf : rl ≠ f := F3.ne nrl
    refine ⟨_, rfl, _, rfl, _, rfl, _, rfl, f, c, r, hs, bs, 9, rfl, by decide, by decide, F4, R4', ok.hands, ok.good, fun xl xv rest H5 nxl hxl alx lrest fit2 F5 B5 => ?_⟩
    have R5' := R4'.keep (TK.but F4 B5)
    have hrl5 := B5 _ _ hrl rlf
    have alr5 := alr.imp fun _ _ z => RowAt.keep z (TK.but F4 B5)
    have lrv := alr.length
    have lxv := alx.length
    have lrest : rest.length = 9 := lrest
    refine ⟨rl, xl, _, _, rfl, rfl, hrl5, hxl, little (by omega), fun al nal => ?_⟩
    have s6 := same_new (o := .lst (rv ++ xv)) nal
    refine ⟨r, al, hs, bs, rows ++ rest, rfl, R5'.keep (TK.same s6), ok, ⟨rv ++ xv, .inl upd_same, (All2.cat alr5 alx).imp fun _ _ z => RowAt.keep z (TK.same s6)⟩, ?_, by rw [List.length_append]; omega, fun dl dv ms H7 ndl hdl ald ws s7 => ?_⟩
    · intro x hx
      rcases List.mem_append.mp hx with h | h
      · exact (fit x h).1
      · exact (fit2 x h).1
    have F7 := (F5.same s6).same s7
    have d7 : D59 H7 f c r rl dl hs bs rows rest ms rv dv := ⟨F7, (R5'.keep (TK.same s6)).keep (TK.same s7), ok, l6, ws, s7 _ _ (s6 _ _ hrl5), alr5.imp fun _ _ z => RowAt.keep z ((TK.same s6).trans (TK.same s7)), fun x h => (fit x h).1, by omega, lrest, hdl, ald, rlf, (F5.same s6).ne ndl⟩
    refine ⟨_, rfl, _, rfl, _, _, rfl, rfl, f, c, _, rfl, by omega, by
      have := log_small (m := rows.length + 1) (by omega)
      rw [Int.natCast_add] at this
      exact this, F7, fun n H8 n0 n1 F8 B8 => ?_⟩
    obtain ⟨n, rfl⟩ : ∃ j : Nat, n = ((j : Nat) : Int) := ⟨n.toNat, by omega⟩
    exact ⟨eD, f, c, r, rl, dl, g, hs, bs, rows, rest, ms, rv, dv, n, rfl, d7.but F8 B8, by omega⟩
  refine ⟨_, rfl, a, ns, rfl, hS, fun f c H1 nf nc F1 s1 => ?_⟩
  refine ⟨_, rfl, f, c, 8, rfl, by decide, by decide +kernel, F1, fun v H2 v0 v1 F2 B2 => ?_⟩
  refine ⟨rfl, _, rfl, f, c, rfl, F2, fun r hs bs H3 hR ok l6 F3 B3 => ?_⟩
  refine ⟨_, rfl, _, rfl, if_bl (fun _ => ?_) (fun _ => ?_)⟩
  · refine ⟨_, rfl, f, c, 3, rfl, by decide, by decide, F3, fun r hs bs H4 hR ok _ l6 F4 B4 => ?_⟩
    exact ⟨rfl, f, c, r, _, hs, bs, rfl, hR, ok, l6, F4⟩
  · exact ⟨rfl, f, c, r, _, hs, bs, rfl, hR, ok, l6, F3⟩
end
set_option maxHeartbeats 0 in
theorem all_mk {l : PySem.W.OpenLaw} {w : World} {K : PySem.W.Frag} {h : Heap} {mg : Str → Option Value} {fa C f1 f2 f3 f4 f5 f6 f7 f8 f9 f10 f11 f12 f13 f14 f15 f16 f17 f18 f19 f20 f21 f22 f23 f24 f25 f26 f27 f28 f29 f30 : Addr} (X : K.In h) (G : h.Ns mainGlobals mg) (hfa : mg "law" = some (.ref fa))
    {od1 an1 od2 an2 od3 an3 od4 an4 od5 an5 od6 an6 od7 an7 od8 an8 od9 an9 od10 an10 od11 an11 od12 an12 od13 an13 od14 an14 od15 an15 od16 an16 od17 an17 od18 an18 od19 an19 od20 an20 od21 an21 od22 an22 od23 an23 od24 an24 od25 an25 od26 an26 od27 an27 od28 an28 od29 an29 od30 an30 : Option Addr} {sl1 sl2 sl3 sl4 sl5 sl6 sl7 sl8 sl9 sl10 sl11 sl12 sl13 sl14 sl15 sl16 sl17 sl18 sl19 sl20 sl21 sl22 sl23 sl24 sl25 sl26 sl27 sl28 sl29 sl30 : Array (Option Value)} {oc1 kV1 dc1 pm1 cd1 ct1 oc2 kV2 dc2 pm2 cd2 ct2 oc3 kV3 dc3 pm3 cd3 ct3 oc4 kV4 dc4 pm4 cd4 ct4 oc5 kV5 dc5 pm5 cd5 ct5 oc6 kV6 dc6 pm6 cd6 ct6 oc7 kV7 dc7 pm7 cd7 ct7 oc8 kV8 dc8 pm8 cd8 ct8 oc9 kV9 dc9 pm9 cd9 ct9 oc10 kV10 dc10 pm10 cd10 ct10 oc11 kV11 dc11 pm11 cd11 ct11 oc12 kV12 dc12 pm12 cd12 ct12 oc13 kV13 dc13 pm13 cd13 ct13 oc14 kV14 dc14 pm14 cd14 ct14 oc15 kV15 dc15 pm15 cd15 ct15 oc16 kV16 dc16 pm16 cd16 ct16 oc17 kV17 dc17 pm17 cd17 ct17 oc18 kV18 dc18 pm18 cd18 ct18 oc19 kV19 dc19 pm19 cd19 ct19 oc20 kV20 dc20 pm20 cd20 ct20 oc21 kV21 dc21 pm21 cd21 ct21 oc22 kV22 dc22 pm22 cd22 ct22 oc23 kV23 dc23 pm23 cd23 ct23 oc24 kV24 dc24 pm24 cd24 ct24 oc25 kV25 dc25 pm25 cd25 ct25 oc26 kV26 dc26 pm26 cd26 ct26 oc27 kV27 dc27 pm27 cd27 ct27 oc28 kV28 dc28 pm28 cd28 ct28 oc29 kV29 dc29 pm29 cd29 ct29 oc30 kV30 dc30 pm30 cd30 ct30 : Value}
    (aC : PySem.W.nsIn K mainGlobals "Floor" = some (some (.ref C))) (pg : PySem.W.plainGet K C Str.empty = true) (hd : PySem.W.hasDictIn K C = true) (po : PySem.W.plainOver K C = true) (sa : PySem.W.findIn K (.ref C) "__setattr__" = some (some (.builtin "object.__setattr__"))) (mk : PySem.W.makesIn K C = true) (kc : PySem.W.keepIn K (.ref C) = true)
    (nf_rules : PySem.W.findIn K (.ref C) "rules" = some none) (nf_given : PySem.W.findIn K (.ref C) "given" = some none) (nf_lying : PySem.W.findIn K (.ref C) "lying" = some none) (nf_coming : PySem.W.findIn K (.ref C) "coming" = some none) (nf_going : PySem.W.findIn K (.ref C) "going" = some none) (nf_done : PySem.W.findIn K (.ref C) "done" = some none)
    (a1 : PySem.W.nsIn K mainGlobals "made_by" = some (some (.ref f1))) (l1 : K.lookup f1 = some ⟨oc1, od1, .func (PySem.W.fnOf "made_by" "made_by" (defArgs s_made_by) (defBody s_made_by) (defScope s_made_by) .none kV1 dc1 pm1 an1 cd1 ct1), sl1⟩) (c1 : PySem.W.codeIn K cd1 "made_by" = true) (k1 : PySem.W.keepIn K (.ref f1) = true)
    (a2 : PySem.W.nsIn K mainGlobals "made_of_two" = some (some (.ref f2))) (l2 : K.lookup f2 = some ⟨oc2, od2, .func (PySem.W.fnOf "made_of_two" "made_of_two" (defArgs s_made_of_two) (defBody s_made_of_two) (defScope s_made_of_two) .none kV2 dc2 pm2 an2 cd2 ct2), sl2⟩) (c2 : PySem.W.codeIn K cd2 "made_of_two" = true) (k2 : PySem.W.keepIn K (.ref f2) = true)
    (a3 : PySem.W.nsIn K mainGlobals "comings" = some (some (.ref f3))) (l3 : K.lookup f3 = some ⟨oc3, od3, .func (PySem.W.fnOf "comings" "comings" (defArgs s_comings) (defBody s_comings) (defScope s_comings) .none kV3 dc3 pm3 an3 cd3 ct3), sl3⟩) (c3 : PySem.W.codeIn K cd3 "comings" = true) (k3 : PySem.W.keepIn K (.ref f3) = true)
    (a4 : PySem.W.nsIn K mainGlobals "goings" = some (some (.ref f4))) (l4 : K.lookup f4 = some ⟨oc4, od4, .func (PySem.W.fnOf "goings" "goings" (defArgs s_goings) (defBody s_goings) (defScope s_goings) .none kV4 dc4 pm4 an4 cd4 ct4), sl4⟩) (c4 : PySem.W.codeIn K cd4 "goings" = true) (k4 : PySem.W.keepIn K (.ref f4) = true)
    (a5 : PySem.W.findIn K (.ref C) "__init__" = some (some (.ref f5))) (i5 : PySem.W.isFn K (.ref f5) = true) (l5 : K.lookup f5 = some ⟨oc5, od5, .func (PySem.W.fnOf "__init__" "Floor.__init__" (defArgs s_Floor___init__) (defBody s_Floor___init__) (defScope s_Floor___init__) .none kV5 dc5 pm5 an5 cd5 ct5), sl5⟩) (c5 : PySem.W.codeIn K cd5 "Floor.__init__" = true) (k5 : PySem.W.keepIn K (.ref f5) = true)
    (a6 : PySem.W.findIn K (.ref C) "give" = some (some (.ref f6))) (i6 : PySem.W.isFn K (.ref f6) = true) (l6 : K.lookup f6 = some ⟨oc6, od6, .func (PySem.W.fnOf "give" "Floor.give" (defArgs s_Floor_give) (defBody s_Floor_give) (defScope s_Floor_give) .none kV6 dc6 pm6 an6 cd6 ct6), sl6⟩) (c6 : PySem.W.codeIn K cd6 "Floor.give" = true) (k6 : PySem.W.keepIn K (.ref f6) = true)
    (a7 : PySem.W.findIn K (.ref C) "ready" = some (some (.ref f7))) (i7 : PySem.W.isFn K (.ref f7) = true) (l7 : K.lookup f7 = some ⟨oc7, od7, .func (PySem.W.fnOf "ready" "Floor.ready" (defArgs s_Floor_ready) (defBody s_Floor_ready) (defScope s_Floor_ready) .none kV7 dc7 pm7 an7 cd7 ct7), sl7⟩) (c7 : PySem.W.codeIn K cd7 "Floor.ready" = true) (k7 : PySem.W.keepIn K (.ref f7) = true)
    (a8 : PySem.W.findIn K (.ref C) "work" = some (some (.ref f8))) (i8 : PySem.W.isFn K (.ref f8) = true) (l8 : K.lookup f8 = some ⟨oc8, od8, .func (PySem.W.fnOf "work" "Floor.work" (defArgs s_Floor_work) (defBody s_Floor_work) (defScope s_Floor_work) .none kV8 dc8 pm8 an8 cd8 ct8), sl8⟩) (c8 : PySem.W.codeIn K cd8 "Floor.work" = true) (k8 : PySem.W.keepIn K (.ref f8) = true)
    (a9 : PySem.W.findIn K (.ref C) "made" = some (some (.ref f9))) (i9 : PySem.W.isFn K (.ref f9) = true) (l9 : K.lookup f9 = some ⟨oc9, od9, .func (PySem.W.fnOf "made" "Floor.made" (defArgs s_Floor_made) (defBody s_Floor_made) (defScope s_Floor_made) .none kV9 dc9 pm9 an9 cd9 ct9), sl9⟩) (c9 : PySem.W.codeIn K cd9 "Floor.made" = true) (k9 : PySem.W.keepIn K (.ref f9) = true)
    (a10 : PySem.W.findIn K (.ref C) "can_work" = some (some (.ref f10))) (i10 : PySem.W.isFn K (.ref f10) = true) (l10 : K.lookup f10 = some ⟨oc10, od10, .func (PySem.W.fnOf "can_work" "Floor.can_work" (defArgs s_Floor_can_work) (defBody s_Floor_can_work) (defScope s_Floor_can_work) .none kV10 dc10 pm10 an10 cd10 ct10), sl10⟩) (c10 : PySem.W.codeIn K cd10 "Floor.can_work" = true) (k10 : PySem.W.keepIn K (.ref f10) = true)
    (a11 : PySem.W.findIn K (.ref C) "sources" = some (some (.ref f11))) (i11 : PySem.W.isFn K (.ref f11) = true) (l11 : K.lookup f11 = some ⟨oc11, od11, .func (PySem.W.fnOf "sources" "Floor.sources" (defArgs s_Floor_sources) (defBody s_Floor_sources) (defScope s_Floor_sources) .none kV11 dc11 pm11 an11 cd11 ct11), sl11⟩) (c11 : PySem.W.codeIn K cd11 "Floor.sources" = true) (k11 : PySem.W.keepIn K (.ref f11) = true)
    (a12 : PySem.W.nsIn K mainGlobals "_law_flow" = some (some (.ref f12))) (l12 : K.lookup f12 = some ⟨oc12, od12, .func (PySem.W.fnOf "_law_flow" "_law_flow" (defArgs s_law_flow) (defBody s_law_flow) (defScope s_law_flow) .none kV12 dc12 pm12 an12 cd12 ct12), sl12⟩) (c12 : PySem.W.codeIn K cd12 "_law_flow" = true) (k12 : PySem.W.keepIn K (.ref f12) = true)
    (a13 : PySem.W.nsIn K mainGlobals "_law_pick" = some (some (.ref f13))) (l13 : K.lookup f13 = some ⟨oc13, od13, .func (PySem.W.fnOf "_law_pick" "_law_pick" (defArgs s_law_pick) (defBody s_law_pick) (defScope s_law_pick) .none kV13 dc13 pm13 an13 cd13 ct13), sl13⟩) (c13 : PySem.W.codeIn K cd13 "_law_pick" = true) (k13 : PySem.W.keepIn K (.ref f13) = true)
    (a14 : PySem.W.nsIn K mainGlobals "_law_thing" = some (some (.ref f14))) (l14 : K.lookup f14 = some ⟨oc14, od14, .func (PySem.W.fnOf "_law_thing" "_law_thing" (defArgs s_law_thing) (defBody s_law_thing) (defScope s_law_thing) .none kV14 dc14 pm14 an14 cd14 ct14), sl14⟩) (c14 : PySem.W.codeIn K cd14 "_law_thing" = true) (k14 : PySem.W.keepIn K (.ref f14) = true)
    (a15 : PySem.W.nsIn K mainGlobals "_law_needs" = some (some (.ref f15))) (l15 : K.lookup f15 = some ⟨oc15, od15, .func (PySem.W.fnOf "_law_needs" "_law_needs" (defArgs s_law_needs) (defBody s_law_needs) (defScope s_law_needs) .none kV15 dc15 pm15 an15 cd15 ct15), sl15⟩) (c15 : PySem.W.codeIn K cd15 "_law_needs" = true) (k15 : PySem.W.keepIn K (.ref f15) = true)
    (a16 : PySem.W.nsIn K mainGlobals "_law_rule" = some (some (.ref f16))) (l16 : K.lookup f16 = some ⟨oc16, od16, .func (PySem.W.fnOf "_law_rule" "_law_rule" (defArgs s_law_rule) (defBody s_law_rule) (defScope s_law_rule) .none kV16 dc16 pm16 an16 cd16 ct16), sl16⟩) (c16 : PySem.W.codeIn K cd16 "_law_rule" = true) (k16 : PySem.W.keepIn K (.ref f16) = true)
    (a17 : PySem.W.nsIn K mainGlobals "_law_shuffled" = some (some (.ref f17))) (l17 : K.lookup f17 = some ⟨oc17, od17, .func (PySem.W.fnOf "_law_shuffled" "_law_shuffled" (defArgs s_law_shuffled) (defBody s_law_shuffled) (defScope s_law_shuffled) .none kV17 dc17 pm17 an17 cd17 ct17), sl17⟩) (c17 : PySem.W.codeIn K cd17 "_law_shuffled" = true) (k17 : PySem.W.keepIn K (.ref f17) = true)
    (a18 : PySem.W.nsIn K mainGlobals "_law_hands" = some (some (.ref f18))) (l18 : K.lookup f18 = some ⟨oc18, od18, .func (PySem.W.fnOf "_law_hands" "_law_hands" (defArgs s_law_hands) (defBody s_law_hands) (defScope s_law_hands) .none kV18 dc18 pm18 an18 cd18 ct18), sl18⟩) (c18 : PySem.W.codeIn K cd18 "_law_hands" = true) (k18 : PySem.W.keepIn K (.ref f18) = true)
    (a19 : PySem.W.nsIn K mainGlobals "_law_room" = some (some (.ref f19))) (l19 : K.lookup f19 = some ⟨oc19, od19, .func (PySem.W.fnOf "_law_room" "_law_room" (defArgs s_law_room) (defBody s_law_room) (defScope s_law_room) .none kV19 dc19 pm19 an19 cd19 ct19), sl19⟩) (c19 : PySem.W.codeIn K cd19 "_law_room" = true) (k19 : PySem.W.keepIn K (.ref f19) = true)
    (a20 : PySem.W.nsIn K mainGlobals "_law_rows" = some (some (.ref f20))) (l20 : K.lookup f20 = some ⟨oc20, od20, .func (PySem.W.fnOf "_law_rows" "_law_rows" (defArgs s_law_rows) (defBody s_law_rows) (defScope s_law_rows) .none kV20 dc20 pm20 an20 cd20 ct20), sl20⟩) (c20 : PySem.W.codeIn K cd20 "_law_rows" = true) (k20 : PySem.W.keepIn K (.ref f20) = true)
    (a21 : PySem.W.nsIn K mainGlobals "_law_made_by" = some (some (.ref f21))) (l21 : K.lookup f21 = some ⟨oc21, od21, .func (PySem.W.fnOf "_law_made_by" "_law_made_by" (defArgs s_law_made_by) (defBody s_law_made_by) (defScope s_law_made_by) .none kV21 dc21 pm21 an21 cd21 ct21), sl21⟩) (c21 : PySem.W.codeIn K cd21 "_law_made_by" = true) (k21 : PySem.W.keepIn K (.ref f21) = true)
    (a22 : PySem.W.nsIn K mainGlobals "_law_worked" = some (some (.ref f22))) (l22 : K.lookup f22 = some ⟨oc22, od22, .func (PySem.W.fnOf "_law_worked" "_law_worked" (defArgs s_law_worked) (defBody s_law_worked) (defScope s_law_worked) .none kV22 dc22 pm22 an22 cd22 ct22), sl22⟩) (c22 : PySem.W.codeIn K cd22 "_law_worked" = true) (k22 : PySem.W.keepIn K (.ref f22) = true)
    (a23 : PySem.W.nsIn K mainGlobals "_law_alike" = some (some (.ref f23))) (l23 : K.lookup f23 = some ⟨oc23, od23, .func (PySem.W.fnOf "_law_alike" "_law_alike" (defArgs s_law_alike) (defBody s_law_alike) (defScope s_law_alike) .none kV23 dc23 pm23 an23 cd23 ct23), sl23⟩) (c23 : PySem.W.codeIn K cd23 "_law_alike" = true) (k23 : PySem.W.keepIn K (.ref f23) = true)
    (a24 : PySem.W.nsIn K mainGlobals "_law_doors_room" = some (some (.ref f24))) (l24 : K.lookup f24 = some ⟨oc24, od24, .func (PySem.W.fnOf "_law_doors_room" "_law_doors_room" (defArgs s_law_doors_room) (defBody s_law_doors_room) (defScope s_law_doors_room) .none kV24 dc24 pm24 an24 cd24 ct24), sl24⟩) (c24 : PySem.W.codeIn K cd24 "_law_doors_room" = true) (k24 : PySem.W.keepIn K (.ref f24) = true)
    (a25 : PySem.W.nsIn K mainGlobals "_law_any_room" = some (some (.ref f25))) (l25 : K.lookup f25 = some ⟨oc25, od25, .func (PySem.W.fnOf "_law_any_room" "_law_any_room" (defArgs s_law_any_room) (defBody s_law_any_room) (defScope s_law_any_room) .none kV25 dc25 pm25 an25 cd25 ct25), sl25⟩) (c25 : PySem.W.codeIn K cd25 "_law_any_room" = true) (k25 : PySem.W.keepIn K (.ref f25) = true)
    (a26 : PySem.W.nsIn K mainGlobals "_law_doors" = some (some (.ref f26))) (l26 : K.lookup f26 = some ⟨oc26, od26, .func (PySem.W.fnOf "_law_doors" "_law_doors" (defArgs s_law_doors) (defBody s_law_doors) (defScope s_law_doors) .none kV26 dc26 pm26 an26 cd26 ct26), sl26⟩) (c26 : PySem.W.codeIn K cd26 "_law_doors" = true) (k26 : PySem.W.keepIn K (.ref f26) = true)
    (a27 : PySem.W.nsIn K mainGlobals "_law_give_all" = some (some (.ref f27))) (l27 : K.lookup f27 = some ⟨oc27, od27, .func (PySem.W.fnOf "_law_give_all" "_law_give_all" (defArgs s_law_give_all) (defBody s_law_give_all) (defScope s_law_give_all) .none kV27 dc27 pm27 an27 cd27 ct27), sl27⟩) (c27 : PySem.W.codeIn K cd27 "_law_give_all" = true) (k27 : PySem.W.keepIn K (.ref f27) = true)
    (a28 : PySem.W.nsIn K mainGlobals "_law_work_on" = some (some (.ref f28))) (l28 : K.lookup f28 = some ⟨oc28, od28, .func (PySem.W.fnOf "_law_work_on" "_law_work_on" (defArgs s_law_work_on) (defBody s_law_work_on) (defScope s_law_work_on) .none kV28 dc28 pm28 an28 cd28 ct28), sl28⟩) (c28 : PySem.W.codeIn K cd28 "_law_work_on" = true) (k28 : PySem.W.keepIn K (.ref f28) = true)
    (a29 : PySem.W.nsIn K mainGlobals "_law_all_made" = some (some (.ref f29))) (l29 : K.lookup f29 = some ⟨oc29, od29, .func (PySem.W.fnOf "_law_all_made" "_law_all_made" (defArgs s_law_all_made) (defBody s_law_all_made) (defScope s_law_all_made) .none kV29 dc29 pm29 an29 cd29 ct29), sl29⟩) (c29 : PySem.W.codeIn K cd29 "_law_all_made" = true) (k29 : PySem.W.keepIn K (.ref f29) = true)
    (a30 : PySem.W.nsIn K mainGlobals "law" = some (some (.ref f30))) (l30 : K.lookup f30 = some ⟨oc30, od30, .func (PySem.W.fnOf "law" "law" (defArgs s_law) (defBody s_law) (defScope s_law) .none kV30 dc30 pm30 an30 cd30 ct30), sl30⟩) (c30 : PySem.W.codeIn K cd30 "law" = true) (k30 : PySem.W.keepIn K (.ref f30) = true)
    (z1 : PySem.W.nsIn K mainGlobals "all" = some none)    (z2 : PySem.W.nsIn K mainGlobals "bool" = some none)    (z3 : PySem.W.nsIn K mainGlobals "dict" = some none)    (z4 : PySem.W.nsIn K mainGlobals "enumerate" = some none)    (z5 : PySem.W.nsIn K mainGlobals "int" = some none)    (z6 : PySem.W.nsIn K mainGlobals "isinstance" = some none)    (z7 : PySem.W.nsIn K mainGlobals "len" = some none)    (z8 : PySem.W.nsIn K mainGlobals "list" = some none)    (z9 : PySem.W.nsIn K mainGlobals "max" = some none)    (z10 : PySem.W.nsIn K mainGlobals "min" = some none)    (z11 : PySem.W.nsIn K mainGlobals "range" = some none)    (z12 : PySem.W.nsIn K mainGlobals "tuple" = some none)    (z13 : PySem.W.nsIn K mainGlobals "zip" = some none)
    {aI : Addr} {odI : Option Addr} {tI : Tok} {nI : Nat} {slI : Array (Option Value)} (gI : PySem.W.nsIn K mainGlobals "IN_RULE" = some (some (.ref aI)))
    (lI : K.lookup aI = some ⟨.type "tuple", odI, .seq #[.str "in" tI] nI, slI⟩) :
    ∃ fd : FuncData, (∀ (s : Shared) (v : Value), BindsTo s fd ⟨[v], []⟩ [("_law_script", v)]) ∧ ∀ base : Heap, K.In base → base.Ns mainGlobals mg → FnOk l.prog w K mg base CX0 8 fa fd ["_law_script"] (sp_law K) := by
  have e := hfa.symm.trans (PySem.W.mg_of X G a30)
  cases e
  have F1 := fun_mk (st := s_made_by) l1 c1 k1
  have b1 := F1.binds (ps := ["rule", "things"]) fun _ _ _ _ _ _ us hl => match us, hl with | [_, _], _ => rfl
  have F2 := fun_mk (st := s_made_of_two) l2 c2 k2
  have b2 := F2.binds (ps := ["word", "one", "other"]) fun _ _ _ _ _ _ us hl => match us, hl with | [_, _, _], _ => rfl
  have F3 := fun_mk (st := s_comings) l3 c3 k3
  have b3 := F3.binds (ps := ["room", "hand"]) fun _ _ _ _ _ _ us hl => match us, hl with | [_, _], _ => rfl
  have F4 := fun_mk (st := s_goings) l4 c4 k4
  have b4 := F4.binds (ps := ["room", "hand"]) fun _ _ _ _ _ _ us hl => match us, hl with | [_, _], _ => rfl
  have F5 := fun_mk (st := s_Floor___init__) l5 c5 k5
  have b5 := F5.binds (ps := ["self", "room"]) fun _ _ _ _ _ _ us hl => match us, hl with | [_, _], _ => rfl
  have F6 := fun_mk (st := s_Floor_give) l6 c6 k6
  have b6 := F6.binds (ps := ["self", "hand", "thing"]) fun _ _ _ _ _ _ us hl => match us, hl with | [_, _, _], _ => rfl
  have F7 := fun_mk (st := s_Floor_ready) l7 c7 k7
  have b7 := F7.binds (ps := ["self"]) fun _ _ _ _ _ _ us hl => match us, hl with | [_], _ => rfl
  have F8 := fun_mk (st := s_Floor_work) l8 c8 k8
  have b8 := F8.binds (ps := ["self", "hand"]) fun _ _ _ _ _ _ us hl => match us, hl with | [_, _], _ => rfl
  have F9 := fun_mk (st := s_Floor_made) l9 c9 k9
  have b9 := F9.binds (ps := ["self", "hand"]) fun _ _ _ _ _ _ us hl => match us, hl with | [_, _], _ => rfl
  have F10 := fun_mk (st := s_Floor_can_work) l10 c10 k10
  have b10 := F10.binds (ps := ["self", "hand"]) fun _ _ _ _ _ _ us hl => match us, hl with | [_, _], _ => rfl
  have F11 := fun_mk (st := s_Floor_sources) l11 c11 k11
  have b11 := F11.binds (ps := ["self", "hand"]) fun _ _ _ _ _ _ us hl => match us, hl with | [_, _], _ => rfl
  have F12 := fun_mk (st := s_law_flow) l12 c12 k12
  have b12 := F12.binds (ps := ["_law_script"]) fun _ _ _ _ _ _ us hl => match us, hl with | [_], _ => rfl
  have F13 := fun_mk (st := s_law_pick) l13 c13 k13
  have b13 := F13.binds (ps := ["_law_flow_here", "_law_many"]) fun _ _ _ _ _ _ us hl => match us, hl with | [_, _], _ => rfl
  have F14 := fun_mk (st := s_law_thing) l14 c14 k14
  have b14 := F14.binds (ps := ["_law_flow_here"]) fun _ _ _ _ _ _ us hl => match us, hl with | [_], _ => rfl
  have F15 := fun_mk (st := s_law_needs) l15 c15 k15
  have b15 := F15.binds (ps := ["_law_rule_here"]) fun _ _ _ _ _ _ us hl => match us, hl with | [_], _ => rfl
  have F16 := fun_mk (st := s_law_rule) l16 c16 k16
  have b16 := F16.binds (ps := ["_law_flow_here", "_law_most"]) fun _ _ _ _ _ _ us hl => match us, hl with | [_, _], _ => rfl
  have F17 := fun_mk (st := s_law_shuffled) l17 c17 k17
  have b17 := F17.binds (ps := ["_law_flow_here", "_law_some"]) fun _ _ _ _ _ _ us hl => match us, hl with | [_, _], _ => rfl
  have F18 := fun_mk (st := s_law_hands) l18 c18 k18
  have b18 := F18.binds (ps := ["_law_flow_here", "_law_many"]) fun _ _ _ _ _ _ us hl => match us, hl with | [_, _], _ => rfl
  have F19 := fun_mk (st := s_law_room) l19 c19 k19
  have b19 := F19.binds (ps := ["_law_flow_here", "_law_most"]) fun _ _ _ _ _ _ us hl => match us, hl with | [_, _], _ => rfl
  have F20 := fun_mk (st := s_law_rows) l20 c20 k20
  have b20 := F20.binds (ps := ["_law_flow_here", "_law_room_here", "_law_many"]) fun _ _ _ _ _ _ us hl => match us, hl with | [_, _, _], _ => rfl
  have F21 := fun_mk (st := s_law_made_by) l21 c21 k21
  have b21 := F21.binds (ps := ["_law_rule_here", "_law_things"]) fun _ _ _ _ _ _ us hl => match us, hl with | [_, _], _ => rfl
  have F22 := fun_mk (st := s_law_worked) l22 c22 k22
  have b22 := F22.binds (ps := ["_law_room_here", "_law_rows_here"]) fun _ _ _ _ _ _ us hl => match us, hl with | [_, _], _ => rfl
  have F23 := fun_mk (st := s_law_alike) l23 c23 k23
  have b23 := F23.binds (ps := ["_law_found", "_law_due"]) fun _ _ _ _ _ _ us hl => match us, hl with | [_, _], _ => rfl
  have F24 := fun_mk (st := s_law_doors_room) l24 c24 k24
  have b24 := F24.binds (ps := ["_law_flow_here"]) fun _ _ _ _ _ _ us hl => match us, hl with | [_], _ => rfl
  have F25 := fun_mk (st := s_law_any_room) l25 c25 k25
  have b25 := F25.binds (ps := ["_law_flow_here"]) fun _ _ _ _ _ _ us hl => match us, hl with | [_], _ => rfl
  have F26 := fun_mk (st := s_law_doors) l26 c26 k26
  have b26 := F26.binds (ps := ["_law_room_here", "_law_word"]) fun _ _ _ _ _ _ us hl => match us, hl with | [_, _], _ => rfl
  have F27 := fun_mk (st := s_law_give_all) l27 c27 k27
  have b27 := F27.binds (ps := ["_law_floor", "_law_room_here", "_law_rows_here"]) fun _ _ _ _ _ _ us hl => match us, hl with | [_, _, _], _ => rfl
  have F28 := fun_mk (st := s_law_work_on) l28 c28 k28
  have b28 := F28.binds (ps := ["_law_flow_here", "_law_floor", "_law_due", "_law_counts", "_law_turns"]) fun _ _ _ _ _ _ us hl => match us, hl with | [_, _, _, _, _], _ => rfl
  have F29 := fun_mk (st := s_law_all_made) l29 c29 k29
  have b29 := F29.binds (ps := ["_law_floor", "_law_due", "_law_counts"]) fun _ _ _ _ _ _ us hl => match us, hl with | [_, _, _], _ => rfl
  have F30 := fun_mk (st := s_law) l30 c30 k30
  have T : Top K mg C := ⟨⟨f1, _, F1, b1, PySem.W.mg_of X G a1⟩, ⟨f2, _, F2, b2, PySem.W.mg_of X G a2⟩, ⟨f3, _, F3, b3, PySem.W.mg_of X G a3⟩, ⟨f4, _, F4, b4, PySem.W.mg_of X G a4⟩, ⟨f5, _, F5, b5, ⟨mk, a5, i5, kc⟩⟩, ⟨f6, _, F6, b6, ⟨a6, i6, k6⟩⟩, ⟨f7, _, F7, b7, ⟨a7, i7, k7⟩⟩, ⟨f8, _, F8, b8, ⟨a8, i8, k8⟩⟩, ⟨f9, _, F9, b9, ⟨a9, i9, k9⟩⟩, ⟨f10, _, F10, b10, ⟨a10, i10, k10⟩⟩, ⟨f11, _, F11, b11, ⟨a11, i11, k11⟩⟩, ⟨f12, _, F12, b12, PySem.W.mg_of X G a12⟩, ⟨f13, _, F13, b13, PySem.W.mg_of X G a13⟩, ⟨f14, _, F14, b14, PySem.W.mg_of X G a14⟩, ⟨f15, _, F15, b15, PySem.W.mg_of X G a15⟩, ⟨f16, _, F16, b16, PySem.W.mg_of X G a16⟩, ⟨f17, _, F17, b17, PySem.W.mg_of X G a17⟩, ⟨f18, _, F18, b18, PySem.W.mg_of X G a18⟩, ⟨f19, _, F19, b19, PySem.W.mg_of X G a19⟩, ⟨f20, _, F20, b20, PySem.W.mg_of X G a20⟩, ⟨f21, _, F21, b21, PySem.W.mg_of X G a21⟩, ⟨f22, _, F22, b22, PySem.W.mg_of X G a22⟩, ⟨f23, _, F23, b23, PySem.W.mg_of X G a23⟩, ⟨f24, _, F24, b24, PySem.W.mg_of X G a24⟩, ⟨f25, _, F25, b25, PySem.W.mg_of X G a25⟩, ⟨f26, _, F26, b26, PySem.W.mg_of X G a26⟩, ⟨f27, _, F27, b27, PySem.W.mg_of X G a27⟩, ⟨f28, _, F28, b28, PySem.W.mg_of X G a28⟩, ⟨f29, _, F29, b29, PySem.W.mg_of X G a29⟩, PySem.W.mg_none_of X G z1, PySem.W.mg_none_of X G z2, PySem.W.mg_none_of X G z3, PySem.W.mg_none_of X G z4, PySem.W.mg_none_of X G z5, PySem.W.mg_none_of X G z6, PySem.W.mg_none_of X G z7, PySem.W.mg_none_of X G z8, PySem.W.mg_none_of X G z9, PySem.W.mg_none_of X G z10, PySem.W.mg_none_of X G z11, PySem.W.mg_none_of X G z12, PySem.W.mg_none_of X G z13, ⟨aI, PySem.W.mg_of X G gI, one_at lI⟩, ⟨pg, hd, po, sa⟩, PySem.W.mg_of X G aC, nf_rules, nf_given, nf_lying, nf_coming, nf_going, nf_done⟩
  exact ⟨PySem.W.fnOf "law" "law" (defArgs s_law) (defBody s_law) (defScope s_law) .none kV30 dc30 pm30 an30 cd30 ct30, fun s v => .of_eq rfl, fun base _ _ => ok_law F30 T⟩
end Mine
open PySem PySem.W PyProof.Rows
set_option maxRecDepth 100000 in
set_option maxHeartbeats 0 in
theorem PySem.Challenge.cw_beltshift_k59_whole_hands_work_in_any_or_holds : PySem.Challenge.rw_beltshift_k59_whole_hands_work_in_any_or.Holds := by
  w_on; o_law; k_head; (case hw => w_witness2)
  k_fill
  refine L2.walk_of (l := PySem.Challenge.rw_beltshift_k59_whole_hands_work_in_any_or) (n := 63) (k := 8) (x := "_law_script") (CX := fun _ => L2.CX0) (sp := fun w => Mine.sp_law _) rfl (by decide) rfl ⟨rfl, by decide, by decide⟩ (fun w h Y => PySem.W.kIn_of Y) ?F (fun _ _ a ns hl _ hS => ⟨a, ns, rfl, hS, hl, fun _ => rfl⟩) (fun _ _ _ _ _ h => h)
  case F =>
    intro w mg fa h KX G hmg
    refine' Mine.all_mk KX G hmg ?aC ?pg ?hd ?po ?sa ?mk ?kc ?nf_rules ?nf_given ?nf_lying ?nf_coming ?nf_going ?nf_done ?a1 ?l1 ?c1 ?k1 ?a2 ?l2 ?c2 ?k2 ?a3 ?l3 ?c3 ?k3 ?a4 ?l4 ?c4 ?k4 ?a5 ?i5 ?l5 ?c5 ?k5 ?a6 ?i6 ?l6 ?c6 ?k6 ?a7 ?i7 ?l7 ?c7 ?k7 ?a8 ?i8 ?l8 ?c8 ?k8 ?a9 ?i9 ?l9 ?c9 ?k9 ?a10 ?i10 ?l10 ?c10 ?k10 ?a11 ?i11 ?l11 ?c11 ?k11 ?a12 ?l12 ?c12 ?k12 ?a13 ?l13 ?c13 ?k13 ?a14 ?l14 ?c14 ?k14 ?a15 ?l15 ?c15 ?k15 ?a16 ?l16 ?c16 ?k16 ?a17 ?l17 ?c17 ?k17 ?a18 ?l18 ?c18 ?k18 ?a19 ?l19 ?c19 ?k19 ?a20 ?l20 ?c20 ?k20 ?a21 ?l21 ?c21 ?k21 ?a22 ?l22 ?c22 ?k22 ?a23 ?l23 ?c23 ?k23 ?a24 ?l24 ?c24 ?k24 ?a25 ?l25 ?c25 ?k25 ?a26 ?l26 ?c26 ?k26 ?a27 ?l27 ?c27 ?k27 ?a28 ?l28 ?c28 ?k28 ?a29 ?l29 ?c29 ?k29 ?a30 ?l30 ?c30 ?k30 ?z1 ?z2 ?z3 ?z4 ?z5 ?z6 ?z7 ?z8 ?z9 ?z10 ?z11 ?z12 ?z13 ?gI ?lI
    (case aC => k_is)
    (case pg => k_is)
    (case hd => k_is)
    (case po => k_is)
    (case sa => k_is)
    (case mk => k_is)
    (case kc => k_is)
    (case nf_rules => k_is)
    (case nf_given => k_is)
    (case nf_lying => k_is)
    (case nf_coming => k_is)
    (case nf_going => k_is)
    (case nf_done => k_is)
    (case a1 => k_is)
    (case l1 => k_is)
    (case c1 => k_is)
    (case k1 => k_is)
    (case a2 => k_is)
    (case l2 => k_is)
    (case c2 => k_is)
    (case k2 => k_is)
    (case a3 => k_is)
    (case l3 => k_is)
    (case c3 => k_is)
    (case k3 => k_is)
    (case a4 => k_is)
    (case l4 => k_is)
    (case c4 => k_is)
    (case k4 => k_is)
    (case a5 => k_is)
    (case i5 => k_is)
    (case l5 => k_is)
    (case c5 => k_is)
    (case k5 => k_is)
    (case a6 => k_is)
    (case i6 => k_is)
    (case l6 => k_is)
    (case c6 => k_is)
    (case k6 => k_is)
    (case a7 => k_is)
    (case i7 => k_is)
    (case l7 => k_is)
    (case c7 => k_is)
    (case k7 => k_is)
    (case a8 => k_is)
    (case i8 => k_is)
    (case l8 => k_is)
    (case c8 => k_is)
    (case k8 => k_is)
    (case a9 => k_is)
    (case i9 => k_is)
    (case l9 => k_is)
    (case c9 => k_is)
    (case k9 => k_is)
    (case a10 => k_is)
    (case i10 => k_is)
    (case l10 => k_is)
    (case c10 => k_is)
    (case k10 => k_is)
    (case a11 => k_is)
    (case i11 => k_is)
    (case l11 => k_is)
    (case c11 => k_is)
    (case k11 => k_is)
    (case a12 => k_is)
    (case l12 => k_is)
    (case c12 => k_is)
    (case k12 => k_is)
    (case a13 => k_is)
    (case l13 => k_is)
    (case c13 => k_is)
    (case k13 => k_is)
    (case a14 => k_is)
    (case l14 => k_is)
    (case c14 => k_is)
    (case k14 => k_is)
    (case a15 => k_is)
    (case l15 => k_is)
    (case c15 => k_is)
    (case k15 => k_is)
    (case a16 => k_is)
    (case l16 => k_is)
    (case c16 => k_is)
    (case k16 => k_is)
    (case a17 => k_is)
    (case l17 => k_is)
    (case c17 => k_is)
    (case k17 => k_is)
    (case a18 => k_is)
    (case l18 => k_is)
    (case c18 => k_is)
    (case k18 => k_is)
    (case a19 => k_is)
    (case l19 => k_is)
    (case c19 => k_is)
    (case k19 => k_is)
    (case a20 => k_is)
    (case l20 => k_is)
    (case c20 => k_is)
    (case k20 => k_is)
    (case a21 => k_is)
    (case l21 => k_is)
    (case c21 => k_is)
    (case k21 => k_is)
    (case a22 => k_is)
    (case l22 => k_is)
    (case c22 => k_is)
    (case k22 => k_is)
    (case a23 => k_is)
    (case l23 => k_is)
    (case c23 => k_is)
    (case k23 => k_is)
    (case a24 => k_is)
    (case l24 => k_is)
    (case c24 => k_is)
    (case k24 => k_is)
    (case a25 => k_is)
    (case l25 => k_is)
    (case c25 => k_is)
    (case k25 => k_is)
    (case a26 => k_is)
    (case l26 => k_is)
    (case c26 => k_is)
    (case k26 => k_is)
    (case a27 => k_is)
    (case l27 => k_is)
    (case c27 => k_is)
    (case k27 => k_is)
    (case a28 => k_is)
    (case l28 => k_is)
    (case c28 => k_is)
    (case k28 => k_is)
    (case a29 => k_is)
    (case l29 => k_is)
    (case c29 => k_is)
    (case k29 => k_is)
    (case a30 => k_is)
    (case l30 => k_is)
    (case c30 => k_is)
    (case k30 => k_is)
    (case z1 => k_is)
    (case z2 => k_is)
    (case z3 => k_is)
    (case z4 => k_is)
    (case z5 => k_is)
    (case z6 => k_is)
    (case z7 => k_is)
    (case z8 => k_is)
    (case z9 => k_is)
    (case z10 => k_is)
    (case z11 => k_is)
    (case z12 => k_is)
    (case z13 => k_is)
    (case gI => k_is)
    (case lI => k_is)

