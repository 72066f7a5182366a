import PyProof.Rows.All
import Wide.All
import OpenK.AllK
import Wide.FinOn
import HandS.ForMost
import HandS.Wide
import HandS.Style
import HandS.IsInst
import HandS.TupAny
import HandS.NoneIn
import HandS.SetFor
import HandS.Conv
import HandS.Zip
import HandS.SortKw
import HandS.Deep
import KE.DataMinMax
import KE.GoesMore
import KE.KDictZip
import KE.GoesZip
import KE.GoesEnum
import HandS.AnyAll
import HandS.Words
import HandS.EndTab
import HandS.HeadWalk
import HandS.Defaults
import HandS.Head0
import HandS.Head1
import HandS.Head2
import HandS.HeadEnd
import HandS.HeadHook1
import HandS.HeadHook2
import HandS.HeadHook3
import HandS.HeadHook4
import KE.KStateDown
import KE.KIsAll
import KE.KNestM
import PyProof.GenCompD
import PyProof.WalksMore
import PySem.Challenge.RW_beltshift_k32_shifts_looked_at
import HandS.ExcInit
import HandS.WordsExc
import HandS.ExcIs
import HandS.ExcField
import HandS.ExcOwn
set_option Elab.async false
set_option linter.all false
set_option maxRecDepth 100000
namespace Mine
open PySem PyProof.Rows L2
def topS (i : Nat) : Stmt := PySem.Challenge.pw_beltshift_k32_shifts_looked_at.main.body.getD i (.Pass ⟨0, 0, 0, 0⟩)
abbrev s_is_whole : Stmt := topS 10
abbrev N_is_whole : List Str := ["thing"]
theorem sc_is_whole : FnScope N_is_whole ["thing"] (defScope s_is_whole) := ⟨rfl, rfl, rfl, by decide +kernel, rfl, by decide +kernel, by decide +kernel⟩
abbrev s_doors_in : Stmt := topS 14
abbrev N_doors_in : List Str := ["room", "number", "hand"]
theorem sc_doors_in : FnScope N_doors_in ["room"] (defScope s_doors_in) := ⟨rfl, rfl, rfl, by decide +kernel, rfl, by decide +kernel, by decide +kernel⟩
abbrev s_doors_out : Stmt := topS 15
abbrev N_doors_out : List Str := ["room", "number", "hand"]
theorem sc_doors_out : FnScope N_doors_out ["room"] (defScope s_doors_out) := ⟨rfl, rfl, rfl, by decide +kernel, rfl, by decide +kernel, by decide +kernel⟩
abbrev s_look_shifts : Stmt := topS 17
abbrev N_look_shifts : List Str := ["room", "late", "shifts"]
theorem sc_look_shifts : FnScope N_look_shifts ["room", "late", "shifts"] (defScope s_look_shifts) := ⟨rfl, rfl, rfl, by decide +kernel, rfl, by decide +kernel, by decide +kernel⟩
abbrev s_refuse_shifts : Stmt := topS 18
abbrev N_refuse_shifts : List Str := ["word", "at"]
theorem sc_refuse_shifts : FnScope N_refuse_shifts ["word", "at"] (defScope s_refuse_shifts) := ⟨rfl, rfl, rfl, by decide +kernel, rfl, by decide +kernel, by decide +kernel⟩
abbrev s_is_shifts : Stmt := topS 19
abbrev N_is_shifts : List Str := ["room", "thing", "shift"]
theorem sc_is_shifts : FnScope N_is_shifts ["room", "thing"] (defScope s_is_shifts) := ⟨rfl, rfl, rfl, by decide +kernel, rfl, by decide +kernel, by decide +kernel⟩
abbrev s_wrong_door : Stmt := topS 20
abbrev N_wrong_door : List Str := ["room", "late", "shifts", "wrong", "door"]
theorem sc_wrong_door : FnScope N_wrong_door ["room", "late", "shifts"] (defScope s_wrong_door) := ⟨rfl, rfl, rfl, by decide +kernel, rfl, by decide +kernel, by decide +kernel⟩
abbrev s_short_belt : Stmt := topS 21
abbrev N_short_belt : List Str := ["room", "shifts", "number", "trays"]
theorem sc_short_belt : FnScope N_short_belt ["room", "shifts"] (defScope s_short_belt) := ⟨rfl, rfl, rfl, by decide +kernel, rfl, by decide +kernel, by decide +kernel⟩
abbrev s_trays_moved : Stmt := topS 22
abbrev N_trays_moved : List Str := ["room", "shifts", "giver", "taker", "things"]
theorem sc_trays_moved : FnScope N_trays_moved ["room", "shifts"] (defScope s_trays_moved) := ⟨rfl, rfl, rfl, by decide +kernel, rfl, by decide +kernel, by decide +kernel⟩
abbrev s_law_flow : Stmt := topS 24
abbrev N_law_flow : List Str := ["_law_script"]
theorem sc_law_flow : FnScope N_law_flow ["_law_script"] (defScope s_law_flow) := ⟨rfl, rfl, rfl, by decide +kernel, rfl, by decide +kernel, by decide +kernel⟩
abbrev s_law_pick : Stmt := topS 25
abbrev N_law_pick : List Str := ["_law_flow_here", "_law_many", "_law_cell", "_law_digit"]
theorem sc_law_pick : FnScope N_law_pick ["_law_flow_here", "_law_many"] (defScope s_law_pick) := ⟨rfl, rfl, rfl, by decide +kernel, rfl, by decide +kernel, by decide +kernel⟩
abbrev s_law_thing : Stmt := topS 26
abbrev N_law_thing : List Str := ["_law_flow_here"]
theorem sc_law_thing : FnScope N_law_thing ["_law_flow_here"] (defScope s_law_thing) := ⟨rfl, rfl, rfl, by decide +kernel, rfl, by decide +kernel, by decide +kernel⟩
abbrev s_law_needs : Stmt := topS 27
abbrev N_law_needs : List Str := ["_law_rule_here"]
theorem sc_law_needs : FnScope N_law_needs ["_law_rule_here"] (defScope s_law_needs) := ⟨rfl, rfl, rfl, by decide +kernel, rfl, by decide +kernel, by decide +kernel⟩
abbrev s_law_rule : Stmt := topS 28
abbrev N_law_rule : List Str := ["_law_flow_here", "_law_most", "_law_words", "_law_word"]
theorem sc_law_rule : FnScope N_law_rule ["_law_flow_here", "_law_most"] (defScope s_law_rule) := ⟨rfl, rfl, rfl, by decide +kernel, rfl, by decide +kernel, by decide +kernel⟩
abbrev s_law_shuffled : Stmt := topS 29
abbrev N_law_shuffled : List Str := ["_law_flow_here", "_law_some", "_law_left", "_law_k"]
theorem sc_law_shuffled : FnScope N_law_shuffled ["_law_flow_here", "_law_some"] (defScope s_law_shuffled) := ⟨rfl, rfl, rfl, by decide +kernel, rfl, by decide +kernel, by decide +kernel⟩
abbrev s_law_hands : Stmt := topS 30
abbrev N_law_hands : List Str := ["_law_flow_here", "_law_many", "_law_most", "_law_sorts", "_law_left", "_law_hands_here", "_law_k", "_law_sort", "_law_behind", "_law_other", "_law_rule_here"]
theorem sc_law_hands : FnScope N_law_hands ["_law_flow_here", "_law_many"] (defScope s_law_hands) := ⟨rfl, rfl, rfl, by decide +kernel, rfl, by decide +kernel, by decide +kernel⟩
abbrev s_law_room : Stmt := topS 31
abbrev N_law_room : List Str := ["_law_flow_here", "_law_most", "_law_hands_here", "_law_ranks", "_law_givers", "_law_k", "_law_takers", "_law_belts", "_law_to", "_law_one", "_law_trays_here"]
theorem sc_law_room : FnScope N_law_room ["_law_flow_here", "_law_most"] (defScope s_law_room) := ⟨rfl, rfl, rfl, by decide +kernel, rfl, by decide +kernel, by decide +kernel⟩
abbrev s_law_trays : Stmt := topS 32
abbrev N_law_trays : List Str := ["_law_room_here", "_law_shifts_here", "_law_one", "_law_to", "_law_things"]
theorem sc_law_trays : FnScope N_law_trays ["_law_room_here", "_law_shifts_here"] (defScope s_law_trays) := ⟨rfl, rfl, rfl, by decide +kernel, rfl, by decide +kernel, by decide +kernel⟩
abbrev s_law_shifts : Stmt := topS 33
abbrev N_law_shifts : List Str := ["_law_flow_here", "_law_room_here", "_law_late", "_law_many", "_law_hands_here", "_law_found", "_law_hand", "_law_free", "_law_k", "_law_turn", "_law_step", "_law_tried"]
theorem sc_law_shifts : FnScope N_law_shifts ["_law_flow_here", "_law_room_here", "_law_late", "_law_many"] (defScope s_law_shifts) := ⟨rfl, rfl, rfl, by decide +kernel, rfl, by decide +kernel, by decide +kernel⟩
abbrev s_law_whole : Stmt := topS 34
abbrev N_law_whole : List Str := ["_law_thing_here"]
theorem sc_law_whole : FnScope N_law_whole ["_law_thing_here"] (defScope s_law_whole) := ⟨rfl, rfl, rfl, by decide +kernel, rfl, by decide +kernel, by decide +kernel⟩
abbrev s_law_spoilt : Stmt := topS 35
abbrev N_law_spoilt : List Str := ["_law_flow_here", "_law_way", "_law_shifts_here", "_law_at", "_law_odd", "_law_other"]
theorem sc_law_spoilt : FnScope N_law_spoilt ["_law_flow_here", "_law_way", "_law_shifts_here"] (defScope s_law_spoilt) := ⟨rfl, rfl, rfl, by decide +kernel, rfl, by decide +kernel, by decide +kernel⟩
abbrev s_law_due : Stmt := topS 36
abbrev N_law_due : List Str := ["_law_room_here", "_law_late", "_law_shifts_here", "_law_hands_here", "_law_one", "_law_k", "_law_fewer", "_law_b", "_law_trays_here"]
theorem sc_law_due : FnScope N_law_due ["_law_room_here", "_law_late", "_law_shifts_here"] (defScope s_law_due) := ⟨rfl, rfl, rfl, by decide +kernel, rfl, by decide +kernel, by decide +kernel⟩
abbrev s_law_told : Stmt := topS 37
abbrev N_law_told : List Str := ["_law_room_here", "_law_late", "_law_shifts_here", "_law_found", "e"]
theorem sc_law_told : FnScope N_law_told ["_law_room_here", "_law_late", "_law_shifts_here"] (defScope s_law_told) := ⟨rfl, rfl, rfl, by decide +kernel, rfl, by decide +kernel, by decide +kernel⟩
abbrev s_law : Stmt := topS 38
abbrev N_law : List Str := ["_law_script", "_law_flow_here", "_law_ways", "_law_room_here", "_law_late", "_law_good", "_law_bad", "_law_way", "_law_shifts_here", "_law_due_here"]
theorem sc_law : FnScope N_law ["_law_script"] (defScope s_law) := ⟨rfl, rfl, rfl, by decide +kernel, rfl, by decide +kernel, by decide +kernel⟩

/-- a def of the text stands, binds and is bound -/
def Dd (K : PySem.W.Frag) (mg : Str → Option Value) (name : Str) (st : Stmt) (ps : List Str) : Prop :=
  ∃ (f : Addr) (fd : FuncData), Fun K name name st f fd ∧ Binds K fd ps [] ∧ mg name = some (.ref f)
/-! ### an own error with fields -/
abbrev s_NoShift_init : Stmt := inClass (topS 5) 0
abbrev N_NoShift_init : List Str := ["self", "word", "at"]
theorem sc_NoShift_init : FnScope N_NoShift_init ["self", "word", "at"] (defScope s_NoShift_init) := ⟨rfl, rfl, rfl, by decide +kernel, rfl, by decide +kernel, by decide +kernel⟩
structure NsC (K : PySem.W.Frag) (mg : Str → Option Value) (C CB fI : Addr) (fd : FuncData) : Prop where
  gC : mg "NoShift" = some (.ref C)
  gB : mg "BeltError" = some (.ref CB)
  T : OexC K C
  nw : PySem.W.findIn K (.ref C) "word" = some none
  na : PySem.W.findIn K (.ref C) "at" = some none
  iC : PySem.W.findIn K (.ref C) "__init__" = some (some (.ref fI))
  tI : PySem.W.typeIn K (.ref fI) = some (.type "function")
  F : Fun K "__init__" "NoShift.__init__" s_NoShift_init fI fd
  b : Binds K fd ["self", "word", "at"] []
  te : PySem.W.exmOne K (.ref C) (.ref CB) = some true
  xf : XfC K C
  is_ : ExcC K C
  k1 : PySem.W.kitOne K (.ref C) (.ref C) = some true
  k2 : PySem.W.kitOne K (.ref C) (.type "ValueError") = some true
  ko : PySem.W.kitAny K (.ref C) [.ref (He.ga K "NoText"), .ref (He.ga K "NoRoom"), .ref (He.ga K "NoFormula"), .ref (He.ga K "NotReady"), .ref (He.ga K "NoName"), .ref (He.ga K "NoRow")] = some false
structure Top (K : PySem.W.Frag) (mg : Str → Option Value) : Prop where
  d_is_whole : Dd K mg "is_whole" s_is_whole ["thing"]
  d_doors_in : Dd K mg "doors_in" s_doors_in ["room"]
  d_doors_out : Dd K mg "doors_out" s_doors_out ["room"]
  d_look_shifts : Dd K mg "look_shifts" s_look_shifts ["room", "late", "shifts"]
  d_refuse_shifts : Dd K mg "refuse_shifts" s_refuse_shifts ["word", "at"]
  d_is_shifts : Dd K mg "is_shifts" s_is_shifts ["room", "thing"]
  d_wrong_door : Dd K mg "wrong_door" s_wrong_door ["room", "late", "shifts"]
  d_short_belt : Dd K mg "short_belt" s_short_belt ["room", "shifts"]
  d_trays_moved : Dd K mg "trays_moved" s_trays_moved ["room", "shifts"]
  d_law_flow : Dd K mg "_law_flow" s_law_flow ["_law_script"]
  d_law_pick : Dd K mg "_law_pick" s_law_pick ["_law_flow_here", "_law_many"]
  d_law_thing : Dd K mg "_law_thing" s_law_thing ["_law_flow_here"]
  d_law_needs : Dd K mg "_law_needs" s_law_needs ["_law_rule_here"]
  d_law_rule : Dd K mg "_law_rule" s_law_rule ["_law_flow_here", "_law_most"]
  d_law_shuffled : Dd K mg "_law_shuffled" s_law_shuffled ["_law_flow_here", "_law_some"]
  d_law_hands : Dd K mg "_law_hands" s_law_hands ["_law_flow_here", "_law_many"]
  d_law_room : Dd K mg "_law_room" s_law_room ["_law_flow_here", "_law_most"]
  d_law_trays : Dd K mg "_law_trays" s_law_trays ["_law_room_here", "_law_shifts_here"]
  d_law_shifts : Dd K mg "_law_shifts" s_law_shifts ["_law_flow_here", "_law_room_here", "_law_late", "_law_many"]
  d_law_whole : Dd K mg "_law_whole" s_law_whole ["_law_thing_here"]
  d_law_spoilt : Dd K mg "_law_spoilt" s_law_spoilt ["_law_flow_here", "_law_way", "_law_shifts_here"]
  d_law_due : Dd K mg "_law_due" s_law_due ["_law_room_here", "_law_late", "_law_shifts_here"]
  d_law_told : Dd K mg "_law_told" s_law_told ["_law_room_here", "_law_late", "_law_shifts_here"]
  m_ValueError : mg "ValueError" = none
  m_abs : mg "abs" = none
  m_all : mg "all" = none
  m_bool : mg "bool" = none
  m_enumerate : mg "enumerate" = none
  m_int : mg "int" = none
  m_isinstance : mg "isinstance" = none
  m_len : mg "len" = none
  m_list : mg "list" = none
  m_max : mg "max" = none
  m_min : mg "min" = none
  m_range : mg "range" = none
  m_tuple : mg "tuple" = none
  x_in : ∃ aI : Addr, mg "IN_RULE" = some (.ref aI) ∧ ∀ H : Hp, SqT K H aI [.str "in"]
  x_out : ∃ aO : Addr, mg "OUT_RULE" = some (.ref aO) ∧ ∀ H : Hp, SqT K H aO [.str "out"]
  x_ns : ∃ fd : FuncData, NsC K mg (He.ga K "NoShift") (He.ga K "BeltError") (He.fAd K ("NoShift", some "__init__")) fd
  x_NoText : mg "NoText" = some (.ref (He.ga K "NoText"))
  x_NoRoom : mg "NoRoom" = some (.ref (He.ga K "NoRoom"))
  x_NoFormula : mg "NoFormula" = some (.ref (He.ga K "NoFormula"))
  x_NotReady : mg "NotReady" = some (.ref (He.ga K "NotReady"))
  x_NoName : mg "NoName" = some (.ref (He.ga K "NoName"))
  x_NoRow : mg "NoRow" = some (.ref (He.ga K "NoRow"))

/-! ### heaps -/
def But (f : Addr) (H H' : Hp) : Prop := ∀ b o, H b = some o → b ≠ f → H' b = some o
theorem But.refl {f : Addr} {H : Hp} : But f H H := fun _ _ e _ => e
theorem But.trans {f : Addr} {H H1 H2 : Hp} (a : But f H H1) (b : But f H1 H2) : But f H H2 := fun x o e n => b x o (a x o e n) n
theorem But.upd {f : Addr} {H H1 : Hp} {o : HO} (a : But f H H1) : But f H (upd H1 f o) := fun x u e n => by rw [upd_ne n]; exact a x u e n
theorem But.new {f p : Addr} {H H1 : Hp} {o : HO} (a : But f H H1) (h : H1 p = none) : But f H (L2.upd H1 p o) := fun x u e n => by
  have e1 := a x u e n
  rw [upd_ne (ne_of_none e1 h)]
  exact e1
theorem same_new {H : Hp} {p : Addr} {o : HO} (h : H p = none) : Same H (upd H p o) := fun b u q => by rw [upd_ne (ne_of_none q h)]; exact q
theorem But.same {f : Addr} {H H1 H2 : Hp} (a : But f H H1) (b : Same H1 H2) : But f H H2 := fun x o e n => b x o (a x o e n)
theorem But.seqT {K : PySem.W.Frag} {f a : Addr} {H H1 : Hp} {xs : List V} (b : But f H H1) (h : SqT K H a xs) (n : a ≠ f) : SqT K H1 a xs := by
  rcases h with h | h
  · left
    rcases h with h | ⟨o, h⟩
    · exact .inl (b _ _ h n)
    · exact .inr ⟨o, b _ _ h n⟩
  · exact .inr h
/-- a comprehension without a test -/
theorem yes_in {σ : L2.St} {H : Hp} {A B : Hp → Prop} (h : A H) : tYes σ H (fun b H3 => if b = true then A H3 else B H3) := by
  show (if true = true then A H else B H)
  rw [if_pos rfl]
  exact h
/-! ### the draw -/
/-- the list of the law's draws at f, the script's copy at c -/
def Flow (H : Hp) (f c : Addr) : Prop := ∃ (ns : List Int) (i p q r : Int), H f = some (.lst [.ref c, .int i, .int p, .int q, .int r]) ∧ H c = some (.lst (ns.map V.int)) ∧ 0 ≤ i ∧ 0 ≤ p ∧ 0 ≤ q ∧ q < 2147483647
theorem Flow.new {H : Hp} {f c p : Addr} {o : HO} (h : Flow H f c) (n : H p = none) : Flow (upd H p o) f c := by
  obtain ⟨ns, i, a, q, r, e1, e2, e⟩ := h
  exact ⟨ns, i, a, q, r, same_new n _ _ e1, same_new n _ _ e2, e⟩
theorem Flow.ne {H : Hp} {f c p : Addr} (h : Flow H f c) (n : H p = none) : p ≠ f := by
  obtain ⟨ns, i, a, q, r, e1, _⟩ := h
  exact fun e => by rw [e, e1] at n; cases n
theorem Flow.nec {H : Hp} {f c p : Addr} (h : Flow H f c) (n : H p = none) : p ≠ c := by
  obtain ⟨ns, i, a, q, r, _, e1, _⟩ := h
  exact fun e => by rw [e, e1] at n; cases n
theorem Flow.lst {H : Hp} {f c p : Addr} {o : HO} (h : Flow H f c) (n1 : p ≠ f) (n2 : p ≠ c) : Flow (upd H p o) f c := by
  obtain ⟨ns, i, a, q, r, e1, e2, e⟩ := h
  exact ⟨ns, i, a, q, r, by rw [upd_ne n1.symm]; exact e1, by rw [upd_ne n2.symm]; exact e2, e⟩
theorem Flow.same {H H' : Hp} {f c : Addr} (h : Flow H f c) (s : Same H H') : Flow H' f c := by
  obtain ⟨ns, i, a, q, r, e1, e2, e⟩ := h
  exact ⟨ns, i, a, q, r, s _ _ e1, s _ _ e2, e⟩
theorem Flow.tup {H : Hp} {f c p : Addr} {xs : List V} (h : Flow H f c) (e : H p = some (.tup xs)) : p ≠ f := by
  obtain ⟨ns, i, a, q, r, e1, _⟩ := h
  exact ne_of e e1 (by intro z; cases z)
theorem at_ints {ns : List Int} {i : Int} (h0 : 0 ≤ i) (h1 : i < (ns.length : Int)) : ∃ v : Int, atI (ns.map V.int) i = some (.int v) := by
  have hk : i.toNat < ns.length := by omega
  have ek : i = ((i.toNat : Nat) : Int) := by omega
  have q : atI (ns.map V.int) ((i.toNat : Nat) : Int) = some (.int ns[i.toNat]) := atI_nat (by rw [List.getElem?_map, List.getElem?_eq_getElem hk]; rfl)
  rw [← ek] at q
  exact ⟨_, q⟩
/-- a block by less than it asks -/
theorem PSs.to {X : Cx} {ss : List Stmt} {t : TS} (h : PSs X ss t) (u : TS) (k : ∀ D σ H, u D σ H → t D σ H) : PSs X ss u := ⟨fun pins s σ H D I q => h.run pins s σ H D I (k D σ H q)⟩
theorem if_bl {b : Bool} {A B : Prop} (h1 : b = true → A) (h2 : b = false → B) : if b = true then A else B := by
  cases b
  · rw [if_neg Bool.false_ne_true]; exact h2 rfl
  · rw [if_pos rfl]; exact h1 rfl
/-! ### lists, two by two -/
inductive All2 {α β : Type} (R : α → β → Prop) : List α → List β → Prop
  | nil : All2 R [] []
  | cons {a b as bs} : R a b → All2 R as bs → All2 R (a :: as) (b :: bs)
theorem All2.imp {α β : Type} {R S : α → β → Prop} (h : ∀ a b, R a b → S a b) : ∀ {as bs}, All2 R as bs → All2 S as bs
  | _, _, .nil => .nil
  | _, _, .cons a b => .cons (h _ _ a) (All2.imp h b)
theorem All2.length {α β : Type} {R : α → β → Prop} : ∀ {as bs}, All2 R as bs → as.length = bs.length
  | _, _, .nil => rfl
  | _, _, .cons _ b => congrArg (· + 1) (All2.length b)
theorem All2.snoc {α β : Type} {R : α → β → Prop} {a b} (r : R a b) : ∀ {as bs}, All2 R as bs → All2 R (as ++ [a]) (bs ++ [b])
  | _, _, .nil => .cons r .nil
  | _, _, .cons h t => .cons h (All2.snoc r t)
theorem All2.get {α β : Type} {R : α → β → Prop} {as : List α} {bs : List β} (h : All2 R as bs) : ∀ {i : Nat} {b : β}, bs[i]? = some b → ∃ a, as[i]? = some a ∧ R a b := by
  induction h with
  | nil => intro i b e; cases e
  | cons r t ih =>
    intro i b e
    cases i with
    | zero => cases e; exact ⟨_, rfl, r⟩
    | succ i => exact ih e
theorem All2.getL {α β : Type} {R : α → β → Prop} {as : List α} {bs : List β} (h : All2 R as bs) : ∀ {i : Nat} {a : α}, as[i]? = some a → ∃ b, bs[i]? = some b ∧ R a b := by
  induction h with
  | nil => intro i b e; cases e
  | cons r t ih =>
    intro i b e
    cases i with
    | zero => cases e; exact ⟨_, rfl, r⟩
    | succ i => exact ih e
/-! ### tuples stay -/
def TK (H H' : Hp) : Prop := ∀ b xs, H b = some (.tup xs) → H' b = some (.tup xs)
theorem TK.refl {H : Hp} : TK H H := fun _ _ e => e
theorem TK.trans {H H1 H2 : Hp} (a : TK H H1) (b : TK H1 H2) : TK H H2 := fun x xs e => b x xs (a x xs e)
theorem TK.same {H H' : Hp} (s : Same H H') : TK H H' := fun x xs e => s _ _ e
theorem TK.new {H : Hp} {p : Addr} {o : HO} (n : H p = none) : TK H (upd H p o) := fun x xs e => same_new n _ _ e
theorem TK.lst {H : Hp} {p : Addr} {xs ys : List V} (h : H p = some (.lst xs)) : TK H (upd H p (.lst ys)) := fun x zs e => by
  rw [upd_ne (ne_of e h (by intro z; cases z))]
  exact e
theorem TK.but {H H' : Hp} {f c : Addr} (F : Flow H f c) (b : But f H H') : TK H H' := fun x xs e => b _ _ e (F.tup e)
theorem same_none {H H' : Hp} {p : Addr} (s : Same H H') (n : H' p = none) : H p = none := by
  cases e : H p with
  | none => rfl
  | some o => rw [s _ _ e] at n; cases n
theorem But.none {f p : Addr} {H H' : Hp} (b : But f H H') (n : H' p = Option.none) (h : p ≠ f) : H p = Option.none := by
  cases e : H p with
  | none => rfl
  | some o => rw [b _ _ e h] at n; cases n
theorem But.of {f : Addr} {H H' : Hp} (s : Same H H') : But f H H' := fun _ _ e _ => s _ _ e
/-- a list that was not there is written: what was stays -/
theorem But.own {f p : Addr} {H H1 : Hp} {o : HO} (a : But f H H1) (h : H p = Option.none) : But f H (L2.upd H1 p o) := fun x u e n => by
  rw [upd_ne (ne_of_none e h)]
  exact a x u e n
theorem Same.own {p : Addr} {H H1 : Hp} {o : HO} (a : Same H H1) (h : H p = Option.none) : Same H (L2.upd H1 p o) := fun x u e => by
  rw [upd_ne (ne_of_none e h)]
  exact a x u e
/-! ### loops over any iterator -/
theorem for_it {J : It} {n : Nat} {g : TG} {tb : TS} {D : Ends} {σ : L2.St} {H : Hp} (Pv : Nat → L2.St → Hp → Prop) (h0 : Pv 0 σ H) (go : ∀ i σ H, i < n → Pv i σ H → J.go i H) (st : ∀ σ H, Pv n σ H → J.stop n H)
    (hs : ∀ i x σ H H', i < n → Pv i σ H → J.yld i H x H' → g x σ H' fun σ2 H2 => tb { D with nx := Pv (i + 1), ct := Pv (i + 1), bk := D.nx } σ2 H2) (hd : ∀ σ H, Pv n σ H → D.nx σ H) :
    ∃ W : Nat → Nat → L2.St → Hp → Prop, (∃ m, W 0 m σ H) ∧ ∀ i m σ H, W i m σ H →
      (J.stop i H ∧ D.nx σ H) ∨ (J.go i H ∧ ∃ N : L2.St → Hp → Prop, (∀ σ' H', N σ' H' → ∃ m', m' < m ∧ W (i + 1) m' σ' H') ∧ ∀ x H', J.yld i H x H' → g x σ H' fun σ2 H2 => tb { D with nx := N, ct := N, bk := D.nx } σ2 H2) := by
  refine ⟨fun i m σ H => i + m = n ∧ Pv i σ H, ⟨n, by omega, h0⟩, fun i m σ H ⟨e, p⟩ => ?_⟩
  by_cases k : i < n
  · exact .inr ⟨go i σ H k p, Pv (i + 1), fun σ' H' p' => ⟨m - 1, by omega, by omega, p'⟩, fun x H' y => hs i x σ H H' k p y⟩
  · have z : i = n := by omega
    subst z
    exact .inl ⟨st σ H p, hd σ H p⟩
theorem lc_it {J : It} {n : Nat} {g : TG} {tt : TT} {te : TE} {vs : List Nat} {σ : L2.St} {H1 : Hp} {D : Addr} {Qd : Hp → Prop} (Pv : Nat → Hp → Prop) (h0 : Pv 0 (upd H1 D (.lst []))) (go : ∀ i H, i < n → Pv i H → J.go i H) (st : ∀ H, Pv n H → J.stop n H)
    (hs : ∀ i x H H', i < n → Pv i H → J.yld i H x H' → g x (wipe σ vs) H' fun σ2 H2 => wipe σ2 vs = wipe σ vs ∧ tt σ2 H2 fun b H3 =>
      if b = true then te σ2 H3 fun y H4 => ∃ acc, H4 D = some (.lst acc) ∧ acc.length < sizeLine ∧ Pv (i + 1) (upd H4 D (.lst (acc ++ [y]))) else Pv (i + 1) H3) (hd : ∀ H, Pv n H → Qd H) :
    ∃ W : Nat → Nat → Hp → Prop, (∃ m, W 0 m (upd H1 D (.lst []))) ∧ ∀ i m H, W i m H →
      (J.stop i H ∧ Qd H) ∨ (J.go i H ∧ ∃ Nx : Hp → Prop, (∀ H', Nx H' → ∃ m', m' < m ∧ W (i + 1) m' H') ∧ ∀ x H', J.yld i H x H' → g x (wipe σ vs) H' fun σ2 H2 => wipe σ2 vs = wipe σ vs ∧ tt σ2 H2 fun b H3 =>
        if b = true then te σ2 H3 fun y H4 => ∃ acc, H4 D = some (.lst acc) ∧ acc.length < sizeLine ∧ Nx (upd H4 D (.lst (acc ++ [y]))) else Nx H3) := by
  refine ⟨fun i m H => i + m = n ∧ Pv i H, ⟨n, by omega, h0⟩, fun i m H ⟨e, p⟩ => ?_⟩
  by_cases k : i < n
  · exact .inr ⟨go i H k p, Pv (i + 1), fun H' p' => ⟨m - 1, by omega, by omega, p'⟩, fun x H' y => hs i x H H' k p y⟩
  · have z : i = n := by omega
    subst z
    exact .inl ⟨st H p, hd H p⟩
/-! ### tests -/
theorem if_str {x z : Str} {A B : Prop} (h1 : x = z → A) (h2 : x ≠ z → B) : if decide (V.str x = V.str z) = true then A else B :=
  if_bl (fun e => h1 (V.str.inj (of_decide_eq_true e))) (fun e => h2 (fun q => of_decide_eq_false e (congrArg V.str q)))
theorem inV_strs {x : Str} {zs : List Str} : inV (.str x) (zs.map V.str) = true ↔ x ∈ zs := by
  unfold inV
  induction zs with
  | nil => simp
  | cons z zs ih =>
    rw [List.map_cons, List.any_cons, Bool.or_eq_true, ih, List.mem_cons]
    constructor
    · rintro (h | h)
      · exact .inl (by simpa [eqV] using (show (z == x) = true from h) |> fun k => (eq_of_beq k).symm)
      · exact .inr h
    · rintro (h | h)
      · exact .inl (show (z == x) = true by rw [h]; exact beq_self_eq_true z)
      · exact .inr h
theorem if_in {x : Str} {zs : List Str} {A B : Prop} (h1 : x ∈ zs → A) (h2 : x ∉ zs → B) : if (if false = true then !inV (.str x) (zs.map V.str) else inV (.str x) (zs.map V.str)) = true then A else B := by
  have e : (if false = true then !inV (.str x) (zs.map V.str) else inV (.str x) (zs.map V.str)) = inV (.str x) (zs.map V.str) := if_neg Bool.false_ne_true
  rw [e]
  exact if_bl (fun c => h1 (inV_strs.mp c)) (fun c => h2 (fun k => by rw [inV_strs.mpr k] at c; cases c))
theorem same_seqT {K : PySem.W.Frag} {a : Addr} {H H1 : Hp} {xs : List V} (b : Same H H1) (h : SqT K H a xs) : SqT K H1 a xs := by
  rcases h with h | h
  · left
    rcases h with h | ⟨o, h⟩
    · exact .inl (b _ _ h)
    · exact .inr ⟨o, b _ _ h⟩
  · exact .inr h
theorem little {n : Nat} (h : n ≤ 1000) : n ≤ sizeLine := Nat.le_of_lt (small1000 h)
/-! ### xs[i] op= e -/
def rGetL (K : PySem.W.Frag) : V → V → Hp → VK → Prop := fun o i H Q => ∃ (p : Addr) (xs : List V) (j : Nat) (v : V), o = .ref p ∧ i = .int (j : Nat) ∧ SqL K H p xs ∧ xs[j]? = some v ∧ Q v H
theorem get_list {X : Cx} : PGet X (rGetL X.K) := by
  intro pins st σ H o i ov iv Q J ro ri asked
  obtain ⟨p, xs, j, v, rfl, rfl, hq, hj, now⟩ := asked
  cases ro
  obtain ⟨t, rfl⟩ := ri
  obtain ⟨its, r, pl, hz⟩ := J.list hq
  obtain ⟨u, eu, ru⟩ := r.get hj
  have n1 := (List.getElem?_eq_some_iff.mp hj).1
  have n2 := line63
  exact wpAny_getItem_list pl.isList (by omega) (by omega) (by simpa using eu) ⟨v, H, J, ru, now⟩
/-! ### the same rules, the written part named (so that they fit within comprehensions) -/
section
variable {X : Cx}
theorem ix_listK (K : PySem.W.Frag) (h : X.K = K) : IxR X (rIxL K) := by subst h; exact ix_list
theorem ix_tupK (K : PySem.W.Frag) (h : X.K = K) : IxR X (rIxT K) := by subst h; exact ix_tup
def rLenK (K : PySem.W.Frag) : List V → Hp → VK → Prop := fun xs H Q => ∃ (p : Addr) (ys : List V), xs = [.ref p] ∧ (SqL K H p ys ∨ SqT K H p ys) ∧ Q (.int (ys.length : Nat)) H
theorem call_len_seqK (K : PySem.W.Frag) (h : X.K = K) : CallR X (.builtin "len") (rLenK K) := by subst h; exact call_len_seq
def rListOfK (K : PySem.W.Frag) : List V → Hp → VK → Prop := fun xs H Q => ∃ (p : Addr) (ys : List V), xs = [.ref p] ∧ (SqL K H p ys ∨ SqT K H p ys) ∧ ∀ l, H l = none → Q (.ref l) (upd H l (.lst ys))
theorem call_list_ofK (K : PySem.W.Frag) (h : X.K = K) : CallR X (.type "list") (rListOfK K) := by subst h; exact call_list_of
def rTupOfK (K : PySem.W.Frag) : List V → Hp → VK → Prop := fun xs H Q => ∃ (p : Addr) (ys : List V), xs = [.ref p] ∧ ((SqL K H p ys ∧ ∀ l, H l = none → Q (.ref l) (upd H l (.tup ys))) ∨ (SqT K H p ys ∧ Q (.ref p) H))
theorem call_tuple_ofK (K : PySem.W.Frag) (h : X.K = K) : CallR X (.type "tuple") (rTupOfK K) := by subst h; exact call_tuple_of
theorem op_in_seqK (K : PySem.W.Frag) (h : X.K = K) : OpR X (compareOp .In) (rIn K false) := by subst h; exact op_in_seq
theorem op_notIn_seqK (K : PySem.W.Frag) (h : X.K = K) : OpR X (compareOp .NotIn) (rIn K true) := by subst h; exact op_notIn_seq
theorem sl_listK (K : PySem.W.Frag) (h : X.K = K) : SlR X (rSlL K) := by subst h; exact sl_list
theorem sl_tupAK (K : PySem.W.Frag) (h : X.K = K) : SlR X (rSlA K) := by subst h; exact sl_tupA
theorem op_eqDK (K : PySem.W.Frag) (h : X.K = K) (hu : X.A.units + 64 < cLine) : OpR X (compareOp .Eq) (rEqD K) := by subst h; exact op_eqD hu
theorem op_neDK (K : PySem.W.Frag) (h : X.K = K) (hu : X.A.units + 64 < cLine) : OpR X (compareOp .NotEq) (rNeD K) := by subst h; exact op_neD hu
theorem call_isiKK (K : PySem.W.Frag) (h : X.K = K) : CallR X (.builtin "isinstance") (rIsi K) := by subst h; exact call_isi
theorem cr_allK (K : PySem.W.Frag) (h : X.K = K) (hc : X.calm = true) : CallR X (.builtin "all") (rAll K) := by subst h; exact cr_all hc
theorem cr_anyK (K : PySem.W.Frag) (h : X.K = K) (hc : X.calm = true) : CallR X (.builtin "any") (rAny K) := by subst h; exact cr_any hc
theorem cr_minKK (K : PySem.W.Frag) (h : X.K = K) (hc : X.calm = true) : CallR X (.builtin "min") (rMin K) := by subst h; exact cr_min hc
theorem cr_maxKK (K : PySem.W.Frag) (h : X.K = K) (hc : X.calm = true) : CallR X (.builtin "max") (rMax K) := by subst h; exact cr_max hc
def tTruK (K : PySem.W.Frag) (ta : TE) : TT := fun σ H Q => ta σ H fun x H' => ∃ k, TruV K x H' k ∧ Q k H'
theorem pt_truthK (K : PySem.W.Frag) (h : X.K = K) {a : Expr} {ta : TE} (ha : PE X a ta) (he : ∀ whole, isTrue a X.env whole = (do let v ← whole; standAt a.pos; holding [v] (truthy v))) : PT X a (tTruK K ta) := by subst h; exact pt_truth ha he
theorem get_listK (K : PySem.W.Frag) (h : X.K = K) : PGet X (rGetL K) := by subst h; exact get_list
theorem pg_tupK (K : PySem.W.Frag) (h : X.K = K) {es : List Expr} {k n : Nat} {t : TGs} {pos : Pos} (hc : X.calm = true) (g : PGs X es t)
    (hn : (assignEach es X.env).length = n := by rfl) (hst : (assignEach es X.env).findIdx? (·.1) = none := by rfl) : PG X (.Tuple es k pos) (gTup K n t) := by subst h; exact pg_tup hc g hn hst
theorem pg_unlK (K : PySem.W.Frag) (h : X.K = K) {es : List Expr} {k n : Nat} {t : TGs} {pos : Pos} (hc : X.calm = true) (g : PGs X es t)
    (hn : (assignEach es X.env).length = n := by rfl) (hst : (assignEach es X.env).findIdx? (·.1) = none := by rfl) : PG X (.Tuple es k pos) (gUnl K n t) := by subst h; exact pg_unl hc g hn hst
theorem pi_listK (K : PySem.W.Frag) (h : X.K = K) {tg e : Expr} {te : TE} (he : PE X e te) : PI X tg e (iList K te) := by subst h; exact pi_list he
theorem pi_tupK (K : PySem.W.Frag) (h : X.K = K) {tg e : Expr} {te : TE} (he : PE X e te) : PI X tg e (iTup K te) := by subst h; exact pi_tup he
theorem pe_revLK (K : PySem.W.Frag) (h : X.K = K) {e : Expr} {te : TE} {k : Nat} {p1 p2 p3 pos : Pos} (he : PE X e te) : PE X (.Subscript e (.Slice none none (some (.UnaryOp .USub (.Constant (.int 1) k p1) p2)) p3) pos) (tRevL K te) := by subst h; exact pe_revL he
theorem pe_bmK (K : PySem.W.Frag) (h : X.K = K) {o e : Expr} {es : List Expr} {to : TE} {t : TA} {name : Str} {apos cpos : Pos} {T id : String} {r : V → List V → Hp → VK → Prop}
    (pa : PlainAttrs T) (slot : Slot T name id) (hty : typeOf (.builtin id) = pure (.type "method_descriptor")) (hm : MtR X id r) (ho : PE X o to) (ha : PA X (e :: es) t)
    (n1 : attributeBase o name X.env (eval o X.env) = eval o X.env := by rfl)
    (n2 : ((backTo cpos (starEach (e :: es) X.env)).all (fun x => !x.1) && (backToKw cpos (keywordEach [] X.env)).all (fun x => x.1.isSome) && decide ((e :: es).length + ([] : List Keyword).length + (if ([] : List Keyword).isEmpty then 0 else 1) < 30)) = true := by rfl)
    (n3 : (apos.endLine == cpos.line) = true := by rfl) (n4 : starEach (e :: es) X.env = (false, eval e X.env) :: starEach es X.env := by rfl) (n5 : (backTo cpos (starEach es X.env)).any (·.1) = false := by rfl) :
    PE X (.Call (.Attribute o name apos) (e :: es) [] cpos) (tBM K T r to t) := by subst h; exact pe_bm pa slot hty hm ho ha n1 n2 n3 n4 n5
theorem pe_bm0K (K : PySem.W.Frag) (h : X.K = K) {o : Expr} {to : TE} {name : Str} {apos cpos : Pos} {T id : String} {r : V → List V → Hp → VK → Prop}
    (pa : PlainAttrs T) (slot : Slot T name id) (hty : typeOf (.builtin id) = pure (.type "method_descriptor")) (hm : MtR X id r) (ho : PE X o to)
    (n1 : attributeBase o name X.env (eval o X.env) = eval o X.env := by rfl) (n3 : (apos.endLine == cpos.line) = true := by rfl) : PE X (.Call (.Attribute o name apos) [] [] cpos) (tBM0 K T r to) := by subst h; exact pe_bm0 pa slot hty hm ho n1 n3
theorem op_catAK (K : PySem.W.Frag) (h : X.K = K) : OpR X (binaryOp .Add) (rCatA K) := by subst h; exact op_catA
theorem call_isiTK (K : PySem.W.Frag) (h : X.K = K) : CallR X (.builtin "isinstance") (rIsiT K) := by subst h; exact call_isiT
theorem pi_zipAK (K : PySem.W.Frag) (h : X.K = K) {e e2 : Expr} {ta : TA} {p pos tpos : Pos} {elts : List Expr} {kk : Nat} (hg : Gl X "zip") (hm : X.mg "zip" = none) (ha : PA X [e, e2] ta)
    (hs : starEach [e, e2] X.env = (false, eval e X.env) :: starEach [e2] X.env := by rfl) (hpl : (backTo pos (starEach [e2] X.env)).any (·.1) = false := by rfl) :
    PI X (.Tuple elts kk tpos) (.Call (.Name "zip" p) [e, e2] [] pos) (RZ.iZipA K ta) := by subst h; exact RZ.pi_zipA hg hm ha hs hpl
theorem pi_or {tg e : Expr} {t1 t2 : TI} (h1 : PI X tg e t1) (h2 : PI X tg e t2) : PI X tg e (fun σ H R => t1 σ H R ∨ t2 σ H R) := ⟨fun pins s σ H R I h => h.elim (h1.run pins s σ H R I) (h2.run pins s σ H R I)⟩
theorem pe_fldK (K : PySem.W.Frag) (h : X.K = K) {e : Expr} {ta : TE} {f : Str} {pos : Pos} (he : PE X e ta) (hb : attributeBase e f X.env (eval e X.env) = eval e X.env) : PE X (.Attribute e f pos) (tFld K ta f) := by subst h; exact pe_fld he hb
theorem ps_fldK (K : PySem.W.Frag) (h : X.K = K) {o value : Expr} {ta tv : TE} {f : Str} {pos pos' : Pos} (ha : PE X o ta) (hv : PE X value tv) (hs : swapsWith value (some (.Attribute o f pos')) pos.line X.env = pure false) : PS X (.Assign [.Attribute o f pos'] value pos) (sFld K ta tv f) := by subst h; exact ps_fld ha hv hs
theorem ps_fldaugK (K : PySem.W.Frag) (h : X.K = K) {o value : Expr} {ta tv : TE} {f : Str} {pos tpos : Pos} {op : Operator} {rd : V → V → Hp → VK → Prop} (ha : PE X o ta) (hv : PE X value tv) (hop : InOp X op rd) : PS X (.AugAssign (.Attribute o f tpos) op value pos) (sFldAug K ta tv rd f) := by subst h; exact ps_fldaug ha hv hop
end
section
variable {X : Cx}
theorem cr_sumK (K : PySem.W.Frag) (h : X.K = K) (hc : X.calm = true) : CallR X (.builtin "sum") (rSum K) := by subst h; exact cr_sum hc
end
section
variable {X : Cx}
theorem op_ltTK (K : PySem.W.Frag) (h : X.K = K) (hu : X.A.units < cLine) : OpR X (compareOp .Lt) (rLtT K) := by subst h; exact op_ltT hu
end
section
variable {X : Cx}
theorem cr_sortedRevK (K : PySem.W.Frag) (h : X.K = K) {b : Bool} : CallRK X (.builtin "sorted") [Str.ofString "reverse"] (rSortedKw K b [.bl b]) := by subst h; exact cr_sortedRev
theorem op_inDK (K : PySem.W.Frag) (h : X.K = K) (hu : X.A.units + 65 < cLine) : OpR X (compareOp .In) (rInD K) := by subst h; exact op_inD hu
end
theorem hu65 {A : Around} {k : Nat} (hr : Room k A) : A.units + 65 < cLine := by have := hr.un; omega
section
variable {X : Cx}
/-- x not in t, t a tuple of data of any depth -/
def rNotInDT (K : PySem.W.Frag) : R2 := fun x y H Q => ∃ d ds, Dp K H x d ∧ Dp K H y (.tuple ds) ∧ SeqAt.shaped d = true ∧ SeqAt.shaped (.tuple ds) = true ∧ Q (.bl (!ds.any fun z => PyData.eqv z d)) H
theorem op_notInDTK (K : PySem.W.Frag) (same : X.K = K) (room : X.A.units + 65 < cLine) : OpR X (compareOp .NotIn) (rNotInDT K) := by
  subst same
  intro pins st σ H one many ov mv Q J ro rm asked
  have ⟨d, ds, dpO, dpM, shO, shM, done⟩ := asked
  have ⟨_, readO⟩ := Dp.reads J d one ov dpO ro
  have ⟨_, readM⟩ := Dp.reads J (.tuple ds) many mv dpM rm
  exact SeqAt.notIn_tuple_reads readM readO (SeqAt.canLay_of_shaped shM) (SeqAt.canLay_of_shaped shO) (room_in_shaped shO room) ⟨.bl _, H, J, rfl, done⟩
end
section
variable {X : Cx}
/-- x in t, t a tuple of data of any depth -/
def rInDT (K : PySem.W.Frag) : R2 := fun x y H Q => ∃ d ds, Dp K H x d ∧ Dp K H y (.tuple ds) ∧ SeqAt.shaped d = true ∧ SeqAt.shaped (.tuple ds) = true ∧ Q (.bl (ds.any fun z => PyData.eqv z d)) H
theorem op_inDTK (K : PySem.W.Frag) (same : X.K = K) (room : X.A.units + 65 < cLine) : OpR X (compareOp .In) (rInDT K) := by
  subst same
  intro pins st σ H one many ov mv Q J ro rm asked
  have ⟨d, ds, dpO, dpM, shO, shM, done⟩ := asked
  have ⟨_, readO⟩ := Dp.reads J d one ov dpO ro
  have ⟨_, readM⟩ := Dp.reads J (.tuple ds) many mv dpM rm
  exact SeqAt.in_tuple_reads readM readO (SeqAt.canLay_of_shaped shM) (SeqAt.canLay_of_shaped shO) (room_in_shaped shO room) ⟨.bl _, H, J, rfl, done⟩
end
/-! ### for x, y in zip(t, l), t a tuple, l a list -/
def IzTL (K : PySem.W.Frag) (a b : Addr) (xs ys : List V) : It :=
  ⟨fun i H => SqT K H a xs ∧ SqL K H b ys ∧ i < xs.length ∧ i < ys.length, fun i H v H' => ∃ T x y, v = .ref T ∧ H T = none ∧ H' = upd H T (.tup [x, y]) ∧ xs[i]? = some x ∧ ys[i]? = some y, fun i H => SqT K H a xs ∧ SqL K H b ys ∧ i ≤ xs.length ∧ i ≤ ys.length ∧ (i = xs.length ∨ i = ys.length)⟩
theorem turn_zipTL {P : Program} {w : World} {K : PySem.W.Frag} {elts : List Expr} {kk : Nat} {tpos : Pos} {a b z TI TO i1 i2 : Addr} (S : ZipSep2 z TI TO i1 i2 [i1, a] [i2, b]) (na : a ≠ i1) (nb : b ≠ i2) (xs ys : List V) :
    Turn P w K (.Tuple elts kk tpos) (IzTL K a b xs ys) [z, TI, TO, i1, i2] z (fun i h => IsZip h z TI TO .none ∧ IsTupOf2 h TI (.ref i1) (.ref i2) ∧ (∃ x y, IsTupOf2 h TO x y) ∧ h.IsTupleIter i1 a i ∧ h.IsListIter i2 b i) where
  mem := by simp
  obj := fun i h stt c hc => by
    obtain ⟨hz, hI, ⟨x, y, hO⟩, ⟨o1, e1, _, d1⟩, ⟨o2, e2, _, d2⟩⟩ := stt
    have any : c = z ∨ c = TI ∨ c = TO ∨ c = i1 ∨ c = i2 := by simpa using hc
    rcases any with q | q | q | q | q <;> subst q
    · exact ⟨_, hz, fun v q => nomatch q⟩
    · exact ⟨_, hI, fun v q => nomatch q⟩
    · exact ⟨_, hO, fun v q => nomatch q⟩
    · exact ⟨o1, e1, fun v q => by rw [d1] at q; cases q⟩
    · exact ⟨o2, e2, fun v q => by rw [d2] at q; cases q⟩
  keep := fun i h h' stt k => by
    obtain ⟨hz, hI, ⟨x, y, hO⟩, k1, k2⟩ := stt
    exact ⟨k z (by simp) _ hz, k TI (by simp) _ hI, ⟨x, y, k TO (by simp) _ hO⟩, k1.at fun o q => k i1 (by simp) o q, k2.at fun o q => k i2 (by simp) o q⟩
  item := by
    intro X hP hw hK hc i pins st σ H E J hf stt going
    subst hP hw hK
    obtain ⟨hz, hI, ⟨x0, y0, hO⟩, k1, k2⟩ := stt
    obtain ⟨hq1, hq2, l1, l2⟩ := going
    obtain ⟨its, rv, tup, _⟩ := J.tuple hq1
    obtain ⟨its2, rv2, lst, _⟩ := J.list hq2
    have len1 := rv.length
    have len2 := rv2.length
    have zl : z < st.heap.objs.size := Heap.lt_size hz
    have D1 := Draws.tuple (prog := X.prog) (w := X.w) (A := X.A.in1) (J.ok.hd hc) i1 a na its.toArray
    have D2 := Draws.list (prog := X.prog) (w := X.w) (A := X.A.in1) (J.ok.hd hc) i2 b nb its2.toArray
    refine wpAny_pyNext_zipD2_item S D1 D2 hz hI hO ⟨k1, tup⟩ ⟨k2, lst.isList⟩ (by rw [List.size_toArray]; omega) (by rw [List.size_toArray]; omega) fun u1 u2 h' tk p1 p2 out hO' s1 s2 new size kp => ?_
    refine ⟨_, rfl, wpAny_letOwnedTupleGo_zip (s := { st with heap := h', toks := tk }) out fun h'' out' sb => ?_⟩
    obtain ⟨x, hx⟩ : ∃ x, xs[i]? = some x := ⟨_, List.getElem?_eq_getElem l1⟩
    obtain ⟨y, hy⟩ : ∃ y, ys[i]? = some y := ⟨_, List.getElem?_eq_getElem l2⟩
    obtain ⟨w1, hw1, r1⟩ := rv.get hx
    obtain ⟨w2, hw2, r2⟩ := rv2.get hy
    have e1 : w1 = u1 := by
      have p1 : its.toArray[i]? = some u1 := p1
      rw [List.getElem?_toArray, hw1] at p1
      exact Option.some.inj p1
    have e2 : w2 = u2 := by
      have p2 : its2.toArray[i]? = some u2 := p2
      rw [List.getElem?_toArray, hw2] at p2
      exact Option.some.inj p2
    subst e1 e2
    have there : h''.get? st.heap.objs.size = some { cls := .type "tuple", data := .seq #[w1, w2] } := (sb.2 _ (Nat.ne_of_gt zl)).trans new
    have good : ObjOk X.prog X.w (upd H st.heap.objs.size (.tup [x, y])) h'' st.heap.objs.size (.tup [x, y]) :=
      ⟨by show 2 ≤ sizeLine; decide, [w1, w2], .cons r1 (.cons r2 .nil), ⟨_, there, rfl, _, rfl⟩⟩
    have J1 : Inv X pins σ (upd H st.heap.objs.size (.tup [x, y])) { st with heap := h'', toks := tk } :=
      J.turnedNew (ch := [z, TI, TO, i1, i2]) (fun c o hb q => (sb.2 c (fun q' => hb (by simp [q']))).trans (kp c o (fun q' => hb (by simp [q'])) (fun q' => hb (by simp [q'])) (fun q' => hb (by simp [q'])) (fun q' => hb (by simp [q'])) q)) hf (Nat.le_refl _) good
    have i1z : i1 ≠ z := fun q => S.zf1 (by simp [q])
    have i2z : i2 ≠ z := fun q => S.zf2 (by simp [q])
    refine ⟨.ref st.heap.objs.size, _, J1, rfl, ⟨_, x, y, rfl, J.hok.fresh (Nat.le_refl _), rfl, hx, hy⟩, ⟨out', ?_, ⟨w1, w2, ?_⟩, ?_, ?_⟩, fun c hcm => ?_⟩
    · exact (sb.2 _ S.TIz).trans (kp _ _ S.TIz S.TITO S.TIi1 S.TIi2 hI)
    · exact (sb.2 _ S.TOz).trans hO'
    · exact s1.1.at fun o q => (sb.2 _ i1z).trans q
    · exact s2.1.at fun o q => (sb.2 _ i2z).trans q
    · have low : c < st.heap.objs.size := by
        have any : c = z ∨ c = TI ∨ c = TO ∨ c = i1 ∨ c = i2 := by simpa using hcm
        rcases any with q | q | q | q | q
        · rw [q]; exact zl
        · rw [q]; exact Heap.lt_size hI
        · rw [q]; exact Heap.lt_size hO
        · rw [q]; obtain ⟨_, q1, _⟩ := k1; exact Heap.lt_size q1
        · rw [q]; obtain ⟨_, q2, _⟩ := k2; exact Heap.lt_size q2
      rw [upd_ne (Nat.ne_of_lt low)]
      exact (hf c hcm).1
  done := by
    intro X hP hw hK hc i pins st σ H E J hf stt over
    subst hP hw hK
    obtain ⟨hz, hI, ⟨x0, y0, hO⟩, k1, k2⟩ := stt
    obtain ⟨hq1, hq2, l1, l2, fin⟩ := over
    obtain ⟨its, rv, tup, _⟩ := J.tuple hq1
    obtain ⟨its2, rv2, lst, _⟩ := J.list hq2
    have len1 := rv.length
    have len2 := rv2.length
    have D1 := Draws.tuple (prog := X.prog) (w := X.w) (A := X.A.in1) (J.ok.hd hc) i1 a na its.toArray
    have D2 := Draws.list (prog := X.prog) (w := X.w) (A := X.A.in1) (J.ok.hd hc) i2 b nb its2.toArray
    refine wpAny_pyNext_zipD2_end S D1 D2 hz hI hO ⟨k1, tup⟩ ⟨k2, lst.isList⟩ (by rw [List.size_toArray]; omega) (by rw [List.size_toArray]; omega) (by rw [List.size_toArray, List.size_toArray]; omega) fun h' tk kp => ⟨rfl, ?_⟩
    exact J.turnedL (t' := tk) (ch := [z, TI, TO, i1, i2]) (fun c o hb q => kp c o (fun q' => hb (by simp [q'])) (fun q' => hb (by simp [q'])) (fun q' => hb (by simp [q'])) (fun q' => hb (by simp [q'])) q) hf
  self := fun A i st Q E stt now => wpAny_pyIter_zip stt.1 now
def iZipTL (K : PySem.W.Frag) (ta : TA) : TI := fun σ H R => ta σ H fun vs H1 => ∃ a b xs ys, vs = [.ref a, .ref b] ∧ SqT K H1 a xs ∧ SqL K H1 b ys ∧ R (IzTL K a b xs ys) H1
theorem pi_zipTL (K : PySem.W.Frag) {X : Cx} (hk : X.K = K) {e e2 : Expr} {ta : TA} {p pos tpos : Pos} {elts : List Expr} {kk : Nat} (hg : Gl X "zip") (hm : X.mg "zip" = none) (ha : PA X [e, e2] ta)
    (hs : starEach [e, e2] X.env = (false, eval e X.env) :: starEach [e2] X.env := by rfl) (hpl : (backTo pos (starEach [e2] X.env)).any (·.1) = false := by rfl) : PI X (.Tuple elts kk tpos) (.Call (.Name "zip" p) [e, e2] [] pos) (iZipTL K ta) := by
  subst hk
  refine ⟨fun pins st σ H R J asked => ?_⟩
  refine Call_ (ld_blt J hg hm PyProof.Rows.boot_zip (PyProof.Rows.callWith_type1 (thn (ha.run pos pins st σ H _ J asked) fun us st1 ⟨vs, H1, J1, rel, now⟩ => ?_) hs hpl))
  obtain ⟨a, b, xs, ys, ex, hq1, hq2, now⟩ := now
  subst ex
  obtain ⟨u1, u2, rfl, r1, r2⟩ := vals2 rel
  obtain rfl : u1 = Value.ref a := r1
  obtain rfl : u2 = Value.ref b := r2
  obtain ⟨its, rv, tup, _⟩ := J1.tuple hq1
  obtain ⟨its2, rv2, lst, _⟩ := J1.list hq2
  have al : a < st1.heap.objs.size := by obtain ⟨o, ho, _⟩ := id tup; exact Heap.lt_size ho
  have bl : b < st1.heap.objs.size := by obtain ⟨o, ho, _⟩ := id lst.isList; exact Heap.lt_size ho
  refine zip_begins2 (begins_tuple a its.toArray) (begins_list b its2.toArray) tup lst.isList fun h' hz hI hO g1 g2 size kp => wpAny_pyIter_zip hz ?_
  have J2 : Inv X pins σ H1 { st1 with heap := h' } := J1.kept (t' := st1.toks) kp
  generalize hn : st1.heap.objs.size = n at *
  have S : ZipSep2 (n + 4) (n + 2) (n + 3) n (n + 1) [n, a] [n + 1, b] :=
    zip_sep2 (fun c hc => by rw [List.mem_singleton.mp hc]; exact al) (fun c hc => by rw [List.mem_singleton.mp hc]; exact bl)
  refine ⟨n + 4, [n + 4, n + 2, n + 3, n, n + 1], _, _, H1, rfl, J2, turn_zipTL S (Nat.ne_of_lt al) (Nat.ne_of_lt (Nat.lt_succ_of_lt bl)) xs ys, ⟨hz, hI, ⟨_, _, hO⟩, ⟨_, g1, rfl, rfl⟩, ⟨_, g2, rfl, rfl⟩⟩, fun c hcm => ?_, now⟩
  have low : n ≤ c := by
    have any : c = n + 4 ∨ c = n + 2 ∨ c = n + 3 ∨ c = n ∨ c = n + 1 := by simpa using hcm
    rcases any with q | q | q | q | q <;> rw [q]
    · exact Nat.le_add_right ..
    · exact Nat.le_add_right ..
    · exact Nat.le_add_right ..
    · exact Nat.le_refl _
    · exact Nat.le_add_right ..
  rw [← hn] at low
  exact J1.fpOk low (J1.hok.fresh low)
/-! ### for i, x in enumerate(t), t a tuple -/
section
open Sem (wp)
open AutoSeq1 (wpAny_loadPart')
theorem enum_of_tup (t : Addr) (its : Array Value) (n : Nat) (dct : Option Addr) (sl : Array (Option Value)) :
    Meets (Builtin.«enumerate.__new__» ⟨[.type "enumerate", .ref t], []⟩) (fun _ R st => st.heap.get? t = some { cls := .type "tuple", dict := dct, data := .seq its n, slots := sl } ∧
      R (.ok (.ret (.ref (st.heap.push { cls := .type "tuple_iterator", data := .fields #[.ref t, .int 0 0] }).objs.size)))
        { st with heap := (st.heap.push { cls := .type "tuple_iterator", data := .fields #[.ref t, .int 0 0] }).push { cls := .type "enumerate", data := .fields #[.none, .bool false, .ref st.heap.objs.size, rawInt 0, .none, .none] } }) :=
  .of_wp fun prog w A R st asked => by
    obtain ⟨hp, g, d, tk, os⟩ := st; obtain ⟨at_, asked⟩ := asked
    have sub := sub_enumerate
    have hT : Heap.IsTuple (Shared.heap ⟨hp, g, d, tk, os⟩) t its := ⟨_, at_, rfl, n, rfl⟩
    wp_walk using wpAny_loadPart' at_
    refine wpAny_stack_any fun stk => wpAny_pure ?_
    split
    · rename_i c _ _ _ _ _
      cases (c == Value.type "enumerate")
      · wp_walk using wpAny_loadPart' at_, wpAny_pyIter_tuple hT
        exact ⟨_, rfl, asked⟩
      · wp_walk using wpAny_loadPart' at_, wpAny_pyIter_tuple hT
        exact ⟨_, rfl, asked⟩
    · wp_walk using wpAny_loadPart' at_, wpAny_pyIter_tuple hT
      exact ⟨_, rfl, asked⟩
theorem call_enum_tup {prog : Program} {w : World} {A : Around} {E : Value → Shared → Prop} {st : Shared} {t : Addr} {its : Array Value} {Q : Value → Shared → Prop} (hT : st.heap.IsTuple t its)
    (now : ∀ h', IsEnum h' (st.heap.objs.size + 1) st.heap.objs.size 0 .none → h'.IsTupleIter st.heap.objs.size t 0 → h'.objs.size = st.heap.objs.size + 2 →
      (∀ b o, st.heap.get? b = some o → h'.get? b = some o) → Q (.ref (st.heap.objs.size + 1)) { st with heap := h' }) :
    wpAny (model prog w) A (call (.type "enumerate") [.ref t]) Q E st := by
  obtain ⟨⟨c, dct, dt, sl⟩, at_, hc, n, hd⟩ := hT
  replace hc : c = .type "tuple" := hc
  replace hd : dt = .seq its n := hd
  subst hc hd
  refine callType_new F.called_enumerate (by decide) (F.typeCall_enumerate_1 _) (F.newCall_enumerate_1 _) (fun obj => F.args_object_init_2 obj _) F.entry_enumerate_new (enum_of_tup t its n dct sl) ⟨at_, ?_⟩
  have size1 : (st.heap.push { cls := .type "tuple_iterator", data := .fields #[.ref t, .int 0 0] }).objs.size = st.heap.objs.size + 1 := Heap.size_push ..
  show _ ∧ _
  rw [size1]
  have made := Heap.get?_push_size (st.heap.push { cls := .type "tuple_iterator", data := .fields #[.ref t, .int 0 0] }) (o := { cls := .type "enumerate", data := .fields #[.none, .bool false, .ref st.heap.objs.size, rawInt 0, .none, .none] }) rfl
  rw [size1] at made
  exact ⟨⟨_, made, rfl⟩, now _ made ⟨_, Heap.get?_push_of_some _ (Heap.get?_push_size _ rfl), rfl, rfl⟩ (by rw [Heap.size_push, size1]) fun b o e => Heap.get?_push_of_some _ (Heap.get?_push_of_some _ e)⟩
end
/-- the tuple at a, each item in a new pair -/
def IteT (K : PySem.W.Frag) (a : Addr) (xs : List V) : It :=
  ⟨fun i H => SqT K H a xs ∧ i < xs.length, fun i H v H' => ∃ T x, v = .ref T ∧ H T = none ∧ H' = upd H T (.tup [.int (i : Nat), x]) ∧ xs[i]? = some x, fun i H => SqT K H a xs ∧ i = xs.length⟩
theorem turn_enumT {P : Program} {w : World} {K : PySem.W.Frag} {elts : List Expr} {kk : Nat} {tpos : Pos} (a e it : Addr) (xs : List V) :
    Turn P w K (.Tuple elts kk tpos) (IteT K a xs) [e, it] e (fun i h => (∃ old, IsEnum h e it ((i : Nat) : Int) old) ∧ h.IsTupleIter it a i ∧ e ≠ it ∧ a ≠ it ∧ a ≠ e) where
  mem := by simp
  obj := fun i h st b hb => by
    obtain ⟨⟨old, he⟩, ⟨o, ho, hc, hd⟩, _⟩ := st
    have either : b = e ∨ b = it := by simpa using hb
    rcases either with z | z
    · rw [z]; exact ⟨_, he, fun v q => nomatch q⟩
    · rw [z]; exact ⟨o, ho, fun v q => by rw [hd] at q; cases q⟩
  keep := fun i h h' st k => let ⟨⟨old, he⟩, hi, apart⟩ := st; ⟨⟨old, k e (by simp) _ he⟩, hi.at fun o q => k it (by simp) o q, apart⟩
  item := by
    intro X hP hw hK hc i pins st σ H E J hf stt going
    subst hP hw hK
    obtain ⟨⟨old, he⟩, hit, n1, n2, n3⟩ := stt
    obtain ⟨hq, hi⟩ := going
    obtain ⟨its, rv, tup, hz⟩ := J.tuple hq
    have len := rv.length
    have el : e < st.heap.objs.size := Heap.lt_size he
    have il : it < st.heap.objs.size := by obtain ⟨_, q, _⟩ := hit; exact Heap.lt_size q
    have D := Draws.tuple (prog := X.prog) (w := X.w) (A := X.A.in1) (J.ok.hd hc) it a n2 its.toArray
    refine wpAny_pyNext_enum_itemD D he ⟨hit, tup⟩ (by rw [List.size_toArray]; omega) n1 (by simp [n1, n3.symm]) fun u h' tk px out stt' new size kp => ?_
    refine ⟨_, rfl, wpAny_letOwnedTupleGo_enum (s := { st with heap := h', toks := tk + 1 }) out fun h'' he' sb => ?_⟩
    obtain ⟨x, hx⟩ : ∃ x, xs[i]? = some x := ⟨_, List.getElem?_eq_getElem hi⟩
    obtain ⟨u', hu', ru⟩ := rv.get hx
    have eu : u' = u := by
      have px : its.toArray[i]? = some u := px
      rw [List.getElem?_toArray, hu'] at px
      exact Option.some.inj px
    subst eu
    have there : h''.get? st.heap.objs.size = some { cls := .type "tuple", data := .seq #[.int i tk, u'] } := (sb.2 _ (Nat.ne_of_gt el)).trans new
    have ok2 : ObjOk X.prog X.w (upd H st.heap.objs.size (.tup [.int (i : Nat), x])) h'' st.heap.objs.size (.tup [.int (i : Nat), x]) :=
      ⟨by show 2 ≤ sizeLine; decide, [.int i tk, u'], .cons ⟨_, rfl⟩ (.cons ru .nil), ⟨_, there, rfl, _, rfl⟩⟩
    have J1 : Inv X pins σ (upd H st.heap.objs.size (.tup [.int (i : Nat), x])) { st with heap := h'', toks := tk + 1 } :=
      J.turnedNew (ch := [e, it]) (fun b ob hb q => (sb.2 b (fun z => hb (by simp [z]))).trans (kp b ob (fun z => hb (by simp [z])) (fun z => hb (by simp [z])) q)) hf (Nat.le_refl _) ok2
    refine ⟨.ref st.heap.objs.size, _, J1, rfl, ⟨_, x, rfl, J.hok.fresh (Nat.le_refl _), rfl, hx⟩, ⟨⟨u', ?_⟩, stt'.1.at fun o q => (sb.2 it (Ne.symm n1)).trans q, n1, n2, n3⟩, fun b hb => ?_⟩
    · rw [show ((i + 1 : Nat) : Int) = (i : Int) + 1 by omega]
      exact he'
    · have bl : b < st.heap.objs.size := by
        have either : b = e ∨ b = it := by simpa using hb
        rcases either with z | z
        · rw [z]; exact el
        · rw [z]; exact il
      rw [upd_ne (Nat.ne_of_lt bl)]
      exact (hf b hb).1
  done := by
    intro X hP hw hK hc i pins st σ H E J hf stt over
    subst hP hw hK
    obtain ⟨⟨old, he⟩, hit, n1, n2, n3⟩ := stt
    obtain ⟨hq, hi⟩ := over
    obtain ⟨its, rv, tup, hz⟩ := J.tuple hq
    obtain ⟨f0, f1, f2, f3, f4, f5⟩ := hf it (by simp)
    have len := rv.length
    have D := Draws.tuple (prog := X.prog) (w := X.w) (A := X.A.in1) (J.ok.hd hc) it a n2 its.toArray
    have ei : its.toArray.size = i := by rw [List.size_toArray]; omega
    exact wpAny_pyNext_enum_endD D he ⟨by rw [ei]; exact hit, tup⟩ fun h' eb => ⟨rfl, J.turned (t' := st.toks) (fun b o hb q => eb b o hb q) f0 f1 f3 f4 f5⟩
  self := fun A i st Q E stt now => let ⟨⟨_, he⟩, _⟩ := stt; wpAny_pyIter_enum he now
def iEnumT (K : PySem.W.Frag) (ta : TA) : TI := fun σ H R => ta σ H fun vs H1 => ∃ a xs, vs = [.ref a] ∧ SqT K H1 a xs ∧ R (IteT K a xs) H1
theorem pi_enumT (K : PySem.W.Frag) {X : Cx} (hk : X.K = K) {e : Expr} {ta : TA} {p pos tpos : Pos} {elts : List Expr} {kk : Nat} (hg : Gl X "enumerate") (hm : X.mg "enumerate" = none) (ha : PA X [e] ta) (hs : starEach [e] X.env = [(false, eval e X.env)] := by rfl) :
    PI X (.Tuple elts kk tpos) (.Call (.Name "enumerate" p) [e] [] pos) (iEnumT K ta) := by
  subst hk
  refine ⟨fun pins st σ H R J asked => ?_⟩
  refine Call_ (ld_blt J hg hm boot_enumerate (PyProof.Rows.callWith_type1 (thn (ha.run pos pins st σ H _ J asked) fun us st1 ⟨vs, H1, J1, rel, now⟩ => ?_) hs rfl))
  obtain ⟨a, xs, ex, hq, now⟩ := now
  subst ex
  obtain ⟨u, rfl, ru⟩ := vals1 rel
  obtain rfl : u = Value.ref a := ru
  obtain ⟨its, rv, tup, hz⟩ := J1.tuple hq
  have al : a < st1.heap.objs.size := by obtain ⟨o, ho, _⟩ := tup; exact Heap.lt_size ho
  refine call_enum_tup tup fun h' he hit size kp => wpAny_pyIter_enum he ?_
  have J2 : Inv X pins σ H1 { st1 with heap := h' } := J1.kept (t' := st1.toks) kp
  refine ⟨st1.heap.objs.size + 1, [st1.heap.objs.size + 1, st1.heap.objs.size], _, _, H1, rfl, J2, turn_enumT a (st1.heap.objs.size + 1) st1.heap.objs.size xs, ⟨⟨.none, he⟩, hit, Nat.succ_ne_self _, Nat.ne_of_lt al, Nat.ne_of_lt (Nat.lt_succ_of_lt al)⟩, fun b hb => ?_, now⟩
  have either : b = st1.heap.objs.size + 1 ∨ b = st1.heap.objs.size := by simpa using hb
  have low : st1.heap.objs.size ≤ b := by
    rcases either with z | z
    · rw [z]; exact Nat.le_add_right _ _
    · rw [z]; exact Nat.le_refl _
  exact J1.fpOk low (J1.hok.fresh low)
theorem one_at {K : PySem.W.Frag} {a : Addr} {od : Option Addr} {z : Str} {t1 : Tok} {n : Nat} {sl : Array (Option Value)} (l : K.lookup a = some ⟨.type "tuple", od, .seq #[.str z t1] n, sl⟩) (H : Hp) : SqT K H a [.str z] :=
  .inr ⟨_, _, _, l, rfl, rfl, (show 1 ≤ sizeLine by decide), .cons ⟨_, rfl⟩ .nil⟩
section
variable {P : Program} {w : World} {K : PySem.W.Frag} {mg : Str → Option Value} {base : Heap}
def sp_law_flow (K : PySem.W.Frag) : Sp := fun vs H Q _ => ∃ (a : Addr) (ns : List Int), vs = [.ref a] ∧ SqL K H a (ns.map V.int) ∧ ∀ (f c : Addr) (H' : Hp), H f = none → H c = none → Flow H' f c → Same H H' → Q (.ref f) H'
theorem ok_law_flow {f : Addr} {fd : FuncData} (F : Fun K "_law_flow" "_law_flow" s_law_flow f fd) (T : Top K mg) : FnOk P w K mg base CX0 1 f fd ["_law_script"] (sp_law_flow K) := by
  refine F.ok sc_law_flow (fun vs H Q E h => ?_) (fun cdv A outer s H vs Q E hr h => ?_)
  · obtain ⟨a, ns, rfl, _⟩ := h
    rfl
  obtain ⟨a, ns, rfl, hS, q⟩ := h
  refine ⟨_, (pss_one (ps_ret (pe_lst (pa_cons (pe_callTy (call_list_ofK K rfl) (by rfl) T.m_list (by decide +kernel) (pa_cons (pv 0) pa_nil)) (pa_cons pe_int (pa_cons pe_int (pa_cons pe_int (pa_cons pe_int pa_nil)))))))), ?_⟩
  refine ⟨_, rfl, a, _, rfl, .inl hS, fun c hc => ?_⟩
  refine ⟨(by show 5 ≤ sizeLine; decide), fun f hf => ?_⟩
  have nf : H f = none := by
    cases e : H f with
    | none => rfl
    | some o => rw [same_new hc _ _ e] at hf; cases hf
  have s1 := same_new (o := .lst (ns.map V.int)) hc
  refine q f c _ nf hc ⟨ns, 0, 0, 1, 0, upd_same, same_new hf _ _ upd_same, by decide, by decide, by decide, by decide⟩ fun b o e => same_new hf _ _ (s1 _ _ e)
def sp_law_pick (K : PySem.W.Frag) : Sp := fun vs H Q _ => ∃ (f c : Addr) (m : Int), vs = [.ref f, .int m] ∧ 0 < m ∧ m.natAbs.log2 < 9000 ∧ Flow H f c ∧
  ∀ (v : Int) (H' : Hp), 0 ≤ v → v < m → Flow H' f c → But f H H' → Q (.int v) H'
theorem ok_law_pick {f : Addr} {fd : FuncData} (F : Fun K "_law_pick" "_law_pick" s_law_pick f fd) (T : Top K mg) : FnOk P w K mg base CX0 1 f fd ["_law_flow_here", "_law_many"] (sp_law_pick K) := by
  refine F.ok sc_law_pick (fun vs H Q E h => ?_) (fun cdv A outer s H vs Q E hr h => ?_)
  · obtain ⟨f, c, m, rfl, _⟩ := h
    rfl
  obtain ⟨f, c, m, rfl, m0, m9, hF, q⟩ := h
  obtain ⟨ns, i, p, z, r, hf, hc, hi, hp, hz, hz2⟩ := hF
  have ncf : c ≠ f := ne_of hc hf (by intro e; injection e with e; cases ns with | nil => cases e | cons x l => cases e)
  let R1 : TS := fun D' σ' H' => D'.rt = Q ∧ ∃ x2 : Option V, σ' = [some (.ref f), some (.int m), x2, none] ∧ (∃ (i p z r : Int), H' f = some (.lst [.ref c, .int i, .int p, .int z, .int r]) ∧ H' c = some (.lst (ns.map V.int)) ∧ 0 ≤ i ∧ 0 ≤ p ∧ 0 ≤ z ∧ z < 2147483647) ∧ But f H H'
  refine ⟨_, (pss_cons (ps_if (PW.pt (pw_and (pt_cmpR op_eq (pe_ix (ix_listK K rfl) (pv 0) pe_int (fun _ _ => rfl)) pe_int (nomark _)) (pw_and1 (pt_cmpR op_lt (pe_ix (ix_listK K rfl) (pv 0) pe_int (fun _ _ => rfl)) (pe_callB (call_len_seqK K rfl) (by rfl) T.m_len (by decide +kernel) (pa_cons (pe_ix (ix_listK K rfl) (pv 0) pe_int (fun _ _ => rfl)) pa_nil)) (nomark _))))) (pss_cons (ps_set (i := 2) sc_law_pick.nd rfl (Or.inl rfl) (pe_ix (ix_listK K rfl) (pe_ix (ix_listK K rfl) (pv 0) pe_int (fun _ _ => rfl)) (pe_ix (ix_listK K rfl) (pv 0) pe_int (fun _ _ => rfl)) (fun _ _ => rfl)))
      (pss_cons (ps_asg (pe_op op_add (pe_ix (ix_listK K rfl) (pv 0) pe_int (fun _ _ => rfl)) pe_int) (pg_sub (pv 0) pe_int set_list))
      (pss_one (ps_if (pt_cmpR op_ge (pv 2) (pe_op op_pow pe_int pe_int) (nomark _)) (pss_one (ps_asg (pv 2) (pg_sub (pv 0) pe_int set_list))) (pss_one (ps_asg (pe_op op_mod (pe_op op_add (pe_op op_add (pe_op op_mul (pe_ix (ix_listK K rfl) (pv 0) pe_int (fun _ _ => rfl)) pe_int) (pe_op op_mod (pv 2) pe_int)) pe_int) pe_int) (pg_sub (pv 0) pe_int set_list))))))) pss_nil)
      (PSs.to (pss_cons (ps_if (pt_cmpR op_gt (pe_ix (ix_listK K rfl) (pv 0) pe_int (fun _ _ => rfl)) pe_int (nomark _)) (pss_cons (ps_set (i := 3) sc_law_pick.nd rfl (Or.inl rfl) (pe_op op_mod (pe_ix (ix_listK K rfl) (pv 0) pe_int (fun _ _ => rfl)) (pv 1)))
      (pss_cons (ps_asg (pe_op op_fdivW (pe_ix (ix_listK K rfl) (pv 0) pe_int (fun _ _ => rfl)) (pv 1)) (pg_sub (pv 0) pe_int set_list))
      (pss_one (ps_ret (pv 3))))) pss_nil)
      (pss_cons (ps_asg (pe_op op_add (pe_ix (ix_listK K rfl) (pv 0) pe_int (fun _ _ => rfl)) pe_int) (pg_sub (pv 0) pe_int set_list))
      (pss_cons (ps_asg (pe_op op_mod (pe_op op_add (pe_op op_add (pe_op op_mul (pe_ix (ix_listK K rfl) (pv 0) pe_int (fun _ _ => rfl)) pe_int) pe_int) (pe_ix (ix_listK K rfl) (pv 0) pe_int (fun _ _ => rfl))) pe_int) (pg_sub (pv 0) pe_int set_list))
      (pss_one (ps_ret (pe_op op_mod (pe_op op_fdiv (pe_op op_mod (pe_op op_mul (pe_op op_add (pe_op op_mod (pe_ix (ix_listK K rfl) (pv 0) pe_int (fun _ _ => rfl)) pe_int) pe_int) (pe_op op_add (pe_op op_fdiv (pe_ix (ix_listK K rfl) (pv 0) pe_int (fun _ _ => rfl)) pe_int) pe_int)) pe_int) pe_int) (pv 1))))))) R1 ?tail1)), ?_⟩
  case tail1 =>
    rintro D' σ' H1 ⟨eD, x2, rfl, ⟨i, p, z, r, hf, hc, hi, hp, hz, hz2⟩, bt⟩
    refine ⟨_, rfl, f, _, _, _, rfl, rfl, SqL.of hf, atI_nat (j := 2) rfl, _, _, rfl, rfl, _, rfl, if_bl (fun c1 => ?_) (fun c1 => ?_)⟩
    · refine ⟨_, rfl, f, _, _, _, rfl, rfl, SqL.of hf, atI_nat (j := 2) rfl, _, rfl, _, _, rfl, rfl, m0, ?_⟩
      refine ⟨_, rfl, f, _, _, _, rfl, rfl, SqL.of hf, atI_nat (j := 2) rfl, _, rfl, _, _, rfl, rfl, ⟨m0, m9⟩, _, rfl, f, _, _, 2, rfl, rfl, hf, rfl, ?_⟩
      refine ⟨_, rfl, ?_⟩
      rw [eD]
      exact q _ _ (Int.emod_nonneg _ (by omega)) (Int.emod_lt_of_pos _ m0) ⟨ns, i, p / m, z, r, upd_same, (by rw [upd_ne ncf]; exact hc), hi, Int.ediv_nonneg hp (by omega), hz, hz2⟩ bt.upd
    · refine ⟨_, rfl, f, _, _, _, rfl, rfl, SqL.of hf, atI_nat (j := 4) rfl, _, _, rfl, rfl, _, rfl, f, _, _, 4, rfl, rfl, hf, rfl, ?_⟩
      have hf2 : upd H1 f (.lst ([V.ref c, V.int i, V.int p, V.int z, V.int r].set 4 (V.int (r + 1)))) f = some (.lst [.ref c, .int i, .int p, .int z, .int (r + 1)]) := upd_same
      refine ⟨_, rfl, f, _, _, _, rfl, rfl, SqL.of hf2, atI_nat (j := 3) rfl, _, _, rfl, rfl, .inl ⟨by omega, by omega⟩, _, _, rfl, rfl, _, rfl, f, _, _, _, rfl, rfl, SqL.of hf2, atI_nat (j := 4) rfl, _, _, rfl, rfl, _, _, rfl, rfl, (by show (0 : Int) < 2147483647; decide), _, rfl, f, _, _, 3, rfl, rfl, hf2, rfl, ?_⟩
      have z0 : 0 ≤ (z * 48271 + 12820163 + (r + 1)) % 2147483647 := Int.emod_nonneg _ (by decide)
      have z1 : (z * 48271 + 12820163 + (r + 1)) % 2147483647 < 2147483647 := Int.emod_lt_of_pos _ (by decide)
      have hf3 : upd (upd H1 f (.lst ([V.ref c, V.int i, V.int p, V.int z, V.int r].set 4 (V.int (r + 1))))) f (.lst ([V.ref c, V.int i, V.int p, V.int z, V.int (r + 1)].set 3 (V.int ((z * 48271 + 12820163 + (r + 1)) % 2147483647)))) f =
        some (.lst [.ref c, .int i, .int p, .int ((z * 48271 + 12820163 + (r + 1)) % 2147483647), .int (r + 1)]) := upd_same
      have hc3 : upd (upd H1 f (.lst ([V.ref c, V.int i, V.int p, V.int z, V.int r].set 4 (V.int (r + 1))))) f (.lst ([V.ref c, V.int i, V.int p, V.int z, V.int (r + 1)].set 3 (V.int ((z * 48271 + 12820163 + (r + 1)) % 2147483647)))) c = some (.lst (ns.map V.int)) := by
        rw [upd_ne ncf, upd_ne ncf]
        exact hc
      refine ⟨_, rfl, f, _, _, _, rfl, rfl, SqL.of hf3, atI_nat (j := 3) rfl, _, _, rfl, rfl, (by show (0 : Int) < 65521; decide), _, _, rfl, rfl, _, rfl, f, _, _, _, rfl, rfl, SqL.of hf3, atI_nat (j := 3) rfl, _, _, rfl, rfl, ⟨by decide, by decide⟩, _, _, rfl, rfl, _, _, rfl, rfl, .inl ⟨?_, ?_⟩, _, _, rfl, rfl, (by show (0 : Int) < 1000003; decide), _, _, rfl, rfl, ⟨by decide, by decide⟩, _, rfl, _, _, rfl, rfl, m0, ?_⟩
      · omega
      · omega
      · rw [eD]
        exact q _ _ (Int.emod_nonneg _ (by omega)) (Int.emod_lt_of_pos _ m0) ⟨ns, i, p, _, r + 1, hf3, hc3, hi, hp, z0, z1⟩ bt.upd.upd
  refine ⟨_, rfl, f, _, _, _, rfl, rfl, SqL.of hf, atI_nat (j := 2) rfl, rfl, _, rfl, if_bl (fun c1 => ?_) (fun c1 => ?_)⟩
  · refine ⟨_, rfl, f, _, _, _, rfl, rfl, SqL.of hf, atI_nat (j := 1) rfl, _, rfl, f, _, _, _, rfl, rfl, SqL.of hf, atI_nat (j := 0) rfl, c, _, rfl, .inl (SqL.of hc), _, _, rfl, rfl, _, rfl, if_bl (fun c2 => ?_) (fun c2 => ?_)⟩
    · have c3 : i < ((ns.map V.int).length : Int) := of_decide_eq_true c2
      rw [List.length_map] at c3
      obtain ⟨v, hv⟩ := at_ints hi c3
      refine ⟨_, rfl, f, _, _, _, rfl, rfl, SqL.of hf, atI_nat (j := 0) rfl, _, rfl, f, _, _, _, rfl, rfl, SqL.of hf, atI_nat (j := 1) rfl, c, _, i, _, rfl, rfl, SqL.of hc, hv, ?_⟩
      refine ⟨_, rfl, f, _, _, _, rfl, rfl, SqL.of hf, atI_nat (j := 1) rfl, _, _, rfl, rfl, _, rfl, f, _, _, 1, rfl, rfl, hf, rfl, ?_⟩
      have hf2 : upd H f (.lst ([V.ref c, V.int i, V.int p, V.int z, V.int r].set 1 (V.int (i + 1)))) f = some (.lst [.ref c, .int (i + 1), .int p, .int z, .int r]) := upd_same
      refine ⟨_, rfl, _, _, rfl, rfl, ⟨by decide, by decide, by decide⟩, _, _, rfl, rfl, _, rfl, if_bl (fun c4 => ?_) (fun c4 => ?_)⟩
      · have c5 : (10 : Int) ^ (18 : Int).toNat ≤ v := of_decide_eq_true c4
        have c6 : (0 : Int) ≤ (10 : Int) ^ (18 : Int).toNat := by decide
        refine ⟨_, rfl, _, rfl, f, _, _, 2, rfl, rfl, hf2, rfl, rfl, _, rfl, ⟨i + 1, v, z, r, upd_same, ?_, by omega, by omega, hz, hz2⟩, But.refl.upd.upd⟩
        rw [upd_ne ncf, upd_ne ncf]
        exact hc
      · refine ⟨_, rfl, f, _, _, _, rfl, rfl, SqL.of hf2, atI_nat (j := 3) rfl, _, _, rfl, rfl, .inl ⟨by omega, by omega⟩, _, rfl, _, _, rfl, rfl, (by show (0 : Int) < 1000003; decide), _, _, rfl, rfl, _, _, rfl, rfl, _, _, rfl, rfl, (by show (0 : Int) < 2147483647; decide), _, rfl, f, _, _, 3, rfl, rfl, hf2, rfl, rfl, _, rfl, ⟨i + 1, p, _, r, upd_same, ?_, by omega, hp, Int.emod_nonneg _ (by decide), Int.emod_lt_of_pos _ (by decide)⟩, But.refl.upd.upd⟩
        rw [upd_ne ncf, upd_ne ncf]
        exact hc
    · exact ⟨rfl, _, rfl, ⟨i, p, z, r, hf, hc, hi, hp, hz, hz2⟩, But.refl⟩
  · exact ⟨rfl, _, rfl, ⟨i, p, z, r, hf, hc, hi, hp, hz, hz2⟩, But.refl⟩
end
/-! ### rooms: what they are -/
/-- a hand: its rule's word, its number if it has one, its moments -/
structure HR where
  wd : Str
  no : Option Int
  mom : Int
/-- a belt -/
structure BR where
  one : Nat
  to : Nat
  th : List Int
abbrev ruleL (h : HR) : List V := .str h.wd :: (match h.no with | none => [] | some n => [.int n])
def HandAt (H : Hp) (v : V) (h : HR) : Prop := ∃ t r : Addr, v = .ref t ∧ H t = some (.tup [.ref r, .int h.mom]) ∧ H r = some (.tup (ruleL h))
def BeltAt (H : Hp) (v : V) (b : BR) : Prop := ∃ t g : Addr, v = .ref t ∧ H t = some (.tup [.int (b.one : Nat), .int (b.to : Nat), .ref g]) ∧ H g = some (.tup (b.th.map V.int))
theorem HandAt.keep {H H' : Hp} {v : V} {h : HR} (a : HandAt H v h) (k : TK H H') : HandAt H' v h := by
  obtain ⟨t, r, e, e1, e2⟩ := a
  exact ⟨t, r, e, k _ _ e1, k _ _ e2⟩
theorem BeltAt.keep {H H' : Hp} {v : V} {b : BR} (a : BeltAt H v b) (k : TK H H') : BeltAt H' v b := by
  obtain ⟨t, r, e, e1, e2⟩ := a
  exact ⟨t, r, e, k _ _ e1, k _ _ e2⟩
def nine : List Str := ["always", "same", "times", "sum", "gap", "below", "most", "least", "pick"]
def needs (wd : Str) : Int := if wd ∈ (["in", "always"] : List Str) then 0 else if wd ∈ (["out", "same", "times"] : List Str) then 1 else 2 + (if wd = "pick" then 1 else 0)
/-- a rule of one of the nine words -/
structure GoodRule (h : HR) : Prop where
  wd : h.wd ∈ nine
  no : h.no.isSome = true ↔ h.wd = "times" ∨ h.wd = "always"
  big : ∀ n, h.no = some n → -1000000 ≤ n ∧ n ≤ 1000000
def GoodHand (h : HR) : Prop := (GoodRule h ∨ ((h.wd = "in" ∨ h.wd = "out") ∧ h.no = none)) ∧ 0 ≤ h.mom ∧ h.mom ≤ 30
def Small (v : Int) : Prop := -1000000 ≤ v ∧ v ≤ 1000000
section
variable {P : Program} {w : World} {K : PySem.W.Frag} {mg : Str → Option Value} {base : Heap}
def sp_law_thing (K : PySem.W.Frag) : Sp := fun vs H Q _ => ∃ f c : Addr, vs = [.ref f] ∧ Flow H f c ∧ ∀ (v : Int) (H' : Hp), Small v → Flow H' f c → But f H H' → Q (.int v) H'
theorem ok_law_thing {f : Addr} {fd : FuncData} (F : Fun K "_law_thing" "_law_thing" s_law_thing f fd) (T : Top K mg) : FnOk P w K mg base CX0 2 f fd ["_law_flow_here"] (sp_law_thing K) := by
  obtain ⟨f_law_pick, fd_law_pick, F_law_pick, b_law_pick, m_law_pick⟩ := T.d_law_pick
  have G_law_pick := ok_law_pick (P := P) (w := w) (base := base) F_law_pick T
  refine F.ok sc_law_thing (fun vs H Q E h => ?_) (fun cdv A outer s H vs Q E hr h => ?_)
  · obtain ⟨f, c, rfl, _⟩ := h
    rfl
  obtain ⟨f, c, rfl, hF, q⟩ := h
  refine ⟨_, (pss_cons (ps_if (pt_cmpR op_gt (pe_call G_law_pick (hr.mono (by decide)) (by rfl) m_law_pick F_law_pick.kp b_law_pick .nil pass0 (pa_cons (pv 0) (pa_cons pe_int pa_nil))) pe_int (nomark _)) (pss_one (ps_ret (pe_op op_sub (pe_call G_law_pick (hr.mono (by decide)) (by rfl) m_law_pick F_law_pick.kp b_law_pick .nil pass0 (pa_cons (pv 0) (pa_cons pe_int pa_nil))) pe_int))) pss_nil)
      (pss_one (ps_ret (pe_op op_sub (pe_call G_law_pick (hr.mono (by decide)) (by rfl) m_law_pick F_law_pick.kp b_law_pick .nil pass0 (pa_cons (pv 0) (pa_cons pe_int pa_nil))) pe_int)))), ?_⟩
  refine ⟨_, rfl, f, c, 3, rfl, by decide, by decide +kernel, hF, fun v1 H1 a1 b1 F1 B1 => ⟨_, _, rfl, rfl, _, rfl, if_bl (fun _ => ?_) (fun _ => ?_)⟩⟩
  · exact ⟨_, rfl, f, c, 7, rfl, by decide, by decide +kernel, F1, fun v2 H2 a2 b2 F2 B2 => ⟨_, _, rfl, rfl, q _ _ ⟨by omega, by omega⟩ F2 (B1.trans B2)⟩⟩
  · exact ⟨_, rfl, f, c, 2000001, rfl, by decide, by decide +kernel, F1, fun v2 H2 a2 b2 F2 B2 => ⟨_, _, rfl, rfl, q _ _ ⟨by omega, by omega⟩ F2 (B1.trans B2)⟩⟩
def sp_law_needs (K : PySem.W.Frag) : Sp := fun vs H Q _ => ∃ (r : Addr) (wd : Str) (l : List V), vs = [.ref r] ∧ SqT K H r (.str wd :: l) ∧ ∀ H', Same H H' → Q (.int (needs wd)) H'
theorem ok_law_needs {f : Addr} {fd : FuncData} (F : Fun K "_law_needs" "_law_needs" s_law_needs f fd) (T : Top K mg) : FnOk P w K mg base CX0 1 f fd ["_law_rule_here"] (sp_law_needs K) := by
  refine F.ok sc_law_needs (fun vs H Q E h => ?_) (fun cdv A outer s H vs Q E hr h => ?_)
  · obtain ⟨r, wd, l, rfl, _⟩ := h
    rfl
  obtain ⟨r, wd, l, rfl, hR, q⟩ := h
  unfold needs at q
  refine ⟨_, (pss_cons (ps_if (pt_cmpR (op_in_seqK K rfl) (pe_ix (ix_tupK K rfl) (pv 0) pe_int (fun _ _ => rfl)) (pe_tup (pa_cons pe_str (pa_cons pe_str pa_nil))) (by with_unfolding_all rfl)) (pss_one (ps_ret pe_int)) pss_nil)
      (pss_cons (ps_if (pt_cmpR (op_in_seqK K rfl) (pe_ix (ix_tupK K rfl) (pv 0) pe_int (fun _ _ => rfl)) (pe_tup (pa_cons pe_str (pa_cons pe_str (pa_cons pe_str pa_nil)))) (by with_unfolding_all rfl)) (pss_one (ps_ret pe_int)) pss_nil)
      (pss_one (ps_ret (pe_op op_add pe_int (pe_callTy call_int1 (by rfl) T.m_int (by decide +kernel) (pa_cons (pe_cmpR op_eq (pe_ix (ix_tupK K rfl) (pv 0) pe_int (fun _ _ => rfl)) pe_str (nomark _)) pa_nil))))))), ?_⟩
  refine ⟨_, rfl, r, _, _, _, rfl, rfl, hR, atI_nat (j := 0) rfl, (by show 2 ≤ sizeLine; decide), fun p np => ⟨p, _, rfl, .inr (SqT.of upd_same), rfl, rfl, _, rfl, if_in (zs := ["in", "always"]) (fun e => ?_) (fun e => ?_)⟩⟩
  · have q := q _ (same_new (o := .tup [V.str "in", V.str "always"]) np)
    rw [if_pos e] at q
    exact q
  have s1 := same_new (o := .tup [V.str "in", V.str "always"]) np
  refine ⟨_, rfl, r, _, _, _, rfl, rfl, same_seqT s1 hR, atI_nat (j := 0) rfl, (by show 3 ≤ sizeLine; decide), fun p2 np2 => ⟨p2, _, rfl, .inr (SqT.of upd_same), rfl, rfl, _, rfl, if_in (zs := ["out", "same", "times"]) (fun e2 => ?_) (fun e2 => ?_)⟩⟩
  · have q := q _ (s1.trans (same_new (o := .tup [V.str "out", V.str "same", V.str "times"]) np2))
    rw [if_neg e, if_pos e2] at q
    exact q
  have s2 := s1.trans (same_new (o := .tup [V.str "out", V.str "same", V.str "times"]) np2)
  have q := q _ s2
  rw [if_neg e, if_neg e2] at q
  refine ⟨_, rfl, r, _, _, _, rfl, rfl, same_seqT s2 hR, atI_nat (j := 0) rfl, rfl, .inr ⟨_, rfl, _, _, rfl, rfl, ?_⟩⟩
  by_cases k : wd = "pick"
  · rw [if_pos k] at q
    rw [decide_eq_true (show V.str wd = V.str "pick" by rw [k])]
    exact q
  · rw [if_neg k] at q
    rw [decide_eq_false (show ¬ V.str wd = V.str "pick" from fun z => k (V.str.inj z))]
    exact q
theorem nine_at {m : Int} (h0 : 0 ≤ m) (h9 : m < 9) : ∃ wd : Str, wd ∈ nine ∧ atI (nine.map V.str) m = some (.str wd) ∧ (m < 1 → needs wd ≤ 0) ∧ (m < 3 → needs wd ≤ 1) ∧ (m < 8 → needs wd ≤ 2) ∧ needs wd ≤ 3 ∧ 0 ≤ needs wd := by
  have : m = 0 ∨ m = 1 ∨ m = 2 ∨ m = 3 ∨ m = 4 ∨ m = 5 ∨ m = 6 ∨ m = 7 ∨ m = 8 := by omega
  rcases this with rfl | rfl | rfl | rfl | rfl | rfl | rfl | rfl | rfl
  · exact ⟨"always", by decide +kernel, rfl, by decide +kernel, by decide +kernel, by decide +kernel, by decide +kernel, by decide +kernel⟩
  · exact ⟨"same", by decide +kernel, rfl, by decide +kernel, by decide +kernel, by decide +kernel, by decide +kernel, by decide +kernel⟩
  · exact ⟨"times", by decide +kernel, rfl, by decide +kernel, by decide +kernel, by decide +kernel, by decide +kernel, by decide +kernel⟩
  · exact ⟨"sum", by decide +kernel, rfl, by decide +kernel, by decide +kernel, by decide +kernel, by decide +kernel, by decide +kernel⟩
  · exact ⟨"gap", by decide +kernel, rfl, by decide +kernel, by decide +kernel, by decide +kernel, by decide +kernel, by decide +kernel⟩
  · exact ⟨"below", by decide +kernel, rfl, by decide +kernel, by decide +kernel, by decide +kernel, by decide +kernel, by decide +kernel⟩
  · exact ⟨"most", by decide +kernel, rfl, by decide +kernel, by decide +kernel, by decide +kernel, by decide +kernel, by decide +kernel⟩
  · exact ⟨"least", by decide +kernel, rfl, by decide +kernel, by decide +kernel, by decide +kernel, by decide +kernel, by decide +kernel⟩
  · exact ⟨"pick", by decide +kernel, rfl, by decide +kernel, by decide +kernel, by decide +kernel, by decide +kernel, by decide +kernel⟩
def sp_law_rule (K : PySem.W.Frag) : Sp := fun vs H Q _ => ∃ (f c : Addr) (m : Int), vs = [.ref f, .int m] ∧ 0 ≤ m ∧ Flow H f c ∧
  ∀ (r : Addr) (h : HR) (H' : Hp), H' r = some (.tup (ruleL h)) → GoodRule h → needs h.wd ≤ m → 0 ≤ needs h.wd → h.mom = 0 → Flow H' f c → But f H H' → Q (.ref r) H'
theorem ok_law_rule {f : Addr} {fd : FuncData} (F : Fun K "_law_rule" "_law_rule" s_law_rule f fd) (T : Top K mg) : FnOk P w K mg base CX0 3 f fd ["_law_flow_here", "_law_most"] (sp_law_rule K) := by
  obtain ⟨f_law_pick, fd_law_pick, F_law_pick, b_law_pick, m_law_pick⟩ := T.d_law_pick
  have G_law_pick := ok_law_pick (P := P) (w := w) (base := base) F_law_pick T
  obtain ⟨f_law_thing, fd_law_thing, F_law_thing, b_law_thing, m_law_thing⟩ := T.d_law_thing
  have G_law_thing := ok_law_thing (P := P) (w := w) (base := base) F_law_thing T
  refine F.ok sc_law_rule (fun vs H Q E h => ?_) (fun cdv A outer s H vs Q E hr h => ?_)
  · obtain ⟨f, c, m, rfl, _⟩ := h
    rfl
  obtain ⟨f, c, m, rfl, m0, hF, q⟩ := h
  refine ⟨_, (pss_cons (ps_set (i := 2) sc_law_rule.nd rfl (Or.inl rfl) (pe_lst (pa_cons pe_str (pa_cons pe_str (pa_cons pe_str (pa_cons pe_str (pa_cons pe_str (pa_cons pe_str (pa_cons pe_str (pa_cons pe_str (pa_cons pe_str pa_nil)))))))))))
      (pss_cons (ps_set (i := 3) sc_law_rule.nd rfl (Or.inl rfl) (pe_ix (ix_listK K rfl) (pv 2) (pe_call G_law_pick (hr.mono (by decide)) (by rfl) m_law_pick F_law_pick.kp b_law_pick .nil pass0 (pa_cons (pv 0) (pa_cons (pe_ix (ix_listK K rfl) (pe_lst (pa_cons pe_int (pa_cons pe_int (pa_cons pe_int (pa_cons pe_int pa_nil))))) (pe_callB (call_min2 rfl) (by rfl) T.m_min (by decide +kernel) (pa_cons pe_int (pa_cons (pv 1) pa_nil))) (fun _ _ => rfl)) pa_nil))) (fun _ _ => rfl)))
      (pss_cons (ps_if (pt_cmpR op_eq (pv 3) pe_str (nomark _)) (pss_one (ps_ret (pe_tup (pa_cons (pv 3) (pa_cons (pe_op op_sub (pe_call G_law_pick (hr.mono (by decide)) (by rfl) m_law_pick F_law_pick.kp b_law_pick .nil pass0 (pa_cons (pv 0) (pa_cons pe_int pa_nil))) pe_int) pa_nil))))) pss_nil)
      (pss_cons (ps_if (pt_cmpR op_eq (pv 3) pe_str (nomark _)) (pss_one (ps_ret (pe_tup (pa_cons (pv 3) (pa_cons (pe_call G_law_thing (hr.mono (by decide)) (by rfl) m_law_thing F_law_thing.kp b_law_thing .nil pass0 (pa_cons (pv 0) pa_nil)) pa_nil))))) pss_nil)
      (pss_one (ps_ret (pe_tup (pa_cons (pv 3) pa_nil)))))))), ?_⟩
  refine ⟨(by show 9 ≤ sizeLine; decide), fun wl nwl => ?_⟩
  have F1 : Flow (upd H wl (.lst (nine.map V.str))) f c := hF.new nwl
  refine ⟨_, rfl, _, rfl, (by show 4 ≤ sizeLine; decide), fun cl ncl => ?_⟩
  have F2 : Flow (upd (upd H wl (.lst (nine.map V.str))) cl (.lst [V.int 1, V.int 3, V.int 8, V.int 9])) f c := F1.new ncl
  have B2 : But f H (upd (upd H wl (.lst (nine.map V.str))) cl (.lst [V.int 1, V.int 3, V.int 8, V.int 9])) := (But.refl.new nwl).new ncl
  obtain ⟨j, hj, j1, j9, jn⟩ : ∃ j : Int, atI [V.int 1, V.int 3, V.int 8, V.int 9] (if m < 3 then m else 3) = some (.int j) ∧ 1 ≤ j ∧ j ≤ 9 ∧ ((j = 1 ∧ m = 0) ∨ (j = 3 ∧ m = 1) ∨ (j = 8 ∧ m = 2) ∨ (j = 9 ∧ 3 ≤ m)) := by
    by_cases k : m < 3
    · rw [if_pos k]
      have : m = 0 ∨ m = 1 ∨ m = 2 := by omega
      rcases this with rfl | rfl | rfl
      · exact ⟨1, rfl, by decide, by decide, by decide⟩
      · exact ⟨3, rfl, by decide, by decide, by decide⟩
      · exact ⟨8, rfl, by decide, by decide, by decide⟩
    · rw [if_neg k]
      exact ⟨9, rfl, by decide, by decide, by omega⟩
  refine ⟨_, rfl, _, _, rfl, cl, _, _, _, rfl, rfl, SqL.of upd_same, hj, f, c, j, rfl, by omega, ?_, F2, fun v H1 v0 v1 F3 B3 => ?_⟩
  · have : j = 1 ∨ j = 3 ∨ j = 8 ∨ j = 9 := by omega
    rcases this with rfl | rfl | rfl | rfl <;> decide +kernel
  obtain ⟨wd, hw, hat, n1, n3, n8, n9, n0⟩ := nine_at v0 (by omega)
  have hn : needs wd ≤ m := by
    rcases jn with ⟨rfl, rfl⟩ | ⟨rfl, rfl⟩ | ⟨rfl, rfl⟩ | ⟨rfl, k⟩
    · exact n1 v1
    · exact n3 v1
    · exact n8 v1
    · omega
  have hwl : H1 wl = some (.lst (nine.map V.str)) := B3 _ _ (same_new ncl _ _ upd_same) (hF.ne nwl)
  refine ⟨wl, _, _, _, rfl, rfl, SqL.of hwl, hat, ?_⟩
  have BB := B2.trans B3
  refine ⟨_, rfl, rfl, _, rfl, if_str (fun e => ?_) (fun e => ?_)⟩
  · refine ⟨_, rfl, _, rfl, f, c, 19, rfl, by decide, by decide +kernel, F3, fun v2 H2 a2 b2 F4 B4 => ⟨_, _, rfl, rfl, (by show 2 ≤ sizeLine; decide), fun r nr => ?_⟩⟩
    exact q r ⟨wd, some (v2 - 9), 0⟩ _ upd_same ⟨hw, ⟨fun _ => .inl e, fun _ => rfl⟩, fun n en => by cases en; exact ⟨by omega, by omega⟩⟩ hn n0 rfl (F4.new nr) ((BB.trans B4).new nr)
  refine ⟨_, rfl, rfl, _, rfl, if_str (fun e2 => ?_) (fun e2 => ?_)⟩
  · refine ⟨_, rfl, _, rfl, f, c, rfl, F3, fun v2 H2 s2 F4 B4 => ⟨(by show 2 ≤ sizeLine; decide), fun r nr => ?_⟩⟩
    exact q r ⟨wd, some v2, 0⟩ _ upd_same ⟨hw, ⟨fun _ => .inr e2, fun _ => rfl⟩, fun n en => by cases en; exact s2⟩ hn n0 rfl (F4.new nr) ((BB.trans B4).new nr)
  · refine ⟨_, rfl, (by show 1 ≤ sizeLine; decide), fun r nr => ?_⟩
    exact q r ⟨wd, none, 0⟩ _ upd_same ⟨hw, ⟨(fun z => nomatch z), fun z => absurd z (fun z => z.elim e e2)⟩, (fun n en => nomatch en)⟩ hn n0 rfl (F3.new nr) (BB.new nr)
def sp_law_shuffled (K : PySem.W.Frag) : Sp := fun vs H Q _ => ∃ (f c l : Addr) (xs : List V), vs = [.ref f, .ref l] ∧ SqL K H l xs ∧ l ≠ f ∧ xs.length ≤ 500 ∧ Flow H f c ∧
  ∀ (p : Addr) (ys : List V) (H' : Hp), ys.Perm xs → H p = none → H' p = some (.lst ys) → Flow H' f c → But f H H' → Q (.ref p) H'
theorem But.seqL {K : PySem.W.Frag} {f a : Addr} {H H1 : Hp} {xs : List V} (b : But f H H1) (h : SqL K H a xs) (n : a ≠ f) : SqL K H1 a xs := by
  rcases h with h | h
  · left
    rcases h with h | ⟨o, h⟩
    · exact .inl (b _ _ h n)
    · exact .inr ⟨o, b _ _ h n⟩
  · exact .inr h
theorem same_seqL {K : PySem.W.Frag} {a : Addr} {H H1 : Hp} {xs : List V} (b : Same H H1) (h : SqL K H a xs) : SqL K H1 a xs := by
  rcases h with h | h
  · left
    rcases h with h | ⟨o, h⟩
    · exact .inl (b _ _ h)
    · exact .inr ⟨o, b _ _ h⟩
  · exact .inr h
theorem log_small {m : Nat} (h : m ≤ 500) : ((m : Int)).natAbs.log2 < 9000 := by
  rw [Int.natAbs_natCast]
  exact Nat.lt_of_le_of_lt (Nat.log2_le_self m) (by omega)
theorem perm_erase {α : Type} : ∀ {l : List α} {j : Nat} {y : α}, l[j]? = some y → (y :: l.eraseIdx j).Perm l
  | [], _, _, h => nomatch h
  | a :: l, 0, y, h => by
    cases h
    exact List.Perm.refl _
  | a :: l, j + 1, y, h => by
    have ih : (y :: l.eraseIdx j).Perm l := perm_erase h
    exact (List.Perm.swap a y _).trans (ih.cons a)
theorem ok_law_shuffled {f : Addr} {fd : FuncData} (F : Fun K "_law_shuffled" "_law_shuffled" s_law_shuffled f fd) (T : Top K mg) : FnOk P w K mg base CX0 2 f fd ["_law_flow_here", "_law_some"] (sp_law_shuffled K) := by
  obtain ⟨f_law_pick, fd_law_pick, F_law_pick, b_law_pick, m_law_pick⟩ := T.d_law_pick
  have G_law_pick := ok_law_pick (P := P) (w := w) (base := base) F_law_pick T
  refine F.ok sc_law_shuffled (fun vs H Q E h => ?_) (fun cdv A outer s H vs Q E hr h => ?_)
  · obtain ⟨f, c, l, xs, rfl, _⟩ := h
    rfl
  obtain ⟨f, c, l, xs, rfl, hL, nl, hlen, hF, q⟩ := h
  refine ⟨_, (pss_cons (ps_set (i := 2) sc_law_shuffled.nd rfl (Or.inr rfl) (pe_callTy (call_list_ofK K rfl) (by rfl) T.m_list (by decide +kernel) (pa_cons (pv 1) pa_nil)))
      (pss_one (ps_ret (pe_lc (own := [("_law_k", 3)]) (g := gName 3) (tt := tYes) (by rfl) sc_law_shuffled.nd (pi_range1 (by rfl) T.m_range (pa_cons (pe_callB (call_len_seqK K rfl) (by rfl) T.m_len (by decide +kernel) (pa_cons (pv 1) pa_nil)) pa_nil)) (blkOk_by (own := [("_law_k", 3)]) (N := N_law_shuffled) (sc := defScope s_law_shuffled) (by decide +kernel)) (fun _ _ _ _ _ => (pg_name (i := 3) sc_law_shuffled.nd rfl (Or.inl rfl))) (fun _ _ _ _ _ => pts_nil) (fun _ _ _ _ _ => (pe_bmK K rfl PySem.F.plainAttrs_list PySem.F.slot_list_pop PySem.F.type_list_pop mt_popAt (pv 2) (pa_cons (pe_call G_law_pick (hr.mono (by decide)) (by rfl) m_law_pick F_law_pick.kp b_law_pick .nil pass0 (pa_cons (pv 0) (pa_cons (pe_callB (call_len_seqK K rfl) (by rfl) T.m_len (by decide +kernel) (pa_cons (pv 2) pa_nil)) pa_nil))) pa_nil))))))), ?_⟩
  refine ⟨_, rfl, l, _, rfl, .inl hL, fun lf nlf => ?_⟩
  refine ⟨_, rfl, l, _, rfl, .inl (same_seqL (same_new nlf) hL), _, rfl, by omega, (by omega), fun D nD => ?_⟩
  have F1 : Flow (upd H lf (.lst xs)) f c := hF.new nlf
  have dl : D ≠ lf := (ne_of_none upd_same nD).symm
  refine lc_range (lo := 0) (n := xs.length) (fun i H5 => ∃ acc rest : List V, H5 D = some (.lst acc) ∧ H5 lf = some (.lst rest) ∧ acc.length = i ∧ rest.length + i = xs.length ∧ (acc ++ rest).Perm xs ∧ Flow H5 f c ∧ But f H H5)
    ⟨[], xs, upd_same, by rw [upd_ne dl.symm]; exact upd_same, rfl, by omega, List.Perm.refl _, F1.new nD, (But.refl.new nlf).new nD⟩ ?_ ?_
  · rintro i H5 hi ⟨acc, rest, hD, hl, ha, hr2, hp, F5, B5⟩
    refine ⟨rfl, yes_in ?_⟩
    refine ⟨_, rfl, .inl ⟨rfl, _, SqL.of hl⟩, _, rfl, _, rfl, lf, _, rfl, .inl (SqL.of hl), f, c, ((rest.length : Nat) : Int), rfl, by omega, log_small (by omega), F5, fun v H6 v0 v1 F6 B6 => ?_⟩
    have hl6 := B6 _ _ hl (hF.ne nlf)
    have hv : v.toNat < rest.length := by omega
    have e1 : seqIndex? v rest.length = some v.toNat := by
      rw [seqIndex_of v0 (by omega)]
    refine ⟨lf, rest, v, v.toNat, rest[v.toNat], rfl, rfl, hl6, by omega, by omega, e1, List.getElem?_eq_getElem hv, ?_⟩
    have hD6 := B6 _ _ hD (fun e => by rw [e] at nD; rw [show upd H lf (.lst xs) f = H f from upd_ne (hF.ne nlf).symm] at nD; obtain ⟨_, _, _, _, _, e1, _⟩ := hF; rw [e1] at nD; cases nD)
    refine ⟨acc, by rw [upd_ne dl]; exact hD6, small1000 (by omega), acc ++ [rest[v.toNat]], rest.eraseIdx v.toNat, upd_same, by rw [upd_ne dl.symm]; exact upd_same, by rw [List.length_append, ha]; rfl, ?_, ?_, ?_, ?_⟩
    · rw [List.length_eraseIdx, if_pos hv]
      omega
    · refine List.Perm.trans ?_ hp
      rw [List.append_assoc]
      exact List.Perm.append_left acc (perm_erase (List.getElem?_eq_getElem hv))
    · have dc : D ≠ c := fun e => by
        rw [e] at nD
        obtain ⟨_, _, _, _, _, _, e1, _⟩ := F1
        rw [e1] at nD
        cases nD
      exact (F6.lst (hF.ne nlf) (hF.nec nlf)).lst (F1.ne nD) dc
    · exact ((B5.trans B6).own nlf).own (same_none (same_new nlf) nD)
  · rintro H5 ⟨acc, rest, hD, hl, ha, hr2, hp, F5, B5⟩
    have er : rest = [] := by
      cases rest with
      | nil => rfl
      | cons a l => simp at hr2
    subst er
    rw [List.append_nil] at hp
    exact q D acc H5 hp (same_none (same_new nlf) nD) hD F5 B5
end
/-! ### the hands of a drawn room -/
def unS : V → Str
  | .str s => s
  | _ => ""
theorem perm_strs {ys : List V} {zs : List Str} (h : ys.Perm (zs.map V.str)) : ∃ ss : List Str, ys = ss.map V.str ∧ ss.Perm zs := by
  refine ⟨ys.map unS, ?_, ?_⟩
  · rw [List.map_map]
    symm
    refine (List.map_congr_left (g := id) fun y hy => ?_).trans (List.map_id _)
    obtain ⟨z, _, e⟩ := List.mem_map.mp (h.mem_iff.mp hy)
    subst e
    rfl
  · have q := h.map unS
    rw [List.map_map] at q
    have e : zs.map (unS ∘ V.str) = zs := (List.map_congr_left (g := id) fun z _ => rfl).trans (List.map_id _)
    rw [e] at q
    exact q
theorem flat_rep {α : Type} (x : α) : ∀ n : Nat, (List.replicate n [x]).flatten = List.replicate n x
  | 0 => rfl
  | n + 1 => by
    rw [List.replicate_succ, List.flatten_cons, flat_rep x n]
    rfl
def cnt (ss : List Str) : Nat := (ss.filter fun s => !decide (s = ("in" : Str))).length
theorem cnt_le (ss : List Str) : cnt ss ≤ ss.length := List.length_filter_le ..
theorem cut_drop (xs : List V) (k : Nat) : cutV xs (some ((k : Nat) : Int)) none = xs.drop k := by
  unfold cutV
  rw [HT.sIx_nat, HT.sIx_none]
  by_cases h : k ≤ xs.length
  · rw [Nat.min_eq_left h]
    exact List.take_of_length_le (by rw [List.length_drop]; exact Nat.le_refl _)
  · rw [Nat.min_eq_right (by omega), Nat.sub_self, List.take_zero, List.drop_eq_nil_of_le (by omega)]
structure HInv (f c sl hh : Addr) (ss : List Str) (H0 H : Hp) (i : Nat) (vs : List V) (hs : List HR) (left : Int) : Prop where
  fl : Flow H f c
  bt : But f H0 H
  hsl : H sl = some (.lst (ss.map V.str))
  hhh : H hh = some (.lst vs)
  al : All2 (HandAt H) vs hs
  len : hs.length = i
  good : ∀ h ∈ hs, GoodHand h
  lf : (cnt (ss.drop i) : Int) ≤ left
  sum : (hs.map fun h => needs h.wd).sum + left = 20
  nz : ∀ h ∈ hs, 0 ≤ needs h.wd
  one : ("hand" : Str) ∈ ss.take i → ∃ h ∈ hs, h.wd ≠ "out" ∧ h.wd ≠ "in"
  n1 : sl ≠ f
  n2 : sl ≠ hh
  n3 : hh ≠ f
  n4 : hh ≠ c
  n5 : H0 hh = none
section
variable {f c sl hh : Addr} {ss : List Str} {H0 H H' : Hp} {i : Nat} {vs : List V} {hs : List HR} {left : Int}
theorem HInv.but (s : HInv f c sl hh ss H0 H i vs hs left) (F : Flow H' f c) (b : But f H H') : HInv f c sl hh ss H0 H' i vs hs left :=
  { s with fl := F, bt := s.bt.trans b, hsl := b _ _ s.hsl s.n1, hhh := b _ _ s.hhh s.n3, al := s.al.imp fun _ _ k => k.keep (TK.but s.fl b) }
theorem HInv.new {p : Addr} {o : HO} (s : HInv f c sl hh ss H0 H i vs hs left) (n : H p = none) : HInv f c sl hh ss H0 (upd H p o) i vs hs left :=
  { s with fl := s.fl.new n, bt := s.bt.new n, hsl := same_new n _ _ s.hsl, hhh := same_new n _ _ s.hhh, al := s.al.imp fun _ _ k => k.keep (TK.new n) }
theorem HInv.same (s : HInv f c sl hh ss H0 H i vs hs left) (k : Same H H') : HInv f c sl hh ss H0 H' i vs hs left :=
  { s with fl := s.fl.same k, bt := s.bt.same k, hsl := k _ _ s.hsl, hhh := k _ _ s.hhh, al := s.al.imp fun _ _ z => z.keep (TK.same k) }
theorem HInv.step {x : V} {h : HR} {sd : Str} (s : HInv f c sl hh ss H0 H i vs hs left) (hx : HandAt H x h) (g : GoodHand h) (z : 0 ≤ needs h.wd) (k : needs h.wd + (cnt (ss.drop (i + 1)) : Int) ≤ left) (e : ss[i]? = some sd) (o : sd = "hand" → h.wd ≠ "out" ∧ h.wd ≠ "in") :
    HInv f c sl hh ss H0 (upd H hh (.lst (vs ++ [x]))) (i + 1) (vs ++ [x]) (hs ++ [h]) (left - needs h.wd) := by
  refine { s with fl := s.fl.lst s.n3 s.n4, bt := s.bt.own s.n5, hsl := by rw [upd_ne s.n2]; exact s.hsl, hhh := upd_same, al := (s.al.snoc hx).imp fun _ _ z => z.keep (TK.lst s.hhh), len := by rw [List.length_append, s.len]; rfl, good := ?_, lf := by omega, sum := ?_, nz := ?_, one := ?_ }
  · intro y hy
    rcases List.mem_append.mp hy with hy | hy
    · exact s.good y hy
    · obtain rfl : y = h := by simpa using hy
      exact g
  · have := s.sum
    rw [List.map_append, List.sum_append]
    simp only [List.map_cons, List.map_nil, List.sum_cons, List.sum_nil]
    omega
  · intro y hy
    rcases List.mem_append.mp hy with hy | hy
    · exact s.nz y hy
    · obtain rfl : y = h := by simpa using hy
      exact z
  · intro hm
    rw [List.take_add_one, e] at hm
    rcases List.mem_append.mp hm with hm | hm
    · obtain ⟨y, h1, h2⟩ := s.one hm
      exact ⟨y, List.mem_append_left _ h1, h2⟩
    · have e2 : ("hand" : Str) = sd := by simpa using hm
      exact ⟨h, List.mem_append_right _ (by simp), o e2.symm⟩
end
theorem cnt_cons {ss : List Str} {i : Nat} {sd : Str} (e : ss[i]? = some sd) : cnt (ss.drop i) = (if sd = "in" then 0 else 1) + cnt (ss.drop (i + 1)) := by
  have hi := (List.getElem?_eq_some_iff.mp e).1
  have e2 : ss.drop i = sd :: ss.drop (i + 1) := by
    rw [List.drop_eq_getElem_cons hi, (List.getElem?_eq_some_iff.mp e).2]
  rw [e2]
  unfold cnt
  rw [List.filter_cons]
  by_cases k : sd = "in"
  · rw [if_pos k, decide_eq_true k]
    simp
  · rw [if_neg k, decide_eq_false k]
    simp only [Bool.not_false, if_true, List.length_cons]
    omega
section
variable {P : Program} {w : World} {K : PySem.W.Frag} {mg : Str → Option Value} {base : Heap}
structure HandsOk (hs : List HR) : Prop where
  len : hs.length ≤ 12
  good : ∀ h ∈ hs, GoodHand h
  sum : (hs.map fun h => needs h.wd).sum ≤ 20
  nz : ∀ h ∈ hs, 0 ≤ needs h.wd
  one : ∃ h ∈ hs, h.wd ≠ "out" ∧ h.wd ≠ "in"
def sp_law_hands (K : PySem.W.Frag) : Sp := fun vs H Q _ => ∃ (f c : Addr) (m : Int), vs = [.ref f, .int m] ∧ 1 ≤ m ∧ m ≤ 8 ∧ Flow H f c ∧
  ∀ (p : Addr) (xs : List V) (hs : List HR) (H' : Hp), H p = none → H' p = some (.lst xs) → All2 (HandAt H') xs hs → HandsOk hs → Flow H' f c → But f H H' → Q (.ref p) H'
theorem ok_law_hands {f : Addr} {fd : FuncData} (F : Fun K "_law_hands" "_law_hands" s_law_hands f fd) (T : Top K mg) : FnOk P w K mg base CX0 4 f fd ["_law_flow_here", "_law_many"] (sp_law_hands K) := by
  obtain ⟨f_law_shuffled, fd_law_shuffled, F_law_shuffled, b_law_shuffled, m_law_shuffled⟩ := T.d_law_shuffled
  have G_law_shuffled := ok_law_shuffled (P := P) (w := w) (base := base) F_law_shuffled T
  obtain ⟨f_law_rule, fd_law_rule, F_law_rule, b_law_rule, m_law_rule⟩ := T.d_law_rule
  have G_law_rule := ok_law_rule (P := P) (w := w) (base := base) F_law_rule T
  obtain ⟨f_law_needs, fd_law_needs, F_law_needs, b_law_needs, m_law_needs⟩ := T.d_law_needs
  have G_law_needs := ok_law_needs (P := P) (w := w) (base := base) F_law_needs T
  obtain ⟨f_law_pick, fd_law_pick, F_law_pick, b_law_pick, m_law_pick⟩ := T.d_law_pick
  have G_law_pick := ok_law_pick (P := P) (w := w) (base := base) F_law_pick T
  refine F.ok sc_law_hands (fun vs H Q E h => ?_) (fun cdv A outer s H vs Q E hr h => ?_)
  · obtain ⟨f, c, m, rfl, _⟩ := h
    rfl
  obtain ⟨f, c, m, rfl, m1, m8, hF, q⟩ := h
  let R1 : TS := fun D' σ' H' => D'.rt = Q ∧ ∃ (x : Int) (sl : Addr) (ss : List Str), σ' = [some (.ref f), some (.int m), some (.int (3 + x)), some (.ref sl), none, none, none, none, none, none, none] ∧ H' sl = some (.lst (ss.map V.str)) ∧ sl ≠ f ∧ ss.length ≤ 12 ∧ ("hand" : Str) ∈ ss ∧ (∀ s ∈ ss, s = "in" ∨ s = "out" ∨ s = "hand") ∧ Flow H' f c ∧ But f H H'
  refine ⟨_, (pss_cons (ps_set (i := 2) sc_law_hands.nd rfl (Or.inl rfl) (pe_op op_add pe_int (pe_callTy call_int1 (by rfl) T.m_int (by decide +kernel) (pa_cons (pe_cmpR op_lt (pv 1) pe_int (nomark _)) pa_nil))))
      (pss_cons (ps_set (i := 3) sc_law_hands.nd rfl (Or.inl rfl) (pe_op op_cat (pe_op op_cat (pe_op op_rep (pe_lst (pa_cons pe_str pa_nil)) (pe_call G_law_pick (hr.mono (by decide)) (by rfl) m_law_pick F_law_pick.kp b_law_pick .nil pass0 (pa_cons (pv 0) (pa_cons (pv 2) pa_nil)))) (pe_op op_rep (pe_lst (pa_cons pe_str pa_nil)) (pe_call G_law_pick (hr.mono (by decide)) (by rfl) m_law_pick F_law_pick.kp b_law_pick .nil pass0 (pa_cons (pv 0) (pa_cons (pv 2) pa_nil))))) (pe_op op_rep (pe_lst (pa_cons pe_str pa_nil)) (pv 1))))
      (pss_cons (ps_set (i := 3) sc_law_hands.nd rfl (Or.inl rfl) (pe_call G_law_shuffled (hr.mono (by decide)) (by rfl) m_law_shuffled F_law_shuffled.kp b_law_shuffled .nil pass0 (pa_cons (pv 0) (pa_cons (pv 3) pa_nil))))
      (PSs.to (pss_cons (ps_set (i := 4) sc_law_hands.nd rfl (Or.inl rfl) pe_int)
      (pss_cons (ps_set (i := 5) sc_law_hands.nd rfl (Or.inl rfl) (pe_lst pa_nil))
      (pss_cons (ps_for PassesOwn.never rfl (pi_enum (by rfl) T.m_enumerate (pa_cons (pv 3) pa_nil)) (pg_tupK K rfl rfl (pgs_cons (pg_name (i := 6) sc_law_hands.nd rfl (Or.inl rfl)) (pgs_cons (pg_name (i := 7) sc_law_hands.nd rfl (Or.inl rfl)) pgs_nil)))
        (pss_cons (ps_if (pt_cmpR op_eq (pv 7) pe_str (nomark _)) (pss_cons (ps_set (i := 8) sc_law_hands.nd rfl (Or.inl rfl) (pe_callB (call_len_seqK K rfl) (by rfl) T.m_len (by decide +kernel) (pa_cons (pe_lc (own := [("_law_other", 9)]) (g := gName 9) (by rfl) sc_law_hands.nd (pi_listK K rfl (pe_slice (sl_listK K rfl) (pv 3) (po_some (pe_op op_add (pv 6) pe_int)) po_none)) (blkOk_by (own := [("_law_other", 9)]) (N := N_law_hands) (sc := defScope s_law_hands) (by decide +kernel)) (fun _ _ _ _ _ => (pg_name (i := 9) sc_law_hands.nd rfl (Or.inl rfl))) (fun _ _ _ _ _ => pts_one (pt_cmpR op_ne (pv 9) pe_str (nomark _))) (fun _ _ _ _ _ => (pv 9))) pa_nil)))
      (pss_cons (ps_set (i := 10) sc_law_hands.nd rfl (Or.inl rfl) (pe_call G_law_rule (hr.mono (by decide)) (by rfl) m_law_rule F_law_rule.kp b_law_rule .nil pass0 (pa_cons (pv 0) (pa_cons (pe_op op_sub (pv 4) (pv 8)) pa_nil))))
      (pss_one (ps_expr (pe_bmK K rfl PySem.F.plainAttrs_list PySem.F.slot_list_append PySem.F.type_list_append mt_append (pv 5) (pa_cons (pe_tup (pa_cons (pv 10) (pa_cons (pe_call G_law_pick (hr.mono (by decide)) (by rfl) m_law_pick F_law_pick.kp b_law_pick .nil pass0 (pa_cons (pv 0) (pa_cons (pe_ix (ix_listK K rfl) (pe_lst (pa_cons pe_int (pa_cons pe_int (pa_cons pe_int pa_nil)))) (pe_call G_law_pick (hr.mono (by decide)) (by rfl) m_law_pick F_law_pick.kp b_law_pick .nil pass0 (pa_cons (pv 0) (pa_cons pe_int pa_nil))) (fun _ _ => rfl)) pa_nil))) pa_nil))) pa_nil)))))) (pss_one (ps_expr (pe_bmK K rfl PySem.F.plainAttrs_list PySem.F.slot_list_append PySem.F.type_list_append mt_append (pv 5) (pa_cons (pe_tup (pa_cons (pe_tup (pa_cons (pv 7) pa_nil)) (pa_cons pe_int pa_nil))) pa_nil)))))
      (pss_one (ps_set (i := 4) sc_law_hands.nd rfl (Or.inl rfl) (pe_op op_sub (pv 4) (pe_call G_law_needs (hr.mono (by decide)) (by rfl) m_law_needs F_law_needs.kp b_law_needs .nil pass0 (pa_cons (pe_ix (ix_tupK K rfl) (pe_ix (ix_listK K rfl) (pv 5) (pe_un un_neg pe_int) (fun _ _ => rfl)) pe_int (fun _ _ => rfl)) pa_nil)))))))
      (pss_one (ps_ret (pv 5)))))) R1 ?tail1)))), ?_⟩
  case tail1 =>
    rintro D' σ' H1 ⟨eD, x, sl, ss, rfl, hsl, nsl, hlen, hhand, hall, F1, B1⟩
    refine ⟨(by show 0 ≤ sizeLine; decide), fun hh nhh => ?_⟩
    have I0 : HInv f c sl hh ss H (upd H1 hh (.lst [])) 0 [] [] 20 :=
      { fl := F1.new nhh, bt := B1.new nhh, hsl := same_new nhh _ _ hsl, hhh := upd_same, al := .nil, len := rfl, good := (fun _ h => nomatch h), lf := by have := cnt_le (ss.drop 0); rw [List.length_drop] at this; omega, sum := rfl, nz := (fun _ h => nomatch h), one := (fun h => nomatch h), n1 := nsl, n2 := ne_of_none hsl nhh, n3 := F1.ne nhh, n4 := F1.nec nhh, n5 := B1.none nhh (F1.ne nhh) }
    refine ⟨_, rfl, sl, _, rfl, SqL.of I0.hsl, for_it (n := ss.length) (fun i σ H2 => ∃ (vs : List V) (hs : List HR) (left : Int) (v5 v6 v7 v8 v9 : Option V), σ = [some (.ref f), some (.int m), some (.int (3 + x)), some (.ref sl), some (.int left), some (.ref hh), v5, v6, v7, v8, v9] ∧ HInv f c sl hh ss H H2 i vs hs left)
      ⟨[], [], 20, none, none, none, none, none, rfl, I0⟩ ?_ ?_ ?_ ?_⟩
    · rintro i σ H2 hi ⟨vs, hs, left, v5, v6, v7, v8, v9, rfl, I⟩
      exact ⟨_, _, SqL.of I.hsl, by rw [List.getElem?_map, List.getElem?_eq_getElem hi]; rfl⟩
    · rintro σ H2 ⟨vs, hs, left, v5, v6, v7, v8, v9, rfl, I⟩
      exact ⟨_, SqL.of I.hsl, by rw [List.length_map]; exact Nat.le_refl _⟩
    · rintro i x σ H2 H3 hi ⟨vs, hs, left, v5, v6, v7, v8, v9, rfl, I⟩ ⟨t, y, rfl, nt, rfl, fy⟩
      have ei : ss[i]? = some ss[i] := List.getElem?_eq_getElem hi
      obtain ⟨sd, hsd⟩ : ∃ sd, sd = ss[i] := ⟨_, rfl⟩
      rw [← hsd] at ei
      have ey : y = V.str sd := by
        have := fy _ (SqL.of I.hsl)
        rw [List.getElem?_map, ei] at this
        exact (Option.some.inj this).symm
      subst ey
      have I1 := I.new (o := .tup [V.int ((i : Nat) : Int), V.str sd]) nt
      have hc1 := cnt_cons ei
      have hl := I.lf
      have sz : vs.length < sizeLine := small1000 (by rw [I.al.length, I.len]; omega)
      refine ⟨t, _, rfl, SqT.of upd_same, rfl, _, _, rfl, _, _, rfl, rfl, ?_⟩
      refine ⟨_, rfl, rfl, _, rfl, if_str (fun e => ?_) (fun e => ?_)⟩
      · -- a hand
        refine ⟨_, rfl, _, rfl, _, _, rfl, rfl, _, rfl, sl, _, rfl, SqL.of I1.hsl, fun cp ncp => ?_⟩
        have I2 := I1.new (o := .lst (cutV (ss.map V.str) (some (((i : Nat) : Int) + 1)) none)) ncp
        have ecut : cutV (ss.map V.str) (some (((i : Nat) : Int) + 1)) none = (ss.drop (i + 1)).map V.str := by
          rw [show ((i : Nat) : Int) + 1 = ((i + 1 : Nat) : Int) by omega, cut_drop, List.map_drop]
        refine ⟨cp, rfl, ⟨_, SqL.of upd_same⟩, fun D nD => lc_list (K := K) (a := cp) (xs := cutV (ss.map V.str) (some (((i : Nat) : Int) + 1)) none) (fun j H5 => ∃ acc : List V, H5 D = some (.lst acc) ∧ acc.length = cnt ((ss.drop (i + 1)).take j) ∧ H5 cp = some (.lst (cutV (ss.map V.str) (some (((i : Nat) : Int) + 1)) none)) ∧ HInv f c sl hh ss H H5 i vs hs left ∧ D ≠ cp ∧ D ≠ f ∧ D ≠ c ∧ D ≠ sl ∧ D ≠ hh ∧ H D = Option.none)
          ⟨[], upd_same, rfl, same_new nD _ _ upd_same, I2.new nD, (ne_of_none upd_same nD).symm, I2.fl.ne nD, I2.fl.nec nD, (ne_of_none I2.hsl nD).symm, (ne_of_none I2.hhh nD).symm, I2.bt.none nD (I2.fl.ne nD)⟩ (fun j H5 _ ⟨_, _, _, h, _⟩ => SqL.of h) ?_ ?_⟩
        · rintro j z H5 hz ⟨acc, hD, hacc, hcp, I5, d1, d2, d3, d4, d5, d6⟩
          rw [ecut, List.getElem?_map] at hz
          cases ez : (ss.drop (i + 1))[j]? with
          | none => rw [ez] at hz; cases hz
          | some so =>
            rw [ez] at hz
            obtain rfl : V.str so = z := Option.some.inj hz
            refine ⟨rfl, _, rfl, rfl, _, rfl, if_bl (fun k => ?_) (fun k => ?_)⟩
            · have k2 : ¬ so = "in" := fun y => by
                rw [y] at k
                exact absurd k (by decide +kernel)
              refine ⟨_, rfl, acc, hD, ?_, acc ++ [V.str so], upd_same, ?_, by rw [upd_ne d1.symm]; exact hcp, ?_, d1, d2, d3, d4, d5, d6⟩
              · rw [hacc]
                have := cnt_le ((ss.drop (i + 1)).take j)
                rw [List.length_take, List.length_drop] at this
                exact small1000 (by omega)
              · rw [List.length_append, hacc, List.take_add_one, ez]
                unfold cnt
                rw [List.filter_append, List.length_append]
                simp [k2]
              · exact { I5 with fl := I5.fl.lst d2 d3, bt := I5.bt.own d6, hsl := by rw [upd_ne d4.symm]; exact I5.hsl, hhh := by rw [upd_ne d5.symm]; exact I5.hhh, al := I5.al.imp fun _ _ y => y.keep (TK.lst hD) }
            · have k2 : so = "in" := by
                by_cases y : so = "in"
                · exact y
                · have k3 : (!decide (V.str so = V.str "in")) = false := k
                  rw [decide_eq_false (fun y2 => y (V.str.inj y2))] at k3
                  cases k3
              refine ⟨acc, hD, ?_, hcp, I5, d1, d2, d3, d4, d5, d6⟩
              rw [hacc, List.take_add_one, ez]
              unfold cnt
              rw [List.filter_append, List.length_append]
              simp [k2]
        · rintro H5 ⟨acc, hD, hacc, hcp, I5, d1, d2, d3, d4, d5, d6⟩
          have hacc2 : acc.length = cnt (ss.drop (i + 1)) := by
            rw [hacc, List.take_of_length_le]
            rw [ecut, List.length_map]
            exact Nat.le_refl _
          have hm0 : 0 ≤ left - ((acc.length : Nat) : Int) := by
            have hne : ¬ sd = "in" := by rw [e]; decide +kernel
            rw [hacc2]
            rw [hc1, if_neg hne] at hl
            omega
          refine ⟨D, _, rfl, .inl (SqL.of hD), ?_⟩
          refine ⟨_, rfl, _, rfl, _, rfl, _, _, rfl, rfl, f, c, _, rfl, hm0, I5.fl, fun r hR H6 hr6 gR n1 n0 mo F6 B6 => ?_⟩
          have I6 := I5.but F6 B6
          refine ⟨_, rfl, .inl ⟨rfl, _, SqL.of I6.hhh⟩, _, rfl, _, rfl, (by show 3 ≤ sizeLine; decide), fun ml nml => ?_⟩
          have I7 := I6.new (o := .lst [V.int 5, V.int 5, V.int 31]) nml
          refine ⟨_, rfl, f, c, 3, rfl, by decide, by decide +kernel, I7.fl, fun z H8 z0 z3 F8 B8 => ?_⟩
          have I8 := I7.but F8 B8
          have hml := B8 _ _ upd_same (I6.fl.ne nml)
          obtain ⟨mm, hmm, mk⟩ : ∃ mm : Int, atI [V.int 5, V.int 5, V.int 31] z = some (.int mm) ∧ (mm = 5 ∨ mm = 31) := by
            have : z = 0 ∨ z = 1 ∨ z = 2 := by omega
            rcases this with rfl | rfl | rfl
            · exact ⟨5, rfl, .inl rfl⟩
            · exact ⟨5, rfl, .inl rfl⟩
            · exact ⟨31, rfl, .inr rfl⟩
          refine ⟨ml, _, _, _, rfl, rfl, SqL.of hml, hmm, f, c, mm, rfl, by omega, (by rcases mk with rfl | rfl <;> decide +kernel), I8.fl, fun mo2 H9 o0 o1 F9 B9 => ?_⟩
          have I9 := I8.but F9 B9
          refine ⟨(by show 2 ≤ sizeLine; decide), fun t2 nt2 => ?_⟩
          have I10 := I9.new (o := .tup [V.ref r, V.int mo2]) nt2
          have sz10 : vs.length < sizeLine := sz
          refine ⟨hh, _, _, rfl, rfl, I10.hhh, sz10, ?_⟩
          have k9 : TK H6 H9 := ((TK.new nml).trans (TK.but I7.fl B8)).trans (TK.but I8.fl B9)
          have hx : HandAt (upd H9 t2 (.tup [V.ref r, V.int mo2])) (V.ref t2) ⟨hR.wd, hR.no, mo2⟩ := ⟨t2, r, rfl, upd_same, TK.new nt2 _ _ (k9 _ _ hr6)⟩
          have gd : GoodHand ⟨hR.wd, hR.no, mo2⟩ := ⟨.inl ⟨gR.wd, gR.no, gR.big⟩, o0, (show mo2 ≤ 30 by omega)⟩
          have nout : hR.wd ≠ "out" ∧ hR.wd ≠ "in" := ⟨fun y => by
            have := gR.wd
            rw [y] at this
            exact absurd this (by decide +kernel), fun y => by
            have := gR.wd
            rw [y] at this
            exact absurd this (by decide +kernel)⟩
          have I11 := I10.step (h := ⟨hR.wd, hR.no, mo2⟩) hx gd n0 (by show needs hR.wd + _ ≤ left; rw [hacc2] at n1; omega) ei (fun _ => nout)
          refine ⟨_, rfl, _, rfl, 1, rfl, hh, _, -1, _, rfl, rfl, SqL.of I11.hhh, atI_last _ _, t2, _, _, _, rfl, rfl, SqT.of (TK.lst I10.hhh _ _ upd_same), atI_nat (j := 0) rfl, r, hR.wd, _, rfl, SqT.of (TK.lst I10.hhh _ _ (TK.new nt2 _ _ (k9 _ _ hr6))), fun H12 s12 => ⟨_, _, rfl, rfl, ?_⟩⟩
          exact ⟨_, _, _, _, _, _, _, _, rfl, I11.same s12⟩
      · -- a door
        refine ⟨_, rfl, .inl ⟨rfl, _, SqL.of I1.hhh⟩, _, rfl, (by show 1 ≤ sizeLine; decide), fun r nr => ⟨(by show 2 ≤ sizeLine; decide), fun t2 nt2 => ?_⟩⟩
        have I2 := (I1.new (o := .tup [V.str sd]) nr).new (o := .tup [V.ref r, V.int 0]) nt2
        refine ⟨hh, _, _, rfl, rfl, I2.hhh, sz, ?_⟩
        have hsd2 : sd = "in" ∨ sd = "out" := by
          rcases hall sd (List.mem_of_getElem? ei) with y | y | y
          · exact .inl y
          · exact .inr y
          · exact absurd y e
        have hn : needs sd = (if sd = "in" then 0 else 1) := by
          rcases hsd2 with y | y <;> rw [y] <;> decide +kernel
        have hx : HandAt (upd (upd (upd H2 t (.tup [V.int ((i : Nat) : Int), V.str sd])) r (.tup [V.str sd])) t2 (.tup [V.ref r, V.int 0])) (V.ref t2) ⟨sd, none, 0⟩ := ⟨t2, r, rfl, upd_same, same_new nt2 _ _ upd_same⟩
        have I3 := I2.step (h := ⟨sd, none, 0⟩) hx ⟨.inr ⟨hsd2, rfl⟩, (show (0 : Int) ≤ 0 by decide), (show (0 : Int) ≤ 30 by decide)⟩ (by show 0 ≤ needs sd; rw [hn]; split <;> decide) (by
          show needs sd + _ ≤ left
          rw [hn]
          rw [hc1] at hl
          by_cases y : sd = "in"
          · rw [if_pos y] at hl ⊢; omega
          · rw [if_neg y] at hl ⊢; omega) ei (fun y => absurd y e)
        refine ⟨_, rfl, _, rfl, 1, rfl, hh, _, -1, _, rfl, rfl, SqL.of I3.hhh, atI_last _ _, t2, _, _, _, rfl, rfl, SqT.of (TK.lst I2.hhh _ _ upd_same), atI_nat (j := 0) rfl, r, sd, _, rfl, SqT.of (TK.lst I2.hhh _ _ (same_new nt2 _ _ upd_same)), fun H12 s12 => ⟨_, _, rfl, rfl, ?_⟩⟩
        exact ⟨_, _, _, _, _, _, _, _, rfl, I3.same s12⟩
    · rintro σ H2 ⟨vs, hs, left, v5, v6, v7, v8, v9, rfl, I⟩
      refine ⟨_, rfl, ?_⟩
      rw [eD]
      refine q hh vs hs H2 I.n5 I.hhh I.al ⟨by rw [I.len]; exact hlen, I.good, ?_, I.nz, I.one (by rw [List.take_length]; exact hhand)⟩ I.fl I.bt
      have := I.sum
      have := I.lf
      omega
  obtain ⟨x, ex⟩ : ∃ x : Int, (if decide (m < 7) = true then (1 : Int) else 0) = x := ⟨_, rfl⟩
  have xb : x = 0 ∨ (x = 1 ∧ m < 7) := by
    by_cases h7 : m < 7
    · rw [decide_eq_true h7] at ex
      exact .inr ⟨ex.symm, h7⟩
    · rw [decide_eq_false h7] at ex
      exact .inl ex.symm
  have lx : (3 + x).natAbs.log2 < 9000 := by
    rcases xb with rfl | ⟨rfl, _⟩ <;> decide +kernel
  refine ⟨_, rfl, _, _, rfl, rfl, .inr ⟨_, rfl, 3, x, rfl, congrArg V.int ex, ?_⟩⟩
  refine ⟨(by show 1 ≤ sizeLine; decide), fun l1 nl1 => ?_⟩
  refine ⟨_, rfl, _, rfl, f, c, 3 + x, rfl, by omega, lx, hF.new nl1, fun v1 H1 a1 b1 F1 B1 => ?_⟩
  have g1 := B1 _ _ upd_same (hF.ne nl1)
  have small : ∀ v : Int, 0 ≤ v → v ≤ 8 → [V.str "in"].length * v.toNat ≤ sizeLine := fun v v0 v8 => little (by show 1 * v.toNat ≤ 1000; omega)
  refine ⟨l1, v1, _, rfl, rfl, g1, by omega, by omega, small v1 a1 (by omega), fun p1 np1 => ?_⟩
  rw [flat_rep]
  have F2 := F1.new (o := .lst (List.replicate v1.toNat (V.str "in"))) np1
  refine ⟨(by show 1 ≤ sizeLine; decide), fun l2 nl2 => ?_⟩
  refine ⟨_, rfl, _, rfl, f, c, 3 + x, rfl, by omega, lx, F2.new nl2, fun v2 H3 a2 b2 F3 B3 => ?_⟩
  have g2 := B3 _ _ upd_same (F2.ne nl2)
  have h1 := B3 _ _ (same_new nl2 _ _ upd_same) (F1.ne np1)
  refine ⟨l2, v2, _, rfl, rfl, g2, by omega, by omega, small v2 a2 (by omega), fun p2 np2 => ?_⟩
  rw [flat_rep]
  have F4 := F3.new (o := .lst (List.replicate v2.toNat (V.str "out"))) np2
  refine ⟨p1, p2, _, _, rfl, rfl, same_new np2 _ _ h1, upd_same, ?_, fun p3 np3 => ?_⟩
  · rw [List.length_replicate, List.length_replicate]; exact little (by omega)
  have F5 := F4.new (o := .lst (List.replicate v1.toNat (V.str "in") ++ List.replicate v2.toNat (V.str "out"))) np3
  refine ⟨(by show 1 ≤ sizeLine; decide), fun l4 nl4 => ⟨_, rfl, l4, m, _, rfl, rfl, upd_same, by omega, by omega, small m (by omega) m8, fun p5 np5 => ?_⟩⟩
  rw [flat_rep]
  have F6 := F5.new (o := .lst [V.str "hand"]) nl4
  have F7 := F6.new (o := .lst (List.replicate m.toNat (V.str "hand"))) np5
  refine ⟨p3, p5, _, _, rfl, rfl, same_new np5 _ _ (same_new nl4 _ _ upd_same), upd_same, ?_, fun p6 np6 => ?_⟩
  · rw [List.length_append, List.length_replicate, List.length_replicate, List.length_replicate]; exact little (by omega)
  refine ⟨_, rfl, _, rfl, f, c, p6, _, rfl, SqL.of upd_same, F7.ne np6, ?_, F7.new np6, fun p ys H8 hp np hy F8 B8 => ?_⟩
  · rw [List.length_append, List.length_append, List.length_replicate, List.length_replicate, List.length_replicate]; omega
  have ez : (List.replicate v1.toNat (V.str "in") ++ List.replicate v2.toNat (V.str "out")) ++ List.replicate m.toNat (V.str "hand") = ((List.replicate v1.toNat ("in" : Str) ++ List.replicate v2.toNat ("out" : Str)) ++ List.replicate m.toNat ("hand" : Str)).map V.str := by
    rw [List.map_append, List.map_append, List.map_replicate, List.map_replicate, List.map_replicate]
  rw [ez] at hp
  obtain ⟨ss, rfl, hss⟩ := perm_strs hp
  have pf : p ≠ f := fun y => by
    rw [y] at np
    obtain ⟨_, _, _, _, _, e1, _⟩ := F7.new (o := .lst ((List.replicate v1.toNat (V.str "in") ++ List.replicate v2.toNat (V.str "out")) ++ List.replicate m.toNat (V.str "hand"))) np6
    rw [e1] at np
    cases np
  refine ⟨rfl, x, p, ss, rfl, hy, pf, ?_, ?_, ?_, F8, But.trans ((((((((((But.refl.new nl1).trans B1).new np1).new nl2).trans B3).new np2).new np3).new nl4).new np5).new np6) B8⟩
  · rw [hss.length_eq, List.length_append, List.length_append, List.length_replicate, List.length_replicate, List.length_replicate]; omega
  · refine hss.mem_iff.mpr (List.mem_append_right _ (List.mem_replicate.mpr ⟨by omega, rfl⟩))
  · intro s hs
    rcases List.mem_append.mp (hss.mem_iff.mp hs) with hs | hs
    · rcases List.mem_append.mp hs with hs | hs
      · exact .inl (List.mem_replicate.mp hs).2
      · exact .inr (.inl (List.mem_replicate.mp hs).2)
    · exact .inr (.inr (List.mem_replicate.mp hs).2)
end
/-! ### rules as data -/
abbrev ruleD (h : HR) : List PyData := .str h.wd :: (match h.no with | none => [] | some n => [.int n])
theorem rule_dp {K : PySem.W.Frag} {H : Hp} {r : Addr} {h : HR} (e : H r = some (.tup (ruleL h))) : Dp K H (.ref r) (.tuple (ruleD h)) := by
  obtain ⟨wd, no, mom⟩ := h
  cases no with
  | none => exact .tup (SqT.of e) (.cons (.str _) .nil)
  | some n => exact .tup (SqT.of e) (.cons (.str _) (.cons (.int _) .nil))
theorem rule_shaped {h : HR} (k : PyData.canLay0 (.str h.wd) = true) : SeqAt.shaped (.tuple (ruleD h)) = true := by
  obtain ⟨wd, no, mom⟩ := h
  have k : PyData.canLay0 (.str wd) = true := k
  cases no <;> simp [SeqAt.shaped, PyData.canLay0, PyData.canLayAll0, PyData.depth, PyData.depthAll] <;> simpa [PyData.canLay0] using k
theorem GoodHand.lay {h : HR} (g : GoodHand h) : PyData.canLay0 (.str h.wd) = true := by
  have : h.wd ∈ nine ∨ h.wd = "in" ∨ h.wd = "out" := g.1.elim (fun k => .inl k.wd) (fun k => .inr k.1)
  rcases this with k | k | k
  · unfold nine at k
    simp only [List.mem_cons, List.not_mem_nil, or_false] at k
    rcases k with k | k | k | k | k | k | k | k | k <;> rw [k] <;> decide +kernel
  · rw [k]; decide +kernel
  · rw [k]; decide +kernel
theorem one_shaped {z : Str} (k : PyData.canLay0 (.str z) = true) : SeqAt.shaped (.tuple [.str z]) = true := rule_shaped (h := ⟨z, none, 0⟩) k
theorem at0 {xs : List V} {i : Nat} {v : V} (h : xs[i]? = some v) : atI xs (0 + ((i : Nat) : Int)) = some v := by
  rw [Int.zero_add]
  exact atI_nat h
theorem rule_eqv (h : HR) (z : Str) : PyData.eqv (.tuple (ruleD h)) (.tuple [.str z]) = (decide (h.wd = z) && h.no.isNone) := by
  obtain ⟨wd, no, mom⟩ := h
  have e : (wd == z) = decide (wd = z) := by
    by_cases k : wd = z
    · rw [k, decide_eq_true rfl]; exact beq_self_eq_true z
    · rw [decide_eq_false k]; exact beq_eq_false_iff_ne.mpr k
  cases no with
  | none =>
    show (wd == z && true) = (decide (wd = z) && true)
    rw [e]
  | some n =>
    show (wd == z && false) = (decide (wd = z) && false)
    rw [Bool.and_false, Bool.and_false]
theorem GoodHand.door {h : HR} (g : GoodHand h) (z : Str) (hz : z = "in" ∨ z = "out") : (decide (h.wd = z) && h.no.isNone) = decide (h.wd = z) := by
  by_cases k : h.wd = z
  · rw [decide_eq_true k, Bool.true_and]
    rcases g.1 with g | g
    · have := g.wd
      rw [k] at this
      rcases hz with rfl | rfl <;> exact absurd this (by decide +kernel)
    · rw [g.2]; rfl
  · rw [decide_eq_false k]; rfl
/-! ### numbers in lists -/
abbrev nV (n : Nat) : V := .int (n : Nat)
def unN : V → Nat
  | .int i => i.toNat
  | _ => 0
def unI : V → Int
  | .int i => i
  | _ => 0
theorem perm_inv {α : Type} {f : α → V} {g : V → α} (k : ∀ a, g (f a) = a) {ys : List V} {zs : List α} (h : ys.Perm (zs.map f)) : ∃ ss : List α, ys = ss.map f ∧ ss.Perm zs := by
  refine ⟨ys.map g, ?_, ?_⟩
  · rw [List.map_map]
    symm
    refine (List.map_congr_left (g := id) fun y hy => ?_).trans (List.map_id _)
    obtain ⟨z, _, e⟩ := List.mem_map.mp (h.mem_iff.mp hy)
    subst e
    show f (g (f z)) = f z
    rw [k]
  · have q := h.map g
    rw [List.map_map] at q
    have e : zs.map (g ∘ f) = zs := (List.map_congr_left (g := id) fun z _ => k z).trans (List.map_id _)
    rw [e] at q
    exact q
def nd (hs : List HR) (j : Nat) : Nat := match hs[j]? with | some h => (needs h.wd).toNat | none => 0
def tkTo (hs : List HR) : Nat → List Nat
  | 0 => []
  | n + 1 => tkTo hs n ++ List.replicate (nd hs n) n
theorem tk_count (hs : List HR) (k : Nat) : ∀ n, (tkTo hs n).count k = if k < n then nd hs k else 0
  | 0 => by simp [tkTo]
  | n + 1 => by
    unfold tkTo
    rw [List.count_append, tk_count hs k n, List.count_replicate]
    by_cases h1 : k < n
    · have h2 : ¬ (n == k) = true := by simp; omega
      rw [if_pos h1, if_neg h2, if_pos (show k < n + 1 by omega), Nat.add_zero]
    · by_cases h2 : n = k
      · subst h2
        rw [if_neg h1, if_pos (beq_self_eq_true n), if_pos (show n < n + 1 by omega), Nat.zero_add]
      · have h3 : ¬ (n == k) = true := by simpa using h2
        rw [if_neg h1, if_neg h3, if_neg (show ¬ k < n + 1 by omega)]
theorem tk_mem (hs : List HR) : ∀ n k, k ∈ tkTo hs n → k < n
  | 0, k, h => nomatch h
  | n + 1, k, h => by
    rcases List.mem_append.mp h with h | h
    · exact Nat.lt_succ_of_lt (tk_mem hs n k h)
    · rw [(List.mem_replicate.mp h).2]; exact Nat.lt_succ_self n
theorem tk_len (hs : List HR) (z : ∀ h ∈ hs, 0 ≤ needs h.wd) : ∀ n, n ≤ hs.length → ((tkTo hs n).length : Int) = ((hs.take n).map fun h => needs h.wd).sum
  | 0, _ => rfl
  | n + 1, hn => by
    have e : hs[n]? = some hs[n] := List.getElem?_eq_getElem (by omega)
    unfold tkTo
    rw [List.length_append, List.length_replicate, List.take_add_one, e, List.map_append, List.sum_append, Int.natCast_add, tk_len hs z n (by omega)]
    unfold nd
    rw [e]
    have := z hs[n] (List.getElem_mem _)
    simp only [Option.toList, List.map_cons, List.map_nil, List.sum_cons, List.sum_nil]
    omega
structure RoomOk (hs : List HR) (bs : List BR) : Prop where
  hands : hs.length ≤ 12
  good : ∀ h ∈ hs, GoodHand h
  ends : ∀ b ∈ bs, b.one < hs.length ∧ b.to < hs.length
  out : ∀ b ∈ bs, ∀ h, hs[b.one]? = some h → h.wd ≠ "out"
  th : ∀ b ∈ bs, b.th.length ≤ 300 ∧ True
  rank : ∃ rk : Nat → Int, ∀ b ∈ bs, b.th = [] → rk b.one < rk b.to
  count : ∀ k h, hs[k]? = some h → (((bs.map BR.to).count k : Nat) : Int) = needs h.wd
  many : bs.length ≤ 20
structure RoomAt (H : Hp) (r : Addr) (hs : List HR) (bs : List BR) : Prop where
  ex : ∃ (ha ba : Addr) (hv bv : List V), H r = some (.tup [.ref ha, .ref ba]) ∧ H ha = some (.tup hv) ∧ H ba = some (.tup bv) ∧ All2 (HandAt H) hv hs ∧ All2 (BeltAt H) bv bs
theorem RoomAt.keep {H H' : Hp} {r : Addr} {hs : List HR} {bs : List BR} (a : RoomAt H r hs bs) (k : TK H H') : RoomAt H' r hs bs := by
  obtain ⟨ha, ba, hv, bv, e1, e2, e3, a1, a2⟩ := a.ex
  exact ⟨ha, ba, hv, bv, k _ _ e1, k _ _ e2, k _ _ e3, a1.imp fun _ _ z => z.keep k, a2.imp fun _ _ z => z.keep k⟩
section
variable {P : Program} {w : World} {K : PySem.W.Frag} {mg : Str → Option Value} {base : Heap}
def sp_law_room (K : PySem.W.Frag) : Sp := fun vs H Q _ => ∃ (f c : Addr) (m : Int), vs = [.ref f, .int m] ∧ 1 ≤ m ∧ m ≤ 8 ∧ Flow H f c ∧
  ∀ (r : Addr) (hs : List HR) (bs : List BR) (H' : Hp), RoomAt H' r hs bs → RoomOk hs bs → (∃ h ∈ hs, h.wd ≠ "out" ∧ h.wd ≠ "in") → (∀ b ∈ bs, b.th.length ≤ 6) → Flow H' f c → But f H H' → Q (.ref r) H'
/-- what stands while a room is drawn: the draws, the list of its hands -/
structure RI (f c hh : Addr) (H0 H : Hp) (xs : List V) (hs : List HR) : Prop where
  fl : Flow H f c
  bt : But f H0 H
  lh : H hh = some (.lst xs)
  al : All2 (HandAt H) xs hs
  n1 : hh ≠ f
  n2 : H0 hh = none
section
variable {f c hh : Addr} {H0 H H' : Hp} {xs : List V} {hs : List HR}
theorem RI.but (s : RI f c hh H0 H xs hs) (F : Flow H' f c) (b : But f H H') : RI f c hh H0 H' xs hs :=
  { s with fl := F, bt := s.bt.trans b, lh := b _ _ s.lh s.n1, al := s.al.imp fun _ _ k => k.keep (TK.but s.fl b) }
theorem RI.new {p : Addr} {o : HO} (s : RI f c hh H0 H xs hs) (n : H p = none) : RI f c hh H0 (upd H p o) xs hs :=
  { s with fl := s.fl.new n, bt := s.bt.new n, lh := same_new n _ _ s.lh, al := s.al.imp fun _ _ k => k.keep (TK.new n) }
theorem RI.same (s : RI f c hh H0 H xs hs) (k : Same H H') : RI f c hh H0 H' xs hs :=
  { s with fl := s.fl.same k, bt := s.bt.same k, lh := k _ _ s.lh, al := s.al.imp fun _ _ z => z.keep (TK.same k) }
theorem RI.lst {D : Addr} {as bs : List V} (s : RI f c hh H0 H xs hs) (h : H D = some (.lst as)) (d1 : D ≠ f) (d2 : D ≠ c) (d3 : D ≠ hh) (d4 : H0 D = none) : RI f c hh H0 (upd H D (.lst bs)) xs hs :=
  { s with fl := s.fl.lst d1 d2, bt := s.bt.own d4, lh := by rw [upd_ne d3.symm]; exact s.lh, al := s.al.imp fun _ _ z => z.keep (TK.lst h) }
end
theorem ok_law_room {f : Addr} {fd : FuncData} (F : Fun K "_law_room" "_law_room" s_law_room f fd) (T : Top K mg) : FnOk P w K mg base CX0 5 f fd ["_law_flow_here", "_law_most"] (sp_law_room K) := by
  obtain ⟨f_law_hands, fd_law_hands, F_law_hands, b_law_hands, m_law_hands⟩ := T.d_law_hands
  have G_law_hands := ok_law_hands (P := P) (w := w) (base := base) F_law_hands T
  obtain ⟨f_law_shuffled, fd_law_shuffled, F_law_shuffled, b_law_shuffled, m_law_shuffled⟩ := T.d_law_shuffled
  have G_law_shuffled := ok_law_shuffled (P := P) (w := w) (base := base) F_law_shuffled T
  obtain ⟨f_law_pick, fd_law_pick, F_law_pick, b_law_pick, m_law_pick⟩ := T.d_law_pick
  have G_law_pick := ok_law_pick (P := P) (w := w) (base := base) F_law_pick T
  obtain ⟨f_law_needs, fd_law_needs, F_law_needs, b_law_needs, m_law_needs⟩ := T.d_law_needs
  have G_law_needs := ok_law_needs (P := P) (w := w) (base := base) F_law_needs T
  obtain ⟨f_law_thing, fd_law_thing, F_law_thing, b_law_thing, m_law_thing⟩ := T.d_law_thing
  have G_law_thing := ok_law_thing (P := P) (w := w) (base := base) F_law_thing T
  refine F.ok sc_law_room (fun vs H Q E h => ?_) (fun cdv A outer s H vs Q E hr h => ?_)
  · obtain ⟨f, c, m, rfl, _⟩ := h
    rfl
  obtain ⟨f, c, m, rfl, m1, m8, hF, q⟩ := h
  have hm9 : m.natAbs.log2 < 9000 := by
    obtain ⟨j, rfl⟩ : ∃ j : Nat, m = (j : Int) := ⟨m.toNat, by omega⟩
    exact log_small (by omega)
  let R1 : TS := fun D' σ' H' => D'.rt = Q ∧ ∃ (hh rk gv : Addr) (xs : List V) (hs : List HR) (is : List Int) (gs : List Nat), σ' = [some (.ref f), some (.int m), some (.ref hh), some (.ref rk), some (.ref gv), none, none, none, none, none, none] ∧ RI f c hh H H' xs hs ∧ HandsOk hs ∧ H' rk = some (.lst (is.map V.int)) ∧ is.length = hs.length ∧ H' gv = some (.lst (gs.map nV)) ∧ gs ≠ [] ∧ gs.length ≤ 12 ∧ (∀ k ∈ gs, ∃ h, hs[k]? = some h ∧ h.wd ≠ "out") ∧ rk ≠ f ∧ gv ≠ f
  let R2 : TS := fun D' σ' H' => D'.rt = Q ∧ ∃ (hh rk gv tk : Addr) (xs : List V) (hs : List HR) (is : List Int) (gs ts : List Nat) (v5 : Option V), σ' = [some (.ref f), some (.int m), some (.ref hh), some (.ref rk), some (.ref gv), v5, some (.ref tk), none, none, none, none] ∧ RI f c hh H H' xs hs ∧ HandsOk hs ∧ H' rk = some (.lst (is.map V.int)) ∧ is.length = hs.length ∧ H' gv = some (.lst (gs.map nV)) ∧ gs ≠ [] ∧ gs.length ≤ 12 ∧ (∀ k ∈ gs, ∃ h, hs[k]? = some h ∧ h.wd ≠ "out") ∧ rk ≠ f ∧ gv ≠ f ∧ tk ≠ f ∧ H' tk = some (.lst (ts.map nV)) ∧ ts = tkTo hs hs.length
  refine ⟨_, (pss_cons (ps_set (i := 2) sc_law_room.nd rfl (Or.inr rfl) (pe_call G_law_hands (hr.mono (by decide)) (by rfl) m_law_hands F_law_hands.kp b_law_hands .nil pass0 (pa_cons (pv 0) (pa_cons (pe_op op_add pe_int (pe_call G_law_pick (hr.mono (by decide)) (by rfl) m_law_pick F_law_pick.kp b_law_pick .nil pass0 (pa_cons (pv 0) (pa_cons (pv 1) pa_nil)))) pa_nil))))
      (pss_cons (ps_set (i := 3) sc_law_room.nd rfl (Or.inl rfl) (pe_call G_law_shuffled (hr.mono (by decide)) (by rfl) m_law_shuffled F_law_shuffled.kp b_law_shuffled .nil pass0 (pa_cons (pv 0) (pa_cons (pe_listRg rfl (by rfl) T.m_list (prg_1 (by rfl) T.m_range (pe_callB (call_len_seqK K rfl) (by rfl) T.m_len (by decide +kernel) (pa_cons (pv 2) pa_nil)))) pa_nil))))
      (pss_cons (ps_setLc (i := 4) (own := [("_law_k", 5)]) (g := gName 5) (by rfl) sc_law_room.nd rfl rfl (sw_true rfl rfl rfl (by decide +kernel)) (pi_range1 (by rfl) T.m_range (pa_cons (pe_callB (call_len_seqK K rfl) (by rfl) T.m_len (by decide +kernel) (pa_cons (pv 2) pa_nil)) pa_nil)) (blkOk_by (own := [("_law_k", 5)]) (N := N_law_room) (sc := defScope s_law_room) (by decide +kernel)) (fun _ _ _ _ _ => (pg_name (i := 5) sc_law_room.nd rfl (Or.inl rfl))) (fun _ _ _ _ _ => pts_one (pt_cmpR (op_neDK K rfl hr.units) (pe_ix (ix_tupK K rfl) (pe_ix (ix_listK K rfl) (pv 2) (pv 5) (fun _ _ => rfl)) pe_int (fun _ _ => rfl)) (pe_tup (pa_cons pe_str pa_nil)) (nomark _))) (fun _ _ _ _ _ => (pv 5)))
      (PSs.to (pss_cons (ps_set (i := 6) sc_law_room.nd rfl (Or.inl rfl) (pe_lst pa_nil))
      (pss_cons (ps_for PassesOwn.never rfl (pi_range1 (by rfl) T.m_range (pa_cons (pe_callB (call_len_seqK K rfl) (by rfl) T.m_len (by decide +kernel) (pa_cons (pv 2) pa_nil)) pa_nil)) (pg_name (i := 5) sc_law_room.nd rfl (Or.inl rfl))
        (pss_one (ps_set (i := 6) sc_law_room.nd rfl (Or.inl rfl) (pe_op op_cat (pv 6) (pe_op op_rep (pe_lst (pa_cons (pv 5) pa_nil)) (pe_call G_law_needs (hr.mono (by decide)) (by rfl) m_law_needs F_law_needs.kp b_law_needs .nil pass0 (pa_cons (pe_ix (ix_tupK K rfl) (pe_ix (ix_listK K rfl) (pv 2) (pv 5) (fun _ _ => rfl)) pe_int (fun _ _ => rfl)) pa_nil)))))))
      (PSs.to (pss_cons (ps_set (i := 7) sc_law_room.nd rfl (Or.inl rfl) (pe_lst pa_nil))
      (pss_cons (ps_for PassesOwn.never rfl (pi_listK K rfl (pe_call G_law_shuffled (hr.mono (by decide)) (by rfl) m_law_shuffled F_law_shuffled.kp b_law_shuffled .nil pass0 (pa_cons (pv 0) (pa_cons (pv 6) pa_nil)))) (pg_name (i := 8) sc_law_room.nd rfl (Or.inl rfl))
        (pss_cons (ps_set (i := 9) sc_law_room.nd rfl (Or.inl rfl) (pe_ix (ix_listK K rfl) (pv 4) (pe_call G_law_pick (hr.mono (by decide)) (by rfl) m_law_pick F_law_pick.kp b_law_pick .nil pass0 (pa_cons (pv 0) (pa_cons (pe_callB (call_len_seqK K rfl) (by rfl) T.m_len (by decide +kernel) (pa_cons (pv 4) pa_nil)) pa_nil))) (fun _ _ => rfl)))
      (pss_cons (ps_set (i := 10) sc_law_room.nd rfl (Or.inl rfl) (pe_ix (ix_listK K rfl) (pe_lst (pa_cons pe_int (pa_cons pe_int (pa_cons pe_int (pa_cons pe_int (pa_cons pe_int (pa_cons pe_int (pa_cons pe_int (pa_cons pe_int pa_nil))))))))) (pe_call G_law_pick (hr.mono (by decide)) (by rfl) m_law_pick F_law_pick.kp b_law_pick .nil pass0 (pa_cons (pv 0) (pa_cons pe_int pa_nil))) (fun _ _ => rfl)))
      (pss_cons (ps_if (pt_cmpR op_ge (pe_ix (ix_listK K rfl) (pv 3) (pv 9) (fun _ _ => rfl)) (pe_ix (ix_listK K rfl) (pv 3) (pv 8) (fun _ _ => rfl)) (nomark _)) (pss_one (ps_set (i := 10) sc_law_room.nd rfl (Or.inl rfl) (pe_callB (call_max2 rfl) (by rfl) T.m_max (by decide +kernel) (pa_cons pe_int (pa_cons (pv 10) pa_nil))))) pss_nil)
      (pss_one (ps_expr (pe_bmK K rfl PySem.F.plainAttrs_list PySem.F.slot_list_append PySem.F.type_list_append mt_append (pv 7) (pa_cons (pe_tup (pa_cons (pv 9) (pa_cons (pv 8) (pa_cons (pe_callTy (call_tuple_ofK K rfl) (by rfl) T.m_tuple (by decide +kernel) (pa_cons (pe_lc (own := [("_law_k", 5)]) (g := gName 5) (tt := tYes) (by rfl) sc_law_room.nd (pi_range1 (by rfl) T.m_range (pa_cons (pv 10) pa_nil)) (blkOk_by (own := [("_law_k", 5)]) (N := N_law_room) (sc := defScope s_law_room) (by decide +kernel)) (fun _ _ _ _ _ => (pg_name (i := 5) sc_law_room.nd rfl (Or.inl rfl))) (fun _ _ _ _ _ => pts_nil) (fun _ _ _ _ _ => (pe_call G_law_thing (hr.mono (by decide)) (by rfl) m_law_thing F_law_thing.kp b_law_thing .nil pass0 (pa_cons (pv 0) pa_nil)))) pa_nil)) pa_nil)))) pa_nil))))))))
      (pss_one (ps_ret (pe_tup (pa_cons (pe_callTy (call_tuple_ofK K rfl) (by rfl) T.m_tuple (by decide +kernel) (pa_cons (pv 2) pa_nil)) (pa_cons (pe_callTy (call_tuple_ofK K rfl) (by rfl) T.m_tuple (by decide +kernel) (pa_cons (pv 7) pa_nil)) pa_nil))))))) R2 ?tail2))) R1 ?tail1)))), ?_⟩
  case tail2 =>
    rintro D' σ' H1 ⟨eD, hh, rk, gv, tk, xs, hs, is, gs, ts, v5, rfl, I1, ok, hrk, lis, hgv, gne, glen, gok, nrk, ngv, ntk, htk, ets⟩
    have hx : xs.length = hs.length := I1.al.length
    have len12 := ok.len
    have lts : ts.length ≤ 20 := by
      have a := tk_len hs ok.nz hs.length (Nat.le_refl _)
      rw [List.take_length, ← ets] at a
      have := ok.sum
      omega
    refine ⟨(by show 0 ≤ sizeLine; decide), fun bl nbl => ?_⟩
    have I2 := I1.new (o := .lst []) nbl
    refine ⟨_, rfl, _, rfl, f, c, tk, _, rfl, SqL.of (same_new nbl _ _ htk), ntk, by rw [List.length_map]; omega, I2.fl, fun sh ys H3 hp nsh hsh F3 B3 => ?_⟩
    obtain ⟨tt, rfl, htt⟩ := perm_inv (f := nV) (g := unN) (fun n => by show ((n : Nat) : Int).toNat = n; omega) hp
    have I3 := I2.but F3 B3
    have bf : bl ≠ f := I1.fl.ne nbl
    have bc : bl ≠ c := I1.fl.nec nbl
    have hbl3 := B3 _ _ upd_same bf
    have bsh : bl ≠ sh := fun e => by rw [← e, upd_same] at nsh; cases nsh
    have bnone : H bl = Option.none := I1.bt.none nbl bf
    have rank : Nat → Int := fun k => is.getD k 0
    refine ⟨sh, rfl, ⟨_, SqL.of hsh⟩, for_list (K := K) (a := sh) (xs := tt.map nV) (fun i σ H4 => ∃ (bv : List V) (bs : List BR) (v5 v8 v9 v10 : Option V), σ = [some (.ref f), some (.int m), some (.ref hh), some (.ref rk), some (.ref gv), v5, some (.ref tk), some (.ref bl), v8, v9, v10] ∧ RI f c hh H H4 xs hs ∧ H4 rk = some (.lst (is.map V.int)) ∧ H4 gv = some (.lst (gs.map nV)) ∧ H4 sh = some (.lst (tt.map nV)) ∧ H4 bl = some (.lst bv) ∧ All2 (BeltAt H4) bv bs ∧ bs.map BR.to = tt.take i ∧
        (∀ b ∈ bs, b.one < hs.length ∧ (∀ h, hs[b.one]? = some h → h.wd ≠ "out") ∧ b.th.length ≤ 6 ∧ (∀ x ∈ b.th, Small x) ∧ (b.th = [] → is.getD b.one 0 < is.getD b.to 0)))
      ⟨[], [], v5, none, none, none, rfl, I3, B3 _ _ (same_new nbl _ _ hrk) nrk, B3 _ _ (same_new nbl _ _ hgv) ngv, hsh, hbl3, .nil, rfl, (fun _ h => nomatch h)⟩ (fun i σ H4 _ ⟨_, _, _, _, _, _, _, _, _, _, h, _⟩ => SqL.of h) ?_ ?_⟩
    · rintro i y σ H4 hi ⟨bv, bs, v5, v8, v9, v10, rfl, I4, hrk4, hgv4, hsh4, hbl4, al, em, hb⟩
      rw [List.getElem?_map] at hi
      cases et : tt[i]? with
      | none => rw [et] at hi; cases hi
      | some to =>
      rw [et] at hi
      obtain rfl : nV to = y := Option.some.inj hi
      have toL : to < hs.length := tk_mem hs _ _ (by rw [← ets]; exact htt.mem_iff.mp (List.mem_of_getElem? et))
      have il : i < 20 := by have := (List.getElem?_eq_some_iff.mp et).1; rw [htt.length_eq] at this; omega
      have lb : bs.length = i := by
        have := congrArg List.length em
        rw [List.length_map, List.length_take, Nat.min_eq_left (Nat.le_of_lt (List.getElem?_eq_some_iff.mp et).1)] at this
        exact this
      have g0 : 0 < gs.length := List.length_pos_iff.mpr gne
      refine ⟨_, rfl, _, rfl, _, rfl, gv, _, rfl, .inl (SqL.of hgv4), f, c, _, rfl, (by rw [List.length_map]; omega), (by rw [List.length_map]; exact log_small (by omega)), I4.fl, fun z H5 z0 z1 F5 B5 => ?_⟩
      rw [List.length_map] at z1
      have I5 := I4.but F5 B5
      have hgv5 := B5 _ _ hgv4 ngv
      obtain ⟨one, eo, ho⟩ : ∃ one, atI (gs.map nV) z = some (nV one) ∧ one ∈ gs := by
        have hk : z.toNat < gs.length := by omega
        have ek : z = ((z.toNat : Nat) : Int) := by omega
        refine ⟨gs[z.toNat], ?_, List.getElem_mem _⟩
        have q2 : atI (gs.map nV) ((z.toNat : Nat) : Int) = some (nV gs[z.toNat]) := atI_nat (by rw [List.getElem?_map, List.getElem?_eq_getElem hk]; rfl)
        rw [← ek] at q2
        exact q2
      obtain ⟨ho1, eh1, hout⟩ := gok one ho
      have oneL : one < hs.length := (List.getElem?_eq_some_iff.mp eh1).1
      refine ⟨gv, _, _, _, rfl, rfl, SqL.of hgv5, eo, ?_⟩
      refine ⟨(by show 8 ≤ sizeLine; decide), fun tl ntl => ?_⟩
      have I6 := I5.new (o := .lst [V.int 0, V.int 0, V.int 0, V.int 1, V.int 1, V.int 2, V.int 3, V.int 6]) ntl
      refine ⟨_, rfl, f, c, 8, rfl, by decide, by decide +kernel, I6.fl, fun y2 H7 y0 y8 F7 B7 => ?_⟩
      have I7 := I6.but F7 B7
      have htl := B7 _ _ upd_same (I5.fl.ne ntl)
      obtain ⟨tr, htr, tr0, tr6⟩ : ∃ tr : Int, atI [V.int 0, V.int 0, V.int 0, V.int 1, V.int 1, V.int 2, V.int 3, V.int 6] y2 = some (.int tr) ∧ 0 ≤ tr ∧ tr ≤ 6 := by
        have : y2 = 0 ∨ y2 = 1 ∨ y2 = 2 ∨ y2 = 3 ∨ y2 = 4 ∨ y2 = 5 ∨ y2 = 6 ∨ y2 = 7 := by omega
        rcases this with rfl | rfl | rfl | rfl | rfl | rfl | rfl | rfl
        · exact ⟨0, rfl, by decide, by decide⟩
        · exact ⟨0, rfl, by decide, by decide⟩
        · exact ⟨0, rfl, by decide, by decide⟩
        · exact ⟨1, rfl, by decide, by decide⟩
        · exact ⟨1, rfl, by decide, by decide⟩
        · exact ⟨2, rfl, by decide, by decide⟩
        · exact ⟨3, rfl, by decide, by decide⟩
        · exact ⟨6, rfl, by decide, by decide⟩
      refine ⟨tl, _, _, _, rfl, rfl, SqL.of htl, htr, ?_⟩
      have k7 : But f H4 H7 := (B5.new ntl).trans B7
      have hrk7 := k7 _ _ hrk4 nrk
      have hgv7 := k7 _ _ hgv4 ngv
      have shf : sh ≠ f := fun e => by rw [e] at nsh; obtain ⟨_, _, _, _, _, e1, _⟩ := I2.fl; rw [e1] at nsh; cases nsh
      have hsh7 := k7 _ _ hsh4 shf
      have hbl7 := k7 _ _ hbl4 bf
      have tk7 : TK H4 H7 := (TK.but I4.fl B5).trans ((TK.new ntl).trans (TK.but I6.fl B7))
      have al7 : All2 (BeltAt H7) bv bs := al.imp fun _ _ z => z.keep tk7
      have r1 : (is.map V.int)[one]? = some (.int (is.getD one 0)) := by
        rw [List.getElem?_map, List.getD_eq_getElem?_getD, List.getElem?_eq_getElem (by omega)]; rfl
      have r2 : (is.map V.int)[to]? = some (.int (is.getD to 0)) := by
        rw [List.getElem?_map, List.getD_eq_getElem?_getD, List.getElem?_eq_getElem (by omega)]; rfl
      have bvl : bv.length = i := by rw [al.length, lb]
      -- the end of a turn, with so many trays
      refine ⟨_, rfl, _, rfl, rk, _, _, _, rfl, rfl, SqL.of hrk7, atI_nat r1, _, rfl, _, rfl, rk, _, _, _, rfl, rfl, SqL.of hrk7, atI_nat r2, _, _, rfl, rfl, _, rfl, if_bl (fun kk => ?_) (fun kk => ?_)⟩
      · refine ⟨_, rfl, _, _, rfl, ?_⟩
        generalize ht : (if tr > 1 then tr else 1) = tn
        have tn0 : 0 ≤ tn := by rw [← ht]; split <;> omega
        have tn6 : tn ≤ 6 := by rw [← ht]; split <;> omega
        have ttt : tn.toNat = 0 → is.getD one 0 < is.getD to 0 := fun e => by
          exfalso
          have : 1 ≤ tn := by rw [← ht]; split <;> omega
          omega
        refine ⟨_, rfl, .inl ⟨rfl, _, SqL.of hbl7⟩, _, rfl, _, rfl, _, rfl, _, rfl, by omega, by omega, fun D nD => lc_range (lo := 0) (n := tn.toNat) (fun j H8 => ∃ vs : List Int, vs.length = j ∧ H8 D = some (.lst (vs.map V.int)) ∧ (∀ x ∈ vs, Small x) ∧ RI f c hh H H8 xs hs ∧ But f H7 H8 ∧ TK H7 H8 ∧ D ≠ f ∧ D ≠ c ∧ D ≠ hh ∧ H D = Option.none ∧ H7 D = Option.none)
          ⟨[], rfl, upd_same, (fun _ h => nomatch h), I7.new nD, But.refl.new nD, TK.new nD, I7.fl.ne nD, I7.fl.nec nD, (ne_of_none I7.lh nD).symm, I7.bt.none nD (I7.fl.ne nD), nD⟩ ?_ ?_⟩
        · rintro j H8 hj ⟨vs, lv, hD, sm, I8, b8, t8, d1, d2, d3, d4, d5⟩
          refine ⟨rfl, yes_in ⟨_, rfl, f, c, rfl, I8.fl, fun x H9 sx F9 B9 => ⟨_, B9 _ _ hD d1, ?_, vs ++ [x], by rw [List.length_append, lv]; rfl, ?_, ?_, (I8.but F9 B9).lst (B9 _ _ hD d1) d1 d2 d3 d4, (b8.trans B9).own d5, (t8.trans (TK.but I8.fl B9)).trans (TK.lst (B9 _ _ hD d1)), d1, d2, d3, d4, d5⟩⟩⟩
          · rw [List.length_map, lv]; exact small1000 (by omega)
          · rw [upd_same, List.map_append]; rfl
          · intro y hy
            rcases List.mem_append.mp hy with hy | hy
            · exact sm y hy
            · obtain rfl : y = x := by simpa using hy
              exact sx
        · rintro H8 ⟨vs, lv, hD, sm, I8, b8, t8, d1, d2, d3, d4, d5⟩
          refine ⟨D, _, rfl, .inl ⟨SqL.of hD, fun g ng => ⟨(by show 3 ≤ sizeLine; decide), fun t nt => ?_⟩⟩⟩
          have I9 := (I8.new (o := .tup (vs.map V.int)) ng).new (o := .tup [nV one, nV to, V.ref g]) nt
          have hbl8 := same_new (o := .tup [nV one, nV to, V.ref g]) nt _ _ (same_new (o := .tup (vs.map V.int)) ng _ _ (b8 _ _ hbl7 bf))
          have t9 : TK H7 (upd (upd H8 g (.tup (vs.map V.int))) t (.tup [nV one, nV to, V.ref g])) := (t8.trans (TK.new ng)).trans (TK.new nt)
          have s9 : ∀ b o, H7 b = some o → b ≠ f → (upd (upd H8 g (.tup (vs.map V.int))) t (.tup [nV one, nV to, V.ref g])) b = some o := fun b o e n => same_new nt _ _ (same_new ng _ _ (b8 _ _ e n))
          have bh : bl ≠ hh := fun e => by
            have h1 := I1.lh
            rw [← e, nbl] at h1
            cases h1
          have brk : bl ≠ rk := fun e => by
            have h1 := hrk
            rw [← e, nbl] at h1
            cases h1
          have bgv : bl ≠ gv := fun e => by
            have h1 := hgv
            rw [← e, nbl] at h1
            cases h1
          refine ⟨bl, _, _, rfl, rfl, hbl8, small1000 (by rw [bvl]; omega), ?_⟩
          refine ⟨bv ++ [V.ref t], bs ++ [⟨one, to, vs⟩], _, _, _, _, rfl, I9.lst hbl8 bf bc bh bnone, ?_, ?_, ?_, upd_same, ?_, ?_, ?_⟩
          · rw [upd_ne brk.symm]; exact s9 _ _ hrk7 nrk
          · rw [upd_ne bgv.symm]; exact s9 _ _ hgv7 ngv
          · rw [upd_ne bsh.symm]; exact s9 _ _ hsh7 shf
          · exact ((al7.imp fun _ _ z => z.keep t9).snoc ⟨t, g, rfl, upd_same, same_new nt _ _ upd_same⟩).imp fun _ _ z => z.keep (TK.lst hbl8)
          · rw [List.map_append, em, List.take_add_one, et]; rfl
          · intro b hb2
            rcases List.mem_append.mp hb2 with hb2 | hb2
            · exact hb b hb2
            · obtain rfl : b = ⟨one, to, vs⟩ := by simpa using hb2
              refine ⟨oneL, fun h e => ?_, by show vs.length ≤ 6; omega, sm, fun e => ?_⟩
              · have e : hs[one]? = some h := e
                rw [eh1] at e
                cases e
                exact hout
              · have e : vs = [] := e
                rw [e] at lv
                exact ttt (by simpa using lv.symm)
      · obtain ⟨tn, ht⟩ : ∃ tn, tn = tr := ⟨_, rfl⟩
        rw [← ht]
        have tn0 : 0 ≤ tn := by omega
        have tn6 : tn ≤ 6 := by omega
        have ttt : tn.toNat = 0 → is.getD one 0 < is.getD to 0 := fun _ => by
          have : ¬ is.getD to 0 ≤ is.getD one 0 := of_decide_eq_false kk
          omega
        refine ⟨_, rfl, .inl ⟨rfl, _, SqL.of hbl7⟩, _, rfl, _, rfl, _, rfl, _, rfl, by omega, by omega, fun D nD => lc_range (lo := 0) (n := tn.toNat) (fun j H8 => ∃ vs : List Int, vs.length = j ∧ H8 D = some (.lst (vs.map V.int)) ∧ (∀ x ∈ vs, Small x) ∧ RI f c hh H H8 xs hs ∧ But f H7 H8 ∧ TK H7 H8 ∧ D ≠ f ∧ D ≠ c ∧ D ≠ hh ∧ H D = Option.none ∧ H7 D = Option.none)
          ⟨[], rfl, upd_same, (fun _ h => nomatch h), I7.new nD, But.refl.new nD, TK.new nD, I7.fl.ne nD, I7.fl.nec nD, (ne_of_none I7.lh nD).symm, I7.bt.none nD (I7.fl.ne nD), nD⟩ ?_ ?_⟩
        · rintro j H8 hj ⟨vs, lv, hD, sm, I8, b8, t8, d1, d2, d3, d4, d5⟩
          refine ⟨rfl, yes_in ⟨_, rfl, f, c, rfl, I8.fl, fun x H9 sx F9 B9 => ⟨_, B9 _ _ hD d1, ?_, vs ++ [x], by rw [List.length_append, lv]; rfl, ?_, ?_, (I8.but F9 B9).lst (B9 _ _ hD d1) d1 d2 d3 d4, (b8.trans B9).own d5, (t8.trans (TK.but I8.fl B9)).trans (TK.lst (B9 _ _ hD d1)), d1, d2, d3, d4, d5⟩⟩⟩
          · rw [List.length_map, lv]; exact small1000 (by omega)
          · rw [upd_same, List.map_append]; rfl
          · intro y hy
            rcases List.mem_append.mp hy with hy | hy
            · exact sm y hy
            · obtain rfl : y = x := by simpa using hy
              exact sx
        · rintro H8 ⟨vs, lv, hD, sm, I8, b8, t8, d1, d2, d3, d4, d5⟩
          refine ⟨D, _, rfl, .inl ⟨SqL.of hD, fun g ng => ⟨(by show 3 ≤ sizeLine; decide), fun t nt => ?_⟩⟩⟩
          have I9 := (I8.new (o := .tup (vs.map V.int)) ng).new (o := .tup [nV one, nV to, V.ref g]) nt
          have hbl8 := same_new (o := .tup [nV one, nV to, V.ref g]) nt _ _ (same_new (o := .tup (vs.map V.int)) ng _ _ (b8 _ _ hbl7 bf))
          have t9 : TK H7 (upd (upd H8 g (.tup (vs.map V.int))) t (.tup [nV one, nV to, V.ref g])) := (t8.trans (TK.new ng)).trans (TK.new nt)
          have s9 : ∀ b o, H7 b = some o → b ≠ f → (upd (upd H8 g (.tup (vs.map V.int))) t (.tup [nV one, nV to, V.ref g])) b = some o := fun b o e n => same_new nt _ _ (same_new ng _ _ (b8 _ _ e n))
          have bh : bl ≠ hh := fun e => by
            have h1 := I1.lh
            rw [← e, nbl] at h1
            cases h1
          have brk : bl ≠ rk := fun e => by
            have h1 := hrk
            rw [← e, nbl] at h1
            cases h1
          have bgv : bl ≠ gv := fun e => by
            have h1 := hgv
            rw [← e, nbl] at h1
            cases h1
          refine ⟨bl, _, _, rfl, rfl, hbl8, small1000 (by rw [bvl]; omega), ?_⟩
          refine ⟨bv ++ [V.ref t], bs ++ [⟨one, to, vs⟩], _, _, _, _, rfl, I9.lst hbl8 bf bc bh bnone, ?_, ?_, ?_, upd_same, ?_, ?_, ?_⟩
          · rw [upd_ne brk.symm]; exact s9 _ _ hrk7 nrk
          · rw [upd_ne bgv.symm]; exact s9 _ _ hgv7 ngv
          · rw [upd_ne bsh.symm]; exact s9 _ _ hsh7 shf
          · exact ((al7.imp fun _ _ z => z.keep t9).snoc ⟨t, g, rfl, upd_same, same_new nt _ _ upd_same⟩).imp fun _ _ z => z.keep (TK.lst hbl8)
          · rw [List.map_append, em, List.take_add_one, et]; rfl
          · intro b hb2
            rcases List.mem_append.mp hb2 with hb2 | hb2
            · exact hb b hb2
            · obtain rfl : b = ⟨one, to, vs⟩ := by simpa using hb2
              refine ⟨oneL, fun h e => ?_, by show vs.length ≤ 6; omega, sm, fun e => ?_⟩
              · have e : hs[one]? = some h := e
                rw [eh1] at e
                cases e
                exact hout
              · have e : vs = [] := e
                rw [e] at lv
                exact ttt (by simpa using lv.symm)
    · rintro σ H4 ⟨bv, bs, v5, v8, v9, v10, rfl, I4, hrk4, hgv4, hsh4, hbl4, al, em, hb⟩
      rw [List.length_map, List.take_length] at em
      have lb : bs.length = ts.length := by
        have := congrArg List.length em
        rw [List.length_map] at this
        rw [this, htt.length_eq]
      refine ⟨_, rfl, hh, _, rfl, .inl ⟨SqL.of I4.lh, fun a1 na1 => ⟨_, rfl, bl, _, rfl, .inl ⟨SqL.of (same_new na1 _ _ hbl4), fun a2 na2 => ⟨(by show 2 ≤ sizeLine; decide), fun a3 na3 => ?_⟩⟩⟩⟩⟩
      rw [eD]
      have k1 : TK H4 (upd (upd (upd H4 a1 (.tup xs)) a2 (.tup bv)) a3 (.tup [V.ref a1, V.ref a2])) := ((TK.new na1).trans (TK.new na2)).trans (TK.new na3)
      refine q a3 hs bs _ ⟨a1, a2, xs, bv, upd_same, same_new na3 _ _ (same_new na2 _ _ upd_same), same_new na3 _ _ upd_same, I4.al.imp fun _ _ z => z.keep k1, al.imp fun _ _ z => z.keep k1⟩ ⟨ok.len, ok.good, fun b hb2 => ⟨(hb b hb2).1, ?_⟩, fun b hb2 => (hb b hb2).2.1, fun b hb2 => ⟨Nat.le_trans (hb b hb2).2.2.1 (by decide), trivial⟩, ⟨fun k => is.getD k 0, fun b hb2 => (hb b hb2).2.2.2.2⟩, fun k h hk => ?_, by omega⟩ ok.one (fun b hb2 => (hb b hb2).2.2.1) (((I4.fl.new na1).new na2).new na3) (((I4.bt.new na1).new na2).new na3)
      · have : b.to ∈ bs.map BR.to := List.mem_map.mpr ⟨b, hb2, rfl⟩
        rw [em] at this
        exact tk_mem hs _ _ (by rw [← ets]; exact htt.mem_iff.mp this)
      · rw [em, htt.count_eq, ets, tk_count, if_pos (List.getElem?_eq_some_iff.mp hk).1]
        unfold nd
        rw [hk]
        have := ok.nz h (List.mem_of_getElem? hk)
        show (((needs h.wd).toNat : Nat) : Int) = needs h.wd
        omega
  case tail1 =>
    rintro D' σ' H1 ⟨eD, hh, rk, gv, xs, hs, is, gs, rfl, I1, ok, hrk, lis, hgv, gne, glen, gok, nrk, ngv⟩
    refine ⟨(by show 0 ≤ sizeLine; decide), fun tk ntk => ?_⟩
    have I2 := I1.new (o := .lst []) ntk
    have hx : xs.length = hs.length := I1.al.length
    refine ⟨_, rfl, hh, _, rfl, .inl (SqL.of I2.lh), _, rfl, by omega, (by rw [hx]; have := ok.len; omega), for_range (lo := 0) (n := xs.length) (fun i σ H2 => ∃ (tk : Addr) (v5 : Option V), σ = [some (.ref f), some (.int m), some (.ref hh), some (.ref rk), some (.ref gv), v5, some (.ref tk), none, none, none, none] ∧ RI f c hh H H2 xs hs ∧ H2 rk = some (.lst (is.map V.int)) ∧ H2 gv = some (.lst (gs.map nV)) ∧ tk ≠ f ∧ H2 tk = some (.lst ((tkTo hs i).map nV)))
      ⟨tk, none, rfl, I2, same_new ntk _ _ hrk, same_new ntk _ _ hgv, I1.fl.ne ntk, upd_same⟩ ?_ ?_⟩
    · rintro i σ H2 hi ⟨tk, v5, rfl, I3, hrk3, hgv3, tf, htk⟩
      have eh : hs[i]? = some hs[i] := List.getElem?_eq_getElem (by omega)
      obtain ⟨x, ex, ⟨t, r, rfl, e1, e2⟩⟩ := I3.al.get eh
      have z0 := ok.nz _ (List.mem_of_getElem? eh)
      have zs : needs hs[i].wd ≤ 3 := by
        unfold needs
        split
        · decide
        · split
          · decide
          · split <;> decide
      have sz : (tkTo hs i).length ≤ 20 := by
        have a := tk_len hs ok.nz i (by omega)
        have b : ((hs.take i).map fun h => needs h.wd).sum ≤ (hs.map fun h => needs h.wd).sum := by
          have e : hs.map (fun h => needs h.wd) = (hs.take i).map (fun h => needs h.wd) ++ (hs.drop i).map (fun h => needs h.wd) := by rw [← List.map_append, List.take_append_drop]
          rw [e, List.sum_append]
          have : 0 ≤ ((hs.drop i).map fun h => needs h.wd).sum := by
            have hz : ∀ h ∈ hs.drop i, 0 ≤ needs h.wd := fun h hh => ok.nz h (List.mem_of_mem_drop hh)
            revert hz
            generalize hs.drop i = l
            intro hz
            induction l with
            | nil => decide
            | cons a l ih =>
              have := hz a (List.mem_cons_self ..)
              have := ih fun h hh => hz h (List.mem_cons_of_mem _ hh)
              rw [List.map_cons, List.sum_cons]
              omega
          omega
        have := ok.sum
        omega
      refine ⟨_, rfl, _, rfl, (by show 1 ≤ sizeLine; decide), fun l1 nl1 => ?_⟩
      have I4 := I3.new (o := .lst [V.int (0 + ((i : Nat) : Int))]) nl1
      refine ⟨_, rfl, _, rfl, hh, _, _, _, rfl, rfl, SqL.of I4.lh, at0 ex, t, _, _, _, rfl, rfl, SqT.of (same_new nl1 _ _ e1), atI_nat (j := 0) rfl, r, hs[i].wd, _, rfl, SqT.of (same_new nl1 _ _ e2), fun H5 s5 => ?_⟩
      have I5 := I4.same s5
      have g1 := s5 _ _ upd_same
      have g2 := s5 _ _ (same_new nl1 _ _ htk)
      refine ⟨l1, _, _, rfl, rfl, g1, by omega, by omega, little (by show 1 * (needs hs[i].wd).toNat ≤ 1000; omega), fun l2 nl2 => ?_⟩
      rw [flat_rep]
      have I6 := I5.new (o := .lst (List.replicate (needs hs[i].wd).toNat (V.int (0 + ((i : Nat) : Int))))) nl2
      refine ⟨tk, l2, _, _, rfl, rfl, same_new nl2 _ _ g2, upd_same, ?_, fun l3 nl3 => ?_⟩
      · rw [List.length_map, List.length_replicate]; exact little (by omega)
      refine ⟨l3, _, rfl, I6.new nl3, same_new nl3 _ _ (same_new nl2 _ _ (s5 _ _ (same_new nl1 _ _ hrk3))), same_new nl3 _ _ (same_new nl2 _ _ (s5 _ _ (same_new nl1 _ _ hgv3))), I6.fl.ne nl3, ?_⟩
      rw [upd_same]
      have e : nd hs i = (needs hs[i].wd).toNat := by unfold nd; rw [eh]
      rw [show tkTo hs (i + 1) = tkTo hs i ++ List.replicate (nd hs i) i from rfl, List.map_append, List.map_replicate, e, Int.zero_add]
    · rintro σ H2 ⟨tk, v5, rfl, I3, hrk3, hgv3, tf, htk⟩
      exact ⟨eD, hh, rk, gv, tk, xs, hs, is, gs, _, v5, rfl, I3, ok, hrk3, lis, hgv3, gne, glen, gok, nrk, ngv, tf, htk, by rw [hx]⟩
  refine ⟨_, rfl, _, rfl, _, rfl, f, c, m, rfl, by omega, hm9, hF, fun v1 H1 a1 b1 F1 B1 => ?_⟩
  refine ⟨_, _, rfl, rfl, f, c, _, rfl, by omega, by omega, F1, fun hh xs hs H2 nhh hhh al ok F2 B2 => ?_⟩
  have hx : xs.length = hs.length := al.length
  have len12 := ok.len
  have nf : hh ≠ f := F1.ne nhh
  have I2 : RI f c hh H H2 xs hs := ⟨F2, B1.trans B2, hhh, al, nf, B1.none nhh nf⟩
  -- ranks
  refine ⟨_, rfl, _, rfl, hh, _, rfl, .inl (SqL.of I2.lh), _, rfl, ⟨by omega, by omega, by omega, by omega, by omega⟩, fun rg nrg => ?_⟩
  have I3 := I2.new (o := .lst (rgV 0 ((xs.length : Nat) : Int))) nrg
  refine ⟨f, c, rg, _, rfl, SqL.of upd_same, I2.fl.ne nrg, ?_, I3.fl, fun rk ys H4 hp nrk hrk F4 B4 => ?_⟩
  · rw [rgV_length]; omega
  have erg : rgV 0 ((xs.length : Nat) : Int) = ((List.range xs.length).map fun i => ((i : Nat) : Int)).map V.int := by
    unfold rgV
    rw [List.map_map, show (((xs.length : Nat) : Int) - 0).toNat = xs.length by omega]
    refine List.map_congr_left fun i _ => ?_
    show V.int (0 + ((i : Nat) : Int)) = V.int ((i : Nat) : Int)
    rw [Int.zero_add]
  rw [erg] at hp
  obtain ⟨is, rfl, his⟩ := perm_inv (f := V.int) (g := unI) (fun _ => rfl) hp
  have lis : is.length = hs.length := by rw [his.length_eq, List.length_map, List.length_range, hx]
  have I4 := I3.but F4 B4
  have rkf : rk ≠ f := I3.fl.ne nrk
  -- givers
  refine ⟨_, rfl, hh, _, rfl, .inl (SqL.of I4.lh), _, rfl, by omega, by omega, fun D nD => lc_range (lo := 0) (n := xs.length) (fun i H5 => ∃ gs : List Nat, H5 D = some (.lst (gs.map nV)) ∧ gs.length ≤ i ∧ RI f c hh H H5 xs hs ∧ H5 rk = some (.lst (is.map V.int)) ∧ (∀ k ∈ gs, ∃ h, hs[k]? = some h ∧ h.wd ≠ "out") ∧ (∀ k h, k < i → hs[k]? = some h → h.wd ≠ "out" → gs ≠ []) ∧ D ≠ f ∧ D ≠ c ∧ D ≠ hh ∧ D ≠ rk ∧ H D = Option.none)
    ⟨[], upd_same, Nat.le_refl _, I4.new nD, same_new nD _ _ hrk, (fun _ h => nomatch h), (fun k h hk => absurd hk (Nat.not_lt_zero _)), I4.fl.ne nD, I4.fl.nec nD, (ne_of_none I4.lh nD).symm, (ne_of_none hrk nD).symm, I4.bt.none nD (I4.fl.ne nD)⟩ ?_ ?_⟩
  · rintro i H5 hi ⟨gs, hD, lg, I5, hrk5, g1, g2, d1, d2, d3, d4, d5⟩
    have eh : hs[i]? = some hs[i] := List.getElem?_eq_getElem (by omega)
    obtain ⟨x, ex, ⟨t, r, rfl, e1, e2⟩⟩ := I5.al.get eh
    have gh := ok.good _ (List.mem_of_getElem? eh)
    refine ⟨rfl, _, rfl, _, rfl, hh, _, _, _, rfl, rfl, SqL.of I5.lh, at0 ex, t, _, _, _, rfl, rfl, SqT.of e1, atI_nat (j := 0) rfl, (by show 1 ≤ sizeLine; decide), fun o1 no1 => ?_⟩
    have I6 := I5.new (o := .tup [V.str "out"]) no1
    have hD6 : (upd H5 o1 (.tup [V.str "out"])) D = some (.lst (gs.map nV)) := same_new no1 _ _ hD
    refine ⟨_, _, rule_dp (same_new no1 _ _ e2), .tup (SqT.of upd_same) (.cons (.str _) .nil), rule_shaped gh.lay, one_shaped (by decide +kernel), _, rfl, ?_⟩
    rw [rule_eqv, gh.door "out" (.inr rfl)]
    by_cases k : hs[i].wd = "out"
    · rw [decide_eq_true k]
      refine if_bl (fun z => absurd z (by decide)) (fun _ => ⟨gs, hD6, by omega, I6, same_new no1 _ _ hrk5, g1, fun k' h' hk hk2 hk3 => ?_, d1, d2, d3, d4, d5⟩)
      by_cases y : k' = i
      · subst y
        rw [eh] at hk2
        cases hk2
        exact absurd k hk3
      · exact g2 k' h' (by omega) hk2 hk3
    · rw [decide_eq_false k]
      refine if_bl (fun _ => ⟨_, rfl, _, hD6, ?_, gs ++ [i], ?_, ?_, I6.lst hD6 d1 d2 d3 d5, ?_, ?_, fun _ _ _ _ _ z => by simp at z, d1, d2, d3, d4, d5⟩) (fun z => absurd z (by decide))
      · rw [List.length_map]; exact small1000 (by omega)
      · rw [upd_same, List.map_append, Int.zero_add]; rfl
      · rw [List.length_append]; show gs.length + 1 ≤ i + 1; omega
      · rw [upd_ne d4.symm]; exact same_new no1 _ _ hrk5
      · intro k' hk
        rcases List.mem_append.mp hk with hk | hk
        · exact g1 k' hk
        · obtain rfl : k' = i := by simpa using hk
          exact ⟨_, eh, k⟩
  · rintro H5 ⟨gs, hD, lg, I5, hrk5, g1, g2, d1, d2, d3, d4, d5⟩
    obtain ⟨h1, hm1, hm2, _⟩ := ok.one
    obtain ⟨k1, hk1⟩ := List.getElem?_of_mem hm1
    have k1l := (List.getElem?_eq_some_iff.mp hk1).1
    exact ⟨rfl, hh, rk, D, xs, hs, is, gs, rfl, I5, ok, hrk5, lis, hD, g2 k1 h1 (by omega) hk1 hm2, by omega, g1, rkf, d1⟩
end
/-! ### max, min of a list with a default -/
def rMaxDf (K : PySem.W.Frag) : List V → List V → Hp → VK → Prop := fun xs zs H Q => ∃ (a : Addr) (ns : List Int) (d : V), xs = [.ref a] ∧ zs = [d] ∧ SqL K H a (ns.map V.int) ∧ (ns = [] → Q d H) ∧ ∀ m, m ∈ ns → (∀ y ∈ ns, y ≤ m) → Q (.int m) H
def rMinDf (K : PySem.W.Frag) : List V → List V → Hp → VK → Prop := fun xs zs H Q => ∃ (a : Addr) (ns : List Int) (d : V), xs = [.ref a] ∧ zs = [d] ∧ SqL K H a (ns.map V.int) ∧ (ns = [] → Q d H) ∧ ∀ m, m ∈ ns → (∀ y ∈ ns, m ≤ y) → Q (.int m) H
theorem ints_val {ns : List Int} {its : List Value} (rv : Vals (ns.map V.int) its) : ∀ i v, its.toArray[i]? = some v → ∃ t, v = Value.int (ns.getD i 0) t := fun i v e => by
  rw [List.getElem?_toArray] at e
  have il : i < ns.length := by
    have h1 := (List.getElem?_eq_some_iff.mp e).1
    have h2 := rv.length
    rw [List.length_map] at h2
    omega
  obtain ⟨u, eu, t, ru⟩ := rv.get (i := i) (x := .int ns[i]) (by rw [List.getElem?_map, List.getElem?_eq_getElem il]; rfl)
  rw [e] at eu
  cases eu
  exact ⟨t, by rw [ru, List.getD_eq_getElem?_getD, List.getElem?_eq_getElem il]; rfl⟩
section
variable {X : Cx}
theorem cr_maxDf (K : PySem.W.Frag) (hk : X.K = K) (hc : X.calm = true) : CallRK X (.builtin "max") ["default"] (rMaxDf K) := by
  subst hk
  intro pins s σ H xs zs us ws Q I r r2 h
  obtain ⟨a, ns, d, rfl, rfl, hs, q0, q1⟩ := h
  obtain ⟨its, rv, hl, _⟩ := I.list hs
  rw [Vals.ref1 r]
  obtain ⟨dv, rfl, rd⟩ := vals1 r2
  have hh := I.ok.hd hc
  have ln : its.length = ns.length := by rw [← rv.length, List.length_map]
  show wpAny _ _ (call (.builtin "max") [.ref a] [(Str.ofString "default", dv)]) _ _ s
  refine PySem.call_max_walkD (PySem.W.iter_listW (A := X.A.in1) hh hl.isList fun s₂ e W st hfp hw hk => ?_)
  refine ⟨_, _, _, _, _, _, _, s.heap, (fun i j => decide (ns.getD i 0 > ns.getD j 0)), rfl, W, st, hfp, hw, hk, fun hz s' m => ?_, fun hp => ⟨fun i j vi vj s3 Q3 E3 _ p1 p2 q3 => ?_, fun v s' hP m => ?_⟩⟩
  · obtain ⟨h', tk, rfl, hk'⟩ := PySem.W.moved_old e rfl m
    refine ⟨d, H, I.kept hk', rd, q0 ?_⟩
    exact List.eq_nil_of_length_eq_zero (by have : its.toArray.size = 0 := hz; rw [List.size_toArray] at this; omega)
  · exact (CmpOf.ints_gt (fun i => ns.getD i 0) (ints_val rv)) i j vi vj s3 Q3 E3 p1 p2 q3
  · obtain ⟨h', tk, rfl, hk'⟩ := PySem.W.moved_old e rfl m
    have hp : 0 < its.length := by have : 0 < its.toArray.size := hp; rw [List.size_toArray] at this; exact this
    have hsz : its.toArray.size = its.length := List.size_toArray
    obtain ⟨t, rfl⟩ := ints_val rv _ v hP
    obtain ⟨h1, h2⟩ := argBest_gt (fun i => ns.getD i 0) (its.toArray.size - 1)
    refine ⟨.int _, H, I.kept hk', ⟨_, rfl⟩, q1 _ ?_ fun y hy => ?_⟩
    · have il : argBest (fun i j => decide (ns.getD i 0 > ns.getD j 0)) (its.toArray.size - 1) < ns.length := by omega
      rw [List.getD_eq_getElem?_getD, List.getElem?_eq_getElem il]
      exact List.getElem_mem _
    · obtain ⟨j, hj⟩ := List.getElem?_of_mem hy
      have jl := (List.getElem?_eq_some_iff.mp hj).1
      have := h2 j (by omega)
      rw [show ns.getD j 0 = y by rw [List.getD_eq_getElem?_getD, hj]; rfl] at this
      exact this
theorem cr_minDf (K : PySem.W.Frag) (hk : X.K = K) (hc : X.calm = true) : CallRK X (.builtin "min") ["default"] (rMinDf K) := by
  subst hk
  intro pins s σ H xs zs us ws Q I r r2 h
  obtain ⟨a, ns, d, rfl, rfl, hs, q0, q1⟩ := h
  obtain ⟨its, rv, hl, _⟩ := I.list hs
  rw [Vals.ref1 r]
  obtain ⟨dv, rfl, rd⟩ := vals1 r2
  have hh := I.ok.hd hc
  have ln : its.length = ns.length := by rw [← rv.length, List.length_map]
  show wpAny _ _ (call (.builtin "min") [.ref a] [(Str.ofString "default", dv)]) _ _ s
  refine PySem.call_min_walkD (PySem.W.iter_listW (A := X.A.in1) hh hl.isList fun s₂ e W st hfp hw hk => ?_)
  refine ⟨_, _, _, _, _, _, _, s.heap, (fun i j => decide (ns.getD i 0 < ns.getD j 0)), rfl, W, st, hfp, hw, hk, fun hz s' m => ?_, fun hp => ⟨fun i j vi vj s3 Q3 E3 _ p1 p2 q3 => ?_, fun v s' hP m => ?_⟩⟩
  · obtain ⟨h', tk, rfl, hk'⟩ := PySem.W.moved_old e rfl m
    refine ⟨d, H, I.kept hk', rd, q0 ?_⟩
    exact List.eq_nil_of_length_eq_zero (by have : its.toArray.size = 0 := hz; rw [List.size_toArray] at this; omega)
  · exact (CmpOf.ints_lt (fun i => ns.getD i 0) (ints_val rv)) i j vi vj s3 Q3 E3 p1 p2 q3
  · obtain ⟨h', tk, rfl, hk'⟩ := PySem.W.moved_old e rfl m
    have hp : 0 < its.length := by have : 0 < its.toArray.size := hp; rw [List.size_toArray] at this; exact this
    have hsz : its.toArray.size = its.length := List.size_toArray
    obtain ⟨t, rfl⟩ := ints_val rv _ v hP
    obtain ⟨h1, h2⟩ := argBest_lt (fun i => ns.getD i 0) (its.toArray.size - 1)
    refine ⟨.int _, H, I.kept hk', ⟨_, rfl⟩, q1 _ ?_ fun y hy => ?_⟩
    · have il : argBest (fun i j => decide (ns.getD i 0 < ns.getD j 0)) (its.toArray.size - 1) < ns.length := by omega
      rw [List.getD_eq_getElem?_getD, List.getElem?_eq_getElem il]
      exact List.getElem_mem _
    · obtain ⟨j, hj⟩ := List.getElem?_of_mem hy
      have jl := (List.getElem?_eq_some_iff.mp hj).1
      have := h2 j (by omega)
      rw [show ns.getD j 0 = y by rw [List.getD_eq_getElem?_getD, hj]; rfl] at this
      exact this
end
section
variable {P : Program} {w : World} {K : PySem.W.Frag} {mg : Str → Option Value} {base : Heap}
def sp_NsInit (K : PySem.W.Frag) (C : Addr) : Sp := fun vs H Q _ => ∃ (a : Addr) (x y : V), vs = [.ref a, x, y] ∧ H a = some (exo a C none) ∧
  ∀ d, H d = none → d ≠ a → Q .non (upd (upd (upd H d (exd d [("word", x)])) a (exo a C (some d))) d (exd d [("at", y), ("word", x)]))
theorem ok_NsInit {C CB fI : Addr} {fd : FuncData} (N : NsC K mg C CB fI fd) : FnOk P w K mg base CX0 1 fI fd ["self", "word", "at"] (sp_NsInit K C) := by
  refine N.F.ok sc_NoShift_init (fun vs H Q E h => ?_) (fun cdv A outer s H vs Q E hr h => ?_)
  · obtain ⟨a, x, y, rfl, _⟩ := h
    rfl
  obtain ⟨a, x, y, rfl, ha, q⟩ := h
  refine ⟨_, pss_cons (ps_ost (pv 0) (pv 1)) (pss_one (ps_ost (pv 0) (pv 2))), ?_⟩
  refine ⟨_, rfl, _, rfl, a, C, rfl, N.T, N.nw, .inl ⟨ha, fun d nd da => ?_⟩⟩
  refine ⟨_, rfl, _, rfl, a, C, rfl, N.T, N.na, .inr ⟨d, _, upd_same, by rw [upd_ne da, upd_same], by show 1 ≤ 900; decide, q d nd da⟩⟩
end
section
variable {P : Program} {w : World} {K : PySem.W.Frag} {mg : Str → Option Value} {base : Heap}
abbrev nsA (K : PySem.W.Frag) : Addr := He.ga K "NoShift"
/-- refused: word and what it is about -/
def sp_refuse_shifts (K : PySem.W.Frag) : Sp := fun vs H Q E => ∃ x y : V, vs = [x, y] ∧ (y = .non → Q .non H) ∧ ((∃ k : Nat, y = nV k) ∨ y = .non) ∧
  ∀ (d t : Addr) (H' : Hp), y ≠ .non → H' d = some (.xd [("at", .ref t), ("word", x)]) → H' t = some (.tup [y]) → Same H H' → E (.ref (nsA K)) (some d) H'
theorem ok_refuse_shifts {f : Addr} {fd : FuncData} (F : Fun K "refuse_shifts" "refuse_shifts" s_refuse_shifts f fd) (T : Top K mg) : FnOk P w K mg base (L2.CX P w) 3 f fd ["word", "at"] (sp_refuse_shifts K) := by
  obtain ⟨fdI, N⟩ := T.x_ns
  have GI := ok_NsInit (P := P) (w := w) (base := base) N
  refine F.okX sc_refuse_shifts (fun vs H Q E h => ?_) (fun cdv A outer s H vs Q E hr h => ?_)
  · obtain ⟨x, y, rfl, _⟩ := h
    rfl
  obtain ⟨x, y, rfl, q1, sort, q2⟩ := h
  refine ⟨_, (pss_one (ps_if (pt_cmpR op_notN (pv 1) pe_non (nomark _)) (pss_one (ps_raise rfl (takes_of rfl rfl rfl rfl) (pmk_oex N.T N.iC N.tI GI (hr.mono (by decide)) N.b .nil pass0 rfl N.gC (pa_cons (pv 0) (pa_cons (pe_tup (pa_cons (pv 1) pa_nil)) pa_nil))))) pss_nil)), ?_⟩
  rcases sort with ⟨k, rfl⟩ | rfl
  · refine ⟨_, rfl, rfl, _, rfl, if_bl (fun _ => ?_) (fun z => nomatch z)⟩
    refine ⟨_, rfl, _, rfl, (by show 1 ≤ sizeLine; decide), fun t nt => ⟨by show 2 ≤ 1000; decide, fun a na => ?_⟩⟩
    have s1 := same_new (o := .tup [nV k]) nt
    have ht : (upd H t (.tup [nV k])) t = some (.tup [nV k]) := upd_same
    generalize upd H t (.tup [nV k]) = H1 at s1 ht na ⊢
    refine ⟨a, x, .ref t, rfl, upd_same, fun d nd da => ⟨rfl, d, _, by rw [upd_ne da.symm, upd_same], upd_same, ?_, ?_⟩⟩
    · rw [upd_ne da] at nd; exact nd
    · have nd1 : H1 d = none := by rw [upd_ne da] at nd; exact nd
      have keep : Same H1 (upd (del (upd (upd (upd (upd H1 a (exo a (nsA K) none)) d (exd d [("word", x)])) a (exo a (nsA K) (some d))) d (exd d [("at", V.ref t), ("word", x)])) a) d (.xd [("at", V.ref t), ("word", x)])) := fun b o e => by
        have b1 : b ≠ a := ne_of_none e na
        have b2 : b ≠ d := ne_of_none e nd1
        rw [upd_ne b2, del_ne b1, upd_ne b2, upd_ne b1, upd_ne b2, upd_ne b1]
        exact e
      exact q2 d t _ (fun z => nomatch z) upd_same (keep _ _ ht) (s1.trans keep)
  · exact ⟨_, rfl, rfl, _, rfl, if_bl (fun z => nomatch z) (fun _ => q1 rfl)⟩
end
/-! ### isinstance of a caught error that has fields of its own -/
section
open PySem.W PySem.Calls
variable {prog : Program} {w : World} {A : Around} {K : PySem.W.Frag} {x D : Addr} {ox : Obj} {od : Option Obj}
/-- what the class says with a setter goes before what the instance says -/
theorem found_class (C : ExcC K D) : findObj K D od "__class__" = some (.bind (.builtin "getset_descriptor.__get__") (.builtin "object.__class__")) := by
  have some_cls : ∃ cd, clsIn K D = some cd := by
    obtain ⟨cd, h, _⟩ := any_some C.hd
    exact ⟨cd, h⟩
  obtain ⟨cd, h⟩ := some_cls
  unfold findObj
  simp only [h, C.ha, C.hn, C.ht, Option.bind_some]
/-- the built in reader of fields, asked for the class -/
theorem reader_class {E : Value → Shared → Prop} {Q : Value → Shared → Prop} {hp : Heap} {g : Array GenState} {d : Drawn} {t tk : Nat} {os : OsState} (C : ExcC K D) (X : K.In hp) (I : InstAt hp x ox D od) (q : Q (.ref D) ⟨hp, g, d, t, os⟩) :
    wpAny (model prog w) A (call (.builtin "BaseException.__getattribute__") [.ref x, .str "__class__" tk]) Q E ⟨hp, g, d, t, os⟩ := by
  have known := I.type (M := model prog w)
  refine wpAny_call (codeAny_call_builtin PySem.F.excAttr_ValueError.ga.plain PySem.F.entry_bexc_ga ?_)
  refine @check_slot (model prog w) _ _ ⟨hp, g, d, t, os⟩ "BaseException.__getattribute__" "BaseException" "__getattribute__" (.ref x) [.str "__class__" tk] [] _ (by decide +kernel) (by decide +kernel) (known.andThen (looks_subIn X C.hs)) (PySem.F.args_bexc_ga (.ref x) (.str "__class__" tk)) ?_
  unfold Builtin.«object.__getattribute__»
  refine wpAny_bind (wpAny_of_eq (a := ((Value.ref x : Value), [Value.str "__class__" tk])) (by first | rfl | (simp only [slotArgs]; rfl)) (wpAny_bind (wpAny_pure (wpAny_bind (known.at (wpAny_bind ((looks_find (M := model prog w) X I (found_class C)).at ?_)))))))
  refine wpAny_bind (wpAny_holding (wpAny_call (class_get (s := ⟨hp, g, d, t, os⟩) (ox := ox) (od := od) X I C.hm ?_)))
  refine wpAny_pure ?_
  exact q
theorem asked_class {E : Value → Shared → Prop} {Q : Option Value → Shared → Prop} {s : Shared} (C : ExcC K D) (X : K.In s.heap) (I : InstAt s.heap x ox D od) (q : Q (some (.ref D)) { s with toks := s.toks + 1 }) : wpAny (model prog w) A (getAttr? (.ref x) "__class__") Q E s := by
  obtain ⟨hp, g, d, t, os⟩ := s
  have other : (onTheHeap (Value.ref D) && Value.builtin "BaseException.__getattribute__" == Value.builtin "object.__getattribute__") = false := by
    rw [show (Value.builtin "BaseException.__getattribute__" == Value.builtin "object.__getattribute__") = false by decide +kernel]
    rfl
  unfold getAttr? getAttrBy? getAttrBy
  refine wpAny_bind (wpAny_mkText (wpAny_bind (wpAny_attempt (wpAny_holding (wpAny_bind ((I.type (M := model prog w)).at (wpAny_bind ((looks_findIn (M := model prog w) X C.hg).at ?_))))))))
  show wpAny _ _ (if (onTheHeap (Value.ref D) && Value.builtin "BaseException.__getattribute__" == Value.builtin "object.__getattribute__") = true then _ else _) _ _ _
  rw [other, if_neg Bool.false_ne_true]
  unfold getAttrByItsOwn hookBefore
  rw [if_pos (show onTheHeap (Value.ref D) = true from rfl)]
  refine wpAny_bind ((looks_findIn (M := model prog w) X C.hk).at (wpAny_bind (wpAny_attempt (wpAny_holding ?_))))
  unfold callGetattribute
  rw [show (false && onTheHeap (Value.builtin "BaseException.__getattribute__")) = false from rfl, if_neg Bool.false_ne_true]
  unfold boundAndCalled
  rw [PySem.F.excAttr_ValueError.ga.bind (.ref x)]
  refine wpAny_bind (wpAny_pure ?_)
  refine reader_class C X I ?_
  first
    | exact wpAny_pure (wpAny_pure q)
    | exact wpAny_pure q
    | exact wpAny_pure (wpAny_bind (wpAny_pure (wpAny_pure q)))
    | exact q
/-- isinstance's own question, for such an error -/
theorem kit_fields (C : ExcC K D) : KitX K (.ref x) (.ref D) (fun h => InstAt h x ox D od) := by
  have place : ∃ c' d' cd' sl', K.lookup D = some ⟨c', d', .cls cd', sl'⟩ := by
    obtain ⟨cd, h, _⟩ := any_some C.hd
    unfold clsIn at h
    split at h
    · rename_i c' d' cd' sl' ho
      exact ⟨_, _, _, _, ho⟩
    · cases h
  obtain ⟨c', d', cd', sl', ho⟩ := place
  refine ⟨fun _ _ _ I => I.type, fun _ _ X _ => ?_, fun h tp dd its n sl X htp => ?_, fun X I k => asked_class C X I k⟩
  · intro A' Q' E' s' k q
    unfold isType loadHead
    exact wpAny_bind (wpAny_loadPart (k _ _ (X _ _ ho)) (wpAny_pure q))
  · refine Bool.eq_false_iff.mpr fun z => ?_
    obtain rfl : D = tp := Value.ref.inj (beq_iff_eq.mp z)
    have := (X _ _ ho).symm.trans htp
    cases this
end
theorem call_isF {X : Cx} {a D : Addr} {cls : Value} {d : Option Addr} {oe : Obj} {pn : List (Addr × Obj)} (C : ExcC X.K D) (hz : Zc cls d oe) (hf : ∃ vs, oe.data = .fields vs) : CallR (X.suite a ((a, oe) :: pn)) (.builtin "isinstance") (fun xs H Q => cls = .ref D ∧ (∃ dd fs, d = some dd ∧ H dd = some (.xd fs)) ∧ rIsE X.K D a xs H Q) := by
  intro pins s σ H xs us Q I r h
  obtain ⟨rfl, ⟨dd, fs, rfl, hdd⟩, c, cv, b, rfl, hcv, e, q⟩ := h
  cases r with
  | cons rx rr =>
    cases rr with
    | cons rt rr =>
      cases rr
      cases rx
      have ec := hcv _ rt
      subst ec
      obtain ⟨at_, _⟩ := I.pin (a, oe) (List.mem_append.mpr (.inl List.mem_cons_self))
      obtain ⟨vs, hv⟩ := hf
      obtain ⟨mA, hns, _⟩ := (I.hok dd _ hdd : ObjOk X.prog X.w H s.heap dd (.xd fs))
      obtain ⟨od, ho, _⟩ := lookIn_ns hns
      have J : PySem.W.InstAt s.heap a oe D (some od) := ⟨at_, hz.1, by unfold PySem.W.notCls; rw [hv] <;> rfl, by rw [hz.2]; exact ho⟩
      exact PySem.W.kia_one (kit_fields C) I.kIn J e (fun z => nomatch z) fun tk => ⟨.bl b, H, I.kept (t' := tk) fun _ _ z => z, rfl, q⟩
theorem call_isFT {X : Cx} {a D : Addr} {cls : Value} {d : Option Addr} {oe : Obj} {pn : List (Addr × Obj)} (C : ExcC X.K D) (hz : Zc cls d oe) (hf : ∃ vs, oe.data = .fields vs) : CallR (X.suite a ((a, oe) :: pn)) (.builtin "isinstance") (fun xs H Q => cls = .ref D ∧ (∃ dd fs, d = some dd ∧ H dd = some (.xd fs)) ∧ ∃ (tp : Addr) (cs : List V) (us : List Value) (b : Bool), xs = [.ref a, .ref tp] ∧ H tp = some (.tup cs) ∧ Paired ClsV cs us ∧ PySem.W.kitAny X.K (.ref D) us = some b ∧ Q (.bl b) H) := by
  intro pins s σ H xs us Q I r h
  obtain ⟨rfl, ⟨dd, fs, rfl, hdd⟩, tp, cs, ws, b, rfl, hT, k, e, q⟩ := h
  cases r with
  | cons rx rr =>
    cases rr with
    | cons rt rr =>
      cases rr
      cases rx
      cases rt
      obtain ⟨at_, _⟩ := I.pin (a, oe) (List.mem_append.mpr (.inl List.mem_cons_self))
      obtain ⟨vs, hv⟩ := hf
      obtain ⟨mA, hns, _⟩ := (I.hok dd _ hdd : ObjOk X.prog X.w H s.heap dd (.xd fs))
      obtain ⟨od, ho, _⟩ := lookIn_ns hns
      have J : PySem.W.InstAt s.heap a oe D (some od) := ⟨at_, hz.1, by unfold PySem.W.notCls; rw [hv] <;> rfl, by rw [hz.2]; exact ho⟩
      obtain ⟨_, its, rv, o, h1, h2, n, h3⟩ := (show ObjOk X.prog X.w H s.heap tp (.tup cs) from I.hok tp _ hT)
      have e3 := ClsV.all k rv
      subst e3
      obtain ⟨oc, od2, dt, sl⟩ := o
      simp only at h2 h3
      subst h2 h3
      exact PySem.W.kia_tup (kit_fields C) I.kIn J h1 e (fun z => nomatch z) fun tk => ⟨.bl b, H, I.kept (t' := tk) fun _ _ z => z, rfl, q⟩
theorem filt_succ {p : Nat → Bool} (i : Nat) : (List.range (i + 1)).filter p = (List.range i).filter p ++ (if p i = true then [i] else []) := by
  rw [List.range_succ, List.filter_append]
  cases h : p i <;> simp [h]
theorem filt_len {p : Nat → Bool} (i : Nat) : ((List.range i).filter p).length ≤ i := by
  refine Nat.le_trans (List.length_filter_le ..) ?_
  rw [List.length_range]
  exact Nat.le_refl _
/-! ### slices and sums of tuples, whatever they are -/
theorem slA_of {K : PySem.W.Frag} {H : Hp} {a : Addr} {xs : List V} {lo hi : Option Int} {Q : VK} (h : H a = some (.tup xs)) (k : ∀ (p : Addr) (H' : Hp), H' p = some (.tup (cutV xs lo hi)) → Same H H' → Q (.ref p) H') : rSlA K (.ref a) lo hi H Q := by
  refine ⟨a, xs, rfl, SqT.of h, fun z => k a H ?_ (Same.refl _), fun _ p np => k p _ upd_same (same_new np)⟩
  unfold cutV
  rw [z.1, z.2, List.drop_zero, Nat.sub_zero, List.take_length]
  exact h
theorem catA_of {K : PySem.W.Frag} {H : Hp} {a b : Addr} {xs ys : List V} {Q : VK} (h : H a = some (.tup xs)) (g : H b = some (.tup ys)) (l : xs.length + ys.length ≤ 1000) (k : ∀ (p : Addr) (H' : Hp), H' p = some (.tup (xs ++ ys)) → Same H H' → Q (.ref p) H') : rCatA K (.ref a) (.ref b) H Q := by
  refine ⟨a, b, xs, ys, rfl, rfl, SqT.of h, SqT.of g, little l, fun e => k b H ?_ (Same.refl _), fun _ e => k a H ?_ (Same.refl _), fun _ _ p np => k p _ upd_same (same_new np)⟩
  · rw [e]; exact g
  · rw [e, List.append_nil]; exact h
theorem cut_take (xs : List V) (k : Nat) : cutV xs none (some ((k : Nat) : Int)) = xs.take k := by
  unfold cutV
  rw [HT.sIx_nat, HT.sIx_none, List.drop_zero, Nat.sub_zero]
  by_cases h : k ≤ xs.length
  · rw [Nat.min_eq_left h]
  · rw [Nat.min_eq_right (by omega), List.take_length, List.take_of_length_le (by omega)]
theorem cut_part {xs : List V} {lo hi : Option Int} : ∀ x ∈ cutV xs lo hi, x ∈ xs := fun x hx => List.mem_of_mem_drop (List.mem_of_mem_take hx)
theorem cut_nats {ns : List Nat} {lo hi : Option Int} : ∃ ms : List Nat, cutV (ns.map nV) lo hi = ms.map nV ∧ ms.length ≤ ns.length ∧ ∀ x ∈ ms, x ∈ ns := by
  refine ⟨(ns.drop (HT.sIx (ns.map nV).length 0 lo)).take (HT.sIx (ns.map nV).length (ns.map nV).length hi - HT.sIx (ns.map nV).length 0 lo), ?_, ?_, fun x hx => List.mem_of_mem_drop (List.mem_of_mem_take hx)⟩
  · unfold cutV
    rw [List.map_take, List.map_drop]
  · rw [List.length_take, List.length_drop]
    omega
/-- the hands whose rule is this door's -/
def doorsOf (z : Str) (hs : List HR) : List Nat := (List.range hs.length).filter fun i => decide (hs[i]?.map HR.wd = some z)
theorem mem_doors {z : Str} {hs : List HR} {k : Nat} : k ∈ doorsOf z hs ↔ ∃ h, hs[k]? = some h ∧ h.wd = z := by
  unfold doorsOf
  rw [List.mem_filter, List.mem_range, decide_eq_true_eq]
  constructor
  · rintro ⟨a, b⟩
    rw [List.getElem?_eq_getElem a] at b
    exact ⟨_, List.getElem?_eq_getElem a, Option.some.inj b⟩
  · rintro ⟨h, a, b⟩
    refine ⟨(List.getElem?_eq_some_iff.mp a).1, ?_⟩
    rw [a, ← b]
    rfl
theorem doors_nodup {z : Str} {hs : List HR} : (doorsOf z hs).Nodup := List.nodup_range.filter _
theorem doors_len {z : Str} {hs : List HR} : (doorsOf z hs).length ≤ hs.length := by
  refine Nat.le_trans (List.length_filter_le ..) ?_
  rw [List.length_range]
  exact Nat.le_refl _
abbrev gD (m : List Int) (k : Nat) : Int := m.getD k 0
section
variable {P : Program} {w : World} {K : PySem.W.Frag} {mg : Str → Option Value} {base : Heap}
def sp_doors (z : Str) : Sp := fun vs H Q _ => ∃ (r : Addr) (hs : List HR) (bs : List BR), vs = [.ref r] ∧ RoomAt H r hs bs ∧ hs.length ≤ 400 ∧ (∀ h ∈ hs, GoodHand h) ∧ ∀ (p : Addr) (H' : Hp), H p = none → H' p = some (.lst ((doorsOf z hs).map nV)) → Same H H' → Q (.ref p) H'
abbrev sp_doors_in (K : PySem.W.Frag) : Sp := sp_doors "in"
abbrev sp_doors_out (K : PySem.W.Frag) : Sp := sp_doors "out"
theorem ok_doors_in {f : Addr} {fd : FuncData} (F : Fun K "doors_in" "doors_in" s_doors_in f fd) (T : Top K mg) : FnOk P w K mg base CX0 1 f fd ["room"] (sp_doors_in K) := by
  refine F.ok sc_doors_in (fun vs H Q E h => ?_) (fun cdv A outer s H vs Q E hr h => ?_)
  · obtain ⟨r, hs, bs, rfl, _⟩ := h
    rfl
  obtain ⟨aI, mI, hI⟩ := T.x_in
  obtain ⟨r, hs, bs, rfl, hR, lb, good, q⟩ := h
  obtain ⟨ha, ba, hv, bv, er, eh, eb, alh, alb⟩ := hR.ex
  have lhv := alh.length
  refine ⟨_, (pss_one (ps_ret (pe_lc (own := [("number", 1), ("hand", 2)]) (g := gTup K 2 (gCons (gName 1) (gCons (gName 2) gNil))) (by rfl) sc_doors_in.nd (pi_enumT K rfl (by rfl) T.m_enumerate (pa_cons (pe_ix (ix_tupK K rfl) (pv 0) pe_int (fun _ _ => rfl)) pa_nil)) (blkOk_by (own := [("number", 1), ("hand", 2)]) (N := N_doors_in) (sc := defScope s_doors_in) (by decide +kernel)) (fun _ _ _ _ _ => (pg_tupK K rfl rfl (pgs_cons (pg_name (i := 1) sc_doors_in.nd rfl (Or.inl rfl)) (pgs_cons (pg_name (i := 2) sc_doors_in.nd rfl (Or.inl rfl)) pgs_nil)))) (fun _ _ _ _ _ => pts_one (pt_cmpR (op_eqDK K rfl hr.units) (pe_ix (ix_tupK K rfl) (pv 2) pe_int (fun _ _ => rfl)) (pe_glob (v := .ref aI) (by rfl) mI rfl) (nomark _))) (fun _ _ _ _ _ => (pv 1))))), ?_⟩
  refine ⟨_, rfl, r, _, _, _, rfl, rfl, SqT.of er, atI_nat (j := 0) rfl, ha, hv, rfl, SqT.of eh, fun D nD => lc_it (J := IteT K ha hv) (n := hv.length) (fun i H5 => H5 D = some (.lst (((List.range i).filter fun j => decide (hs[j]?.map HR.wd = some ("in" : Str))).map nV)) ∧ Same H H5) ⟨upd_same, same_new nD⟩ ?_ ?_ ?_ ?_⟩
  · rintro i H5 hi ⟨hD, s5⟩
    exact ⟨SqT.of (s5 _ _ eh), hi⟩
  · rintro H5 ⟨hD, s5⟩
    exact ⟨SqT.of (s5 _ _ eh), rfl⟩
  · rintro i x H5 H6 hi ⟨hD, s5⟩ ⟨t, y, rfl, nt, rfl, ey⟩
    obtain ⟨hh, eb2, ⟨t2, g, rfl, e1, e2⟩⟩ := alh.getL ey
    have gh := good _ (List.mem_of_getElem? eb2)
    have s6 := s5.trans (same_new (o := .tup [V.int ((i : Nat) : Int), V.ref t2]) nt)
    have hD6 := same_new (o := .tup [V.int ((i : Nat) : Int), V.ref t2]) nt _ _ hD
    have few := filt_len (p := fun j => decide (hs[j]?.map HR.wd = some ("in" : Str))) i
    refine ⟨t, _, rfl, SqT.of upd_same, rfl, _, _, rfl, _, _, rfl, rfl, rfl, _, rfl, t2, _, _, _, rfl, rfl, SqT.of (s6 _ _ e1), atI_nat (j := 0) rfl, ?_⟩
    refine ⟨_, _, rule_dp (s6 _ _ e2), .tup (hI _) (.cons (.str _) .nil), rule_shaped gh.lay, one_shaped (by decide +kernel), _, rfl, ?_⟩
    rw [rule_eqv, gh.door "in" (.inl rfl)]
    by_cases c : hh.wd = "in"
    · rw [decide_eq_true c]
      refine if_bl (fun _ => ⟨_, rfl, _, hD6, by rw [List.length_map]; exact small1000 (by omega), ?_, Same.own s6 nD⟩) (fun z => nomatch z)
      rw [upd_same, filt_succ, if_pos (decide_eq_true (by rw [eb2, ← c]; rfl)), List.map_append]
      rfl
    · rw [decide_eq_false c]
      refine if_bl (fun z => nomatch z) (fun _ => ⟨?_, s6⟩)
      rw [filt_succ, if_neg fun z => c (by have := of_decide_eq_true z; rw [eb2] at this; exact Option.some.inj this), List.append_nil]
      exact hD6
  · rintro H5 ⟨hD, s5⟩
    refine q D H5 nD ?_ s5
    rw [hD, lhv]
    rfl
end
section
variable {P : Program} {w : World} {K : PySem.W.Frag} {mg : Str → Option Value} {base : Heap}
theorem ok_doors_out {f : Addr} {fd : FuncData} (F : Fun K "doors_out" "doors_out" s_doors_out f fd) (T : Top K mg) : FnOk P w K mg base CX0 1 f fd ["room"] (sp_doors_out K) := by
  refine F.ok sc_doors_out (fun vs H Q E h => ?_) (fun cdv A outer s H vs Q E hr h => ?_)
  · obtain ⟨r, hs, bs, rfl, _⟩ := h
    rfl
  obtain ⟨aO, mO, hI⟩ := T.x_out
  obtain ⟨r, hs, bs, rfl, hR, lb, good, q⟩ := h
  obtain ⟨ha, ba, hv, bv, er, eh, eb, alh, alb⟩ := hR.ex
  have lhv := alh.length
  refine ⟨_, (pss_one (ps_ret (pe_lc (own := [("number", 1), ("hand", 2)]) (g := gTup K 2 (gCons (gName 1) (gCons (gName 2) gNil))) (by rfl) sc_doors_out.nd (pi_enumT K rfl (by rfl) T.m_enumerate (pa_cons (pe_ix (ix_tupK K rfl) (pv 0) pe_int (fun _ _ => rfl)) pa_nil)) (blkOk_by (own := [("number", 1), ("hand", 2)]) (N := N_doors_out) (sc := defScope s_doors_out) (by decide +kernel)) (fun _ _ _ _ _ => (pg_tupK K rfl rfl (pgs_cons (pg_name (i := 1) sc_doors_out.nd rfl (Or.inl rfl)) (pgs_cons (pg_name (i := 2) sc_doors_out.nd rfl (Or.inl rfl)) pgs_nil)))) (fun _ _ _ _ _ => pts_one (pt_cmpR (op_eqDK K rfl hr.units) (pe_ix (ix_tupK K rfl) (pv 2) pe_int (fun _ _ => rfl)) (pe_glob (v := .ref aO) (by rfl) mO rfl) (nomark _))) (fun _ _ _ _ _ => (pv 1))))), ?_⟩
  refine ⟨_, rfl, r, _, _, _, rfl, rfl, SqT.of er, atI_nat (j := 0) rfl, ha, hv, rfl, SqT.of eh, fun D nD => lc_it (J := IteT K ha hv) (n := hv.length) (fun i H5 => H5 D = some (.lst (((List.range i).filter fun j => decide (hs[j]?.map HR.wd = some ("out" : Str))).map nV)) ∧ Same H H5) ⟨upd_same, same_new nD⟩ ?_ ?_ ?_ ?_⟩
  · rintro i H5 hi ⟨hD, s5⟩
    exact ⟨SqT.of (s5 _ _ eh), hi⟩
  · rintro H5 ⟨hD, s5⟩
    exact ⟨SqT.of (s5 _ _ eh), rfl⟩
  · rintro i x H5 H6 hi ⟨hD, s5⟩ ⟨t, y, rfl, nt, rfl, ey⟩
    obtain ⟨hh, eb2, ⟨t2, g, rfl, e1, e2⟩⟩ := alh.getL ey
    have gh := good _ (List.mem_of_getElem? eb2)
    have s6 := s5.trans (same_new (o := .tup [V.int ((i : Nat) : Int), V.ref t2]) nt)
    have hD6 := same_new (o := .tup [V.int ((i : Nat) : Int), V.ref t2]) nt _ _ hD
    have few := filt_len (p := fun j => decide (hs[j]?.map HR.wd = some ("out" : Str))) i
    refine ⟨t, _, rfl, SqT.of upd_same, rfl, _, _, rfl, _, _, rfl, rfl, rfl, _, rfl, t2, _, _, _, rfl, rfl, SqT.of (s6 _ _ e1), atI_nat (j := 0) rfl, ?_⟩
    refine ⟨_, _, rule_dp (s6 _ _ e2), .tup (hI _) (.cons (.str _) .nil), rule_shaped gh.lay, one_shaped (by decide +kernel), _, rfl, ?_⟩
    rw [rule_eqv, gh.door "out" (.inr rfl)]
    by_cases c : hh.wd = "out"
    · rw [decide_eq_true c]
      refine if_bl (fun _ => ⟨_, rfl, _, hD6, by rw [List.length_map]; exact small1000 (by omega), ?_, Same.own s6 nD⟩) (fun z => nomatch z)
      rw [upd_same, filt_succ, if_pos (decide_eq_true (by rw [eb2, ← c]; rfl)), List.map_append]
      rfl
    · rw [decide_eq_false c]
      refine if_bl (fun z => nomatch z) (fun _ => ⟨?_, s6⟩)
      rw [filt_succ, if_neg fun z => c (by have := of_decide_eq_true z; rw [eb2] at this; exact Option.some.inj this), List.append_nil]
      exact hD6
  · rintro H5 ⟨hD, s5⟩
    refine q D H5 nD ?_ s5
    rw [hD, lhv]
    rfl
end
/-! ### all(is_whole(x) for x in a tuple) -/
section
open PySem.Spec GxR
/-- isinstance(x, T), x a local name, wherever it stands -/
theorem isi_local {prog : Program} {w : World} {A : Around} {E : Value → Shared → Prop} {Q : Value → Shared → Prop} {env : Env} {K : PySem.W.Frag} {mg mb m : Str → Option Value} {s : Shared} {x T : Str} {Tn : String} {v t : Value} {b : Bool} {Hx : Heap → Prop} {p1 p2 p3 p4 : Pos}
    (kind : env.scope.kind = .function) (ki : env.kindOf "isinstance" = some .globalImplicit) (kT : env.kindOf T = some .globalImplicit) (kx : env.scope.names.lookup x = some .local) (dT : (T == ("__debug__" : Str)) = false) (dx : (x == ("__debug__" : Str)) = false)
    (g : s.heap.Ns env.globals mg) (bl : s.heap.Ns env.builtins mb) (mi : mg "isinstance" = none) (bi : mb "isinstance" = some (.builtin "isinstance")) (mT : mg T = none) (bT : mb T = some (.type Tn)) (ns : s.heap.Ns env.locals m) (mx : m x = some v)
    (kin : K.In s.heap) (Z : PySem.W.KitX K v t Hx) (p : Hx s.heap) (e : PySem.W.kitOne K t (.type Tn) = some b) (no : v ≠ .builtin "__main__.__loader__#opaque") (hQ : ∀ tk, Q (.bool b) { s with toks := tk }) :
    wpAny (model prog w) A (eval (.Call (.Name "isinstance" p1) [.Name x p2, .Name T p3] [] p4) env) Q E s := by
  refine wpAny_Call_Name_kw (Calls.Name_function_global kind ki (Calls.loadGlobal_builtin g mi bl bi ?_))
  refine PyProof.Rows.callWith_builtin1 ?_ (by rfl) (by rfl)
  show wpAny _ _ (spliced ((false, eval (.Name x p2) env) :: backTo p4 (starEach [.Name T p3] env))) _ _ s
  refine Calls.spliced_cons (wpAny_Name (wpAny_loadName_local kind kx ns mx ?_) dx)
  show wpAny _ _ (spliced ((false, eval (.Name T p3) env) :: backTo p4 (starEach [] env))) _ _ s
  refine Calls.spliced_cons (Calls.Name_function_global kind kT (Calls.loadGlobal_builtin g mT bl bT ?_) dT)
  refine Calls.spliced_nil ?_
  exact PySem.W.kia_one Z kin p e no hQ
/-- a def whose body is: return isinstance(x, int) and not isinstance(x, bool) -/
structure IsWholeDef (body : List Stmt) (scope : Scope) (x : Str) : Prop where
  body : ∃ p0 p1 p2 p3 p4 p5 p6 p7 p8 p9 p10 : Pos, body = [.Return (some (.BoolOp .And [.Call (.Name "isinstance" p1) [.Name x p2, .Name "int" p3] [] p4, .UnaryOp .Not (.Call (.Name "isinstance" p5) [.Name x p6, .Name "bool" p7] [] p8) p9] p10)) p0]
  kind : scope.kind = .function
  co : scope.isCoroutine = false
  gen : scope.isGenerator = false
  ki : scope.names.lookup ("isinstance" : Str) = some NameKind.globalImplicit
  kt : scope.names.lookup ("int" : Str) = some NameKind.globalImplicit
  kb : scope.names.lookup ("bool" : Str) = some NameKind.globalImplicit
  kx : scope.names.lookup x = some NameKind.local
  dx : (x == ("__debug__" : Str)) = false
theorem whole_call {prog : Program} {w : World} {A : Around} {E : Value → Shared → Prop} {K : PySem.W.Frag} {mg : Str → Option Value} {base : Heap} {s : Shared} {f : Addr} {fd : FuncData} {x nm : Str} {st : Stmt} {v t : Value} {a b : Bool} {Hx : Heap → Prop}
    (F : Fun K nm nm st f fd) (W : IsWholeDef (defBody st) (defScope st) x) (bnd : BindsTo s fd ⟨[v], []⟩ [(x, v)]) (Z : PySem.W.KitX K v t Hx) (hx : ∀ h', (∀ b o, s.heap.get? b = some o → h'.get? b = some o) → Hx h') (ea : PySem.W.kitOne K t (.type "int") = some a) (eb : PySem.W.kitOne K t (.type "bool") = some b) (no : v ≠ .builtin "__main__.__loader__#opaque") (M : Mod K mg base) (bk : ∀ b o, base.get? b = some o → s.heap.get? b = some o)
    (mi : mg "isinstance" = none) (mt : mg "int" = none) (mb : mg "bool" = none) (depth : A.depth + 2 < recursionLimit) :
    wpAny (model prog w) A (call (.ref f) [v]) (fun y s' => y = .bool (a && !b) ∧ Keeps s s') E s := by
  obtain ⟨kl, kd, kV, dc, pm, an, cv, ct, ks, rfl, look, cin⟩ := F.ex
  have kin : K.In s.heap := M.kin.keeps bk
  have lim : s.heap.NoLimit := M.nolimit.keeps bk
  refine wpAny_call (codeAny_call_function (by omega) (kin _ _ look) rfl W.co W.gen rfl (PySem.W.codeRec_of kin cin) (bnd _ _ _ _ ?_))
  refine wpAny_newFunctionEnv_cells W.kind (fun y hy => ?_) fun env he s1 ic => ?_
  · rw [List.mem_singleton.mp hy]
    exact .inl W.kx
  subst he
  refine ⟨lim.keeps ic.toInCall.keep, codeAny_func ?_⟩
  have nsx := ic.toInCall.ns
  have kp := ic.toInCall.keep
  have dn := ic.done
  generalize eenv : newEnv (PySem.W.fnOf nm nm (defArgs st) (defBody st) (defScope st) Value.none kV dc pm an cv ct).scope s.heap.objs.size _ _ _ _ _ _ _ = env at nsx ⊢
  have sc : env.scope = defScope st := by rw [← eenv]; rfl
  have gl : env.globals = mainGlobals := by rw [← eenv]; rfl
  have bl : env.builtins = builtinsNs := by rw [← eenv]; rfl
  have ko : ∀ y, env.kindOf y = (defScope st).names.lookup y := fun y => by rw [← eenv]; rfl
  have bk1 : ∀ b o, base.get? b = some o → s1.heap.get? b = some o := fun b o e => kp b o (bk b o e)
  obtain ⟨mbs, hb1, hb2⟩ := M.blt
  obtain ⟨p0, p1, p2, p3, p4, p5, p6, p7, p8, p9, p10, hbody⟩ := W.body
  show wpAny _ _ (execs (defBody st) env) _ _ s1
  rw [hbody]
  refine wpAny_execs_cons ?_
  refine wpAny_Return_some ?_
  have kindf : env.scope.kind = .function := by rw [sc]; exact W.kind
  have nsl := nsx
  have g1 : s1.heap.Ns env.globals mg := by rw [gl]; exact M.glob.keeps bk1
  have b1 : s1.heap.Ns env.builtins mbs := by rw [bl]; exact hb1.keeps bk1
  have kx1 : env.scope.names.lookup x = some .local := by rw [sc]; exact W.kx
  have mx : bindL env.kindOf [(x, v)] (fun _ => none) x = some v := by
    show (if env.kindOf x = some .local then fun y => if y = x then some v else none else fun _ => none) x = _
    rw [if_pos ((ko x).trans W.kx)]
    exact if_pos rfl
  refine wpAny_And2 (isi_local (K := K) kindf ((ko _).trans W.ki) ((ko _).trans W.kt) kx1 (by decide) W.dx g1 b1 mi (hb2 _ (by decide) |>.trans boot_isinstance) mt (hb2 _ (by decide) |>.trans boot_int) nsl mx (kin.keeps kp) Z (hx _ kp) ea no fun tk1 => ?_)
  refine wpAny_truthy_bool ?_
  obtain ⟨h', tk', e1, k1⟩ := dn
  cases a with
  | false => exact ⟨rfl, h', tk1, by rw [e1], k1⟩
  | true =>
    refine wpAny_UnaryOp (isi_local (K := K) kindf ((ko _).trans W.ki) ((ko _).trans W.kb) kx1 (by decide) W.dx g1 b1 mi (hb2 _ (by decide) |>.trans boot_isinstance) mb (hb2 _ (by decide) |>.trans boot_bool) nsl mx (kin.keeps kp) Z (hx _ kp) eb no fun tk2 => ?_)
    refine not_value (wpAny_truthy_bool ?_)
    exact ⟨rfl, h', tk2, by rw [e1], k1⟩
/-- one item looked at, in the generator's own surroundings -/
def LooksAt (X : Cx) (scope : Scope) (x : Str) (elt : Expr) (its : List Value) (pb : Nat → Bool) (h0 : Heap) (P : Addr) : Prop :=
  ∀ (cenv : Env) (A' : Around) (E' : Value → Shared → Prop) (i : Nat) (v : Value) (z : Shared) (mz : Str → Option Value), A'.depth ≤ X.A.depth + 1 → cenv.scope = scope → cenv.globals = mainGlobals →
    (∀ b o, X.base.get? b = some o → z.heap.get? b = some o) → (∀ b o, b ≠ P → h0.get? b = some o → z.heap.get? b = some o) → z.heap.Ns cenv.locals mz → mz x = some v → its[i]? = some v →
    wpAny (model X.prog X.w) A' (eval elt cenv) (fun y z' => y = .bool (pb i) ∧ Keeps z z') E' z
/-- the state when the generator's code object was got: the table at P may be longer -/
structure Got (P : Addr) (ps : Array Value) (z z' : Shared) : Prop where
  same : z' = { z with heap := z'.heap, toks := z'.toks }
  ext : Heap.ExtBut P z.heap z'.heap
  size : z.heap.objs.size ≤ z'.heap.objs.size
  tab : ∃ more, z'.heap.get? P = some { cls := .none, data := .fields (ps ++ more) } ∧ TriplesOk (ps ++ more).toList
theorem code_got {prog : Program} {w : World} {A : Around} {E : Value → Shared → Prop} {env : Env} {gpos : Pos} {nm : Str} {scope : Scope} {c P : Addr} {ps : Array Value} {z : Shared}
    (hcode : env.code = .ref c) (cd : PySem.W.CodeHd z.heap c P) (hP : z.heap.get? P = some { cls := .none, data := .fields ps }) (ht : TriplesOk ps.toList) :
    wpAny (model prog w) A (genexprCode env gpos nm scope) (fun _ z' => Got P ps z z') E z := by
  cases among : codeAmong gpos ps.toList with
  | some cv => exact wpAny_genexprCode_hit hcode (cd.code hP ht) among ⟨rfl, .refl _ _, Nat.le_refl _, #[], by simpa using hP, by simpa using ht⟩
  | none =>
    refine wpAny_genexprCodeX hcode (cd.code hP ht) (cd.tab hP) among fun c' h' tk ext ge lt co _ tab _ => ?_
    obtain ⟨_, _, _, _, _, _, _, _, _, _, _, _, _, _, _, _, _, _, _, tr, _⟩ := co
    exact ⟨rfl, ext, Nat.le_trans ge (Nat.le_of_lt lt), _, tab.2, tr⟩
/-- a generator g of n truths pb, about to be walked; however far it is walked, H1 stands but for the table -/
def Poised (X : Cx) (pins : List (Addr × Obj)) (σ : L2.St) (H1 : Hp) (P : Addr) (n : Nat) (pb : Nat → Bool) (g : Addr) (z : Shared) : Prop :=
  ∃ (foot own : List Addr) (Gn : Array GenState → Array GenState → Prop) (Fn : Nat → Value → Prop) (Sn : Nat → Shared → Prop),
    WalksS X.prog X.w X.A.in1 g foot own Gn n Fn Sn ∧ Sn 0 z ∧ TruthOf X.prog X.w X.A.in1 Fn pb ∧ ∀ z', Moved own Gn z z' → ∃ H2, Tabbed P H1 H2 ∧ Inv X pins σ H2 z'
theorem gen_items {X : Cx} {pins : List (Addr × Obj)} {σ : L2.St} {H : Hp} {s : Shared} {c P : Addr} {elt iter : Expr} {x : Str} {px gpos : Pos} {scope : Scope} {te : TE} {k : Nat} {Qg : Value → Shared → Prop}
    (hr : Room k X.A) (TB : TabB X.base X.mg c P) (hcode : X.env.code = .ref c) (S : GenS X.env scope x) (hi : PE X iter te) (hs : ∀ v, genFold iter X.env v = pure v) (I : Inv X pins σ H s)
    {R : VK} (h : te σ H R) (hR : ∀ v H1, R v H1 → ∃ (a : Addr) (xs : List V) (pb : Nat → Bool), v = .ref a ∧ SqT X.K H1 a xs ∧ TabG H1 P ∧ (∀ its s1, Inv X pins σ H1 s1 → Vals xs its → LooksAt X scope x elt its pb s1.heap P) ∧ ∀ g z, Poised X pins σ H1 P xs.length pb g z → Qg (.ref g) z) :
    wpAny (model X.prog X.w) X.A (eval (.GeneratorExp elt [⟨.Name x px, iter, [], 0⟩] scope gpos) X.env) Qg X.xe s := by
  refine wpAny_GeneratorExp_walksQD hr.hd S.co (closure_ok S.free) S.cell S.dot S.loc S.kind (by have := hr.dp; omega) ?_ hs
  refine thn (hi.run pins s σ H _ I h) fun u s1 ⟨v, H1, I1, rel, now⟩ => ?_
  obtain ⟨a, xs, pb, ev, hq, ⟨ps, hP, tri⟩, look, fin⟩ := hR v H1 now
  subst ev
  obtain rfl : u = Value.ref a := rel
  obtain ⟨its, rv, tup, _⟩ := I1.tuple hq
  refine wpAny_pyIter_tuple tup ?_
  have tabP : s1.heap.get? P = some { cls := .none, data := .fields ps } := I1.hok P _ hP
  have pushed : ∀ b o, s1.heap.get? b = some o → (s1.heap.push { cls := .type "tuple_iterator", data := .fields #[.ref a, .int 0 0] }).get? b = some o := fun b o e => Heap.get?_push_of_some _ e
  have born : Heap.IsTupleIter (s1.heap.push { cls := .type "tuple_iterator", data := .fields #[.ref a, .int 0 0] }) s1.heap.objs.size a 0 := ⟨_, Heap.get?_push_size _ rfl, rfl, rfl⟩
  have wider : (s1.heap.push { cls := .type "tuple_iterator", data := .fields #[.ref a, .int 0 0] }).objs.size = s1.heap.objs.size + 1 := Heap.size_push ..
  generalize s1.heap.push { cls := .type "tuple_iterator", data := .fields #[.ref a, .int 0 0] } = h2 at pushed born wider ⊢
  have al : a < s1.heap.objs.size := by obtain ⟨o, ho, _⟩ := tup; exact Heap.lt_size ho
  have pl : P < s1.heap.objs.size := Heap.lt_size tabP
  have cl : cStatics < s1.heap.objs.size := let ⟨_, hn, _⟩ := I1.nolimit; hn.lt
  have cP : cStatics ≠ P := fun e => by
    obtain ⟨_, ⟨o, es, ep, ho, hd, _⟩, _⟩ := I1.nolimit
    rw [e, tabP] at ho
    cases ho
    cases hd
  have aP : a ≠ P := fun e => by
    obtain ⟨o, ho, hc, _⟩ := tup
    rw [e, tabP] at ho
    cases ho
    cases hc
  have lim2 : h2.NoLimit := I1.nolimit.keeps pushed
  refine ⟨lim2, thn (code_got (ps := ps) hcode (TB.code.keeps fun b o e => pushed b o (I1.bk b o e)) (pushed _ _ tabP) tri) fun code s3 got => ?_⟩
  obtain ⟨eq3, ext, wide, more, hP3, tri3⟩ := got
  obtain ⟨h3, g3, d3, t3, o3⟩ := s3
  obtain ⟨rfl, rfl, rfl⟩ : g3 = s1.gens ∧ d3 = s1.drawn ∧ o3 = s1.os := by
    have := eq3
    simp only [Shared.mk.injEq] at this
    exact ⟨this.2.1, this.2.2.1, this.2.2.2.2⟩
  replace ext : Heap.ExtBut P h2 h3 := ext
  replace wide : h2.objs.size ≤ h3.objs.size := wide
  have kept : ∀ b o, b ≠ P → s1.heap.get? b = some o → h3.get? b = some o := fun b o nb e => ext b o nb (pushed b o e)
  obtain ⟨bm, ob, b1, b2, b3, b4, b5, b6, b7, b8⟩ := TB.bm
  refine wpAny_builtinsFor (m := X.mg) (by rw [I1.ok.glob]; exact (I1.mod.glob.keeps fun b o e => pushed b o (I1.bk b o e)).extBut ext TB.gP) b1 b2 (kept _ _ b4 (I1.bk _ _ b5)) b6 b7 b8 ?_
  refine ⟨s1.heap.objs.size, [s1.heap.objs.size, a], [s1.heap.objs.size], its.toArray.size, (fun i v => its.toArray[i]? = some v), _, (fun _ => true), (fun i y => i < its.length ∧ y = .bool (pb i)), rfl, fun A' hA => Walks.tuple hA s1.heap.objs.size a (Nat.ne_of_lt al) its.toArray, ⟨?_, ?_⟩, ?_, lim2.extBut ext cP, ?_, ?_, ?_⟩
  · exact born.at fun o e => ext _ o (Nat.ne_of_gt pl) e
  · exact (show Heap.IsTuple s1.heap a its.toArray from tup).at fun o e => kept a o aP e
  · intro b hb
    have either : b = s1.heap.objs.size ∨ b = a := by simpa using hb
    show b < h3.objs.size
    have past : s1.heap.objs.size < h3.objs.size := by omega
    rcases either with z | z
    · rw [z]; exact past
    · rw [z]; exact Nat.lt_trans al past
  · intro z
    exact Nat.ne_of_lt cl (List.mem_singleton.mp z)
  · intro href above
    refine ⟨fun A' E' i v z mz _ _ _ _ _ _ _ => ?_, fun A' E' i v z mz _ dep _ pv _ nz mx up => ?_⟩
    · rw [List.forIn_nil]
      exact wpAny_pure ⟨rfl, GxR.keeps_refl z⟩
    · have at_ : its[i]? = some v := by
        have pv : its.toArray[i]? = some v := pv
        rwa [List.getElem?_toArray] at pv
      refine wpAny_mono (look its _ I1 rv _ A' E' i v z mz dep rfl I1.ok.glob (fun b o e => ?_) (fun b o nb e => up b (List.mem_range.mpr (Heap.lt_size (kept b o nb e))) (fun q => Nat.ne_of_lt (Heap.lt_size e) (List.mem_singleton.mp q)) o (above b o (kept b o nb e))) nz mx at_) (fun y z' r => ⟨⟨(List.getElem?_eq_some_iff.mp at_).1, r.1⟩, r.2⟩) fun _ _ e => e
      have nb : b ≠ P := fun q => by
        have := (I1.bs b o e).2
        rw [q, hP] at this
        cases this
      have e1 := kept b o nb (I1.bk b o e)
      have bl := Heap.lt_size (I1.bk b o e)
      exact up b (List.mem_range.mpr (Heap.lt_size e1)) (fun q => Nat.ne_of_lt bl (List.mem_singleton.mp q)) o (above b o e1)
  · intro g h5 tk5 gs bare gt size5 kept5 W st0
    have many : (passing (fun _ => true) its.toArray.size 0).length = xs.length := by rw [GxR.passing_true, List.length_range, List.size_toArray, rv.length]
    rw [many] at W
    refine fin g _ ⟨_, _, _, _, _, W.in4_1, st0, fun j y z Qj Ej hy now => ?_, fun z' mv => ?_⟩
    · obtain ⟨i, hij, hil, rfl⟩ := hy
      rw [GxR.passing_true] at hij
      obtain ⟨lt, ij⟩ := List.getElem?_eq_some_iff.mp hij
      rw [List.getElem_range] at ij
      subst ij
      exact wpAny_truthy_bool now
    · have un : ∀ b o, s1.heap.get? b = some o → b ∉ h3.objs.size :: [s1.heap.objs.size] := fun b o e q => by
        have bl := Heap.lt_size e
        have past : s1.heap.objs.size < h3.objs.size := by omega
        have either : b = h3.objs.size ∨ b = s1.heap.objs.size := by simpa using q
        rcases either with q | q
        · exact Nat.ne_of_lt (Nat.lt_trans bl past) q
        · exact Nat.ne_of_lt bl q
      have J := inv_tab (more := more) (h' := z'.heap) (g' := z'.gens) (d' := z'.drawn) (t' := z'.toks) I1 hP (fun b o nb e => mv.heap b o (un b o e) (kept5 b o (kept b o nb e))) (mv.heap P _ (un P _ tabP) (kept5 P _ hP3)) (AllBare.movedS (I1.bare.push bare) mv)
      rw [sh_eta s1 z' mv.os] at J
      exact ⟨_, ⟨⟨_, upd_same, tri3⟩, fun b nb => upd_ne nb⟩, J⟩
/-- is_whole's answer for a thing -/
def wholeV (H : Hp) : V → Option Bool
  | .int _ => some true
  | .bl _ => some false
  | .non => some false
  | .str _ => some false
  | .ref p => match H p with
    | some (.tup _) => some false
    | some (.lst _) => some false
    | _ => none
  | _ => none
/-- is_whole(x) for x in ..: the generator's element -/
structure WholeElt (X : Cx) (scope : Scope) (x nm : Str) (f : Addr) (fd : FuncData) (st : Stmt) (y : Str) : Prop where
  fn : Fun X.K nm nm st f fd
  df : IsWholeDef (defBody st) (defScope st) y
  bn : Binds X.K fd [y] []
  mg : X.mg nm = some (.ref f)
  mi : X.mg "isinstance" = none
  mt : X.mg "int" = none
  mb : X.mg "bool" = none
  kind : scope.kind = .function
  kf : scope.names.lookup nm = some NameKind.globalImplicit
  kx : scope.names.lookup x = some NameKind.local
  dx : (x == ("__debug__" : Str)) = false
  df2 : (nm == ("__debug__" : Str)) = false
theorem whole_elt {X : Cx} {scope : Scope} {x nm : Str} {f : Addr} {fd : FuncData} {st : Stmt} {y : Str} {k : Nat} {xs : List V} {p1 p2 p3 : Pos} (W : WholeElt X scope x nm f fd st y) (M : L2.Mod X.K X.mg X.base) (hr : Room k X.A) (hk : 1 ≤ k)
    {H1 : Hp} {P : Addr} {pins : List (Addr × Obj)} {σ : L2.St} (hP : ∃ ps, H1 P = some (.tbl ps)) (hv : ∀ v ∈ xs, ∃ b, wholeV H1 v = some b) :
    ∀ its s1, Inv X pins σ H1 s1 → Vals xs its → LooksAt X scope x (.Call (.Name nm p1) [.Name x p2] [] p3) its (fun i => (xs[i]?.bind (wholeV H1)).getD false) s1.heap P := by
  intro its s1 I1 rv cenv A' E' i v z mz dep sc gl up up2 nz mx at_
  have kc : cenv.scope.kind = .function := by rw [sc]; exact W.kind
  have hd := hr.dp
  refine wpAny_Call_Name_kw (Calls.Name_function_global kc (show cenv.scope.names.lookup nm = _ by rw [sc]; exact W.kf) (Calls.loadGlobal_global (by rw [gl]; exact M.glob.keeps up) W.mg ?_) W.df2)
  have at2 := at_
  obtain ⟨v0, hv0⟩ : ∃ v0, xs[i]? = some v0 := ⟨_, List.getElem?_eq_getElem (by rw [rv.length]; exact (List.getElem?_eq_some_iff.mp at_).1)⟩
  obtain ⟨u, hu, rel⟩ := rv.get hv0
  rw [at_] at hu
  cases hu
  obtain ⟨b, hb⟩ := hv v0 (List.mem_of_getElem? hv0)
  have ans : (fun i => (xs[i]?.bind (wholeV H1)).getD false) i = b := by
    show (xs[i]?.bind (wholeV H1)).getD false = b
    rw [hv0]
    show (wholeV H1 v0).getD false = b
    rw [hb]
    rfl
  rw [ans]
  have kin : X.K.In z.heap := M.kin.keeps up
  obtain ⟨oc, od, kV, doc, pm, an, cdv, ct, osl, efd, lk, hcd⟩ := W.fn.ex
  refine callWith_meth (h₀ := z.heap) (first := []) rfl (kin _ _ lk) ?_
  show wpAny _ _ (spliced ((false, eval (.Name x p2) cenv) :: backTo p3 (starEach [] cenv))) _ _ z
  refine Calls.spliced_cons (wpAny_Name (wpAny_loadName_local kc (show cenv.scope.names.lookup x = _ by rw [sc]; exact W.kx) nz mx ?_) W.dx)
  refine Calls.spliced_nil ⟨fun _ _ e => e, ?_⟩
  have go : ∀ {t : Value} {a c : Bool} {Hx : Heap → Prop}, PySem.W.KitX X.K v t Hx → (∀ h', (∀ b o, z.heap.get? b = some o → h'.get? b = some o) → Hx h') → PySem.W.kitOne X.K t (.type "int") = some a → PySem.W.kitOne X.K t (.type "bool") = some c → v ≠ .builtin "__main__.__loader__#opaque" → b = (a && !c) →
      wpAny (model X.prog X.w) A' (call (.ref f) [v]) (fun y z' => y = .bool b ∧ Keeps z z') E' z := fun {t a c Hx} Z hx ea eb no eq => by
    rw [eq]
    exact whole_call W.fn W.df (W.bn z [v] kin rfl) Z hx ea eb no M up W.mi W.mt W.mb (by omega)
  cases v0 with
  | int n =>
    obtain ⟨t, rfl⟩ := rel
    cases hb
    exact go PySem.W.kitx_int (fun _ _ => trivial) (kit_ty rfl) (kit_ty rfl) (fun z => nomatch z) rfl
  | bl n =>
    obtain rfl : v = .bool n := rel
    cases hb
    exact go PySem.W.kitx_bool (fun _ _ => trivial) (kit_ty rfl) (kit_ty rfl) (fun z => nomatch z) rfl
  | non =>
    obtain rfl : v = .none := rel
    cases hb
    exact go PySem.W.kitx_none (fun _ _ => trivial) (kit_ty rfl) (kit_ty rfl) (fun z => nomatch z) rfl
  | str n =>
    obtain ⟨t, rfl⟩ := rel
    cases hb
    exact go PySem.W.kitx_str (fun _ _ => trivial) (kit_ty rfl) (kit_ty rfl) (fun z => nomatch z) rfl
  | byt n => cases hb
  | flt n => cases hb
  | ref n =>
    obtain rfl : v = .ref n := rel
    have off : ∀ o, H1 n = some o → (∀ ps, o ≠ .tbl ps) → n ≠ P := fun o e ne q => by
      obtain ⟨ps, hp⟩ := hP
      rw [q, hp] at e
      exact ne ps (Option.some.inj e).symm
    cases e : H1 n with
    | none => rw [show wholeV H1 (.ref n) = none by show (match H1 n with | some (.tup _) => some false | some (.lst _) => some false | _ => none) = none; rw [e]] at hb; cases hb
    | some ob =>
      have hb : (match some ob with | some (.tup _) => some false | some (.lst _) => some false | _ => none) = some b := by rw [← e]; exact hb
      split at hb
      · rename_i ys eo
        cases eo
        cases hb
        have hk := off _ e (fun _ z => nomatch z)
        obtain ⟨_, _, _, o, h1, h2, _⟩ := (show ObjOk X.prog X.w H1 s1.heap n (.tup ys) from I1.hok n _ e)
        exact go PySem.W.kitx_tuple (fun h' kp => ⟨o, kp _ _ (up2 _ _ hk h1), h2⟩) (kit_ty rfl) (kit_ty rfl) (fun z => nomatch z) rfl
      · rename_i ys eo
        cases eo
        cases hb
        have hk := off _ e (fun _ z => nomatch z)
        obtain ⟨_, _, m, _, h1⟩ := (show ObjOk X.prog X.w H1 s1.heap n (.lst ys) from I1.hok n _ e)
        exact go PySem.W.kitx_list (fun h' kp => ⟨_, kp _ _ (up2 _ _ hk h1), rfl⟩) (kit_ty rfl) (kit_ty rfl) (fun z => nomatch z) rfl
      · cases hb
  | ty n => cases hb
/-- all(is_whole(x) for x in e), e a tuple -/
def tAllW (K : PySem.W.Frag) (P : Addr) (te : TE) : TE := fun σ H Q => te σ H fun v H1 => ∃ (a : Addr) (xs : List V), v = .ref a ∧ SqT K H1 a xs ∧ TabG H1 P ∧ (∀ y ∈ xs, ∃ b, wholeV H1 y = some b) ∧ ∀ H2, Tabbed P H1 H2 → Q (.bl (xs.all fun y => (wholeV H1 y).getD false)) H2
theorem all_at {α : Type} (xs : List α) (g : α → Option Bool) : ((List.range xs.length).all fun i => (xs[i]?.bind g).getD false) = xs.all fun y => (g y).getD false := by
  induction xs with
  | nil => rfl
  | cons y r ih =>
    rw [List.length_cons, List.range_succ_eq_map, List.all_cons, List.all_map, List.all_cons, ← ih]
    rfl
theorem pe_allW {X : Cx} (K : PySem.W.Frag) (hK : X.K = K) {c P : Addr} {iter : Expr} {x nm y : Str} {px p pos gpos p1 p2 p3 : Pos} {scope : Scope} {te : TE} {k : Nat} {f : Addr} {fd : FuncData} {st : Stmt}
    (hr : Room k X.A) (hk : 1 ≤ k) (hg : Gl X "all") (hm : X.mg "all" = none) (hb : bootBuiltins "all" = some (.builtin "all")) (TB : TabB X.base X.mg c P) (hcode : X.env.code = .ref c) (S : GenS X.env scope x) (hi : PE X iter te) (W : WholeElt X scope x nm f fd st y)
    (hs : ∀ v, genFold iter X.env v = pure v) :
    PE X (.Call (.Name "all" p) [.GeneratorExp (.Call (.Name nm p1) [.Name x p2] [] p3) [⟨.Name x px, iter, [], 0⟩] scope gpos] [] pos) (tAllW K P te) := by
  subst hK
  refine ⟨fun pins s σ H Q I h => ?_⟩
  refine wpAny_Call_Name_kw (ld_blt I hg hm hb (PyProof.Rows.callWith_builtin1 ?_ rfl rfl))
  show wpAny _ _ (spliced ((false, eval (.GeneratorExp (.Call (.Name nm p1) [.Name x p2] [] p3) [⟨.Name x px, iter, [], 0⟩] scope gpos) X.env) :: backTo pos (starEach [] X.env))) _ _ s
  refine Calls.spliced_cons (gen_items hr TB hcode S hi hs I h fun v H1 now => ?_)
  obtain ⟨a, xs, rfl, hq, tab, scal, fin⟩ := now
  refine ⟨a, xs, _, rfl, hq, tab, whole_elt W I.mod hr hk (let ⟨ps, e, _⟩ := tab; ⟨ps, e⟩) scal, fun g z poised => Calls.spliced_nil ?_⟩
  obtain ⟨fp, wr, G, F, St, walks, st0, truth, after⟩ := poised
  refine call_all_walkS (walks.self 0 _ _ _ st0 ⟨g, fp, wr, G, _, F, St, _, rfl, walks, st0, truth, fun z' mv => ?_⟩)
  obtain ⟨H2, tb, J⟩ := after z' mv
  refine ⟨.bl _, H2, J, rfl, ?_⟩
  rw [all_at xs (wholeV H1)]
  exact fin H2 tb
/-- a def of which the code object is known -/
theorem ok_code {P : Program} {w : World} {K : PySem.W.Frag} {mg : Str → Option Value} {base : Heap} {x qual : Str} {st : Stmt} {f c : Addr} {fd : FuncData} {N ps : List Str} {k : Nat} {sp : Sp} (F : Fun K x qual st f fd) (hc : fd.code = .ref c) (S : FnScope N ps (defScope st)) (len : ∀ vs H Q E, sp vs H Q E → vs.length = ps.length)
    (hbody : ∀ (A : Around) (outer : List Env) (s : Shared) (H : Hp) (vs : List V) (Q : VK) (E : XK), Room k (A.deeper (envOfC qual (defScope st) s.heap.objs.size f (.ref c))) → sp vs H Q E →
      ∃ t, PSs (cxOf CX0 P w K mg base N qual (defScope st) f (.ref c) A outer s H E).nox (defBody st) t ∧ t { nx := fun _ H' => Q .non H', rt := Q } (start N vs) H) : FnOk P w K mg base CX0 (k + 1) f fd ps sp := by
  obtain ⟨kl, kd, kV, dc, pm, an, cv, ct, ks, rfl, look, cin⟩ := F.ex
  obtain rfl : cv = .ref c := hc
  refine fn_of look cin S len fun A outer s H vs Q E hr now => ?_
  obtain ⟨t, h, q⟩ := hbody A outer s H vs Q E hr now
  exact ⟨t, h.nox, q⟩
/-- a statement that is never come to -/
theorem ps_dead {X : Cx} {st : Stmt} : PS X st (fun _ _ _ => False) := ⟨fun _ _ _ _ _ _ h => h.elim⟩
end
/-! ### min of a tuple of numbers -/
def rMinT (K : PySem.W.Frag) : List V → Hp → VK → Prop := fun xs H Q => ∃ (a : Addr) (ns : List Int), xs = [.ref a] ∧ SqT K H a (ns.map V.int) ∧ ns ≠ [] ∧ ∀ m, m ∈ ns → (∀ y ∈ ns, m ≤ y) → Q (.int m) H
theorem cr_minT {X : Cx} (K : PySem.W.Frag) (hk : X.K = K) (hc : X.calm = true) : CallR X (.builtin "min") (rMinT K) := by
  subst hk
  intro pins s σ H xs us Q I r h
  obtain ⟨a, ns, rfl, hs, ne, q⟩ := h
  obtain ⟨its, rv, hl, _⟩ := I.tuple hs
  rw [Vals.ref1 r]
  have ln : its.length = ns.length := by rw [← rv.length, List.length_map]
  have pos : 0 < ns.length := List.length_pos_iff.mpr ne
  have size : its.toArray.size = ns.length := by rw [List.size_toArray, ln]
  refine PySem.call_min_walkH (PySem.W.iter_tupleW (A := X.A.in1) (I.ok.hd hc) hl fun z e W st low out up => ?_)
  refine ⟨_, _, _, _, _, _, _, s.heap, (fun i j => decide (ns.getD i 0 < ns.getD j 0)), rfl, W, st, low, by rw [size]; exact pos, out, up, fun i j vi vj s3 Q3 E3 _ p1 p2 q3 => ?_, fun v s' hP m => ?_⟩
  · exact (CmpOf.ints_lt (fun i => ns.getD i 0) (ints_val rv)) i j vi vj s3 Q3 E3 p1 p2 q3
  · obtain ⟨h', tk, rfl, old⟩ := PySem.W.moved_old e rfl m
    obtain ⟨t, rfl⟩ := ints_val rv _ v hP
    obtain ⟨h1, h2⟩ := argBest_lt (fun i => ns.getD i 0) (its.toArray.size - 1)
    have get : ∀ j, j < ns.length → ns.getD j 0 ∈ ns := fun j jl => by
      rw [List.getD_eq_getElem?_getD, List.getElem?_eq_getElem jl]
      exact List.getElem_mem _
    refine ⟨.int _, H, I.kept old, ⟨_, rfl⟩, q _ (get _ (by omega)) fun y hy => ?_⟩
    obtain ⟨j, hj⟩ := List.getElem?_of_mem hy
    have jl := (List.getElem?_eq_some_iff.mp hj).1
    have := h2 j (by omega)
    rwa [show ns.getD j 0 = y by rw [List.getD_eq_getElem?_getD, hj]; rfl] at this
abbrev levL (n : Nat) (lv : Nat → Int) : List V := (List.range n).map fun p => V.int (lv p)
theorem rg_at {n p : Nat} {f : Nat → V} (h : p < n) : ((List.range n).map f)[p]? = some (f p) := by
  rw [List.getElem?_map, List.getElem?_range h]; rfl
/-- a belt's trays, shifts gone -/
def trS (sh : Nat → Int) (b : BR) : Int := (b.th.length : Int) + sh b.to - sh b.one
/-- shifts that are let by -/
structure Good33 (hs : List HR) (bs : List BR) (late : Int) (sh : Nat → Int) : Prop where
  ins : ∀ k ∈ doorsOf "in" hs, sh k = 0
  outs : ∀ k ∈ doorsOf "out" hs, sh k = late
  tr : ∀ b ∈ bs, 0 ≤ trS sh b
theorem tab_tk {PT : Addr} {H H' : Hp} (g : GxR.TabG H PT) (b : But PT H H') : TK H H' := fun a xs e => b a _ e fun z => by
  obtain ⟨ps, e1, _⟩ := g
  rw [z, e1] at e
  cases e
theorem tabbed_but {PT : Addr} {H H' : Hp} (t : GxR.Tabbed PT H H') : But PT H H' := fun b o e n => (t.2 b n).trans e
theorem same_tab {PT : Addr} {H H' : Hp} (g : GxR.TabG H PT) (s : Same H H') : GxR.TabG H' PT := by
  obtain ⟨ps, e, t⟩ := g
  exact ⟨ps, s _ _ e, t⟩
/-- an item of what is given for shifts; f: the law's draws -/
inductive ItOk (f : Addr) (H : Hp) : V → Prop where
  | int (n : Int) : ItOk f H (.int n)
  | non : ItOk f H .non
  | bl (b : Bool) : ItOk f H (.bl b)
  | str (s : Str) : ItOk f H (.str s)
  | tup {p : Addr} {ys : List V} (e : H p = some (.tup ys)) (n : p ≠ f) : ItOk f H (.ref p)
  | lst {p : Addr} {ys : List V} (e : H p = some (.lst ys)) (n : p ≠ f) : ItOk f H (.ref p)
/-- a whole number -/
def isW : V → Bool
  | .int _ => true
  | _ => false
theorem all_cong {α : Type} {l : List α} {g h : α → Bool} (e : ∀ y ∈ l, g y = h y) : l.all g = l.all h := by
  induction l with
  | nil => rfl
  | cons x r ih => rw [List.all_cons, List.all_cons, e x (List.mem_cons_self ..), ih fun y hy => e y (List.mem_cons_of_mem _ hy)]
theorem ItOk.whole {f : Addr} {H : Hp} {x : V} (h : ItOk f H x) : wholeV H x = some (isW x) := by
  cases h with
  | int n => rfl
  | non => rfl
  | bl b => rfl
  | str s => rfl
  | @tup p ys e n =>
    show (match H p with | some (.tup _) => some false | some (.lst _) => some false | _ => none) = _
    rw [e]
    rfl
  | @lst p ys e n =>
    show (match H p with | some (.tup _) => some false | some (.lst _) => some false | _ => none) = _
    rw [e]
    rfl
theorem ItOk.imp {f : Addr} {H H' : Hp} {x : V} (h : ItOk f H x) (k1 : ∀ p ys, H p = some (.tup ys) → p ≠ f → H' p = some (.tup ys)) (k2 : ∀ p ys, H p = some (.lst ys) → p ≠ f → H' p = some (.lst ys)) : ItOk f H' x := by
  cases h with
  | int n => exact .int n
  | non => exact .non
  | bl b => exact .bl b
  | str s => exact .str s
  | tup e n => exact .tup (k1 _ _ e n) n
  | lst e n => exact .lst (k2 _ _ e n) n
/-- what is given for shifts: a tuple of some things, or no tuple -/
inductive ThOk (f : Addr) (H : Hp) : V → Option (List V) → Prop where
  | tup {a : Addr} {xs : List V} (e : H a = some (.tup xs)) (n : a ≠ f) (i : ∀ x ∈ xs, ItOk f H x) : ThOk f H (.ref a) (some xs)
  | non : ThOk f H .non none
  | int (n : Int) : ThOk f H (.int n) none
  | str (s : Str) : ThOk f H (.str s) none
  | lst {a : Addr} {xs : List V} (e : H a = some (.lst xs)) (n : a ≠ f) : ThOk f H (.ref a) none
theorem ThOk.imp {f : Addr} {H H' : Hp} {v : V} {o : Option (List V)} (h : ThOk f H v o) (k1 : ∀ p ys, H p = some (.tup ys) → p ≠ f → H' p = some (.tup ys)) (k2 : ∀ p ys, H p = some (.lst ys) → p ≠ f → H' p = some (.lst ys)) : ThOk f H' v o := by
  cases h with
  | tup e n i => exact .tup (k1 _ _ e n) n fun x hx => (i x hx).imp k1 k2
  | non => exact .non
  | int n => exact .int n
  | str s => exact .str s
  | lst e n => exact .lst (k2 _ _ e n) n
theorem ThOk.but {f : Addr} {H H' : Hp} {v : V} {o : Option (List V)} (h : ThOk f H v o) (b : But f H H') : ThOk f H' v o := h.imp (fun p _ e n => b p _ e n) (fun p _ e n => b p _ e n)
theorem ThOk.same {f : Addr} {H H' : Hp} {v : V} {o : Option (List V)} (h : ThOk f H v o) (b : Same H H') : ThOk f H' v o := h.imp (fun p _ e _ => b p _ e) (fun p _ e _ => b p _ e)
theorem ThOk.tab {f PT : Addr} {H H' : Hp} {v : V} {o : Option (List V)} (h : ThOk f H v o) (g : GxR.TabG H PT) (b : But PT H H') : ThOk f H' v o := by
  have off : ∀ p ob, H p = some ob → (∀ ps, ob ≠ .tbl ps) → p ≠ PT := fun p ob e ne z => by
    obtain ⟨ps, e1, _⟩ := g
    rw [z, e1] at e
    exact ne ps (Option.some.inj e).symm
  exact h.imp (fun p _ e _ => b p _ e (off _ _ e fun _ z => nomatch z)) (fun p _ e _ => b p _ e (off _ _ e fun _ z => nomatch z))
theorem ThOk.tupO {f : Addr} {H : Hp} {v : V} {o : Option (List V)} (h : ThOk f H v o) : ∀ {xs : List V}, o = some xs → ∃ a, v = .ref a ∧ H a = some (.tup xs) ∧ a ≠ f ∧ ∀ x ∈ xs, ItOk f H x := by
  cases h with
  | tup e n i =>
    intro xs z
    cases z
    exact ⟨_, rfl, e, n, i⟩
  | non => intro xs z; cases z
  | int n => intro xs z; cases z
  | str s => intro xs z; cases z
  | lst e n => intro xs z; cases z
theorem ThOk.tupx {f : Addr} {H : Hp} {v : V} {xs : List V} (h : ThOk f H v (some xs)) : ∃ a, v = .ref a ∧ H a = some (.tup xs) ∧ a ≠ f ∧ ∀ x ∈ xs, ItOk f H x := h.tupO rfl
theorem ThOk.ty {K : PySem.W.Frag} {f : Addr} {H : Hp} {v : V} {o : Option (List V)} (h : ThOk f H v o) : ∃ t, TyX K H v t ∧ PySem.W.kitOne K t (.type "tuple") = some o.isSome := by
  cases h with
  | tup e n i => exact ⟨_, .base (.tup e), show _ = some true from kit_ty (by decide +kernel)⟩
  | non => exact ⟨_, .base .non, show _ = some false from kit_ty (by decide +kernel)⟩
  | int n => exact ⟨_, .base (.int n), show _ = some false from kit_ty (by decide +kernel)⟩
  | str s => exact ⟨_, .base (.str s), show _ = some false from kit_ty (by decide +kernel)⟩
  | lst e n => exact ⟨_, .base (.lst e), show _ = some false from kit_ty (by decide +kernel)⟩
theorem ItOk.ty {K : PySem.W.Frag} {f : Addr} {H : Hp} {x : V} (h : ItOk f H x) : ∃ (t : Value) (a b : Bool), TyX K H x t ∧ PySem.W.kitOne K t (.type "int") = some a ∧ PySem.W.kitOne K t (.type "bool") = some b ∧ isW x = (a && !b) := by
  cases h with
  | int n => exact ⟨_, true, false, .base (.int n), kit_ty (by decide +kernel), kit_ty (by decide +kernel), rfl⟩
  | non => exact ⟨_, false, false, .base .non, kit_ty (by decide +kernel), kit_ty (by decide +kernel), rfl⟩
  | bl b => exact ⟨_, true, true, .base (.bl b), kit_ty (by decide +kernel), kit_ty (by decide +kernel), rfl⟩
  | str s => exact ⟨_, false, false, .base (.str s), kit_ty (by decide +kernel), kit_ty (by decide +kernel), rfl⟩
  | tup e n => exact ⟨_, false, false, .base (.tup e), kit_ty (by decide +kernel), kit_ty (by decide +kernel), rfl⟩
  | lst e n => exact ⟨_, false, false, .base (.lst e), kit_ty (by decide +kernel), kit_ty (by decide +kernel), rfl⟩
/-- it has the form of shifts for n hands -/
def okT (n : Nat) : Option (List V) → Bool
  | some xs => decide (xs.length = n) && xs.all isW
  | none => false
theorem okT_some {n : Nat} {xs : List V} : okT n (some xs) = (decide (xs.length = n) && xs.all isW) := rfl
/-- the shifts that stand in it -/
def shO (o : Option (List V)) (i : Nat) : Int := match o.bind fun xs => xs[i]? with
  | some (.int v) => v
  | _ => 0
theorem okT_lev {n : Nat} {xs : List V} (h : okT n (some xs) = true) : xs = levL n (shO (some xs)) := by
  unfold okT at h
  rw [Bool.and_eq_true, decide_eq_true_eq] at h
  obtain ⟨e, al⟩ := h
  subst e
  refine List.ext_getElem? fun i => ?_
  by_cases c : i < xs.length
  · have em := List.getElem?_eq_getElem c
    have w := List.all_eq_true.mp al _ (List.getElem_mem c)
    rw [rg_at c, em]
    unfold shO
    show _ = some (V.int (match xs[i]? with | some (.int v) => v | _ => 0))
    rw [em]
    generalize xs[i] = x at w
    cases x with
    | int v => rfl
    | _ => cases w
  · rw [List.getElem?_eq_none (by omega), List.getElem?_eq_none (by rw [List.length_map, List.length_range]; omega)]
theorem ok_some {n : Nat} {o : Option (List V)} (h : okT n o = true) : ∃ xs, o = some xs := by
  cases o with
  | none => cases h
  | some xs => exact ⟨xs, rfl⟩
theorem ThOk.good {f : Addr} {H : Hp} {v : V} {o : Option (List V)} {n : Nat} (h : ThOk f H v o) (k : okT n o = true) : ∃ a, v = .ref a ∧ H a = some (.tup (levL n (shO o))) ∧ a ≠ f := by
  obtain ⟨xs, rfl⟩ := ok_some k
  obtain ⟨a, rfl, e, nf, _⟩ := h.tupx
  refine ⟨a, rfl, ?_, nf⟩
  rw [← okT_lev k]
  exact e
theorem ThOk.slx {f sl : Addr} {H : Hp} {o : Option (List V)} {n : Nat} (h : ThOk f H (.ref sl) o) (k : okT n o = true) : H sl = some (.tup (levL n (shO o))) := by
  obtain ⟨a, e, h1, _⟩ := h.good k
  cases e
  exact h1
/-- the table of is_shifts' code object -/
class TabI (K : PySem.W.Frag) (mg : Str → Option Value) (base : Heap) (cT PT : outParam Addr) : Prop where
  tb : GxR.TabB base mg cT PT
  cd : ∀ (f : Addr) (fd : FuncData), Fun K "is_shifts" "is_shifts" s_is_shifts f fd → mg "is_shifts" = some (.ref f) → fd.code = .ref cT
section
variable {P : Program} {w : World} {K : PySem.W.Frag} {mg : Str → Option Value} {base : Heap}
def sp_is_whole (K : PySem.W.Frag) : Sp := fun vs H Q _ => ∃ n : Int, vs = [.int n] ∧ Q (.bl true) H
theorem ok_is_whole {f : Addr} {fd : FuncData} (F : Fun K "is_whole" "is_whole" s_is_whole f fd) (T : Top K mg) : FnOk P w K mg base CX0 1 f fd ["thing"] (sp_is_whole K) := by
  refine F.ok sc_is_whole (fun vs H Q E h => ?_) (fun cdv A outer s H vs Q E hr h => ?_)
  · obtain ⟨n, rfl, _⟩ := h
    rfl
  obtain ⟨n, rfl, q⟩ := h
  refine ⟨_, (pss_one (ps_ret (pe_and (pe_callB (call_isiKK K rfl) (by rfl) T.m_isinstance (by decide +kernel) (pa_cons (pv 0) (pa_cons (pe_bltn (v := .ty "int") (by rfl) T.m_int (by decide +kernel) rfl) pa_nil))) (pe_one (pe_not (pe_callB (call_isiKK K rfl) (by rfl) T.m_isinstance (by decide +kernel) (pa_cons (pv 0) (pa_cons (pe_bltn (v := .ty "bool") (by rfl) T.m_bool (by decide +kernel) rfl) pa_nil)))))))), ?_⟩
  refine ⟨_, rfl, _, _, _, _, true, rfl, .ty "int", .base (.int _), kit_ty (by decide +kernel), _, rfl, if_bl (fun _ => ?_) (fun z => nomatch z)⟩
  exact ⟨_, rfl, _, _, _, _, false, rfl, .ty "bool", .base (.int _), kit_ty (by decide +kernel), _, rfl, q⟩
theorem genS_of {env : Env} {scope : Scope} {x : Str} (h1 : scope.kind = .function) (h2 : scope.isCoroutine = false) (h3 : ∀ y ∈ scope.names, y.2 ≠ .cell) (h4 : scope.names.lookup (".0" : Str) = some NameKind.local) (h5 : scope.names.lookup x = some .local) (h6 : ∀ y ∈ scope.names, y.2 ≠ .free) : GxR.GenS env scope x :=
  ⟨h1, h2, h3, h4, h5, fun y hy z => absurd z (h6 y hy)⟩
theorem iw_def : IsWholeDef (defBody s_is_whole) (defScope s_is_whole) "thing" := ⟨⟨_, _, _, _, _, _, _, _, _, _, _, rfl⟩, rfl, rfl, rfl, rfl, rfl, rfl, rfl, by decide⟩
section
variable {cT PT : Addr} [TI : TabI K mg base cT PT]
include TI
def sp_is_shifts (K : PySem.W.Frag) (PT : Addr) : Sp := fun vs H Q _ => ∃ (f r : Addr) (v : V) (hs : List HR) (bs : List BR) (o : Option (List V)), vs = [.ref r, v] ∧ RoomAt H r hs bs ∧ RoomOk hs bs ∧ ThOk f H v o ∧ GxR.TabG H PT ∧ ∀ H', GxR.Tabbed PT H H' → Q (.bl (okT hs.length o)) H'
theorem ok_is_shifts {f : Addr} {fd : FuncData} (F : Fun K "is_shifts" "is_shifts" s_is_shifts f fd) (hcd : fd.code = .ref cT) (T : Top K mg) : FnOk P w K mg base CX0 2 f fd ["room", "thing"] (sp_is_shifts K PT) := by
  obtain ⟨f_is_whole, fd_is_whole, F_is_whole, b_is_whole, m_is_whole⟩ := T.d_is_whole
  have G_is_whole := ok_is_whole (P := P) (w := w) (base := base) F_is_whole T
  refine ok_code F hcd sc_is_shifts (fun vs H Q E h => ?_) (fun A outer s H vs Q E hr h => ?_)
  · obtain ⟨f, r, v, hs, bs, o, rfl, _⟩ := h
    rfl
  obtain ⟨f, r, v, hs, bs, o, rfl, hR, ok, hT, tg, q⟩ := h
  obtain ⟨ha, ba, hv, bv, er, eh, eb, alh, alb⟩ := hR.ex
  have lhv := alh.length
  have lh := ok.hands
  obtain ⟨t, ty, kt⟩ := hT.ty (K := K)
  refine ⟨_, (pss_cons (ps_if (PW.pt (pw_or (pt_not (pt_val (pe_callB (call_isiKK K rfl) (by rfl) T.m_isinstance (by decide +kernel) (pa_cons (pv 1) (pa_cons (pe_bltn (v := .ty "tuple") (by rfl) T.m_tuple (by decide +kernel) rfl) pa_nil))))) (pw_or1 (pt_cmpR op_ne (pe_callB (call_len_seqK K rfl) (by rfl) T.m_len (by decide +kernel) (pa_cons (pv 1) pa_nil)) (pe_callB (call_len_seqK K rfl) (by rfl) T.m_len (by decide +kernel) (pa_cons (pe_ix (ix_tupK K rfl) (pv 0) pe_int (fun _ _ => rfl)) pa_nil)) (nomark _))))) (pss_one (ps_ret pe_bl)) pss_nil)
      (pss_one (ps_ret (pe_allW K rfl hr (by decide) (by rfl) T.m_all (by decide +kernel) TI.tb rfl (genS_of rfl rfl (by decide +kernel) rfl rfl (by decide +kernel)) (pv 1) ⟨F_is_whole, iw_def, b_is_whole, m_is_whole, T.m_isinstance, T.m_int, T.m_bool, rfl, rfl, rfl, by decide, by decide⟩ (fun _ => rfl))))), ?_⟩
  refine ⟨_, rfl, _, _, _, _, o.isSome, rfl, .ty "tuple", ty, kt, _, rfl, ?_⟩
  cases o with
  | none =>
    exact if_bl (fun _ => q H ⟨tg, fun _ _ => rfl⟩) (fun z => nomatch z)
  | some xs =>
  obtain ⟨sl, rfl, hsl, nsl, its⟩ := hT.tupx
  refine if_bl (fun z => nomatch z) (fun _ => ?_)
  refine ⟨_, rfl, sl, _, rfl, .inr (SqT.of hsl), _, rfl, r, _, _, _, rfl, rfl, SqT.of er, atI_nat (j := 0) rfl, ha, _, rfl, .inr (SqT.of eh), rfl, _, rfl, ?_⟩
  refine if_bl (fun z => ?_) (fun z => ?_)
  · have z : (!decide (V.int ((xs.length : Nat) : Int) = V.int ((hv.length : Nat) : Int))) = true := z
    have ne : xs.length ≠ hs.length := fun e => by
      rw [decide_eq_true (by rw [lhv, e])] at z
      cases z
    have := q H ⟨tg, fun _ _ => rfl⟩
    rw [okT_some, decide_eq_false ne] at this
    exact this
  have em : xs.length = hs.length := by
    refine Classical.byContradiction fun ne => ?_
    have z : (!decide (V.int ((xs.length : Nat) : Int) = V.int ((hv.length : Nat) : Int))) = false := z
    rw [decide_eq_false fun e => ne (by have := V.int.inj e; rw [lhv] at this; omega)] at z
    cases z
  refine ⟨_, rfl, sl, _, rfl, SqT.of hsl, tg, fun y hy => ⟨_, (its y hy).whole⟩, fun H2 tb => ?_⟩
  have each : (xs.all fun y => (wholeV H y).getD false) = xs.all isW := by
    refine all_cong fun y hy => ?_
    rw [(its y hy).whole]
    rfl
  rw [each]
  have := q H2 tb
  rw [okT_some, decide_eq_true em] at this
  exact this
end
def sp_trays_moved (K : PySem.W.Frag) : Sp := fun vs H Q _ => ∃ (r sl : Addr) (hs : List HR) (bs : List BR) (sh : Nat → Int), vs = [.ref r, .ref sl] ∧ RoomAt H r hs bs ∧ RoomOk hs bs ∧ H sl = some (.tup (levL hs.length sh)) ∧
  ∀ (p : Addr) (H' : Hp), H p = none → H' p = some (.lst (bs.map fun b => V.int (trS sh b))) → Same H H' → Q (.ref p) H'
theorem ok_trays_moved {f : Addr} {fd : FuncData} (F : Fun K "trays_moved" "trays_moved" s_trays_moved f fd) (T : Top K mg) : FnOk P w K mg base CX0 1 f fd ["room", "shifts"] (sp_trays_moved K) := by
  refine F.ok sc_trays_moved (fun vs H Q E h => ?_) (fun cdv A outer s H vs Q E hr h => ?_)
  · obtain ⟨r, sl, hs, bs, sh, rfl, _⟩ := h
    rfl
  obtain ⟨r, sl, hs, bs, sh, rfl, hR, ok, hsl, q⟩ := h
  obtain ⟨ha, ba, hv, bv, er, eh, eb, alh, alb⟩ := hR.ex
  have lbv := alb.length
  have lb := ok.many
  refine ⟨_, (pss_one (ps_ret (pe_lc (own := [("giver", 2), ("taker", 3), ("things", 4)]) (g := gTup K 3 (gCons (gName 2) (gCons (gName 3) (gCons (gName 4) gNil)))) (tt := tYes) (by rfl) sc_trays_moved.nd (pi_tupK K rfl (pe_ix (ix_tupK K rfl) (pv 0) pe_int (fun _ _ => rfl))) (blkOk_by (own := [("giver", 2), ("taker", 3), ("things", 4)]) (N := N_trays_moved) (sc := defScope s_trays_moved) (by decide +kernel)) (fun _ _ _ _ _ => (pg_tupK K rfl rfl (pgs_cons (pg_name (i := 2) sc_trays_moved.nd rfl (Or.inl rfl)) (pgs_cons (pg_name (i := 3) sc_trays_moved.nd rfl (Or.inl rfl)) (pgs_cons (pg_name (i := 4) sc_trays_moved.nd rfl (Or.inl rfl)) pgs_nil))))) (fun _ _ _ _ _ => pts_nil) (fun _ _ _ _ _ => (pe_op op_sub (pe_op op_add (pe_callB (call_len_seqK K rfl) (by rfl) T.m_len (by decide +kernel) (pa_cons (pv 4) pa_nil)) (pe_ix (ix_tupK K rfl) (pv 1) (pv 3) (fun _ _ => rfl))) (pe_ix (ix_tupK K rfl) (pv 1) (pv 2) (fun _ _ => rfl))))))), ?_⟩
  refine ⟨_, rfl, r, _, _, _, rfl, rfl, SqT.of er, atI_nat (j := 1) rfl, ba, rfl, ⟨_, SqT.of eb⟩, fun D nD => lc_tup (K := K) (a := ba) (xs := bv) (fun i H5 => H5 D = some (.lst ((bs.take i).map fun b => V.int (trS sh b))) ∧ Same H H5) ⟨upd_same, same_new nD⟩ (fun i H5 _ ⟨_, s5⟩ => SqT.of (s5 _ _ eb)) ?_ ?_⟩
  · rintro i x H5 hx ⟨hD, s5⟩
    obtain ⟨b, ebi, ⟨t, g, rfl, e1, e2⟩⟩ := alb.getL hx
    have il := (List.getElem?_eq_some_iff.mp ebi).1
    obtain ⟨l1, l2⟩ := ok.ends b (List.mem_of_getElem? ebi)
    refine ⟨t, _, rfl, SqT.of (s5 _ _ e1), rfl, ?_⟩
    refine ⟨_, _, rfl, ?_⟩
    refine ⟨_, _, rfl, ?_⟩
    refine ⟨_, _, rfl, rfl, ?_⟩
    refine ⟨rfl, ?_⟩
    refine yes_in ?_
    refine ⟨_, rfl, g, _, rfl, .inr (SqT.of (s5 _ _ e2)), _, rfl, _, rfl, sl, _, _, _, rfl, rfl, SqT.of (s5 _ _ hsl), atI_nat (rg_at l2), _, _, rfl, rfl, _, rfl, _, rfl, sl, _, _, _, rfl, rfl, SqT.of (s5 _ _ hsl), atI_nat (rg_at l1), _, _, rfl, rfl, _, hD, by rw [List.length_map, List.length_take]; exact small1000 (by omega), ?_, Same.own s5 nD⟩
    rw [upd_same, List.take_add_one, ebi, List.map_append, List.length_map]
    rfl
  · rintro H5 ⟨hD, s5⟩
    rw [lbv, List.take_length] at hD
    exact q D H5 nD hD s5
theorem nats_at {ns : List Nat} {i : Nat} {x : V} (h : (ns.map nV)[i]? = some x) : ∃ n : Nat, ns[i]? = some n ∧ x = nV n := by
  rw [List.getElem?_map] at h
  cases e : ns[i]? with
  | none => rw [e] at h; cases h
  | some n => rw [e] at h; exact ⟨n, rfl, (Option.some.inj h).symm⟩
theorem door_lt {z : Str} {hs : List HR} {k : Nat} (h : k ∈ doorsOf z hs) : k < hs.length := by
  obtain ⟨_, e, _⟩ := mem_doors.mp h
  exact (List.getElem?_eq_some_iff.mp e).1
/-- doors that lie wrong -/
abbrev wrI (hs : List HR) (sh : Nat → Int) : List Nat := (doorsOf "in" hs).filter fun k => !decide (sh k = 0)
abbrev wrO (hs : List HR) (late : Int) (sh : Nat → Int) : List Nat := (doorsOf "out" hs).filter fun k => !decide (sh k = late)
def sp_wrong_door (K : PySem.W.Frag) : Sp := fun vs H Q _ => ∃ (r sl : Addr) (hs : List HR) (bs : List BR) (late : Int) (sh : Nat → Int), vs = [.ref r, .int late, .ref sl] ∧ RoomAt H r hs bs ∧ RoomOk hs bs ∧ H sl = some (.tup (levL hs.length sh)) ∧
  (∀ H', wrI hs sh ++ wrO hs late sh = [] → Same H H' → Q .non H') ∧ ∀ (k : Nat) (H' : Hp), k ∈ wrI hs sh ++ wrO hs late sh → (∀ j ∈ wrI hs sh ++ wrO hs late sh, k ≤ j) → Same H H' → Q (nV k) H'
theorem ne_dec {a b : Int} : (!decide (V.int a = V.int b)) = !decide (a = b) := by
  by_cases z : a = b
  · rw [z, decide_eq_true rfl, decide_eq_true rfl]
  · rw [decide_eq_false z, decide_eq_false fun y => z (V.int.inj y)]
theorem take_filt {p : Nat → Bool} {l : List Nat} {i k : Nat} (e : l[i]? = some k) : (l.take (i + 1)).filter p = (l.take i).filter p ++ if p k = true then [k] else [] := by
  rw [List.take_add_one, e, List.filter_append]
  show _ ++ [k].filter p = _
  rw [List.filter_cons, List.filter_nil]
theorem filt_few {p : Nat → Bool} {l : List Nat} {i : Nat} (h : l.length ≤ 12) : (((l.take i).filter p).map nV).length < sizeLine := by
  rw [List.length_map]
  have h1 := List.length_filter_le p (l.take i)
  rw [List.length_take] at h1
  exact small1000 (by omega)
theorem doors_few {z : Str} {hs : List HR} (h : hs.length ≤ 12) : (doorsOf z hs).length ≤ 12 := by
  unfold doorsOf
  refine Nat.le_trans (List.length_filter_le ..) ?_
  rw [List.length_range]
  exact h
theorem ok_wrong_door {f : Addr} {fd : FuncData} (F : Fun K "wrong_door" "wrong_door" s_wrong_door f fd) (T : Top K mg) : FnOk P w K mg base CX0 2 f fd ["room", "late", "shifts"] (sp_wrong_door K) := by
  obtain ⟨f_doors_in, fd_doors_in, F_doors_in, b_doors_in, m_doors_in⟩ := T.d_doors_in
  have G_doors_in := ok_doors_in (P := P) (w := w) (base := base) F_doors_in T
  obtain ⟨f_doors_out, fd_doors_out, F_doors_out, b_doors_out, m_doors_out⟩ := T.d_doors_out
  have G_doors_out := ok_doors_out (P := P) (w := w) (base := base) F_doors_out T
  refine F.ok sc_wrong_door (fun vs H Q E h => ?_) (fun cdv A outer s H vs Q E hr h => ?_)
  · obtain ⟨r, sl, hs, bs, late, sh, rfl, _⟩ := h
    rfl
  obtain ⟨r, sl, hs, bs, late, sh, rfl, hR, ok, hsl, q1, q2⟩ := h
  have lh := ok.hands
  let R1 : TS := fun D' σ' H' => D'.rt = Q ∧ ∃ (wl : Addr), σ' = [some (.ref r), some (.int late), some (.ref sl), some (.ref wl), none] ∧ H' wl = some (.lst ((wrI hs sh).map nV)) ∧ H wl = none ∧ Same H H'
  let R2 : TS := fun D' σ' H' => D'.rt = Q ∧ ∃ (wl : Addr), σ' = [some (.ref r), some (.int late), some (.ref sl), some (.ref wl), none] ∧ H' wl = some (.lst ((wrI hs sh ++ wrO hs late sh).map nV)) ∧ Same H H'
  refine ⟨_, (pss_cons (ps_setLc (i := 3) (own := [("door", 4)]) (g := gName 4) (by rfl) sc_wrong_door.nd rfl rfl (sw_true rfl rfl rfl (by decide +kernel)) (pi_listK K rfl (pe_call G_doors_in (hr.mono (by decide)) (by rfl) m_doors_in F_doors_in.kp b_doors_in .nil pass0 (pa_cons (pv 0) pa_nil))) (blkOk_by (own := [("door", 4)]) (N := N_wrong_door) (sc := defScope s_wrong_door) (by decide +kernel)) (fun _ _ _ _ _ => (pg_name (i := 4) sc_wrong_door.nd rfl (Or.inl rfl))) (fun _ _ _ _ _ => pts_one (pt_cmpR op_ne (pe_ix (ix_tupK K rfl) (pv 2) (pv 4) (fun _ _ => rfl)) pe_int (nomark _))) (fun _ _ _ _ _ => (pv 4)))
      (PSs.to (pss_cons (ps_expr (pe_bmK K rfl PySem.F.plainAttrs_list PySem.F.slot_list_extend PySem.F.type_list_extend mt_extend (pv 3) (pa_cons (pe_lc (own := [("door", 4)]) (g := gName 4) (by rfl) sc_wrong_door.nd (pi_listK K rfl (pe_call G_doors_out (hr.mono (by decide)) (by rfl) m_doors_out F_doors_out.kp b_doors_out .nil pass0 (pa_cons (pv 0) pa_nil))) (blkOk_by (own := [("door", 4)]) (N := N_wrong_door) (sc := defScope s_wrong_door) (by decide +kernel)) (fun _ _ _ _ _ => (pg_name (i := 4) sc_wrong_door.nd rfl (Or.inl rfl))) (fun _ _ _ _ _ => pts_one (pt_cmpR op_ne (pe_ix (ix_tupK K rfl) (pv 2) (pv 4) (fun _ _ => rfl)) (pv 1) (nomark _))) (fun _ _ _ _ _ => (pv 4))) pa_nil)))
      (PSs.to (pss_one (ps_ret (pe_callBK (cr_minDf K rfl rfl) (by rfl) T.m_min (by decide +kernel) (pa_cons (pv 3) pa_nil) (pk_cons pe_non pk_nil)))) R2 ?tail2)) R1 ?tail1)), ?_⟩
  case tail2 =>
    rintro D' σ' H1 ⟨eD, wl, rfl, hw, s1⟩
    have en : (wrI hs sh ++ wrO hs late sh).map nV = ((wrI hs sh ++ wrO hs late sh).map fun k => ((k : Nat) : Int)).map V.int := by rw [List.map_map]; rfl
    refine ⟨_, rfl, wl, (wrI hs sh ++ wrO hs late sh).map fun k => ((k : Nat) : Int), _, rfl, rfl, SqL.of (by rw [← en]; exact hw), fun e => ?_, fun m hm hle => ?_⟩
    · rw [eD]
      exact q1 H1 (List.map_eq_nil_iff.mp e) s1
    · obtain ⟨k, hk, rfl⟩ := List.mem_map.mp hm
      rw [eD]
      exact q2 k H1 hk (fun j hj => by have := hle _ (List.mem_map.mpr ⟨j, hj, rfl⟩); omega) s1
  case tail1 =>
    rintro D' σ' H1 ⟨eD, wl, rfl, hw, nw, s1⟩
    refine ⟨_, rfl, .inl ⟨rfl, _, SqL.of hw⟩, ?_⟩
    refine ⟨_, rfl, r, hs, bs, rfl, hR.keep (TK.same s1), by omega, ok.good, fun p H2 np hp s2 => ⟨p, rfl, ⟨_, SqL.of hp⟩, fun D nD => lc_list (K := K) (a := p) (xs := (doorsOf "out" hs).map nV) (fun i H5 => H5 D = some (.lst ((((doorsOf "out" hs).take i).filter fun k => !decide (sh k = late)).map nV)) ∧ Same H2 H5) ⟨upd_same, same_new nD⟩ (fun i H5 _ ⟨_, s5⟩ => SqL.of (s5 _ _ hp)) ?_ ?_⟩⟩
    · rintro i x H5 hx ⟨hD, s5⟩
      obtain ⟨k, ek, rfl⟩ := nats_at hx
      have km := List.mem_of_getElem? ek
      refine ⟨rfl, _, rfl, _, rfl, sl, _, _, _, rfl, rfl, SqT.of (((s1.trans s2).trans s5) _ _ hsl), atI_nat (rg_at (door_lt km)), _, rfl, rfl, _, rfl, ?_⟩
      rw [ne_dec]
      refine if_bl (fun z => ⟨_, rfl, _, hD, filt_few (doors_few lh), ?_, Same.own s5 nD⟩) (fun z => ⟨?_, s5⟩)
      · rw [upd_same, take_filt ek, if_pos z, List.map_append]; rfl
      · rw [take_filt ek, if_neg (by rw [z]; exact Bool.false_ne_true), List.append_nil]; exact hD
    · rintro H5 ⟨hD, s5⟩
      rw [List.length_map, List.take_length] at hD
      have hw5 := (s2.trans s5) _ _ hw
      have d1 := doors_few (z := "in") lh
      have d2 := doors_few (z := "out") lh
      have f1 : (wrI hs sh).length ≤ (doorsOf "in" hs).length := List.length_filter_le ..
      have f2 : (wrO hs late sh).length ≤ (doorsOf "out" hs).length := List.length_filter_le ..
      refine ⟨wl, D, _, _, rfl, rfl, hw5, hD, by rw [List.length_map, List.length_map]; exact little (show (wrI hs sh).length + (wrO hs late sh).length ≤ 1000 by omega), ?_⟩
      exact ⟨eD, wl, rfl, by rw [upd_same, List.map_append], Same.own ((s1.trans s2).trans s5) nw⟩
  refine ⟨_, rfl, r, hs, bs, rfl, hR, by omega, ok.good, fun p H1 np hp s1 => ⟨p, rfl, ⟨_, SqL.of hp⟩, fun D nD => lc_list (K := K) (a := p) (xs := (doorsOf "in" hs).map nV) (fun i H5 => H5 D = some (.lst ((((doorsOf "in" hs).take i).filter fun k => !decide (sh k = 0)).map nV)) ∧ Same H1 H5) ⟨upd_same, same_new nD⟩ (fun i H5 _ ⟨_, s5⟩ => SqL.of (s5 _ _ hp)) ?_ ?_⟩⟩
  · rintro i x H5 hx ⟨hD, s5⟩
    obtain ⟨k, ek, rfl⟩ := nats_at hx
    have km := List.mem_of_getElem? ek
    refine ⟨rfl, _, rfl, _, rfl, sl, _, _, _, rfl, rfl, SqT.of ((s1.trans s5) _ _ hsl), atI_nat (rg_at (door_lt km)), rfl, _, rfl, ?_⟩
    rw [ne_dec]
    refine if_bl (fun z => ⟨_, rfl, _, hD, filt_few (doors_few lh), ?_, Same.own s5 nD⟩) (fun z => ⟨?_, s5⟩)
    · rw [upd_same, take_filt ek, if_pos z, List.map_append]; rfl
    · rw [take_filt ek, if_neg (by rw [z]; exact Bool.false_ne_true), List.append_nil]; exact hD
  · rintro H5 ⟨hD, s5⟩
    rw [List.length_map, List.take_length] at hD
    exact ⟨rfl, D, rfl, hD, same_none s1 nD, s1.trans s5⟩
def sp_short_belt (K : PySem.W.Frag) : Sp := fun vs H Q _ => ∃ (r sl : Addr) (hs : List HR) (bs : List BR) (sh : Nat → Int), vs = [.ref r, .ref sl] ∧ RoomAt H r hs bs ∧ RoomOk hs bs ∧ H sl = some (.tup (levL hs.length sh)) ∧
  (∀ H', (∀ b ∈ bs, 0 ≤ trS sh b) → Same H H' → Q .non H') ∧ ∀ (j : Nat) (b : BR) (H' : Hp), bs[j]? = some b → trS sh b < 0 → (∀ i b', i < j → bs[i]? = some b' → 0 ≤ trS sh b') → Same H H' → Q (nV j) H'
theorem ok_short_belt {f : Addr} {fd : FuncData} (F : Fun K "short_belt" "short_belt" s_short_belt f fd) (T : Top K mg) : FnOk P w K mg base CX0 2 f fd ["room", "shifts"] (sp_short_belt K) := by
  obtain ⟨f_trays_moved, fd_trays_moved, F_trays_moved, b_trays_moved, m_trays_moved⟩ := T.d_trays_moved
  have G_trays_moved := ok_trays_moved (P := P) (w := w) (base := base) F_trays_moved T
  refine F.ok sc_short_belt (fun vs H Q E h => ?_) (fun cdv A outer s H vs Q E hr h => ?_)
  · obtain ⟨r, sl, hs, bs, sh, rfl, _⟩ := h
    rfl
  obtain ⟨r, sl, hs, bs, sh, rfl, hR, ok, hsl, q1, q2⟩ := h
  refine ⟨_, (pss_cons (ps_for PassesOwn.never rfl (pi_enum (by rfl) T.m_enumerate (pa_cons (pe_call G_trays_moved (hr.mono (by decide)) (by rfl) m_trays_moved F_trays_moved.kp b_trays_moved .nil pass0 (pa_cons (pv 0) (pa_cons (pv 1) pa_nil))) pa_nil)) (pg_tupK K rfl rfl (pgs_cons (pg_name (i := 2) sc_short_belt.nd rfl (Or.inl rfl)) (pgs_cons (pg_name (i := 3) sc_short_belt.nd rfl (Or.inl rfl)) pgs_nil)))
        (pss_one (ps_if (pt_cmpR op_lt (pv 3) pe_int (nomark _)) (pss_one (ps_ret (pv 2))) pss_nil)))
      (pss_one (ps_ret pe_non))), ?_⟩
  refine ⟨_, rfl, _, rfl, r, sl, hs, bs, sh, rfl, hR, ok, hsl, fun p H1 np hp s1 => ?_⟩
  refine ⟨p, _, rfl, SqL.of hp, for_it (J := Ite K p) (n := bs.length) (fun i σ H5 => ∃ v2 v3 : Option V, σ = [some (.ref r), some (.ref sl), v2, v3] ∧ (∀ i' b', i' < i → bs[i']? = some b' → 0 ≤ trS sh b') ∧ Same H1 H5) ⟨none, none, rfl, (fun _ _ z => absurd z (Nat.not_lt_zero _)), fun _ _ e => e⟩ (fun i σ H5 hi ⟨_, _, _, _, s5⟩ => ⟨_, _, SqL.of (s5 _ _ hp), by rw [List.getElem?_map, List.getElem?_eq_getElem hi]; rfl⟩) (fun σ H5 ⟨_, _, _, _, s5⟩ => ⟨_, SqL.of (s5 _ _ hp), by rw [List.length_map]; exact Nat.le_refl _⟩) ?_ ?_⟩
  · rintro i x σ H5 H6 hi ⟨v2, v3, rfl, low, s5⟩ ⟨t, y, rfl, nt, rfl, ey⟩
    have ey := ey _ (SqL.of (s5 _ _ hp))
    have ei : bs[i]? = some bs[i] := List.getElem?_eq_getElem hi
    rw [List.getElem?_map, ei] at ey
    obtain rfl : V.int (trS sh bs[i]) = y := Option.some.inj ey
    have s6 := s5.trans (same_new (o := .tup [V.int ((i : Nat) : Int), V.int (trS sh bs[i])]) nt)
    refine ⟨t, _, rfl, SqT.of upd_same, rfl, _, _, rfl, _, _, rfl, rfl, _, rfl, _, _, rfl, rfl, _, rfl, if_bl (fun z => ?_) (fun z => ?_)⟩
    · exact ⟨_, rfl, q2 i _ _ ei (of_decide_eq_true z) low (s1.trans s6)⟩
    · have z : ¬ trS sh bs[i] < 0 := of_decide_eq_false z
      refine ⟨_, _, rfl, fun i' b' l e => ?_, s6⟩
      by_cases w : i' = i
      · subst w
        rw [ei] at e
        cases e
        omega
      · exact low i' b' (by omega) e
  · rintro σ H5 ⟨v2, v3, rfl, low, s5⟩
    refine q1 H5 (fun b hb => ?_) (s1.trans s5)
    obtain ⟨j, ej⟩ := List.getElem?_of_mem hb
    exact low j b (List.getElem?_eq_some_iff.mp ej).1 ej
end
section
variable {P : Program} {w : World} {K : PySem.W.Frag} {mg : Str → Option Value} {base : Heap} {cT PT : Addr} [TI : TabI K mg base cT PT]
include TI
/-- why shifts of the right length are refused -/
def Ref34 (hs : List HR) (bs : List BR) (late : Int) (sh : Nat → Int) (wd : Str) (k : Nat) : Prop := (wd = "door" ∧ k ∈ wrI hs sh ++ wrO hs late sh ∧ ∀ j ∈ wrI hs sh ++ wrO hs late sh, k ≤ j) ∨
  (wd = "belt" ∧ wrI hs sh ++ wrO hs late sh = [] ∧ ∃ b, bs[k]? = some b ∧ trS sh b < 0 ∧ ∀ i b', i < k → bs[i]? = some b' → 0 ≤ trS sh b')
omit TI in
theorem wr_none {hs : List HR} {late : Int} {sh : Nat → Int} (e : wrI hs sh ++ wrO hs late sh = []) : (∀ k ∈ doorsOf "in" hs, sh k = 0) ∧ ∀ k ∈ doorsOf "out" hs, sh k = late := by
  obtain ⟨e1, e2⟩ := List.append_eq_nil_iff.mp e
  refine ⟨fun k hk => ?_, fun k hk => ?_⟩
  · refine Classical.byContradiction fun z => ?_
    have : k ∈ wrI hs sh := List.mem_filter.mpr ⟨hk, by rw [decide_eq_false z]; rfl⟩
    rw [e1] at this
    cases this
  · refine Classical.byContradiction fun z => ?_
    have : k ∈ wrO hs late sh := List.mem_filter.mpr ⟨hk, by rw [decide_eq_false z]; rfl⟩
    rw [e2] at this
    cases this
def sp_look_shifts (K : PySem.W.Frag) (PT : Addr) : Sp := fun vs H Q E => ∃ (f r : Addr) (v : V) (hs : List HR) (bs : List BR) (late : Int) (o : Option (List V)), vs = [.ref r, .int late, v] ∧ RoomAt H r hs bs ∧ RoomOk hs bs ∧ ThOk f H v o ∧ GxR.TabG H PT ∧
  (∀ (d t : Addr) (H' : Hp), okT hs.length o = false → H' d = some (.xd [("at", .ref t), ("word", .str "form")]) → H' t = some (.tup []) → GxR.TabG H' PT → But PT H H' → E (.ref (nsA K)) (some d) H') ∧
  (∀ H', okT hs.length o = true → Good33 hs bs late (shO o) → GxR.TabG H' PT → But PT H H' → Q (.bl true) H') ∧
  ∀ (d t : Addr) (wd : Str) (k : Nat) (H' : Hp), okT hs.length o = true → Ref34 hs bs late (shO o) wd k → H' d = some (.xd [("at", .ref t), ("word", .str wd)]) → H' t = some (.tup [nV k]) → GxR.TabG H' PT → But PT H H' → E (.ref (nsA K)) (some d) H'
theorem ok_look_shifts {f : Addr} {fd : FuncData} (F : Fun K "look_shifts" "look_shifts" s_look_shifts f fd) (T : Top K mg) : FnOk P w K mg base (L2.CX P w) 4 f fd ["room", "late", "shifts"] (sp_look_shifts K PT) := by
  obtain ⟨f_refuse_shifts, fd_refuse_shifts, F_refuse_shifts, b_refuse_shifts, m_refuse_shifts⟩ := T.d_refuse_shifts
  have G_refuse_shifts := ok_refuse_shifts (P := P) (w := w) (base := base) F_refuse_shifts T
  obtain ⟨f_is_shifts, fd_is_shifts, F_is_shifts, b_is_shifts, m_is_shifts⟩ := T.d_is_shifts
  have G_is_shifts := ok_is_shifts (P := P) (w := w) (base := base) F_is_shifts (TI.cd _ _ F_is_shifts m_is_shifts) T
  obtain ⟨f_wrong_door, fd_wrong_door, F_wrong_door, b_wrong_door, m_wrong_door⟩ := T.d_wrong_door
  have G_wrong_door := ok_wrong_door (P := P) (w := w) (base := base) F_wrong_door T
  obtain ⟨f_short_belt, fd_short_belt, F_short_belt, b_short_belt, m_short_belt⟩ := T.d_short_belt
  have G_short_belt := ok_short_belt (P := P) (w := w) (base := base) F_short_belt T
  obtain ⟨fdI, N⟩ := T.x_ns
  have GI := ok_NsInit (P := P) (w := w) (base := base) N
  refine F.okX sc_look_shifts (fun vs H Q E h => ?_) (fun cdv A outer s H vs Q E hr h => ?_)
  · obtain ⟨f, r, v, hs, bs, late, o, rfl, _⟩ := h
    rfl
  obtain ⟨f, r, v, hs, bs, late, o, rfl, hR, ok, hT, tg, q0, q1, q2⟩ := h
  refine ⟨_, (pss_cons (ps_if (pt_not (pt_val (pe_call G_is_shifts (hr.mono (by decide)) (by rfl) m_is_shifts F_is_shifts.kp b_is_shifts .nil pass0 (pa_cons (pv 0) (pa_cons (pv 2) pa_nil))))) (pss_one (ps_raise rfl (takes_of rfl rfl rfl rfl) (pmk_oex N.T N.iC N.tI GI (hr.mono (by decide)) N.b .nil pass0 rfl N.gC (pa_cons pe_str (pa_cons (pe_tup pa_nil) pa_nil))))) pss_nil)
      (pss_cons (ps_expr (pe_callS G_refuse_shifts (hr.mono (by decide)) (by rfl) m_refuse_shifts F_refuse_shifts.kp b_refuse_shifts (fun σ => passAt (takes_of rfl rfl rfl rfl) σ) (pa_cons pe_str (pa_cons (pe_call G_wrong_door (hr.mono (by decide)) (by rfl) m_wrong_door F_wrong_door.kp b_wrong_door .nil pass0 (pa_cons (pv 0) (pa_cons (pv 1) (pa_cons (pv 2) pa_nil)))) pa_nil))))
      (pss_cons (ps_expr (pe_callS G_refuse_shifts (hr.mono (by decide)) (by rfl) m_refuse_shifts F_refuse_shifts.kp b_refuse_shifts (fun σ => passAt (takes_of rfl rfl rfl rfl) σ) (pa_cons pe_str (pa_cons (pe_call G_short_belt (hr.mono (by decide)) (by rfl) m_short_belt F_short_belt.kp b_short_belt .nil pass0 (pa_cons (pv 0) (pa_cons (pv 2) pa_nil))) pa_nil))))
      (pss_one (ps_ret pe_bl))))), ?_⟩
  refine ⟨_, rfl, _, rfl, f, r, v, hs, bs, o, rfl, hR, ok, hT, tg, fun H1 tb => ?_⟩
  have b1 := tabbed_but tb
  have k1 := tab_tk tg b1
  have hR1 := hR.keep k1
  cases em : okT hs.length o with
  | false =>
    refine ⟨_, rfl, if_bl (fun _ => ?_) (fun z => nomatch z)⟩
    refine ⟨(by show 0 ≤ sizeLine; decide), fun t nt => ⟨by show 2 ≤ 1000; decide, fun a na => ?_⟩⟩
    have s1 := same_new (o := .tup []) nt
    have ht : (upd H1 t (.tup [])) t = some (.tup []) := upd_same
    generalize upd H1 t (.tup []) = H2 at s1 ht na ⊢
    refine ⟨a, .str "form", .ref t, rfl, upd_same, fun d nd da => ⟨rfl, d, _, by rw [upd_ne da.symm, upd_same], upd_same, ?_, ?_⟩⟩
    · rw [upd_ne da] at nd; exact nd
    · have nd1 : H2 d = none := by rw [upd_ne da] at nd; exact nd
      have keep : Same H2 (upd (del (upd (upd (upd (upd H2 a (exo a (nsA K) none)) d (exd d [("word", V.str "form")])) a (exo a (nsA K) (some d))) d (exd d [("at", V.ref t), ("word", V.str "form")])) a) d (.xd [("at", V.ref t), ("word", V.str "form")])) := fun b o e => by
        have b1 : b ≠ a := ne_of_none e na
        have b2 : b ≠ d := ne_of_none e nd1
        rw [upd_ne b2, del_ne b1, upd_ne b2, upd_ne b1, upd_ne b2, upd_ne b1]
        exact e
      exact q0 d t _ em upd_same (keep _ _ ht) (same_tab tb.1 (s1.trans keep)) (b1.same (s1.trans keep))
  | true =>
  obtain ⟨sl, rfl, hsl, _⟩ := hT.good em
  have hsl1 := k1 _ _ hsl
  obtain ⟨sh, esh⟩ : ∃ sh, sh = shO o := ⟨_, rfl⟩
  rw [← esh] at q1 q2 hsl hsl1
  refine ⟨_, rfl, if_bl (fun z => nomatch z) (fun _ => ?_)⟩
  refine ⟨_, rfl, _, rfl, _, rfl, r, sl, hs, bs, late, sh, rfl, hR1, ok, hsl1, fun H2 e2 s2 => ?_, fun k H2 km kl s2 => ?_⟩
  · refine ⟨_, _, rfl, fun _ => ?_, .inr rfl, fun _ _ _ z => absurd rfl z⟩
    refine ⟨_, rfl, _, rfl, r, sl, hs, bs, sh, rfl, hR1.keep (TK.same s2), ok, s2 _ _ hsl1, fun H3 nn s3 => ?_, fun j b H3 ej neg low s3 => ?_⟩
    · refine ⟨_, _, rfl, fun _ => ?_, .inr rfl, fun _ _ _ z => absurd rfl z⟩
      obtain ⟨d1, d2⟩ := wr_none e2
      exact q1 H3 em ⟨d1, d2, nn⟩ (same_tab tb.1 (s2.trans s3)) (b1.same (s2.trans s3))
    · refine ⟨_, _, rfl, (fun z => nomatch z), .inl ⟨j, rfl⟩, fun d t H4 _ hd ht s4 => ?_⟩
      exact q2 d t "belt" j H4 em (.inr ⟨rfl, e2, b, ej, neg, low⟩) hd ht (same_tab tb.1 ((s2.trans s3).trans s4)) (b1.same ((s2.trans s3).trans s4))
  · refine ⟨_, _, rfl, (fun z => nomatch z), .inl ⟨k, rfl⟩, fun d t H4 _ hd ht s4 => ?_⟩
    exact q2 d t "door" k H4 em (.inl ⟨rfl, km, kl⟩) hd ht (same_tab tb.1 (s2.trans s4)) (b1.same (s2.trans s4))
end
theorem log_sm {n : Nat} (h : n ≤ 1000) : ((n : Nat) : Int).natAbs.log2 < 9000 := by
  rw [Int.natAbs_natCast]
  exact Nat.lt_of_le_of_lt (Nat.log2_le_self n) (by omega)
theorem lev_len {n : Nat} {sh : Nat → Int} : (levL n sh).length = n := by rw [List.length_map, List.length_range]
theorem lev_set33 {n k : Nat} {sh : Nat → Int} {v : Int} (h : k < n) : ((levL n sh).take k ++ [V.int v]) ++ (levL n sh).drop (k + 1) = levL n (fun p => if p = k then v else sh p) := by
  have lt : ((levL n sh).take k).length = k := by rw [List.length_take, lev_len]; omega
  refine List.ext_getElem? fun i => ?_
  by_cases il : i < n
  · rw [rg_at (f := fun p => V.int (if p = k then v else sh p)) il]
    by_cases c1 : i < k
    · rw [List.append_assoc, List.getElem?_append_left (by omega), List.getElem?_take_of_lt c1, rg_at il, if_neg (by omega)]
    · by_cases c2 : i = k
      · subst c2
        rw [List.append_assoc, List.getElem?_append_right (by omega), lt, Nat.sub_self, if_pos rfl]
        rfl
      · rw [List.getElem?_append_right (by rw [List.length_append, lt]; show k + 1 ≤ i; omega), List.length_append, lt, List.getElem?_drop]
        show (levL n sh)[k + 1 + (i - (k + 1))]? = _
        rw [show k + 1 + (i - (k + 1)) = i by omega, rg_at il, if_neg c2]
  · rw [List.getElem?_eq_none (by rw [List.length_append, List.length_append, lt, List.length_drop, lev_len]; show k + 1 + (n - (k + 1)) ≤ i; omega), List.getElem?_eq_none (by rw [lev_len]; omega)]
theorem abs20 {a : Int} (h : decide ((if a < 0 then -a else a) ≤ 20) = true) : -20 ≤ a ∧ a ≤ 20 := by
  have := of_decide_eq_true h
  split at this <;> omega
def Bd (n : Int) (sh : Nat → Int) : Prop := ∀ k, -n ≤ sh k ∧ sh k ≤ n
theorem one_eqv (h : HR) (z : Str) : PyData.eqv (.tuple [.str z]) (.tuple (ruleD h)) = (decide (h.wd = z) && h.no.isNone) := by
  obtain ⟨wd, no, mom⟩ := h
  have e : (z == wd) = decide (wd = z) := by
    by_cases k : wd = z
    · rw [k, decide_eq_true rfl]; exact beq_self_eq_true z
    · rw [decide_eq_false k]; exact beq_eq_false_iff_ne.mpr fun y => k y.symm
  cases no with
  | none => show (z == wd && true) = (decide (wd = z) && true); rw [e]
  | some n => show (z == wd && false) = (decide (wd = z) && false); rw [Bool.and_false, Bool.and_false]
section
variable {P : Program} {w : World} {K : PySem.W.Frag} {mg : Str → Option Value} {base : Heap}
def sp_law_trays (K : PySem.W.Frag) : Sp := fun vs H Q _ => ∃ (r sl : Addr) (hs : List HR) (bs : List BR) (sh : Nat → Int), vs = [.ref r, .ref sl] ∧ RoomAt H r hs bs ∧ RoomOk hs bs ∧ (H sl = some (.tup (levL hs.length sh)) ∨ H sl = some (.lst (levL hs.length sh))) ∧
  ∀ (p : Addr) (H' : Hp), H p = none → H' p = some (.lst (bs.map fun b => V.int (trS sh b))) → Same H H' → Q (.ref p) H'
theorem ok_law_trays {f : Addr} {fd : FuncData} (F : Fun K "_law_trays" "_law_trays" s_law_trays f fd) (T : Top K mg) : FnOk P w K mg base CX0 1 f fd ["_law_room_here", "_law_shifts_here"] (sp_law_trays K) := by
  refine F.ok sc_law_trays (fun vs H Q E h => ?_) (fun cdv A outer s H vs Q E hr h => ?_)
  · obtain ⟨r, sl, hs, bs, sh, rfl, _⟩ := h
    rfl
  obtain ⟨r, sl, hs, bs, sh, rfl, hR, ok, hsl, q⟩ := h
  obtain ⟨ha, ba, hv, bv, er, eh, eb, alh, alb⟩ := hR.ex
  have lbv := alb.length
  have lb := ok.many
  rcases hsl with hsl | hsl
  · refine ⟨_, (pss_one (ps_ret (pe_lc (own := [("_law_one", 2), ("_law_to", 3), ("_law_things", 4)]) (g := gTup K 3 (gCons (gName 2) (gCons (gName 3) (gCons (gName 4) gNil)))) (tt := tYes) (by rfl) sc_law_trays.nd (pi_tupK K rfl (pe_ix (ix_tupK K rfl) (pv 0) pe_int (fun _ _ => rfl))) (blkOk_by (own := [("_law_one", 2), ("_law_to", 3), ("_law_things", 4)]) (N := N_law_trays) (sc := defScope s_law_trays) (by decide +kernel)) (fun _ _ _ _ _ => (pg_tupK K rfl rfl (pgs_cons (pg_name (i := 2) sc_law_trays.nd rfl (Or.inl rfl)) (pgs_cons (pg_name (i := 3) sc_law_trays.nd rfl (Or.inl rfl)) (pgs_cons (pg_name (i := 4) sc_law_trays.nd rfl (Or.inl rfl)) pgs_nil))))) (fun _ _ _ _ _ => pts_nil) (fun _ _ _ _ _ => (pe_op op_sub (pe_op op_add (pe_callB (call_len_seqK K rfl) (by rfl) T.m_len (by decide +kernel) (pa_cons (pv 4) pa_nil)) (pe_ix (ix_tupK K rfl) (pv 1) (pv 3) (fun _ _ => rfl))) (pe_ix (ix_tupK K rfl) (pv 1) (pv 2) (fun _ _ => rfl))))))), ?_⟩
    refine ⟨_, rfl, r, _, _, _, rfl, rfl, SqT.of er, atI_nat (j := 1) rfl, ba, rfl, ⟨_, SqT.of eb⟩, fun D nD => lc_tup (K := K) (a := ba) (xs := bv) (fun i H5 => H5 D = some (.lst ((bs.take i).map fun b => V.int (trS sh b))) ∧ Same H H5) ⟨upd_same, same_new nD⟩ (fun i H5 _ ⟨_, s5⟩ => SqT.of (s5 _ _ eb)) ?_ ?_⟩
    · rintro i x H5 hx ⟨hD, s5⟩
      obtain ⟨b, ebi, ⟨t, g, rfl, e1, e2⟩⟩ := alb.getL hx
      have il := (List.getElem?_eq_some_iff.mp ebi).1
      obtain ⟨l1, l2⟩ := ok.ends b (List.mem_of_getElem? ebi)
      refine ⟨t, _, rfl, SqT.of (s5 _ _ e1), rfl, ?_⟩
      refine ⟨_, _, rfl, ?_⟩
      refine ⟨_, _, rfl, ?_⟩
      refine ⟨_, _, rfl, rfl, ?_⟩
      refine ⟨rfl, yes_in ?_⟩
      refine ⟨_, rfl, g, _, rfl, .inr (SqT.of (s5 _ _ e2)), _, rfl, _, rfl, sl, _, _, _, rfl, rfl, SqT.of (s5 _ _ hsl), atI_nat (rg_at l2), _, _, rfl, rfl, _, rfl, _, rfl, sl, _, _, _, rfl, rfl, SqT.of (s5 _ _ hsl), atI_nat (rg_at l1), _, _, rfl, rfl, _, hD, by rw [List.length_map, List.length_take]; exact small1000 (by omega), ?_, Same.own s5 nD⟩
      rw [upd_same, List.take_add_one, ebi, List.map_append, List.length_map]
      rfl
    · rintro H5 ⟨hD, s5⟩
      rw [lbv, List.take_length] at hD
      exact q D H5 nD hD s5
  · refine ⟨_, (pss_one (ps_ret (pe_lc (own := [("_law_one", 2), ("_law_to", 3), ("_law_things", 4)]) (g := gTup K 3 (gCons (gName 2) (gCons (gName 3) (gCons (gName 4) gNil)))) (tt := tYes) (by rfl) sc_law_trays.nd (pi_tupK K rfl (pe_ix (ix_tupK K rfl) (pv 0) pe_int (fun _ _ => rfl))) (blkOk_by (own := [("_law_one", 2), ("_law_to", 3), ("_law_things", 4)]) (N := N_law_trays) (sc := defScope s_law_trays) (by decide +kernel)) (fun _ _ _ _ _ => (pg_tupK K rfl rfl (pgs_cons (pg_name (i := 2) sc_law_trays.nd rfl (Or.inl rfl)) (pgs_cons (pg_name (i := 3) sc_law_trays.nd rfl (Or.inl rfl)) (pgs_cons (pg_name (i := 4) sc_law_trays.nd rfl (Or.inl rfl)) pgs_nil))))) (fun _ _ _ _ _ => pts_nil) (fun _ _ _ _ _ => (pe_op op_sub (pe_op op_add (pe_callB (call_len_seqK K rfl) (by rfl) T.m_len (by decide +kernel) (pa_cons (pv 4) pa_nil)) (pe_ix (ix_listK K rfl) (pv 1) (pv 3) (fun _ _ => rfl))) (pe_ix (ix_listK K rfl) (pv 1) (pv 2) (fun _ _ => rfl))))))), ?_⟩
    refine ⟨_, rfl, r, _, _, _, rfl, rfl, SqT.of er, atI_nat (j := 1) rfl, ba, rfl, ⟨_, SqT.of eb⟩, fun D nD => lc_tup (K := K) (a := ba) (xs := bv) (fun i H5 => H5 D = some (.lst ((bs.take i).map fun b => V.int (trS sh b))) ∧ Same H H5) ⟨upd_same, same_new nD⟩ (fun i H5 _ ⟨_, s5⟩ => SqT.of (s5 _ _ eb)) ?_ ?_⟩
    · rintro i x H5 hx ⟨hD, s5⟩
      obtain ⟨b, ebi, ⟨t, g, rfl, e1, e2⟩⟩ := alb.getL hx
      have il := (List.getElem?_eq_some_iff.mp ebi).1
      obtain ⟨l1, l2⟩ := ok.ends b (List.mem_of_getElem? ebi)
      refine ⟨t, _, rfl, SqT.of (s5 _ _ e1), rfl, ?_⟩
      refine ⟨_, _, rfl, ?_⟩
      refine ⟨_, _, rfl, ?_⟩
      refine ⟨_, _, rfl, rfl, ?_⟩
      refine ⟨rfl, yes_in ?_⟩
      refine ⟨_, rfl, g, _, rfl, .inr (SqT.of (s5 _ _ e2)), _, rfl, _, rfl, sl, _, _, _, rfl, rfl, SqL.of (s5 _ _ hsl), atI_nat (rg_at l2), _, _, rfl, rfl, _, rfl, _, rfl, sl, _, _, _, rfl, rfl, SqL.of (s5 _ _ hsl), atI_nat (rg_at l1), _, _, rfl, rfl, _, hD, by rw [List.length_map, List.length_take]; exact small1000 (by omega), ?_, Same.own s5 nD⟩
      rw [upd_same, List.take_add_one, ebi, List.map_append, List.length_map]
      rfl
    · rintro H5 ⟨hD, s5⟩
      rw [lbv, List.take_length] at hD
      exact q D H5 nD hD s5
/-- the law's drawn shifts: let by, and no more than twenty either way at hands -/
def sp_law_shifts (K : PySem.W.Frag) : Sp := fun vs H Q _ => ∃ (f c r : Addr) (hs : List HR) (bs : List BR) (late many : Int), vs = [.ref f, .ref r, .int late, .int many] ∧ Flow H f c ∧ RoomAt H r hs bs ∧ RoomOk hs bs ∧ (∃ h ∈ hs, h.wd ≠ "out" ∧ h.wd ≠ "in") ∧ 0 ≤ late ∧ late ≤ 6 ∧ 0 ≤ many ∧ many ≤ 100 ∧
  ∀ (p : Addr) (sh : Nat → Int) (H' : Hp), H' p = some (.tup (levL hs.length sh)) → Good33 hs bs late sh → Bd 20 sh → Flow H' f c → But f H H' → Q (.ref p) H'
theorem ok_law_shifts {f : Addr} {fd : FuncData} (F : Fun K "_law_shifts" "_law_shifts" s_law_shifts f fd) (T : Top K mg) : FnOk P w K mg base CX0 2 f fd ["_law_flow_here", "_law_room_here", "_law_late", "_law_many"] (sp_law_shifts K) := by
  obtain ⟨f_law_pick, fd_law_pick, F_law_pick, b_law_pick, m_law_pick⟩ := T.d_law_pick
  have G_law_pick := ok_law_pick (P := P) (w := w) (base := base) F_law_pick T
  obtain ⟨f_law_trays, fd_law_trays, F_law_trays, b_law_trays, m_law_trays⟩ := T.d_law_trays
  have G_law_trays := ok_law_trays (P := P) (w := w) (base := base) F_law_trays T
  refine F.ok sc_law_shifts (fun vs H Q E h => ?_) (fun cdv A outer s H vs Q E hr h => ?_)
  · obtain ⟨f, c, r, hs, bs, late, many, rfl, _⟩ := h
    rfl
  obtain ⟨f, c, r, hs, bs, late, many, rfl, hF, hR, ok, some1, l0, l6, m0, m1, q⟩ := h
  obtain ⟨ha, ba, hv, bv, er, eh, eb, alh, alb⟩ := hR.ex
  have lhv := alh.length
  have lh := ok.hands
  let R1 : TS := fun D' σ' H' => D'.rt = Q ∧ ∃ (fl : Addr), σ' = [some (.ref f), some (.ref r), some (.int late), some (.int many), some (.ref ha), some (.ref fl), none, none, none, none, none, none] ∧ H' fl = some (.lst (levL hs.length fun k => if hs[k]?.map HR.wd = some ("in" : Str) then 0 else late)) ∧ fl ≠ f ∧ fl ≠ c ∧ Flow H' f c ∧ But f H H'
  let R2 : TS := fun D' σ' H' => D'.rt = Q ∧ ∃ (fl gl : Addr) (fr : List Nat), σ' = [some (.ref f), some (.ref r), some (.int late), some (.int many), some (.ref ha), some (.ref fl), none, some (.ref gl), none, none, none, none] ∧ H' fl = some (.lst (levL hs.length fun k => if hs[k]?.map HR.wd = some ("in" : Str) then 0 else late)) ∧ fl ≠ f ∧ fl ≠ c ∧ H' gl = some (.lst (fr.map nV)) ∧ gl ≠ f ∧ gl ≠ c ∧ fr ≠ [] ∧ fr.length ≤ 12 ∧ (∀ k ∈ fr, k < hs.length ∧ k ∉ doorsOf "in" hs ∧ k ∉ doorsOf "out" hs) ∧ Flow H' f c ∧ But f H H'
  refine ⟨_, (pss_cons (ps_set (i := 4) sc_law_shifts.nd rfl (Or.inr rfl) (pe_ix (ix_tupK K rfl) (pv 1) pe_int (fun _ _ => rfl)))
      (pss_cons (ps_setLc (i := 5) (own := [("_law_hand", 6)]) (g := gName 6) (tt := tYes) (by rfl) sc_law_shifts.nd rfl rfl (sw_true rfl rfl rfl (by decide +kernel)) (pi_tupK K rfl (pv 4)) (blkOk_by (own := [("_law_hand", 6)]) (N := N_law_shifts) (sc := defScope s_law_shifts) (by decide +kernel)) (fun _ _ _ _ _ => (pg_name (i := 6) sc_law_shifts.nd rfl (Or.inl rfl))) (fun _ _ _ _ _ => pts_nil) (fun _ _ _ _ _ => (pe_op op_mul (pv 2) (pe_callTy call_int1 (by rfl) T.m_int (by decide +kernel) (pa_cons (pe_cmpR (op_neDK K rfl hr.units) (pe_ix (ix_tupK K rfl) (pv 6) pe_int (fun _ _ => rfl)) (pe_tup (pa_cons pe_str pa_nil)) (nomark _)) pa_nil)))))
      (PSs.to (pss_cons (ps_setLc (i := 7) (own := [("_law_k", 8)]) (g := gName 8) (by rfl) sc_law_shifts.nd rfl rfl (sw_true rfl rfl rfl (by decide +kernel)) (pi_range1 (by rfl) T.m_range (pa_cons (pe_callB (call_len_seqK K rfl) (by rfl) T.m_len (by decide +kernel) (pa_cons (pv 4) pa_nil)) pa_nil)) (blkOk_by (own := [("_law_k", 8)]) (N := N_law_shifts) (sc := defScope s_law_shifts) (by decide +kernel)) (fun _ _ _ _ _ => (pg_name (i := 8) sc_law_shifts.nd rfl (Or.inl rfl))) (fun _ _ _ _ _ => pts_one (pt_cmpR (op_notInDTK K rfl (hu65 hr)) (pe_ix (ix_tupK K rfl) (pe_ix (ix_tupK K rfl) (pv 4) (pv 8) (fun _ _ => rfl)) pe_int (fun _ _ => rfl)) (pe_tup (pa_cons (pe_tup (pa_cons pe_str pa_nil)) (pa_cons (pe_tup (pa_cons pe_str pa_nil)) pa_nil))) (by with_unfolding_all rfl))) (fun _ _ _ _ _ => (pv 8)))
      (PSs.to (pss_cons (ps_for PassesOwn.never rfl (pi_range1 (by rfl) T.m_range (pa_cons (pv 3) pa_nil)) (pg_name (i := 9) sc_law_shifts.nd rfl (Or.inl rfl))
        (pss_cons (ps_set (i := 8) sc_law_shifts.nd rfl (Or.inl rfl) (pe_ix (ix_listK K rfl) (pv 7) (pe_call G_law_pick (hr.mono (by decide)) (by rfl) m_law_pick F_law_pick.kp b_law_pick .nil pass0 (pa_cons (pv 0) (pa_cons (pe_callB (call_len_seqK K rfl) (by rfl) T.m_len (by decide +kernel) (pa_cons (pv 7) pa_nil)) pa_nil))) (fun _ _ => rfl)))
      (pss_cons (ps_set (i := 10) sc_law_shifts.nd rfl (Or.inl rfl) (pe_op op_sub pe_int (pe_op op_mul pe_int (pe_call G_law_pick (hr.mono (by decide)) (by rfl) m_law_pick F_law_pick.kp b_law_pick .nil pass0 (pa_cons (pv 0) (pa_cons pe_int pa_nil))))))
      (pss_cons (ps_set (i := 11) sc_law_shifts.nd rfl (Or.inl rfl) (pe_op op_cat (pe_op op_cat (pe_slice (sl_listK K rfl) (pv 5) po_none (po_some (pv 8))) (pe_lst (pa_cons (pe_op op_add (pe_ix (ix_listK K rfl) (pv 5) (pv 8) (fun _ _ => rfl)) (pv 10)) pa_nil))) (pe_slice (sl_listK K rfl) (pv 5) (po_some (pe_op op_add (pv 8) pe_int)) po_none)))
      (pss_one (ps_if (PW.pt (pw_and (pt_cmpR op_eq (pe_callB (cr_minKK K rfl rfl) (by rfl) T.m_min (by decide +kernel) (pa_cons (pe_op op_cat (pe_lst (pa_cons pe_int pa_nil)) (pe_call G_law_trays (hr.mono (by decide)) (by rfl) m_law_trays F_law_trays.kp b_law_trays .nil pass0 (pa_cons (pv 1) (pa_cons (pv 11) pa_nil)))) pa_nil)) pe_int (nomark _)) (pw_and1 (pt_cmpR op_le (pe_callB call_abs (by rfl) T.m_abs (by decide +kernel) (pa_cons (pe_ix (ix_listK K rfl) (pv 11) (pv 8) (fun _ _ => rfl)) pa_nil)) pe_int (nomark _))))) (pss_one (ps_set (i := 5) sc_law_shifts.nd rfl (Or.inl rfl) (pv 11))) pss_nil))))))
      (pss_one (ps_ret (pe_callTy (call_tuple_ofK K rfl) (by rfl) T.m_tuple (by decide +kernel) (pa_cons (pv 5) pa_nil))))) R2 ?tail2)) R1 ?tail1))), ?_⟩
  case tail2 =>
    rintro D' σ' H1 ⟨eD, fl, gl, fr, rfl, hfl, n1, n2, hgl, n3, n4, frne, frl, frg, F1, B1⟩
    have fpos : 0 < fr.length := List.length_pos_iff.mpr frne
    refine ⟨_, rfl, _, rfl, by omega, by omega, for_range (lo := 0) (n := many.toNat) (fun i σ H5 => ∃ (fl : Addr) (sh : Nat → Int) (v8 v9 v10 v11 : Option V), σ = [some (.ref f), some (.ref r), some (.int late), some (.int many), some (.ref ha), some (.ref fl), none, some (.ref gl), v8, v9, v10, v11] ∧ H5 fl = some (.lst (levL hs.length sh)) ∧ fl ≠ f ∧ fl ≠ c ∧ H5 gl = some (.lst (fr.map nV)) ∧ Good33 hs bs late sh ∧ Bd 20 sh ∧ Flow H5 f c ∧ But f H H5) ⟨fl, _, none, none, none, none, rfl, hfl, n1, n2, hgl, ?_, (fun k => by show (-20 : Int) ≤ (if _ then _ else _) ∧ (if _ then _ else _) ≤ (20 : Int); split <;> omega), F1, B1⟩ ?_ ?_⟩
    · refine ⟨fun j hj => ?_, fun j hj => ?_, fun b hb => ?_⟩
      · obtain ⟨h, e, w1⟩ := mem_doors.mp hj
        exact if_pos (by rw [e, ← w1]; rfl)
      · obtain ⟨h, e, w1⟩ := mem_doors.mp hj
        refine if_neg fun z => ?_
        rw [e] at z
        have z : h.wd = "in" := Option.some.inj z
        rw [z] at w1
        exact absurd w1 (by decide +kernel)
      · unfold trS
        have hto : ¬ hs[b.to]?.map HR.wd = some ("in" : Str) := fun z => by
          cases e : hs[b.to]? with
          | none => rw [e] at z; cases z
          | some h =>
            rw [e] at z
            have z : h.wd = "in" := Option.some.inj z
            have cnt := ok.count _ _ e
            rw [z, show needs "in" = 0 by decide +kernel] at cnt
            have pos := List.count_pos_iff.mpr (List.mem_map.mpr ⟨b, hb, rfl⟩ : b.to ∈ bs.map BR.to)
            omega
        show 0 ≤ (b.th.length : Int) + (if hs[b.to]?.map HR.wd = some ("in" : Str) then 0 else late) - (if hs[b.one]?.map HR.wd = some ("in" : Str) then 0 else late)
        rw [if_neg hto]
        split <;> omega
    · rintro i σ H5 hi ⟨fl, sh, v8, v9, v10, v11, rfl, hfl, n1, n2, hgl, gd, bd, F5, B5⟩
      refine ⟨_, rfl, _, rfl, _, rfl, gl, _, rfl, .inl (SqL.of hgl), f, c, _, rfl, by rw [List.length_map]; omega, by rw [List.length_map]; exact log_sm (by omega), F5, fun v H6 v0 v1 F6 B6 => ?_⟩
      rw [List.length_map] at v1
      have hgl6 := B6 _ _ hgl n3
      have hfl6 := B6 _ _ hfl n1
      obtain ⟨j, rfl⟩ : ∃ j : Nat, v = ((j : Nat) : Int) := ⟨v.toNat, by omega⟩
      have jl : j < fr.length := by omega
      have ek : (fr.map nV)[j]? = some (nV fr[j]) := by rw [List.getElem?_map, List.getElem?_eq_getElem jl]; rfl
      obtain ⟨kl, kin, kout⟩ := frg _ (List.getElem_mem jl)
      generalize fr[j] = k at ek kl kin kout
      refine ⟨gl, _, _, _, rfl, rfl, SqL.of hgl6, atI_nat ek, ?_⟩
      refine ⟨_, rfl, f, c, _, rfl, by decide, by decide +kernel, F6, fun v2 H7 w0 w1 F7 B7 => ?_⟩
      have hfl7 := B7 _ _ hfl6 n1
      refine ⟨_, _, rfl, rfl, .inl ⟨by decide, by decide⟩, _, _, rfl, rfl, ?_⟩
      show tSeq _ _ _ [some (.ref f), some (.ref r), some (.int late), some (.int many), some (.ref ha), some (.ref fl), none, some (.ref gl), some (nV k), some (.int (0 + ((i : Nat) : Int))), some (.int (1 - 2 * v2)), v11] H7
      generalize 1 - 2 * v2 = step
      have kc : cutV (levL hs.length sh) none (some ((k : Nat) : Int)) = (levL hs.length sh).take k := cut_take _ _
      have kd : cutV (levL hs.length sh) (some (((k : Nat) : Int) + 1)) none = (levL hs.length sh).drop (k + 1) := by rw [show ((k : Nat) : Int) + 1 = ((k + 1 : Nat) : Int) by omega, cut_drop]
      refine ⟨_, rfl, ?_⟩
      dsimp only [tNoPart]
      refine ⟨_, rfl, _, rfl, fl, _, rfl, SqL.of hfl7, fun p1 np1 => ?_⟩
      have t1 := same_new (o := .lst (cutV (levL hs.length sh) none (some ((k : Nat) : Int)))) np1
      refine ⟨_, rfl, _, rfl, fl, _, _, _, rfl, rfl, SqL.of (t1 _ _ hfl7), atI_nat (rg_at kl), _, rfl, _, _, rfl, rfl, (by show 1 ≤ sizeLine; decide), fun p2 np2 => ?_⟩
      have t2 := same_new (o := .lst [V.int (sh k + step)]) np2
      refine ⟨p1, p2, _, _, rfl, rfl, t2 _ _ upd_same, upd_same, by rw [kc, List.length_take, lev_len]; exact little (by show _ + 1 ≤ 1000; omega), fun p3 np3 => ?_⟩
      have t3 := same_new (o := .lst (cutV (levL hs.length sh) none (some ((k : Nat) : Int)) ++ [V.int (sh k + step)])) np3
      refine ⟨_, rfl, _, rfl, _, _, rfl, rfl, _, rfl, fl, _, rfl, SqL.of (((t1.trans t2).trans t3) _ _ hfl7), fun p4 np4 => ?_⟩
      have t4 := same_new (o := .lst (cutV (levL hs.length sh) (some (((k : Nat) : Int) + 1)) none)) np4
      refine ⟨p3, p4, _, _, rfl, rfl, t4 _ _ upd_same, upd_same, by rw [kc, kd, List.length_append, List.length_take, List.length_drop, lev_len]; exact little (by show _ + 1 + _ ≤ 1000; omega), fun p5 np5 => ?_⟩
      have t5 := same_new (o := .lst ((cutV (levL hs.length sh) none (some ((k : Nat) : Int)) ++ [V.int (sh k + step)]) ++ cutV (levL hs.length sh) (some (((k : Nat) : Int) + 1)) none)) np5
      have F8 := F7.same (((t1.trans t2).trans t3).trans t4)
      have tt := (((t1.trans t2).trans t3).trans t4).trans t5
      have new := upd_same (H := upd (upd (upd (upd H7 p1 (.lst (cutV (levL hs.length sh) none (some ((k : Nat) : Int))))) p2 (.lst [V.int (sh k + step)])) p3 (.lst (cutV (levL hs.length sh) none (some ((k : Nat) : Int)) ++ [V.int (sh k + step)]))) p4 (.lst (cutV (levL hs.length sh) (some (((k : Nat) : Int) + 1)) none))) (a := p5) (o := .lst ((cutV (levL hs.length sh) none (some ((k : Nat) : Int)) ++ [V.int (sh k + step)]) ++ cutV (levL hs.length sh) (some (((k : Nat) : Int) + 1)) none))
      rw [kc, kd, lev_set33 kl] at new
      have nf := F8.ne np5
      have nc := F8.nec np5
      have F9 := F8.new (o := .lst ((cutV (levL hs.length sh) none (some ((k : Nat) : Int)) ++ [V.int (sh k + step)]) ++ cutV (levL hs.length sh) (some (((k : Nat) : Int) + 1)) none)) np5
      have B9 := ((B5.trans B6).trans B7).same tt
      have hgl9 := tt _ _ (B7 _ _ hgl6 n3)
      have hfl9 := tt _ _ hfl7
      rw [kc, kd, lev_set33 kl] at *
      generalize upd _ p5 _ = H9 at new F9 B9 hgl9 hfl9 ⊢
      have hR9 := hR.keep (TK.but hF B9)
      obtain ⟨sn, esn⟩ : ∃ sn : Nat → Int, sn = fun p => if p = k then sh k + step else sh p := ⟨_, rfl⟩
      rw [← esn] at new
      have okn : (∀ b ∈ bs, 0 ≤ trS sn b) → Good33 hs bs late sn := fun tr => ⟨fun j hj => by rw [esn]; show (if j = k then _ else _) = _; rw [if_neg (fun z : j = k => kin (z ▸ hj))]; exact gd.ins j hj, fun j hj => by rw [esn]; show (if j = k then _ else _) = _; rw [if_neg (fun z : j = k => kout (z ▸ hj))]; exact gd.outs j hj, tr⟩
      show tIfS _ _ _ _ [some (.ref f), some (.ref r), some (.int late), some (.int many), some (.ref ha), some (.ref fl), none, some (.ref gl), some (nV k), some (.int (0 + ((i : Nat) : Int))), some (.int step), some (.ref p5)] H9
      refine ⟨(by show 1 ≤ sizeLine; decide), fun z0 nz0 => ?_⟩
      have u1 := same_new (o := .lst [V.int 0]) nz0
      refine ⟨_, rfl, _, rfl, r, p5, hs, bs, sn, rfl, hR9.keep (TK.same u1), ok, .inr (u1 _ _ new), fun pt H10 npt hpt u2 => ?_⟩
      have lbs := ok.many
      refine ⟨z0, pt, _, _, rfl, rfl, u2 _ _ upd_same, hpt, by show 1 + _ ≤ sizeLine; rw [List.length_map]; exact little (by omega), fun p7 np7 => ?_⟩
      have u3 := same_new (o := .lst ([V.int 0] ++ bs.map fun b => V.int (trS sn b))) np7
      have u := (u1.trans u2).trans u3
      refine ⟨p7, 0 :: bs.map (trS sn), rfl, SqL.of (by rw [upd_same, List.map_cons, List.map_map]; rfl), by simp, fun m hm hle => ?_⟩
      refine ⟨rfl, _, rfl, if_bl (fun z => ?_) (fun z => ?_)⟩
      · have m0 : m = 0 := V.int.inj (of_decide_eq_true z)
        subst m0
        have hgd : Good33 hs bs late sn := okn fun b hb => hle _ (List.mem_cons_of_mem _ (List.mem_map.mpr ⟨b, hb, rfl⟩))
        refine ⟨_, rfl, _, rfl, p5, _, _, _, rfl, rfl, SqL.of (u _ _ new), atI_nat (rg_at kl), _, rfl, _, _, rfl, rfl, _, rfl, if_bl (fun zz => ?_) (fun _ => ?_)⟩
        · have zb : -20 ≤ sn k ∧ sn k ≤ 20 := abs20 zz
          have bn : Bd 20 sn := fun j => by
            by_cases ej : j = k
            · rw [ej]; exact zb
            · rw [esn]; show -20 ≤ (if j = k then _ else _) ∧ (if j = k then _ else _) ≤ 20; rw [if_neg ej]; exact bd j
          exact ⟨_, rfl, p5, sn, _, _, _, _, rfl, u _ _ new, nf, nc, u _ _ hgl9, hgd, bn, F9.same u, B9.same u⟩
        · exact ⟨fl, sh, _, _, _, _, rfl, u _ _ hfl9, n1, n2, u _ _ hgl9, gd, bd, F9.same u, B9.same u⟩
      · exact ⟨fl, sh, _, _, _, _, rfl, u _ _ hfl9, n1, n2, u _ _ hgl9, gd, bd, F9.same u, B9.same u⟩
    · rintro σ H5 ⟨fl, sh, v8, v9, v10, v11, rfl, hfl, n1, n2, hgl, gd, bd, F5, B5⟩
      refine ⟨_, rfl, fl, _, rfl, .inl ⟨SqL.of hfl, fun p np => ?_⟩⟩
      rw [eD]
      exact q p sh _ upd_same gd bd (F5.new np) (B5.new np)
  case tail1 =>
    rintro D' σ' H1 ⟨eD, fl, rfl, hfl, n1, n2, F1, B1⟩
    have k1 := TK.but hF B1
    have alh1 := alh.imp fun _ _ z => z.keep k1
    refine ⟨_, rfl, ha, _, rfl, .inr (SqT.of (k1 _ _ eh)), _, rfl, by omega, by omega, fun D nD => lc_range (lo := 0) (n := hv.length) (fun i H5 => H5 D = some (.lst (((List.range i).filter fun k => decide (hs[k]?.map HR.wd ≠ some ("in" : Str) ∧ hs[k]?.map HR.wd ≠ some ("out" : Str))).map nV)) ∧ Same H1 H5) ⟨upd_same, same_new nD⟩ ?_ ?_⟩
    · rintro i H5 hi ⟨hD, s5⟩
      obtain ⟨hh, ehi, ⟨t, rr, ex, e1, e2⟩⟩ := alh1.getL (List.getElem?_eq_getElem hi)
      have gh := ok.good _ (List.mem_of_getElem? ehi)
      have few := filt_len (p := fun k => decide (hs[k]?.map HR.wd ≠ some ("in" : Str) ∧ hs[k]?.map HR.wd ≠ some ("out" : Str))) i
      refine ⟨rfl, _, rfl, _, rfl, ha, _, _, _, rfl, rfl, SqT.of (s5 _ _ (k1 _ _ eh)), at0 (List.getElem?_eq_getElem hi), ?_⟩
      rw [ex]
      refine ⟨t, _, _, _, rfl, rfl, SqT.of (s5 _ _ e1), atI_nat (j := 0) rfl, (by show 1 ≤ sizeLine; decide), fun o1 no1 => ⟨(by show 1 ≤ sizeLine; decide), fun o2 no2 => ⟨(by show 2 ≤ sizeLine; decide), fun o3 no3 => ?_⟩⟩⟩
      have t1 := same_new (o := .tup [V.str "in"]) no1
      have t2 := same_new (o := .tup [V.str "out"]) no2
      have t3 := same_new (o := .tup [V.ref o1, V.ref o2]) no3
      have s6 := ((s5.trans t1).trans t2).trans t3
      refine ⟨.tuple (ruleD hh), [.tuple [.str "in"], .tuple [.str "out"]], rule_dp (s6 _ _ e2), .tup (SqT.of upd_same) (.cons (.tup (SqT.of ((t2.trans t3) _ _ upd_same)) (.cons (.str _) .nil)) (.cons (.tup (SqT.of (t3 _ _ upd_same)) (.cons (.str _) .nil)) .nil)), rule_shaped gh.lay, by decide +kernel, _, rfl, ?_⟩
      have hD6 := ((t1.trans t2).trans t3) _ _ hD
      have val : ([PyData.tuple [.str "in"], .tuple [.str "out"]].any fun z => PyData.eqv z (.tuple (ruleD hh))) = (decide (hh.wd = "in") || decide (hh.wd = "out")) := by
        rw [List.any_cons, List.any_cons, List.any_nil, Bool.or_false, one_eqv, one_eqv, gh.door "in" (.inl rfl), gh.door "out" (.inr rfl)]
      rw [val]
      by_cases cc : hh.wd ≠ "in" ∧ hh.wd ≠ "out"
      · rw [decide_eq_false cc.1, decide_eq_false cc.2]
        refine if_bl (fun _ => ⟨_, rfl, _, hD6, by rw [List.length_map]; exact small1000 (by omega), ?_, Same.own s6 nD⟩) (fun z => nomatch z)
        rw [upd_same, filt_succ, if_pos (decide_eq_true ⟨by rw [ehi]; exact fun z => cc.1 (Option.some.inj z), by rw [ehi]; exact fun z => cc.2 (Option.some.inj z)⟩), List.map_append, Int.zero_add]
        rfl
      · have v2 : (decide (hh.wd = "in") || decide (hh.wd = "out")) = true := by
          by_cases a : hh.wd = "in"
          · rw [decide_eq_true a]; rfl
          · rw [decide_eq_true (Classical.byContradiction fun z => cc ⟨a, z⟩ : hh.wd = "out"), Bool.or_true]
        rw [v2]
        refine if_bl (fun z => nomatch z) (fun _ => ⟨?_, s6⟩)
        rw [filt_succ, if_neg (fun z => cc (by have := of_decide_eq_true z; rw [ehi] at this; exact ⟨fun y => this.1 (congrArg some y), fun y => this.2 (congrArg some y)⟩)), List.append_nil]
        exact hD6
    · rintro H5 ⟨hD, s5⟩
      have few := filt_len (p := fun k => decide (hs[k]?.map HR.wd ≠ some ("in" : Str) ∧ hs[k]?.map HR.wd ≠ some ("out" : Str))) hv.length
      refine ⟨eD, fl, D, _, rfl, s5 _ _ hfl, n1, n2, hD, F1.ne nD, F1.nec nD, ?_, by omega, fun k hk => ?_, F1.same s5, B1.same s5⟩
      · obtain ⟨h, hm, w1, w2⟩ := some1
        obtain ⟨j, ej⟩ := List.getElem?_of_mem hm
        have jl := (List.getElem?_eq_some_iff.mp ej).1
        exact List.ne_nil_of_mem (List.mem_filter.mpr ⟨List.mem_range.mpr (lhv ▸ jl), decide_eq_true ⟨by rw [ej]; exact fun z => w2 (Option.some.inj z), by rw [ej]; exact fun z => w1 (Option.some.inj z)⟩⟩)
      · obtain ⟨k1, k2⟩ := List.mem_filter.mp hk
        have k2 := of_decide_eq_true k2
        refine ⟨lhv ▸ List.mem_range.mp k1, fun z => ?_, fun z => ?_⟩
        · obtain ⟨h, e, w⟩ := mem_doors.mp z
          exact k2.1 (by rw [e, ← w]; rfl)
        · obtain ⟨h, e, w⟩ := mem_doors.mp z
          exact k2.2 (by rw [e, ← w]; rfl)
  refine ⟨_, rfl, r, _, _, _, rfl, rfl, SqT.of er, atI_nat (j := 0) rfl, ?_⟩
  refine ⟨_, rfl, ha, rfl, ⟨_, SqT.of eh⟩, fun D nD => lc_tup (K := K) (a := ha) (xs := hv) (fun i H5 => H5 D = some (.lst ((List.range i).map fun k => V.int (if hs[k]?.map HR.wd = some ("in" : Str) then 0 else late))) ∧ Same H H5) ⟨upd_same, same_new nD⟩ (fun i H5 _ ⟨_, s5⟩ => SqT.of (s5 _ _ eh)) ?_ ?_⟩
  · rintro i x H5 hx ⟨hD, s5⟩
    obtain ⟨hh, ehi, ⟨t, rr, rfl, e1, e2⟩⟩ := alh.getL hx
    have gh := ok.good _ (List.mem_of_getElem? ehi)
    refine ⟨rfl, yes_in ⟨_, rfl, _, rfl, t, _, _, _, rfl, rfl, SqT.of (s5 _ _ e1), atI_nat (j := 0) rfl, (by show 1 ≤ sizeLine; decide), fun o1 no1 => ?_⟩⟩
    have s6 := s5.trans (same_new (o := .tup [V.str "in"]) no1)
    refine ⟨_, _, rule_dp (s6 _ _ e2), .tup (SqT.of upd_same) (.cons (.str _) .nil), rule_shaped gh.lay, one_shaped (by decide +kernel), ?_⟩
    refine .inr ⟨_, rfl, _, _, rfl, rfl, ?_⟩
    rw [rule_eqv, gh.door "in" (.inl rfl)]
    have sm : ∀ z : Int, z = 0 ∨ z = 1 → CMul late z := fun z hz => by
      have a1 : -(2 ^ 64 : Int) < 0 := by decide
      have a2 : (6 : Int) < 2 ^ 64 := by decide
      exact .inl ⟨by omega, by omega⟩
    have hD6 := same_new (o := .tup [V.str "in"]) no1 _ _ hD
    have il := (List.getElem?_eq_some_iff.mp ehi).1
    by_cases cc : hh.wd = "in"
    · rw [decide_eq_true cc]
      refine ⟨sm _ (.inl rfl), _, hD6, by rw [List.length_map, List.length_range]; exact small1000 (by omega), ?_, Same.own s6 nD⟩
      rw [upd_same, List.range_succ, List.map_append]
      show some (HO.lst (_ ++ [V.int (late * 0)])) = some (HO.lst (_ ++ [V.int (if hs[i]?.map HR.wd = some ("in" : Str) then 0 else late)]))
      rw [ehi, if_pos (by rw [← cc]; rfl), Int.mul_zero]
    · rw [decide_eq_false cc]
      refine ⟨sm _ (.inr rfl), _, hD6, by rw [List.length_map, List.length_range]; exact small1000 (by omega), ?_, Same.own s6 nD⟩
      rw [upd_same, List.range_succ, List.map_append]
      show some (HO.lst (_ ++ [V.int (late * 1)])) = some (HO.lst (_ ++ [V.int (if hs[i]?.map HR.wd = some ("in" : Str) then 0 else late)]))
      rw [ehi, if_neg (show ¬ Option.map HR.wd (some hh) = some ("in" : Str) from fun z => cc (Option.some.inj z)), Int.mul_one]
  · rintro H5 ⟨hD, s5⟩
    have F5 := hF.same s5
    exact ⟨rfl, D, rfl, by rw [hD, lhv], hF.ne nD, hF.nec nD, F5, fun b o e _ => s5 b o e⟩
end
theorem op_notB {X : Cx} : OpR X (compareOp .IsNot) (fun x y H Q => ∃ a b : Bool, x = .bl a ∧ y = .bl b ∧ Q (.bl (!decide (a = b))) H) := by
  intro pins s σ H x y v u Q I rx ry h
  obtain ⟨a, b, rfl, rfl, q⟩ := h
  obtain rfl : v = Value.bool a := rx
  obtain rfl : u = Value.bool b := ry
  exact wpAny_isNot_plain rfl (fin_bl I q (by cases a <;> cases b <;> rfl))
theorem op_isB {X : Cx} : OpR X (compareOp .Is) (fun x y H Q => ∃ a b : Bool, x = .bl a ∧ y = .bl b ∧ Q (.bl (decide (a = b))) H) := by
  intro pins s σ H x y v u Q I rx ry h
  obtain ⟨a, b, rfl, rfl, q⟩ := h
  obtain rfl : v = Value.bool a := rx
  obtain rfl : u = Value.bool b := ry
  exact wpAny_is_plain rfl (fin_bl I q (by cases a <;> cases b <;> rfl))
/-! ### things spoilt, what is due, what is told -/
theorem ref_one {hs : List HR} {bs : List BR} {late : Int} {sh : Nat → Int} {wd wd' : Str} {k k' : Nat} (a : Ref34 hs bs late sh wd k) (b : Ref34 hs bs late sh wd' k') : wd = wd' ∧ k = k' := by
  rcases a with ⟨rfl, m1, l1⟩ | ⟨rfl, e1, b1, g1, n1, low1⟩
  · rcases b with ⟨rfl, m2, l2⟩ | ⟨rfl, e2, _⟩
    · have := l1 k' m2
      have := l2 k m1
      exact ⟨rfl, by omega⟩
    · rw [e2] at m1
      cases m1
  · rcases b with ⟨rfl, m2, _⟩ | ⟨rfl, _, b2, g2, n2, low2⟩
    · rw [e1] at m2
      cases m2
    · refine ⟨rfl, ?_⟩
      rcases Nat.lt_trichotomy k k' with h | h | h
      · have := low2 k b1 h g1
        omega
      · exact h
      · have := low1 k' b2 h g2
        omega
theorem ref_bad {hs : List HR} {bs : List BR} {late : Int} {sh : Nat → Int} {wd : Str} {k : Nat} (gd : Good33 hs bs late sh) (r : Ref34 hs bs late sh wd k) : False := by
  rcases r with ⟨_, h1, _⟩ | ⟨_, _, b, e, n, _⟩
  · rcases List.mem_append.mp h1 with h | h
    · obtain ⟨h1, h2⟩ := List.mem_filter.mp h
      rw [gd.ins k h1] at h2
      cases h2
    · obtain ⟨h1, h2⟩ := List.mem_filter.mp h
      rw [gd.outs k h1, decide_eq_true rfl] at h2
      cases h2
  · have := gd.tr b (List.mem_of_getElem? e)
    omega
/-- with what it is refused -/
def Dr (hs : List HR) (bs : List BR) (late : Int) (o : Option (List V)) (wd : Str) (ks : List Nat) : Prop := (okT hs.length o = false ∧ wd = "form" ∧ ks = []) ∨ (okT hs.length o = true ∧ ∃ k, ks = [k] ∧ Ref34 hs bs late (shO o) wd k)
theorem Dr.one {hs : List HR} {bs : List BR} {late : Int} {o : Option (List V)} {wd wd' : Str} {ks ks' : List Nat} (a : Dr hs bs late o wd ks) (b : Dr hs bs late o wd' ks') : wd = wd' ∧ ks = ks' := by
  rcases a with ⟨e1, rfl, rfl⟩ | ⟨e1, k, rfl, r1⟩
  · rcases b with ⟨_, rfl, rfl⟩ | ⟨e2, _⟩
    · exact ⟨rfl, rfl⟩
    · rw [e1] at e2; cases e2
  · rcases b with ⟨e2, _⟩ | ⟨_, k', rfl, r2⟩
    · rw [e1] at e2; cases e2
    · obtain ⟨rfl, rfl⟩ := ref_one r1 r2
      exact ⟨rfl, rfl⟩
theorem Dr.not {hs : List HR} {bs : List BR} {late : Int} {o : Option (List V)} {wd : Str} {ks : List Nat} (a : Dr hs bs late o wd ks) (e : okT hs.length o = true) (g : Good33 hs bs late (shO o)) : False := by
  rcases a with ⟨e1, _⟩ | ⟨_, k, _, r⟩
  · rw [e] at e1; cases e1
  · exact ref_bad g r
theorem Dr.wds {hs : List HR} {bs : List BR} {late : Int} {o : Option (List V)} {wd : Str} {ks : List Nat} (a : Dr hs bs late o wd ks) : wd = "form" ∨ wd = "door" ∨ wd = "belt" := by
  rcases a with ⟨_, e, _⟩ | ⟨_, k, _, ⟨e, _⟩ | ⟨e, _⟩⟩
  · exact .inl e
  · exact .inr (.inl e)
  · exact .inr (.inr e)
theorem shO_lev {n i : Nat} {sh : Nat → Int} (h : i < n) : shO (some (levL n sh)) i = sh i := by
  unfold shO
  show (match (levL n sh)[i]? with | some (.int v) => v | _ => 0) = _
  rw [rg_at h]
theorem okT_levL {n : Nat} {sh : Nat → Int} : okT n (some (levL n sh)) = true := by
  unfold okT
  rw [Bool.and_eq_true, decide_eq_true_eq, List.length_map, List.length_range]
  refine ⟨rfl, List.all_eq_true.mpr fun x hx => ?_⟩
  obtain ⟨k, _, rfl⟩ := List.mem_map.mp hx
  rfl
theorem good_lev {hs : List HR} {bs : List BR} {late : Int} {sh : Nat → Int} (ok : RoomOk hs bs) (g : Good33 hs bs late sh) : Good33 hs bs late (shO (some (levL hs.length sh))) := by
  refine ⟨fun k hk => ?_, fun k hk => ?_, fun b hb => ?_⟩
  · rw [shO_lev (door_lt hk)]; exact g.ins k hk
  · rw [shO_lev (door_lt hk)]; exact g.outs k hk
  · obtain ⟨l1, l2⟩ := ok.ends b hb
    unfold trS
    rw [shO_lev l1, shO_lev l2]
    exact g.tr b hb
/-- at most n things -/
def Few (n : Nat) (o : Option (List V)) : Prop := ∀ xs, o = some xs → xs.length ≤ n
section
variable {P : Program} {w : World} {K : PySem.W.Frag} {mg : Str → Option Value} {base : Heap}
def sp_law_whole (K : PySem.W.Frag) : Sp := fun vs H Q _ => ∃ (f : Addr) (x : V), vs = [x] ∧ ItOk f H x ∧ Q (.bl (isW x)) H
theorem ok_law_whole {f : Addr} {fd : FuncData} (F : Fun K "_law_whole" "_law_whole" s_law_whole f fd) (T : Top K mg) : FnOk P w K mg base CX0 1 f fd ["_law_thing_here"] (sp_law_whole K) := by
  refine F.ok sc_law_whole (fun vs H Q E h => ?_) (fun cdv A outer s H vs Q E hr h => ?_)
  · obtain ⟨f, x, rfl, _⟩ := h
    rfl
  obtain ⟨f, x, rfl, hx, q⟩ := h
  obtain ⟨t, a, b, ty, k1, k2, ew⟩ := hx.ty (K := K)
  refine ⟨_, (pss_one (ps_ret (pe_and (pe_callB (call_isiKK K rfl) (by rfl) T.m_isinstance (by decide +kernel) (pa_cons (pv 0) (pa_cons (pe_bltn (v := .ty "int") (by rfl) T.m_int (by decide +kernel) rfl) pa_nil))) (pe_one (pe_not (pe_callB (call_isiKK K rfl) (by rfl) T.m_isinstance (by decide +kernel) (pa_cons (pv 0) (pa_cons (pe_bltn (v := .ty "bool") (by rfl) T.m_bool (by decide +kernel) rfl) pa_nil)))))))), ?_⟩
  rw [ew] at q
  refine ⟨_, rfl, _, _, _, _, a, rfl, .ty "int", ty, k1, _, rfl, ?_⟩
  cases a with
  | false => exact if_bl (fun z => nomatch z) (fun _ => q)
  | true => exact if_bl (fun _ => ⟨_, rfl, _, _, _, _, b, rfl, .ty "bool", ty, k2, _, rfl, q⟩) (fun z => nomatch z)
def sp_law_spoilt (K : PySem.W.Frag) : Sp := fun vs H Q _ => ∃ (f c : Addr) (way : Int) (v : V) (o : Option (List V)) (n : Nat), vs = [.ref f, .int way, v] ∧ Flow H f c ∧ ThOk f H v o ∧ Few n o ∧ n ≤ 20 ∧
  ∀ (v' : V) (o' : Option (List V)) (H' : Hp), ThOk f H' v' o' → Few (n + 1) o' → Flow H' f c → But f H H' → Q v' H'
theorem ok_law_spoilt {f : Addr} {fd : FuncData} (F : Fun K "_law_spoilt" "_law_spoilt" s_law_spoilt f fd) (T : Top K mg) : FnOk P w K mg base CX0 2 f fd ["_law_flow_here", "_law_way", "_law_shifts_here"] (sp_law_spoilt K) := by
  obtain ⟨f_law_pick, fd_law_pick, F_law_pick, b_law_pick, m_law_pick⟩ := T.d_law_pick
  have G_law_pick := ok_law_pick (P := P) (w := w) (base := base) F_law_pick T
  obtain ⟨f_law_whole, fd_law_whole, F_law_whole, b_law_whole, m_law_whole⟩ := T.d_law_whole
  have G_law_whole := ok_law_whole (P := P) (w := w) (base := base) F_law_whole T
  refine F.ok sc_law_spoilt (fun vs H Q E h => ?_) (fun cdv A outer s H vs Q E hr h => ?_)
  · obtain ⟨f, c, way, v, o, n, rfl, _⟩ := h
    rfl
  obtain ⟨f, c, way, v, o, n, rfl, hF, hT, few, n20, q⟩ := h
  obtain ⟨t, ty, kt⟩ := hT.ty (K := K)
  refine ⟨_, (pss_cons (ps_if (pt_not (pt_val (pe_callB (call_isiKK K rfl) (by rfl) T.m_isinstance (by decide +kernel) (pa_cons (pv 2) (pa_cons (pe_bltn (v := .ty "tuple") (by rfl) T.m_tuple (by decide +kernel) rfl) pa_nil))))) (pss_one (ps_ret (pv 2))) pss_nil)
      (pss_cons (ps_set (i := 3) sc_law_spoilt.nd rfl (Or.inl rfl) (pe_call G_law_pick (hr.mono (by decide)) (by rfl) m_law_pick F_law_pick.kp b_law_pick .nil pass0 (pa_cons (pv 0) (pa_cons (pe_op op_add (pe_callB (call_len_seqK K rfl) (by rfl) T.m_len (by decide +kernel) (pa_cons (pv 2) pa_nil)) pe_int) pa_nil))))
      (pss_cons (ps_if (pt_cmpR op_eq (pv 1) pe_int (nomark _)) (pss_one (ps_ret (pe_op (op_catAK K rfl) (pe_op (op_catAK K rfl) (pe_slice (sl_tupAK K rfl) (pv 2) po_none (po_some (pv 3))) (pe_tup (pa_cons (pe_op op_sub (pe_call G_law_pick (hr.mono (by decide)) (by rfl) m_law_pick F_law_pick.kp b_law_pick .nil pass0 (pa_cons (pv 0) (pa_cons pe_int pa_nil))) pe_int) pa_nil))) (pe_slice (sl_tupAK K rfl) (pv 2) (po_some (pv 3)) po_none)))) pss_nil)
      (pss_cons (ps_if (pt_cmpR op_eq (pv 1) pe_int (nomark _)) (pss_one (ps_ret (pe_op (op_catAK K rfl) (pe_slice (sl_tupAK K rfl) (pv 2) po_none (po_some (pv 3))) (pe_slice (sl_tupAK K rfl) (pv 2) (po_some (pe_op op_add (pv 3) pe_int)) po_none)))) pss_nil)
      (pss_cons (ps_if (pt_cmpR op_eq (pv 1) pe_int (nomark _)) (pss_cons (ps_set (i := 4) sc_law_spoilt.nd rfl (Or.inl rfl) (pe_ix (ix_listK K rfl) (pe_lst (pa_cons pe_non (pa_cons pe_bl (pa_cons pe_bl (pa_cons pe_str (pa_cons (pe_tup (pa_cons pe_int pa_nil)) (pa_cons (pe_lst (pa_cons pe_int pa_nil)) (pa_cons pe_str pa_nil)))))))) (pe_call G_law_pick (hr.mono (by decide)) (by rfl) m_law_pick F_law_pick.kp b_law_pick .nil pass0 (pa_cons (pv 0) (pa_cons pe_int pa_nil))) (fun _ _ => rfl)))
      (pss_one (ps_ret (pe_op (op_catAK K rfl) (pe_op (op_catAK K rfl) (pe_slice (sl_tupAK K rfl) (pv 2) po_none (po_some (pv 3))) (pe_tup (pa_cons (pv 4) pa_nil))) (pe_slice (sl_tupAK K rfl) (pv 2) (po_some (pe_op op_add (pv 3) pe_int)) po_none))))) pss_nil)
      (pss_cons (ps_if (pt_cmpR op_eq (pv 1) pe_int (nomark _)) (pss_one (ps_ret (pe_ix (ix_listK K rfl) (pe_lst (pa_cons (pe_callTy (call_list_ofK K rfl) (by rfl) T.m_list (by decide +kernel) (pa_cons (pv 2) pa_nil)) (pa_cons pe_non (pa_cons pe_str (pa_cons pe_int (pa_cons (pe_tup pa_nil) pa_nil)))))) (pe_call G_law_pick (hr.mono (by decide)) (by rfl) m_law_pick F_law_pick.kp b_law_pick .nil pass0 (pa_cons (pv 0) (pa_cons pe_int pa_nil))) (fun _ _ => rfl)))) pss_nil)
      (pss_cons (ps_if (PW.pt (pw_and (pt_cmpR op_lt (pv 3) (pe_callB (call_len_seqK K rfl) (by rfl) T.m_len (by decide +kernel) (pa_cons (pv 2) pa_nil)) (nomark _)) (pw_and1 (pt_val (pe_call G_law_whole (hr.mono (by decide)) (by rfl) m_law_whole F_law_whole.kp b_law_whole .nil pass0 (pa_cons (pe_ix (ix_tupK K rfl) (pv 2) (pv 3) (fun _ _ => rfl)) pa_nil)))))) (pss_cons (ps_set (i := 5) sc_law_spoilt.nd rfl (Or.inl rfl) (pe_callB (call_max2 rfl) (by rfl) T.m_max (by decide +kernel) (pa_cons (pe_un un_neg pe_int) (pa_cons (pe_callB (call_min2 rfl) (by rfl) T.m_min (by decide +kernel) (pa_cons pe_int (pa_cons (pe_op op_sub (pe_op op_add (pe_ix (ix_tupK K rfl) (pv 2) (pv 3) (fun _ _ => rfl)) (pe_call G_law_pick (hr.mono (by decide)) (by rfl) m_law_pick F_law_pick.kp b_law_pick .nil pass0 (pa_cons (pv 0) (pa_cons pe_int pa_nil)))) pe_int) pa_nil))) pa_nil))))
      (pss_one (ps_ret (pe_op (op_catAK K rfl) (pe_op (op_catAK K rfl) (pe_slice (sl_tupAK K rfl) (pv 2) po_none (po_some (pv 3))) (pe_tup (pa_cons (pv 5) pa_nil))) (pe_slice (sl_tupAK K rfl) (pv 2) (po_some (pe_op op_add (pv 3) pe_int)) po_none))))) pss_nil)
      (pss_one (ps_ret (pv 2)))))))))), ?_⟩
  refine ⟨_, rfl, _, _, _, _, o.isSome, rfl, .ty "tuple", ty, kt, _, rfl, ?_⟩
  cases o with
  | none => exact if_bl (fun _ => ⟨_, rfl, q v none H hT (fun _ z => nomatch z) hF But.refl⟩) (fun z => nomatch z)
  | some xs =>
  obtain ⟨sl, rfl, hsl, nsl, its⟩ := hT.tupx
  have lx := few xs rfl
  refine if_bl (fun z => nomatch z) (fun _ => ?_)
  refine ⟨_, rfl, _, rfl, sl, _, rfl, .inr (SqT.of hsl), _, _, rfl, rfl, f, c, ((xs.length : Nat) : Int) + 1, rfl, by omega, log_small (m := xs.length + 1) (by omega), hF, fun kk H3 k0 k1 F3 B3 => ?_⟩
  obtain ⟨k, rfl⟩ : ∃ n : Nat, kk = ((n : Nat) : Int) := ⟨kk.toNat, by omega⟩
  have kl : k ≤ xs.length := by omega
  have hsl3 := TK.but hF B3 _ _ hsl
  have its3 : ∀ x ∈ xs, ItOk f H3 x := fun x hx => (its x hx).imp (fun p _ e n => B3 p _ e n) (fun p _ e n => B3 p _ e n)
  have some_end : ∀ k : Nat, cutV xs (some (((k : Nat) : Int) + 1)) none = xs.drop (k + 1) := fun k => by rw [show ((k : Nat) : Int) + 1 = ((k + 1 : Nat) : Int) by omega, cut_drop]
  have fin : ∀ (p : Addr) (ys : List V) (H' : Hp), Flow H' f c → But f H3 H' → H' p = some (.tup ys) → (∀ x ∈ ys, x ∈ xs ∨ ItOk f H' x) → ys.length ≤ n + 1 → Q (.ref p) H' := fun p ys H' F b hp h l =>
    q _ (some ys) H' (.tup hp (F.tup hp) fun x hx => (h x hx).elim (fun m => (its3 x m).imp (fun p _ e n => b p _ e n) (fun p _ e n => b p _ e n)) id) (fun _ z => by cases z; exact l) F (B3.trans b)
  have mid : ∀ {H' : Hp} {x : V} {j : Nat}, (ItOk f H' x) → ∀ y ∈ xs.take k ++ [x] ++ xs.drop j, y ∈ xs ∨ ItOk f H' y := fun hx y hy => by
    rcases List.mem_append.mp hy with hy | hy
    · rcases List.mem_append.mp hy with hy | hy
      · exact .inl (List.mem_of_mem_take hy)
      · rw [List.mem_singleton.mp hy]; exact .inr hx
    · exact .inl (List.mem_of_mem_drop hy)
  have len1 : ∀ {x : V} {j : Nat}, k ≤ j → (xs.take k ++ [x] ++ xs.drop j).length ≤ n + 1 := fun {x j} h => by
    rw [List.length_append, List.length_append, List.length_take, List.length_drop]
    show _ + 1 + _ ≤ n + 1
    omega
  refine ⟨_, rfl, rfl, _, rfl, if_bl (fun _ => ?_) (fun _ => ?_)⟩
  · refine ⟨_, rfl, ?_⟩
    dsimp only [tNoPart]
    refine ⟨_, rfl, _, rfl, slA_of hsl3 fun p1 H4 h1 s4 => ?_⟩
    rw [cut_take] at h1
    refine ⟨_, rfl, f, c, 9, rfl, by decide, by decide +kernel, F3.same s4, fun v5 H5 w0 w1 F5 B5 => ?_⟩
    have k5 := TK.but (F3.same s4) B5
    refine ⟨_, _, rfl, rfl, (by show 1 ≤ sizeLine; decide), fun p2 np2 => ?_⟩
    have t2 := same_new (o := .tup [V.int (v5 - 4)]) np2
    refine catA_of (t2 _ _ (k5 _ _ h1)) upd_same (by rw [List.length_take]; show _ + 1 ≤ 1000; omega) fun p3 H6 h3 s6 => ?_
    have t6 := t2.trans s6
    refine ⟨_, rfl, _, rfl, ?_⟩
    dsimp only [tNoPart]
    refine ⟨_, rfl, slA_of (t6 _ _ (k5 _ _ (s4 _ _ hsl3))) fun p4 H7 h4 s7 => ?_⟩
    rw [cut_drop] at h4
    refine catA_of (s7 _ _ h3) h4 (by rw [List.length_append, List.length_take, List.length_drop]; show _ + 1 + _ ≤ 1000; omega) fun p5 H8 h5 s8 => ?_
    have t8 := t6.trans (s7.trans s8)
    exact fin p5 _ H8 (F5.same t8) (((But.refl.same s4).trans B5).same t8) h5 (mid (.int _)) (len1 (Nat.le_refl _))
  refine ⟨_, rfl, rfl, _, rfl, if_bl (fun _ => ?_) (fun _ => ?_)⟩
  · refine ⟨_, rfl, ?_⟩
    dsimp only [tNoPart]
    refine ⟨_, rfl, _, rfl, slA_of hsl3 fun p1 H4 h1 s4 => ?_⟩
    rw [cut_take] at h1
    refine ⟨_, rfl, _, rfl, _, _, rfl, rfl, ?_⟩
    dsimp only [tNoPart]
    refine ⟨_, rfl, slA_of (s4 _ _ hsl3) fun p4 H7 h4 s7 => ?_⟩
    rw [some_end] at h4
    refine catA_of (s7 _ _ h1) h4 (by rw [List.length_take, List.length_drop]; omega) fun p5 H8 h5 s8 => ?_
    have t8 := s4.trans (s7.trans s8)
    refine fin p5 _ H8 (F3.same t8) (But.refl.same t8) h5 (fun y hy => .inl ?_) (by rw [List.length_append, List.length_take, List.length_drop]; omega)
    rcases List.mem_append.mp hy with hy | hy
    · exact List.mem_of_mem_take hy
    · exact List.mem_of_mem_drop hy
  refine ⟨_, rfl, rfl, _, rfl, if_bl (fun _ => ?_) (fun _ => ?_)⟩
  · refine ⟨(by show 1 ≤ sizeLine; decide), fun tp ntp => ⟨(by show 1 ≤ sizeLine; decide), fun lp nlp => ⟨(by show 7 ≤ sizeLine; decide), fun L nL => ?_⟩⟩⟩
    have u1 := same_new (o := .tup [V.int 0]) ntp
    have u2 := same_new (o := .lst [V.int 0]) nlp
    have u3 := same_new (o := .lst [V.non, .bl true, .bl false, .str "0", .ref tp, .ref lp, .str ""]) nL
    have nlf := (F3.same u1).ne nlp
    have nLf := ((F3.same u1).same u2).ne nL
    have htp := (u2.trans u3) _ _ (upd_same (H := H3) (a := tp) (o := .tup [V.int 0]))
    have hlp := u3 _ _ (upd_same (H := upd H3 tp (.tup [V.int 0])) (a := lp) (o := .lst [V.int 0]))
    have hL := upd_same (H := upd (upd H3 tp (.tup [V.int 0])) lp (.lst [V.int 0])) (a := L) (o := .lst [V.non, .bl true, .bl false, .str "0", .ref tp, .ref lp, .str ""])
    have u := (u1.trans u2).trans u3
    generalize upd (upd (upd H3 tp (.tup [V.int 0])) lp (.lst [V.int 0])) L _ = H4 at *
    have F4 := F3.same u
    refine ⟨_, rfl, f, c, 7, rfl, by decide, by decide +kernel, F4, fun v5 H5 w0 w1 F5 B5 => ?_⟩
    have k5 := TK.but F4 B5
    obtain ⟨x, hx, ex⟩ : ∃ x : V, ItOk f H5 x ∧ atI [V.non, .bl true, .bl false, .str "0", .ref tp, .ref lp, .str ""] v5 = some x := by
      have : v5 = 0 ∨ v5 = 1 ∨ v5 = 2 ∨ v5 = 3 ∨ v5 = 4 ∨ v5 = 5 ∨ v5 = 6 := by omega
      rcases this with rfl | rfl | rfl | rfl | rfl | rfl | rfl
      · exact ⟨_, .non, rfl⟩
      · exact ⟨_, .bl _, rfl⟩
      · exact ⟨_, .bl _, rfl⟩
      · exact ⟨_, .str _, rfl⟩
      · exact ⟨_, .tup (k5 _ _ htp) (F5.tup (k5 _ _ htp)), rfl⟩
      · exact ⟨_, .lst (B5 _ _ hlp nlf) nlf, rfl⟩
      · exact ⟨_, .str _, rfl⟩
    refine ⟨L, _, _, x, rfl, rfl, SqL.of (B5 _ _ hL nLf), ex, ?_⟩
    have hsl5 := k5 _ _ (u _ _ hsl3)
    have b5 := (But.refl.same u).trans B5
    refine ⟨_, rfl, ?_⟩
    dsimp only [tNoPart]
    refine ⟨_, rfl, _, rfl, slA_of hsl5 fun p1 H6 h1 s6 => ?_⟩
    rw [cut_take] at h1
    refine ⟨_, rfl, (by show 1 ≤ sizeLine; decide), fun p2 np2 => ?_⟩
    have t2 := same_new (o := .tup [x]) np2
    refine catA_of (t2 _ _ h1) upd_same (by rw [List.length_take]; show _ + 1 ≤ 1000; omega) fun p3 H7 h3 s7 => ?_
    have t7 := s6.trans (t2.trans s7)
    refine ⟨_, rfl, _, rfl, _, _, rfl, rfl, ?_⟩
    dsimp only [tNoPart]
    refine ⟨_, rfl, slA_of (t7 _ _ hsl5) fun p4 H8 h4 s8 => ?_⟩
    rw [some_end] at h4
    refine catA_of (s8 _ _ h3) h4 (by rw [List.length_append, List.length_take, List.length_drop]; show _ + 1 + _ ≤ 1000; omega) fun p5 H9 h5 s9 => ?_
    have t9 := t7.trans (s8.trans s9)
    exact fin p5 _ H9 (F5.same t9) (b5.same t9) h5 (mid (hx.imp (fun p _ e _ => t9 p _ e) (fun p _ e _ => t9 p _ e))) (len1 (Nat.le_succ _))
  refine ⟨_, rfl, rfl, _, rfl, if_bl (fun _ => ?_) (fun _ => ?_)⟩
  · refine ⟨_, rfl, sl, _, rfl, .inr (SqT.of hsl3), fun lp nlp => ⟨(by show 0 ≤ sizeLine; decide), fun tp ntp => ⟨(by show 5 ≤ sizeLine; decide), fun L nL => ?_⟩⟩⟩
    have u1 := same_new (o := .lst xs) nlp
    have u2 := same_new (o := .tup []) ntp
    have u3 := same_new (o := .lst [V.ref lp, .non, .str "shifts", .int 0, .ref tp]) nL
    have nlf := F3.ne nlp
    have nLf := ((F3.same u1).same u2).ne nL
    have hlp := (u2.trans u3) _ _ (upd_same (H := H3) (a := lp) (o := .lst xs))
    have htp := u3 _ _ (upd_same (H := upd H3 lp (.lst xs)) (a := tp) (o := .tup []))
    have hL := upd_same (H := upd (upd H3 lp (.lst xs)) tp (.tup [])) (a := L) (o := .lst [V.ref lp, .non, .str "shifts", .int 0, .ref tp])
    have u := (u1.trans u2).trans u3
    generalize upd (upd (upd H3 lp (.lst xs)) tp (.tup [])) L _ = H4 at *
    have F4 := F3.same u
    refine ⟨_, rfl, f, c, 5, rfl, by decide, by decide +kernel, F4, fun v5 H5 w0 w1 F5 B5 => ?_⟩
    have k5 := TK.but F4 B5
    obtain ⟨x, o', hx, fw, ex⟩ : ∃ (x : V) (o' : Option (List V)), ThOk f H5 x o' ∧ Few (n + 1) o' ∧ atI [V.ref lp, .non, .str "shifts", .int 0, .ref tp] v5 = some x := by
      have : v5 = 0 ∨ v5 = 1 ∨ v5 = 2 ∨ v5 = 3 ∨ v5 = 4 := by omega
      rcases this with rfl | rfl | rfl | rfl | rfl
      · exact ⟨_, none, .lst (B5 _ _ hlp nlf) nlf, (fun _ z => nomatch z), rfl⟩
      · exact ⟨_, none, .non, (fun _ z => nomatch z), rfl⟩
      · exact ⟨_, none, .str _, (fun _ z => nomatch z), rfl⟩
      · exact ⟨_, none, .int _, (fun _ z => nomatch z), rfl⟩
      · exact ⟨_, some [], .tup (k5 _ _ htp) (F5.tup (k5 _ _ htp)) (fun _ z => nomatch z), (fun _ z => by cases z; exact Nat.zero_le _), rfl⟩
    refine ⟨L, _, _, x, rfl, rfl, SqL.of (B5 _ _ hL nLf), ex, ?_⟩
    exact q x o' H5 hx fw F5 (B3.trans ((But.refl.same u).trans B5))
  have same : Q (.ref sl) H3 := q _ (some xs) H3 (.tup hsl3 (F3.tup hsl3) its3) (fun _ z => by cases z; omega) F3 B3
  refine ⟨_, rfl, _, rfl, sl, _, rfl, .inr (SqT.of hsl3), _, _, rfl, rfl, _, rfl, if_bl (fun z => ?_) (fun _ => if_bl (fun z => nomatch z) (fun _ => ⟨_, rfl, same⟩))⟩
  have kl : k < xs.length := by
    have := of_decide_eq_true z
    omega
  obtain ⟨x, ex⟩ : ∃ x, xs[k]? = some x := ⟨_, List.getElem?_eq_getElem kl⟩
  have hx := its3 x (List.mem_of_getElem? ex)
  refine ⟨_, rfl, _, rfl, sl, _, _, _, rfl, rfl, SqT.of hsl3, atI_nat ex, f, x, rfl, hx, _, rfl, if_bl (fun w => ?_) (fun _ => ⟨_, rfl, same⟩)⟩
  obtain ⟨m, rfl⟩ : ∃ m : Int, x = .int m := by
    cases x with
    | int m => exact ⟨m, rfl⟩
    | _ => cases w
  refine ⟨_, rfl, _, rfl, _, rfl, sl, _, _, _, rfl, rfl, SqT.of hsl3, atI_nat ex, _, rfl, f, c, 41, rfl, by decide, by decide +kernel, F3, fun v5 H5 w0 w1 F5 B5 => ?_⟩
  have k5 := TK.but F3 B5
  refine ⟨_, _, rfl, rfl, _, _, rfl, rfl, _, _, rfl, _, _, rfl, ?_⟩
  have hsl5 := k5 _ _ hsl3
  refine ⟨_, rfl, ?_⟩
  dsimp only [tNoPart]
  refine ⟨_, rfl, _, rfl, slA_of hsl5 fun p1 H6 h1 s6 => ?_⟩
  rw [cut_take] at h1
  refine ⟨_, rfl, (by show 1 ≤ sizeLine; decide), fun p2 np2 => ?_⟩
  refine catA_of (same_new np2 _ _ h1) upd_same (by rw [List.length_take]; show _ + 1 ≤ 1000; omega) fun p3 H7 h3 s7 => ?_
  have t7 := s6.trans ((same_new np2).trans s7)
  refine ⟨_, rfl, _, rfl, _, _, rfl, rfl, ?_⟩
  dsimp only [tNoPart]
  refine ⟨_, rfl, slA_of (t7 _ _ hsl5) fun p4 H8 h4 s8 => ?_⟩
  rw [some_end] at h4
  refine catA_of (s8 _ _ h3) h4 (by rw [List.length_append, List.length_take, List.length_drop]; show _ + 1 + _ ≤ 1000; omega) fun p5 H9 h5 s9 => ?_
  have t9 := t7.trans (s8.trans s9)
  exact fin p5 _ H9 (F5.same t9) (B5.same t9) h5 (mid (.int _)) (len1 (Nat.le_succ _))
end
section
variable {P : Program} {w : World} {K : PySem.W.Frag} {mg : Str → Option Value} {base : Heap}
def sp_law_due (K : PySem.W.Frag) : Sp := fun vs H Q _ => ∃ (f r : Addr) (v : V) (hs : List HR) (bs : List BR) (late : Int) (o : Option (List V)), vs = [.ref r, .int late, v] ∧ RoomAt H r hs bs ∧ RoomOk hs bs ∧ ThOk f H v o ∧
  (∀ H', okT hs.length o = true → Good33 hs bs late (shO o) → Same H H' → Q .non H') ∧
  ∀ (p t : Addr) (wd : Str) (ks : List Nat) (H' : Hp), Dr hs bs late o wd ks → H' p = some (.tup [.str wd, .ref t]) → H' t = some (.tup (ks.map nV)) → Same H H' → Q (.ref p) H'
theorem ok_law_due {f : Addr} {fd : FuncData} (F : Fun K "_law_due" "_law_due" s_law_due f fd) (T : Top K mg) : FnOk P w K mg base CX0 2 f fd ["_law_room_here", "_law_late", "_law_shifts_here"] (sp_law_due K) := by
  obtain ⟨f_law_whole, fd_law_whole, F_law_whole, b_law_whole, m_law_whole⟩ := T.d_law_whole
  have G_law_whole := ok_law_whole (P := P) (w := w) (base := base) F_law_whole T
  obtain ⟨f_law_trays, fd_law_trays, F_law_trays, b_law_trays, m_law_trays⟩ := T.d_law_trays
  have G_law_trays := ok_law_trays (P := P) (w := w) (base := base) F_law_trays T
  refine F.ok sc_law_due (fun vs H Q E h => ?_) (fun cdv A outer s H vs Q E hr h => ?_)
  · obtain ⟨f, r, v, hs, bs, late, o, rfl, _⟩ := h
    rfl
  obtain ⟨f, r, v, hs, bs, late, o, rfl, hR, ok, hT, q1, q2⟩ := h
  obtain ⟨ha, ba, hv, bv, er, eh, eb, alh, alb⟩ := id hR.ex
  have lhv := alh.length
  have lh := ok.hands
  have lb := ok.many
  obtain ⟨t, ty, kt⟩ := hT.ty (K := K)
  let sg : Option V → Option V → Option V → Option V → Option V → L2.St := fun v4 v5 v6 v7 v8 => [some (.ref r), some (.int late), some v, some (.ref ha), v4, v5, v6, v7, v8]
  let R1 : TS := fun D' σ' H' => D'.rt = Q ∧ ∃ (sl : Addr) (v4 : Option V), v = .ref sl ∧ σ' = sg v4 none none none none ∧ okT hs.length o = true ∧ H' sl = some (.tup (levL hs.length (shO o))) ∧ Same H H'
  let R2 : TS := fun D' σ' H' => D'.rt = Q ∧ ∃ (sl : Addr) (v4 v5 : Option V), v = .ref sl ∧ σ' = sg v4 v5 none none none ∧ okT hs.length o = true ∧ wrI hs (shO o) ++ wrO hs late (shO o) = [] ∧ H' sl = some (.tup (levL hs.length (shO o))) ∧ Same H H'
  let R3 : TS := fun D' σ' H' => D'.rt = Q ∧ ∃ (gl : Addr) (gs : List Nat) (v4 v5 v7 v8 : Option V), σ' = sg v4 v5 (some (.ref gl)) v7 v8 ∧ okT hs.length o = true ∧ wrI hs (shO o) ++ wrO hs late (shO o) = [] ∧ ((List.range bs.length).filter fun j => decide (bs[j]?.any fun b => decide (trS (shO o) b < 0))) = gs ∧ H' gl = some (.lst (gs.map nV)) ∧ Same H H'
  let R4 : TS := fun D' σ' H' => D'.rt = Q ∧ ∃ (sl : Addr) (v4 : Option V) (i : Nat), v = .ref sl ∧ σ' = sg v4 (some (.int (0 + ((i : Nat) : Int)))) none none none ∧ i < hs.length ∧ okT hs.length o = true ∧ i ∉ wrI hs (shO o) ∧ (∀ j ∈ wrI hs (shO o) ++ wrO hs late (shO o), i ≤ j) ∧ H' sl = some (.tup (levL hs.length (shO o))) ∧ Same H H' ∧
    ∀ H2, (∀ j ∈ wrI hs (shO o) ++ wrO hs late (shO o), i + 1 ≤ j) → Same H H2 → D'.nx (sg v4 (some (.int (0 + ((i : Nat) : Int)))) none none none) H2
  have not_in : ∀ {i : Nat} {h : HR}, hs[i]? = some h → h.wd ≠ "in" → i ∉ wrI hs (shO o) := fun e1 n m => by
    obtain ⟨h, e, wd⟩ := mem_doors.mp (List.mem_filter.mp m).1
    rw [e1] at e
    cases e
    exact n wd
  have not_out : ∀ {i : Nat} {h : HR}, hs[i]? = some h → h.wd ≠ "out" → i ∉ wrO hs late (shO o) := fun e1 n m => by
    obtain ⟨h, e, wd⟩ := mem_doors.mp (List.mem_filter.mp m).1
    rw [e1] at e
    cases e
    exact n wd
  have eq_in : ∀ {i : Nat}, shO o i = 0 → i ∉ wrI hs (shO o) := fun e m => by
    have := (List.mem_filter.mp m).2
    rw [e] at this
    cases this
  have eq_out : ∀ {i : Nat}, shO o i = late → i ∉ wrO hs late (shO o) := fun e m => by
    have := (List.mem_filter.mp m).2
    rw [e, decide_eq_true rfl] at this
    cases this
  have next : ∀ {i : Nat}, (∀ j ∈ wrI hs (shO o) ++ wrO hs late (shO o), i ≤ j) → i ∉ wrI hs (shO o) → i ∉ wrO hs late (shO o) → ∀ j ∈ wrI hs (shO o) ++ wrO hs late (shO o), i + 1 ≤ j := fun {i} low n1 n2 j hj => by
    have := low j hj
    have : i ≠ j := fun e => by
      subst e
      exact (List.mem_append.mp hj).elim n1 n2
    omega
  have found : ∀ {i : Nat}, okT hs.length o = true → (∀ j ∈ wrI hs (shO o) ++ wrO hs late (shO o), i ≤ j) → i ∈ wrI hs (shO o) ++ wrO hs late (shO o) → Dr hs bs late o "door" [i] := fun em low m => .inr ⟨em, _, rfl, .inl ⟨rfl, m, low⟩⟩
  refine ⟨_, (pss_cons (ps_set (i := 3) sc_law_due.nd rfl (Or.inl rfl) (pe_ix (ix_tupK K rfl) (pv 0) pe_int (fun _ _ => rfl)))
      (pss_cons (ps_if (PW.pt (pw_or (pt_not (pt_val (pe_callB (call_isiKK K rfl) (by rfl) T.m_isinstance (by decide +kernel) (pa_cons (pv 2) (pa_cons (pe_bltn (v := .ty "tuple") (by rfl) T.m_tuple (by decide +kernel) rfl) pa_nil))))) (pw_or1 (pt_cmpR op_ne (pe_callB (call_len_seqK K rfl) (by rfl) T.m_len (by decide +kernel) (pa_cons (pv 2) pa_nil)) (pe_callB (call_len_seqK K rfl) (by rfl) T.m_len (by decide +kernel) (pa_cons (pv 3) pa_nil)) (nomark _))))) (pss_one (ps_ret (pe_tup (pa_cons pe_str (pa_cons (pe_tup pa_nil) pa_nil))))) pss_nil)
      (pss_cons (ps_if (pt_not (pt_val (pe_callB (cr_allK K rfl rfl) (by rfl) T.m_all (by decide +kernel) (pa_cons (pe_lc (own := [("_law_one", 4)]) (g := gName 4) (tt := tYes) (by rfl) sc_law_due.nd (pi_tupK K rfl (pv 2)) (blkOk_by (own := [("_law_one", 4)]) (N := N_law_due) (sc := defScope s_law_due) (by decide +kernel)) (fun _ _ _ _ _ => (pg_name (i := 4) sc_law_due.nd rfl (Or.inl rfl))) (fun _ _ _ _ _ => pts_nil) (fun _ _ _ _ _ => (pe_call G_law_whole (hr.mono (by decide)) (by rfl) m_law_whole F_law_whole.kp b_law_whole .nil pass0 (pa_cons (pv 4) pa_nil)))) pa_nil)))) (pss_one (ps_ret (pe_tup (pa_cons pe_str (pa_cons (pe_tup pa_nil) pa_nil))))) pss_nil)
      (PSs.to (pss_cons (ps_for PassesOwn.never rfl (pi_range1 (by rfl) T.m_range (pa_cons (pe_callB (call_len_seqK K rfl) (by rfl) T.m_len (by decide +kernel) (pa_cons (pv 3) pa_nil)) pa_nil)) (pg_name (i := 5) sc_law_due.nd rfl (Or.inl rfl))
        (pss_cons (ps_if (PW.pt (pw_and (pt_cmpR (op_eqDK K rfl hr.units) (pe_ix (ix_tupK K rfl) (pe_ix (ix_tupK K rfl) (pv 3) (pv 5) (fun _ _ => rfl)) pe_int (fun _ _ => rfl)) (pe_tup (pa_cons pe_str pa_nil)) (nomark _)) (pw_and1 (pt_cmpR op_ne (pe_ix (ix_tupK K rfl) (pv 2) (pv 5) (fun _ _ => rfl)) pe_int (nomark _))))) (pss_one (ps_ret (pe_tup (pa_cons pe_str (pa_cons (pe_tup (pa_cons (pv 5) pa_nil)) pa_nil))))) pss_nil)
      (PSs.to (pss_one (ps_if (PW.pt (pw_and (pt_cmpR (op_eqDK K rfl hr.units) (pe_ix (ix_tupK K rfl) (pe_ix (ix_tupK K rfl) (pv 3) (pv 5) (fun _ _ => rfl)) pe_int (fun _ _ => rfl)) (pe_tup (pa_cons pe_str pa_nil)) (nomark _)) (pw_and1 (pt_cmpR op_ne (pe_ix (ix_tupK K rfl) (pv 2) (pv 5) (fun _ _ => rfl)) (pv 1) (nomark _))))) (pss_one (ps_ret (pe_tup (pa_cons pe_str (pa_cons (pe_tup (pa_cons (pv 5) pa_nil)) pa_nil))))) pss_nil)) R4 ?tail4)))
      (PSs.to (pss_cons (ps_setLc (i := 6) (own := [("_law_b", 7), ("_law_trays_here", 8)]) (g := gTup K 2 (gCons (gName 7) (gCons (gName 8) gNil))) (by rfl) sc_law_due.nd rfl rfl (sw_true rfl rfl rfl (by decide +kernel)) (pi_enum (by rfl) T.m_enumerate (pa_cons (pe_call G_law_trays (hr.mono (by decide)) (by rfl) m_law_trays F_law_trays.kp b_law_trays .nil pass0 (pa_cons (pv 0) (pa_cons (pv 2) pa_nil))) pa_nil)) (blkOk_by (own := [("_law_b", 7), ("_law_trays_here", 8)]) (N := N_law_due) (sc := defScope s_law_due) (by decide +kernel)) (fun _ _ _ _ _ => (pg_tupK K rfl rfl (pgs_cons (pg_name (i := 7) sc_law_due.nd rfl (Or.inl rfl)) (pgs_cons (pg_name (i := 8) sc_law_due.nd rfl (Or.inl rfl)) pgs_nil)))) (fun _ _ _ _ _ => pts_one (pt_cmpR op_lt (pv 8) pe_int (nomark _))) (fun _ _ _ _ _ => (pv 7)))
      (PSs.to (pss_cons (ps_if (pt_cmpR op_gt (pe_callB (call_len_seqK K rfl) (by rfl) T.m_len (by decide +kernel) (pa_cons (pv 6) pa_nil)) pe_int (nomark _)) (pss_one (ps_ret (pe_tup (pa_cons pe_str (pa_cons (pe_tup (pa_cons (pe_ix (ix_listK K rfl) (pv 6) pe_int (fun _ _ => rfl)) pa_nil)) pa_nil))))) pss_nil)
      (pss_one (ps_ret pe_non))) R3 ?tail3)) R2 ?tail2)) R1 ?tail1)))), ?_⟩
  case tail3 =>
    rintro D' σ' H1 ⟨eD, D, gs, v4, v5, v7, v8, rfl, em, e2, egs, hD, s1⟩
    refine ⟨_, rfl, D, _, rfl, .inl (SqL.of hD), ?_⟩
    rw [List.length_map]
    refine ⟨_, _, rfl, rfl, _, rfl, if_bl (fun z => ?_) (fun z => ?_)⟩
    · have z := of_decide_eq_true z
      obtain ⟨j, gs', rfl⟩ : ∃ j gs', gs = j :: gs' := by
        cases gs with
        | nil => exact absurd z (by show ¬ ((0 : Nat) : Int) > 0; omega)
        | cons j gs' => exact ⟨j, gs', rfl⟩
      have jm : j ∈ (List.range bs.length).filter fun j => decide (bs[j]?.any fun b => decide (trS (shO o) b < 0)) := by rw [egs]; exact List.mem_cons_self ..
      obtain ⟨jl, jn⟩ := List.mem_filter.mp jm
      have jl := List.mem_range.mp jl
      have ejb : bs[j]? = some bs[j] := List.getElem?_eq_getElem jl
      rw [ejb] at jn
      have jn : trS (shO o) bs[j] < 0 := of_decide_eq_true (of_decide_eq_true jn : decide (trS (shO o) bs[j] < 0) = true)
      have srt : ((List.range bs.length).filter fun j => decide (bs[j]?.any fun b => decide (trS (shO o) b < 0))).Pairwise (· < ·) := List.Pairwise.filter _ List.pairwise_lt_range
      rw [egs] at srt
      have low : ∀ i b', i < j → bs[i]? = some b' → 0 ≤ trS (shO o) b' := fun i b' il e' => by
        refine Classical.byContradiction fun n => ?_
        have im : i ∈ (List.range bs.length).filter fun j => decide (bs[j]?.any fun b => decide (trS (shO o) b < 0)) := by
          refine List.mem_filter.mpr ⟨List.mem_range.mpr (List.getElem?_eq_some_iff.mp e').1, ?_⟩
          rw [e']
          exact decide_eq_true (decide_eq_true (show trS (shO o) b' < 0 by omega))
        rw [egs] at im
        rcases List.mem_cons.mp im with z | z
        · omega
        · have := (List.pairwise_cons.mp srt).1 i z
          omega
      refine ⟨_, rfl, D, _, _, _, rfl, rfl, SqL.of hD, atI_nat (j := 0) rfl, (by show 1 ≤ sizeLine; decide), fun tl ntl => ⟨(by show 2 ≤ sizeLine; decide), fun p np => ?_⟩⟩
      have t1 := same_new (o := .tup [nV j]) ntl
      have t2 := same_new (o := .tup [V.str "belt", V.ref tl]) np
      rw [eD]
      exact q2 p tl "belt" [j] _ (.inr ⟨em, j, rfl, .inr ⟨rfl, e2, _, ejb, jn, low⟩⟩) upd_same (t2 _ _ upd_same) ((s1.trans t1).trans t2)
    · have z := of_decide_eq_false z
      have gn : gs = [] := by
        cases gs with
        | nil => rfl
        | cons j gs' => exact absurd (show ((((j :: gs').length : Nat) : Int)) > 0 by rw [List.length_cons]; omega) z
      subst gn
      show D'.rt V.non H1
      rw [eD]
      obtain ⟨d1, d2⟩ := wr_none e2
      refine q1 H1 em ⟨d1, d2, fun b hb => ?_⟩ s1
      obtain ⟨i, ei⟩ := List.getElem?_of_mem hb
      refine Classical.byContradiction fun n => ?_
      have im : i ∈ (List.range bs.length).filter fun j => decide (bs[j]?.any fun b => decide (trS (shO o) b < 0)) := by
        refine List.mem_filter.mpr ⟨List.mem_range.mpr (List.getElem?_eq_some_iff.mp ei).1, ?_⟩
        rw [ei]
        exact decide_eq_true (decide_eq_true (show trS (shO o) b < 0 by omega))
      rw [egs] at im
      cases im
  case tail2 =>
    rintro D' σ' H1 ⟨eD, sl, v4, v5, rfl, rfl, em, e2, hsl, s1⟩
    have hR1 := hR.keep (TK.same s1)
    refine ⟨_, rfl, _, rfl, r, sl, hs, bs, shO o, rfl, hR1, ok, .inl hsl, fun pl H2 npl hpl s2 => ?_⟩
    refine ⟨pl, _, rfl, SqL.of hpl, fun D nD => lc_it (J := Ite K pl) (n := bs.length) (fun i H5 => H5 D = some (.lst (((List.range i).filter fun j => decide (bs[j]?.any fun b => decide (trS (shO o) b < 0))).map nV)) ∧ Same H2 H5) ⟨upd_same, same_new nD⟩ ?_ ?_ ?_ ?_⟩
    · rintro i H5 hi ⟨hD, s5⟩
      exact ⟨_, _, SqL.of (s5 _ _ hpl), List.getElem?_eq_getElem (by rw [List.length_map]; exact hi)⟩
    · rintro H5 ⟨hD, s5⟩
      exact ⟨_, SqL.of (s5 _ _ hpl), by rw [List.length_map]; exact Nat.le_refl _⟩
    · rintro i x H5 H6 hi ⟨hD, s5⟩ ⟨tt, y, rfl, ntt, rfl, fy⟩
      have ey := fy _ (SqL.of (s5 _ _ hpl))
      have e1 : bs[i]? = some bs[i] := List.getElem?_eq_getElem hi
      rw [List.getElem?_map, e1] at ey
      obtain rfl : y = .int (trS (shO o) bs[i]) := (Option.some.inj ey).symm
      have s6 := s5.trans (same_new (o := .tup [V.int ((i : Nat) : Int), V.int (trS (shO o) bs[i])]) ntt)
      have hD6 := same_new (o := .tup [V.int ((i : Nat) : Int), V.int (trS (shO o) bs[i])]) ntt _ _ hD
      have few := filt_len (p := fun j => decide (bs[j]?.any fun b => decide (trS (shO o) b < 0))) i
      have ev : (decide (bs[i]?.any fun b => decide (trS (shO o) b < 0))) = decide (trS (shO o) bs[i] < 0) := by
        rw [e1]
        show decide (decide (trS (shO o) bs[i] < 0) = true) = _
        by_cases z : trS (shO o) bs[i] < 0
        · rw [decide_eq_true z]; rfl
        · rw [decide_eq_false z]; rfl
      refine ⟨tt, _, rfl, SqT.of upd_same, rfl, _, _, rfl, _, _, rfl, rfl, rfl, _, rfl, _, _, rfl, rfl, _, rfl, if_bl (fun z => ?_) (fun z => ?_)⟩
      · refine ⟨_, rfl, _, hD6, by rw [List.length_map]; exact small1000 (by omega), ?_, Same.own s6 nD⟩
        rw [upd_same, filt_succ, ev, if_pos z, List.map_append]
        rfl
      · refine ⟨?_, s6⟩
        rw [filt_succ, ev, if_neg (by rw [z]; exact Bool.false_ne_true), List.append_nil]
        exact hD6
    rintro H5 ⟨hD, s5⟩
    exact ⟨eD, D, _, v4, v5, _, _, rfl, em, e2, rfl, hD, (s1.trans s2).trans s5⟩
  case tail4 =>
    rintro D' σ' H1 ⟨eD, sl, v4, i, rfl, rfl, hi, em, n1, low, hsl, s1, go⟩
    have e1 : hs[i]? = some hs[i] := List.getElem?_eq_getElem hi
    obtain ⟨x, ex, ⟨tt, g, rfl, ht, hg⟩⟩ := alh.get e1
    have gh := ok.good _ (List.mem_of_getElem? e1)
    refine ⟨_, rfl, _, rfl, ha, _, _, _, rfl, rfl, SqT.of (s1 _ _ eh), at0 ex, tt, _, _, _, rfl, rfl, SqT.of (s1 _ _ ht), atI_nat (j := 0) rfl, (by show 1 ≤ sizeLine; decide), fun o1 no1 => ?_⟩
    have u1 := same_new (o := .tup [V.str "out"]) no1
    have s6 := s1.trans u1
    refine ⟨_, _, rule_dp (s6 _ _ hg), .tup (SqT.of upd_same) (.cons (.str _) .nil), rule_shaped gh.lay, one_shaped (by decide +kernel), _, rfl, ?_⟩
    rw [rule_eqv, gh.door "out" (.inr rfl)]
    by_cases c : hs[i].wd = "out"
    · rw [decide_eq_true c]
      refine if_bl (fun _ => ?_) (fun z => nomatch z)
      refine ⟨_, rfl, _, rfl, sl, _, _, _, rfl, rfl, SqT.of (u1 _ _ hsl), at0 (rg_at hi), _, rfl, rfl, _, rfl, if_bl (fun z => ?_) (fun z => ?_)⟩
      · have ne : shO o i ≠ late := fun e => by
          have z : (!decide (V.int (shO o i) = V.int late)) = true := z
          rw [e, decide_eq_true rfl] at z
          cases z
        refine ⟨_, rfl, (by show 1 ≤ sizeLine; decide), fun tl ntl => ⟨(by show 2 ≤ sizeLine; decide), fun p np => ?_⟩⟩
        have t1 := same_new (o := .tup [V.int (0 + ((i : Nat) : Int))]) ntl
        have t2 := same_new (o := .tup [V.str "door", V.ref tl]) np
        rw [eD]
        refine q2 p tl "door" [i] _ (found em low (List.mem_append_right _ (List.mem_filter.mpr ⟨mem_doors.mpr ⟨_, e1, c⟩, by rw [decide_eq_false ne]; rfl⟩))) upd_same (t2 _ _ ?_) ((s6.trans t1).trans t2)
        rw [upd_same, Int.zero_add]
        rfl
      · have e : shO o i = late := Classical.byContradiction fun ne => by
          have z : (!decide (V.int (shO o i) = V.int late)) = false := z
          rw [decide_eq_false fun y => ne (V.int.inj y)] at z
          cases z
        exact go _ (next low n1 (eq_out e)) s6
    · rw [decide_eq_false c]
      exact if_bl (fun z => nomatch z) (fun _ => if_bl (fun z => nomatch z) (fun _ => go _ (next low n1 (not_out e1 c)) s6))
  case tail1 =>
    rintro D' σ' H1 ⟨eD, sl, v4, rfl, rfl, em, hsl, s1⟩
    refine ⟨_, rfl, ha, _, rfl, .inr (SqT.of (s1 _ _ eh)), _, rfl, by rw [lhv]; omega, by rw [lhv]; omega, for_range (lo := 0) (n := hv.length) (fun i σ H5 => ∃ v5 : Option V, σ = sg v4 v5 none none none ∧ (∀ j ∈ wrI hs (shO o) ++ wrO hs late (shO o), i ≤ j) ∧ H5 sl = some (.tup (levL hs.length (shO o))) ∧ Same H H5) ⟨none, rfl, (fun _ _ => Nat.zero_le _), hsl, s1⟩ ?_ ?_⟩
    · rintro i σ H5 hi ⟨v5, rfl, low, hsl5, s5⟩
      rw [lhv] at hi
      have e1 : hs[i]? = some hs[i] := List.getElem?_eq_getElem hi
      obtain ⟨x, ex, ⟨tt, g, rfl, ht, hg⟩⟩ := alh.get e1
      have gh := ok.good _ (List.mem_of_getElem? e1)
      refine ⟨_, rfl, _, rfl, ha, _, _, _, rfl, rfl, SqT.of (s5 _ _ eh), at0 ex, tt, _, _, _, rfl, rfl, SqT.of (s5 _ _ ht), atI_nat (j := 0) rfl, (by show 1 ≤ sizeLine; decide), fun o1 no1 => ?_⟩
      have u1 := same_new (o := .tup [V.str "in"]) no1
      have s6 := s5.trans u1
      refine ⟨_, _, rule_dp (s6 _ _ hg), .tup (SqT.of upd_same) (.cons (.str _) .nil), rule_shaped gh.lay, one_shaped (by decide +kernel), _, rfl, ?_⟩
      rw [rule_eqv, gh.door "in" (.inl rfl)]
      by_cases c : hs[i].wd = "in"
      · rw [decide_eq_true c]
        refine if_bl (fun _ => ?_) (fun z => nomatch z)
        refine ⟨_, rfl, _, rfl, sl, _, _, _, rfl, rfl, SqT.of (u1 _ _ hsl5), at0 (rg_at hi), rfl, _, rfl, if_bl (fun z => ?_) (fun z => ?_)⟩
        · have ne : shO o i ≠ 0 := fun e => by
            have z : (!decide (V.int (shO o i) = V.int 0)) = true := z
            rw [e] at z
            cases z
          refine ⟨_, rfl, (by show 1 ≤ sizeLine; decide), fun tl ntl => ⟨(by show 2 ≤ sizeLine; decide), fun p np => ?_⟩⟩
          have t1 := same_new (o := .tup [V.int (0 + ((i : Nat) : Int))]) ntl
          have t2 := same_new (o := .tup [V.str "door", V.ref tl]) np
          rw [eD]
          refine q2 p tl "door" [i] _ (found em low (List.mem_append_left _ (List.mem_filter.mpr ⟨mem_doors.mpr ⟨_, e1, c⟩, by rw [decide_eq_false ne]; rfl⟩))) upd_same (t2 _ _ ?_) ((s6.trans t1).trans t2)
          rw [upd_same, Int.zero_add]
          rfl
        · have e : shO o i = 0 := Classical.byContradiction fun ne => by
            have z : (!decide (V.int (shO o i) = V.int 0)) = false := z
            rw [decide_eq_false fun y => ne (V.int.inj y)] at z
            cases z
          exact ⟨eD, sl, v4, i, rfl, rfl, hi, em, eq_in e, low, u1 _ _ hsl5, s6, fun H2 l s => ⟨_, rfl, l, s _ _ (hT.slx em), s⟩⟩
      · rw [decide_eq_false c]
        exact if_bl (fun z => nomatch z) (fun _ => if_bl (fun z => nomatch z) (fun _ => ⟨eD, sl, v4, i, rfl, rfl, hi, em, not_in e1 c, low, u1 _ _ hsl5, s6, fun H2 l s => ⟨_, rfl, l, s _ _ (hT.slx em), s⟩⟩))
    · rintro σ H5 ⟨v5, rfl, low, hsl5, s5⟩
      refine ⟨eD, sl, v4, v5, rfl, rfl, em, ?_, hsl5, s5⟩
      cases e : wrI hs (shO o) ++ wrO hs late (shO o) with
      | nil => rfl
      | cons j js =>
        have jm : j ∈ wrI hs (shO o) ++ wrO hs late (shO o) := by rw [e]; exact List.mem_cons_self ..
        have := low j jm
        have : j < hs.length := by
          rcases List.mem_append.mp jm with m | m
          · exact door_lt (List.mem_filter.mp m).1
          · exact door_lt (List.mem_filter.mp m).1
        omega
  refine ⟨_, rfl, r, _, _, _, rfl, rfl, SqT.of er, atI_nat (j := 0) rfl, ?_⟩
  refine ⟨_, rfl, _, _, _, _, o.isSome, rfl, .ty "tuple", ty, kt, _, rfl, ?_⟩
  have form : okT hs.length o = false → ∀ (p t : Addr) (H' : Hp), H' p = some (.tup [.str "form", .ref t]) → H' t = some (.tup []) → Same H H' → Q (.ref p) H' := fun e p t H' h1 h2 s => q2 p t "form" [] H' (.inl ⟨e, rfl, rfl⟩) h1 h2 s
  cases o with
  | none =>
    refine if_bl (fun _ => ?_) (fun z => nomatch z)
    refine if_bl (fun _ => ?_) (fun z => nomatch z)
    refine ⟨(by show 0 ≤ sizeLine; decide), fun tl ntl => ⟨(by show 2 ≤ sizeLine; decide), fun p np => ?_⟩⟩
    have t2 := same_new (o := .tup [V.str "form", V.ref tl]) np
    exact form rfl p tl _ upd_same (t2 _ _ upd_same) ((same_new ntl).trans t2)
  | some xs =>
  obtain ⟨sl, rfl, hsl, nsl, its⟩ := hT.tupx
  refine if_bl (fun z => nomatch z) (fun _ => ?_)
  refine ⟨_, rfl, sl, _, rfl, .inr (SqT.of hsl), _, rfl, ha, _, rfl, .inr (SqT.of eh), rfl, _, rfl, ?_⟩
  refine if_bl (fun z => ?_) (fun z => ?_)
  · have z : (!decide (V.int ((xs.length : Nat) : Int) = V.int ((hv.length : Nat) : Int))) = true := z
    have ne : xs.length ≠ hs.length := fun e => by
      rw [decide_eq_true (by rw [lhv, e])] at z
      cases z
    refine ⟨(by show 0 ≤ sizeLine; decide), fun tl ntl => ⟨(by show 2 ≤ sizeLine; decide), fun p np => ?_⟩⟩
    have t2 := same_new (o := .tup [V.str "form", V.ref tl]) np
    exact form (by rw [okT_some, decide_eq_false ne]; rfl) p tl _ upd_same (t2 _ _ upd_same) ((same_new ntl).trans t2)
  have em : xs.length = hs.length := by
    refine Classical.byContradiction fun ne => ?_
    have z : (!decide (V.int ((xs.length : Nat) : Int) = V.int ((hv.length : Nat) : Int))) = false := z
    rw [decide_eq_false fun e => ne (by have := V.int.inj e; rw [lhv] at this; omega)] at z
    cases z
  refine ⟨_, rfl, sl, rfl, ⟨_, SqT.of hsl⟩, fun D nD => lc_tup (K := K) (a := sl) (xs := xs) (fun i H5 => H5 D = some (.lst (((xs.take i).map isW).map V.bl)) ∧ Same H H5) ⟨upd_same, same_new nD⟩ (fun i H5 _ ⟨_, s5⟩ => SqT.of (s5 _ _ hsl)) ?_ ?_⟩
  · rintro i x H5 hx ⟨hD, s5⟩
    have hit := (its x (List.mem_of_getElem? hx)).imp (fun p _ e _ => s5 p _ e) (fun p _ e _ => s5 p _ e)
    refine ⟨rfl, yes_in ⟨_, rfl, f, x, rfl, hit, _, hD, by rw [List.length_map, List.length_map, List.length_take]; exact small1000 (by omega), ?_, Same.own s5 nD⟩⟩
    rw [upd_same, List.take_add_one, hx, List.map_append, List.map_append]
    rfl
  rintro H5 ⟨hD, s5⟩
  rw [List.take_length] at hD
  refine ⟨D, _, rfl, SqL.of hD, _, rfl, if_bl (fun z => ?_) (fun z => ?_)⟩
  · refine ⟨(by show 0 ≤ sizeLine; decide), fun tl ntl => ⟨(by show 2 ≤ sizeLine; decide), fun p np => ?_⟩⟩
    have t2 := same_new (o := .tup [V.str "form", V.ref tl]) np
    refine form ?_ p tl _ upd_same (t2 _ _ upd_same) ((s5.trans (same_new ntl)).trans t2)
    have z : (!((xs.map isW).all id)) = true := z
    rw [List.all_map] at z
    rw [okT_some, show xs.all isW = false from by cases e : xs.all isW with | false => rfl | true => exact absurd z (by rw [show (id ∘ isW) = isW from rfl, e]; exact Bool.false_ne_true), Bool.and_false]
  · have z : (!((xs.map isW).all id)) = false := z
    rw [List.all_map] at z
    have ea : xs.all isW = true := by cases e : xs.all isW with | true => rfl | false => exact absurd z (by rw [show (id ∘ isW) = isW from rfl, e]; exact Bool.noConfusion)
    have eo : okT hs.length (some xs) = true := by rw [okT_some, ea, decide_eq_true em]; rfl
    exact ⟨rfl, sl, _, rfl, rfl, eo, s5 _ _ (hT.slx eo), s5⟩
end
section
variable {P : Program} {w : World} {K : PySem.W.Frag} {mg : Str → Option Value} {base : Heap} {cT PT : Addr} [TI : TabI K mg base cT PT]
include TI
def sp_law_told (K : PySem.W.Frag) (PT : Addr) : Sp := fun vs H Q _ => ∃ (f r : Addr) (v : V) (hs : List HR) (bs : List BR) (late : Int) (o : Option (List V)), vs = [.ref r, .int late, v] ∧ RoomAt H r hs bs ∧ RoomOk hs bs ∧ ThOk f H v o ∧ GxR.TabG H PT ∧
  (∀ (p : Addr) (H' : Hp), okT hs.length o = true → Good33 hs bs late (shO o) → H' p = some (.tup [.str "let by", .bl true]) → GxR.TabG H' PT → But PT H H' → Q (.ref p) H') ∧
  ∀ (p t : Addr) (wd : Str) (ks : List Nat) (H' : Hp), Dr hs bs late o wd ks → H' p = some (.tup [.str "refused", .str wd, .ref t]) → H' t = some (.tup (ks.map nV)) → GxR.TabG H' PT → But PT H H' → Q (.ref p) H'
theorem ok_law_told {f : Addr} {fd : FuncData} (F : Fun K "_law_told" "_law_told" s_law_told f fd) (T : Top K mg) : FnOk P w K mg base CX0 5 f fd ["_law_room_here", "_law_late", "_law_shifts_here"] (sp_law_told K PT) := by
  obtain ⟨f_look_shifts, fd_look_shifts, F_look_shifts, b_look_shifts, m_look_shifts⟩ := T.d_look_shifts
  have G_look_shifts := ok_look_shifts (P := P) (w := w) (base := base) F_look_shifts T
  obtain ⟨fdI, N⟩ := T.x_ns
  have GI := ok_NsInit (P := P) (w := w) (base := base) N
  refine F.ok sc_law_told (fun vs H Q E h => ?_) (fun cdv A outer s H vs Q E hr h => ?_)
  · obtain ⟨f, r, v, hs, bs, late, o, rfl, _⟩ := h
    rfl
  obtain ⟨f, r, v, hs, bs, late, o, rfl, hR, ok, hT, tg, q1, q2⟩ := h
  refine ⟨_, (pss_cons (ps_try_as (i := 4) rfl rfl sc_law_told.nd rfl rfl ⟨rfl, by decide, .inl N.gB⟩ takes0
        (fun W pn xe tk _ => (pss_one (ps_set (i := 3) sc_law_told.nd rfl (Or.inl rfl) (pe_callS G_look_shifts (hr.mono (by decide)) (by rfl) m_look_shifts F_look_shifts.kp b_look_shifts (fun σ => passAt tk σ) (pa_cons (pv 0) (pa_cons (pv 1) (pa_cons (pv 2) pa_nil)))))))
        (fun a oe cls d pn hz hf => (pss_cons (ps_if (pt_val (pe_callB (call_isFT N.is_ hz hf) (by rfl) T.m_isinstance (by decide +kernel) (pa_cons (pv 4) (pa_cons (pe_tup (pa_cons (pe_glob (v := .ref (He.ga K "NoText")) (by rfl) T.x_NoText rfl) (pa_cons (pe_glob (v := .ref (He.ga K "NoRoom")) (by rfl) T.x_NoRoom rfl) (pa_cons (pe_glob (v := .ref (He.ga K "NoFormula")) (by rfl) T.x_NoFormula rfl) (pa_cons (pe_glob (v := .ref (He.ga K "NotReady")) (by rfl) T.x_NotReady rfl) (pa_cons (pe_glob (v := .ref (He.ga K "NoName")) (by rfl) T.x_NoName rfl) (pa_cons (pe_glob (v := .ref (He.ga K "NoRow")) (by rfl) T.x_NoRow rfl) pa_nil))))))) pa_nil)))) (pss_one (ps_ret (pe_tup (pa_cons pe_str pa_nil)))) pss_nil)
      (pss_cons (ps_if (PW.pt (pw_or (pt_not (pt_val (pe_callB (call_isF N.is_ hz hf) (by rfl) T.m_isinstance (by decide +kernel) (pa_cons (pv 4) (pa_cons (pe_glob (v := .ref (He.ga K "NoShift")) (by rfl) N.gC rfl) pa_nil))))) (pw_or1 (pt_not (pt_val (pe_callB (call_isF N.is_ hz hf) (by rfl) T.m_isinstance (by decide +kernel) (pa_cons (pv 4) (pa_cons (pe_bltn (v := .ty "ValueError") (by rfl) T.m_ValueError (by decide +kernel) rfl) pa_nil)))))))) (pss_one (ps_ret (pe_tup (pa_cons pe_str pa_nil)))) pss_nil)
      (pss_one (ps_ret (pe_tup (pa_cons pe_str (pa_cons (pe_xf N.xf N.nw hz hf (pv 4)) (pa_cons (pe_xf N.xf N.na hz hf (pv 4)) pa_nil))))))))))
      (pss_one (ps_ret (pe_tup (pa_cons pe_str (pa_cons (pe_cmpR op_isB (pv 3) pe_bl (nomark _)) pa_nil)))))), ?_⟩
  refine ⟨_, rfl, _, rfl, _, rfl, ?_⟩
  dsimp only [tNil]
  refine ⟨f, r, v, hs, bs, late, o, rfl, hR, ok, hT, tg, fun d t H1 e hd ht tg1 b1 => ?_, fun H1 e gd tg1 b1 => ?_, fun d t wd k H1 e rf hd ht tg1 b1 => ?_⟩
  · refine ⟨true, N.te, fun _ a na => ?_, fun z => nomatch z⟩
    refine ⟨_, rfl, (by show 6 ≤ sizeLine; decide), fun tp ntp => ?_⟩
    have u1 := same_new (o := .tup [V.ref (He.ga K "NoText"), V.ref (He.ga K "NoRoom"), V.ref (He.ga K "NoFormula"), V.ref (He.ga K "NotReady"), V.ref (He.ga K "NoName"), V.ref (He.ga K "NoRow")]) ntp
    have hd1 := u1 _ _ hd
    have ht1 := u1 _ _ ht
    refine ⟨rfl, ⟨d, _, rfl, hd1⟩, tp, _, _, false, rfl, upd_same, .cons (.own _) (.cons (.own _) (.cons (.own _) (.cons (.own _) (.cons (.own _) (.cons (.own _) .nil))))), N.ko, _, rfl, if_bl (fun z => nomatch z) (fun _ => ?_)⟩
    refine ⟨_, rfl, rfl, ⟨d, _, rfl, hd1⟩, V.ref (nsA K), .ref (nsA K), true, rfl, fun u r => r, N.k1, _, rfl, if_bl (fun z => nomatch z) (fun _ => ?_)⟩
    refine ⟨_, rfl, rfl, ⟨d, _, rfl, hd1⟩, V.ty "ValueError", .type "ValueError", true, rfl, fun u r => r, N.k2, _, rfl, if_bl (fun z => nomatch z) (fun _ => ?_)⟩
    refine ⟨_, rfl, rfl, rfl, d, _, .str "form", rfl, hd1, rfl, _, rfl, rfl, rfl, d, _, .ref t, rfl, hd1, rfl, (by show 3 ≤ sizeLine; decide), fun p np => ?_⟩
    have s := u1.trans (same_new (o := .tup [V.str "refused", V.str "form", V.ref t]) np)
    exact q2 p t "form" [] _ (.inl ⟨e, rfl, rfl⟩) upd_same (s _ _ ht) (same_tab tg1 s) (b1.same s)
  · refine ⟨_, rfl, true, true, rfl, rfl, (by show 2 ≤ sizeLine; decide), fun p np => ?_⟩
    have s := same_new (o := .tup [V.str "let by", V.bl true]) np
    exact q1 p _ e gd upd_same (same_tab tg1 s) (b1.same s)
  · refine ⟨true, N.te, fun _ a na => ?_, fun z => nomatch z⟩
    refine ⟨_, rfl, (by show 6 ≤ sizeLine; decide), fun tp ntp => ?_⟩
    have u1 := same_new (o := .tup [V.ref (He.ga K "NoText"), V.ref (He.ga K "NoRoom"), V.ref (He.ga K "NoFormula"), V.ref (He.ga K "NotReady"), V.ref (He.ga K "NoName"), V.ref (He.ga K "NoRow")]) ntp
    have hd1 := u1 _ _ hd
    have ht1 := u1 _ _ ht
    refine ⟨rfl, ⟨d, _, rfl, hd1⟩, tp, _, _, false, rfl, upd_same, .cons (.own _) (.cons (.own _) (.cons (.own _) (.cons (.own _) (.cons (.own _) (.cons (.own _) .nil))))), N.ko, _, rfl, if_bl (fun z => nomatch z) (fun _ => ?_)⟩
    refine ⟨_, rfl, rfl, ⟨d, _, rfl, hd1⟩, V.ref (nsA K), .ref (nsA K), true, rfl, fun u r => r, N.k1, _, rfl, if_bl (fun z => nomatch z) (fun _ => ?_)⟩
    refine ⟨_, rfl, rfl, ⟨d, _, rfl, hd1⟩, V.ty "ValueError", .type "ValueError", true, rfl, fun u r => r, N.k2, _, rfl, if_bl (fun z => nomatch z) (fun _ => ?_)⟩
    refine ⟨_, rfl, rfl, rfl, d, _, .str wd, rfl, hd1, rfl, _, rfl, rfl, rfl, d, _, .ref t, rfl, hd1, rfl, (by show 3 ≤ sizeLine; decide), fun p np => ?_⟩
    have s := u1.trans (same_new (o := .tup [V.str "refused", V.str wd, V.ref t]) np)
    exact q2 p t wd [k] _ (.inr ⟨e, k, rfl, rf⟩) upd_same (s _ _ ht) (same_tab tg1 s) (b1.same s)
end
/-! ### data of known size -/
structure Neat (d : PyData) (dp wt : Nat) : Prop where
  lay : d.canLay0 = true
  dep : d.depth ≤ dp
  wei : d.weight ≤ wt
  sho : d.intsShort 13 = true
  say : d.showable = true
  nod : d.hasDict = false
structure NeatAll (ds : List PyData) (dp wt : Nat) : Prop where
  lay : PyData.canLayAll0 ds = true
  dep : PyData.depthAll ds ≤ dp
  wei : PyData.weightAll ds ≤ wt
  sho : PyData.intsShortAll 13 ds = true
  say : PyData.showableAll ds = true
  nod : PyData.hasDictAll ds = false
theorem Neat.non {dp : Nat} : Neat .none dp 0 := ⟨rfl, Nat.zero_le _, Nat.le_refl _, by simp [PyData.intsShort], by simp [PyData.showable], by simp [PyData.hasDict]⟩
theorem Neat.bool {b : Bool} {dp : Nat} : Neat (.bool b) dp 0 := ⟨rfl, Nat.zero_le _, Nat.le_refl _, by simp [PyData.intsShort], by simp [PyData.showable], by simp [PyData.hasDict]⟩
theorem Neat.int {i : Int} {dp : Nat} (h : i.natAbs < 10 ^ 12) : Neat (.int i) dp 41 := by
  have l : i.natAbs.log2 < 40 := by
    by_cases z : i.natAbs = 0
    · rw [z]; decide
    · exact (Nat.log2_lt z).mpr (Nat.lt_trans h (by decide))
  refine ⟨rfl, Nat.zero_le _, ?_, ?_, ?_, by simp [PyData.hasDict]⟩
  · simp only [PyData.weight]
    split <;> omega
  · simp only [PyData.intsShort, decide_eq_true_eq]
    exact PyData.shown_int_le h
  · simp only [PyData.showable, decide_eq_true_eq]
    omega
theorem Neat.str {x : Str} {n dp : Nat} (h : PyData.canLay0 (.str x) = true) (hn : x.cps.size ≤ n) : Neat (.str x) dp n := ⟨h, Nat.zero_le _, hn, by simp [PyData.intsShort], by simp [PyData.showable], by simp [PyData.hasDict]⟩
theorem NeatAll.nil {dp : Nat} : NeatAll [] dp 0 := ⟨rfl, Nat.zero_le _, Nat.le_refl _, by simp [PyData.intsShortAll], by simp [PyData.showableAll], by simp [PyData.hasDictAll]⟩
theorem NeatAll.cons {d : PyData} {ds : List PyData} {dp a b : Nat} (h : Neat d dp a) (t : NeatAll ds dp b) : NeatAll (d :: ds) dp (a + 1 + b) := by
  refine ⟨?_, ?_, ?_, ?_, ?_, ?_⟩
  · simp only [PyData.canLayAll0, h.lay, t.lay, Bool.and_self]
  · simp only [PyData.depthAll]
    exact Nat.max_le.mpr ⟨h.dep, t.dep⟩
  · simp only [PyData.weightAll]
    have := h.wei
    have := t.wei
    omega
  · simp only [PyData.intsShortAll, h.sho, t.sho, Bool.and_self]
  · simp only [PyData.showableAll, h.say, t.say, Bool.and_self]
  · simp only [PyData.hasDictAll, h.nod, t.nod, Bool.or_self]
theorem Neat.mono {d : PyData} {a b c e : Nat} (h : Neat d a b) (x : a ≤ c) (y : b ≤ e) : Neat d c e := ⟨h.lay, Nat.le_trans h.dep x, Nat.le_trans h.wei y, h.sho, h.say, h.nod⟩
theorem NeatAll.mono {d : List PyData} {a b c e : Nat} (h : NeatAll d a b) (x : a ≤ c) (y : b ≤ e) : NeatAll d c e := ⟨h.lay, Nat.le_trans h.dep x, Nat.le_trans h.wei y, h.sho, h.say, h.nod⟩
theorem Neat.tup {ds : List PyData} {dp n : Nat} (h : NeatAll ds dp n) : Neat (.tuple ds) (dp + 1) n := by
  refine ⟨?_, ?_, ?_, ?_, ?_, ?_⟩
  · simp only [PyData.canLay0, h.lay]
  · simp only [PyData.depth]
    have := h.dep
    omega
  · simp only [PyData.weight]
    exact h.wei
  · simp only [PyData.intsShort, h.sho]
  · simp only [PyData.showable, h.say]
  · simp only [PyData.hasDict, h.nod]
theorem Neat.lst {ds : List PyData} {dp n : Nat} (h : NeatAll ds dp n) : Neat (.list ds) (dp + 1) n := by
  refine ⟨?_, ?_, ?_, ?_, ?_, ?_⟩
  · simp only [PyData.canLay0, h.lay]
  · simp only [PyData.depth]
    have := h.dep
    omega
  · simp only [PyData.weight]
    exact h.wei
  · simp only [PyData.intsShort, h.sho]
  · simp only [PyData.showable, h.say]
  · simp only [PyData.hasDict, h.nod]
theorem NeatAll.map {α : Type} {f : α → PyData} {dp n : Nat} : ∀ {l : List α}, (∀ x ∈ l, Neat (f x) dp n) → NeatAll (l.map f) dp (l.length * (n + 1))
  | [], _ => by rw [List.length_nil, Nat.zero_mul]; exact .nil
  | x :: l, h => by
    have t : NeatAll (l.map f) dp (l.length * (n + 1)) := NeatAll.map fun y hy => h y (List.mem_cons_of_mem _ hy)
    have := NeatAll.cons (h x (List.mem_cons_self ..)) t
    refine NeatAll.mono this (Nat.le_refl _) ?_
    rw [List.length_cons, Nat.add_mul]
    omega
theorem Neat.shaped {d : PyData} {dp n : Nat} (h : Neat d dp n) (k : dp ≤ 60) : SeqAt.shaped d = true := by
  unfold SeqAt.shaped
  rw [h.lay, Bool.true_and]
  exact decide_eq_true (by have := h.dep; omega)
theorem Neat.fits {d : PyData} {dp n : Nat} (h : Neat d dp n) (k : dp ≤ 60) (m : n ≤ 1000000) : d.shown.length ≤ sizeLine := by
  refine PyData.shown_fits_of_layable0 (B := 13) (by decide) (by decide) ?_ h.sho
  have a : d.canLay0 = true := h.lay
  have b : decide (d.depth ≤ 64) = true := decide_eq_true (by have := h.dep; omega)
  have c : decide (d.weight ≤ 2 ^ 20) = true := decide_eq_true (by have := h.wei; omega)
  unfold PyData.layable0
  rw [a, b, c]
  rfl
theorem dp_ints {K : PySem.W.Frag} {H : Hp} : ∀ ns : List Int, DpAll K H (ns.map V.int) (ns.map PyData.int)
  | [] => .nil
  | n :: ns => .cons (.int n) (dp_ints ns)
theorem dp_nats {K : PySem.W.Frag} {H : Hp} : ∀ ns : List Nat, DpAll K H (ns.map nV) (ns.map fun n => PyData.int ((n : Nat) : Int))
  | [] => .nil
  | n :: ns => .cons (.int _) (dp_nats ns)
theorem eqv_nil {ds : List PyData} : PyData.eqvAll ds [] = ds.isEmpty := by cases ds <;> rfl
/-! ### a room as data -/
abbrev handD (h : HR) : PyData := .tuple [.tuple (ruleD h), .int h.mom]
abbrev beltD (b : BR) : PyData := .tuple [.int ((b.one : Nat) : Int), .int ((b.to : Nat) : Int), .tuple (b.th.map PyData.int)]
abbrev roomD (hs : List HR) (bs : List BR) : PyData := .tuple [.tuple (hs.map handD), .tuple (bs.map beltD)]
theorem hands_dp {K : PySem.W.Frag} {H : Hp} {vs : List V} {hs : List HR} (a : All2 (HandAt H) vs hs) : DpAll K H vs (hs.map handD) := by
  induction a with
  | nil => exact .nil
  | cons h t ih =>
    obtain ⟨t, r, rfl, e1, e2⟩ := h
    exact .cons (.tup (SqT.of e1) (.cons (rule_dp e2) (.cons (.int _) .nil))) ih
theorem belts_dp {K : PySem.W.Frag} {H : Hp} {vs : List V} {bs : List BR} (a : All2 (BeltAt H) vs bs) : DpAll K H vs (bs.map beltD) := by
  induction a with
  | nil => exact .nil
  | cons h t ih =>
    obtain ⟨t, r, rfl, e1, e2⟩ := h
    exact .cons (.tup (SqT.of e1) (.cons (.int _) (.cons (.int _) (.cons (.tup (SqT.of e2) (dp_ints _)) .nil)))) ih
theorem RoomAt.dp {K : PySem.W.Frag} {H : Hp} {r : Addr} {hs : List HR} {bs : List BR} (a : RoomAt H r hs bs) : Dp K H (.ref r) (roomD hs bs) := by
  obtain ⟨ha, ba, hv, bv, e1, e2, e3, a1, a2⟩ := a.ex
  exact .tup (SqT.of e1) (.cons (.tup (SqT.of e2) (hands_dp a1)) (.cons (.tup (SqT.of e3) (belts_dp a2)) .nil))
theorem GoodHand.size {h : HR} (g : GoodHand h) : h.wd.cps.size ≤ 10 := by
  have : h.wd ∈ nine ∨ h.wd = "in" ∨ h.wd = "out" := g.1.elim (fun k => .inl k.wd) (fun k => .inr k.1)
  rcases this with k | k | k
  · unfold nine at k
    simp only [List.mem_cons, List.not_mem_nil, or_false] at k
    rcases k with k | k | k | k | k | k | k | k | k <;> rw [k] <;> decide +kernel
  · rw [k]; decide +kernel
  · rw [k]; decide +kernel
theorem GoodHand.neat {h : HR} (g : GoodHand h) : Neat (handD h) 2 200 := by
  obtain ⟨wd, no, mom⟩ := h
  have r : NeatAll (ruleD ⟨wd, no, mom⟩) 0 60 := by
    cases no with
    | none => exact (NeatAll.cons (Neat.str g.lay g.size) .nil).mono (Nat.le_refl _) (by decide)
    | some n =>
      have : -1000000 ≤ n ∧ n ≤ 1000000 := by
        rcases g.1 with k | k
        · exact k.big n rfl
        · exact nomatch k.2
      exact (NeatAll.cons (Neat.str g.lay g.size) (.cons (Neat.int (by omega)) .nil)).mono (Nat.le_refl _) (by decide)
  have m : Neat (.int mom) 1 41 := Neat.int (by have := g.2.1; have := g.2.2; simp only at *; omega)
  exact (Neat.tup (.cons (Neat.tup r) (.cons m .nil))).mono (Nat.le_refl _) (by decide)
theorem lay_ints : ∀ m : List Int, PyData.canLayAll0 (m.map PyData.int) = true
  | [] => rfl
  | x :: m => by
    rw [List.map_cons]
    simp only [PyData.canLayAll0, PyData.canLay0, lay_ints m, Bool.and_self]
theorem dep_ints : ∀ m : List Int, PyData.depthAll (m.map PyData.int) ≤ 0
  | [] => Nat.le_refl _
  | x :: m => by
    rw [List.map_cons]
    simp only [PyData.depthAll, PyData.depth]
    have := dep_ints m
    omega
theorem tab_but32 {PT f : Addr} {H H' : Hp} (g : GxR.TabG H PT) (n : f ≠ PT) (b : But f H H') : GxR.TabG H' PT := by
  obtain ⟨ps, e, t⟩ := g
  exact ⟨ps, b _ _ e fun z => n z.symm, t⟩
theorem lst_off32 {PT p : Addr} {H : Hp} {xs : List V} (g : GxR.TabG H PT) (e : H p = some (.lst xs)) : p ≠ PT := fun z => by
  obtain ⟨ps, e1, _⟩ := g
  rw [z, e1] at e
  cases e
theorem But.flow32 {PT f c : Addr} {H H' : Hp} (F : Flow H f c) (g : GxR.TabG H PT) (b : But PT H H') : Flow H' f c := by
  obtain ⟨ns, i, a, q, r, e1, e2, e⟩ := F
  exact ⟨ns, i, a, q, r, b _ _ e1 (lst_off32 g e1), b _ _ e2 (lst_off32 g e2), e⟩
/-- what stands fast in this law -/
structure G32 (H : Hp) (PT f c r sl : Addr) (hs : List HR) (bs : List BR) (late : Int) (sh : Nat → Int) : Prop where
  fl : Flow H f c
  hR : RoomAt H r hs bs
  ok : RoomOk hs bs
  hsl : H sl = some (.tup (levL hs.length sh))
  gd : Good33 hs bs late sh
  tg : GxR.TabG H PT
  fP : f ≠ PT
theorem G32.but {H H' : Hp} {PT f c r sl : Addr} {hs : List HR} {bs : List BR} {late : Int} {sh : Nat → Int} (g : G32 H PT f c r sl hs bs late sh) (F : Flow H' f c) (b : But f H H') : G32 H' PT f c r sl hs bs late sh :=
  ⟨F, g.hR.keep (TK.but g.fl b), g.ok, TK.but g.fl b _ _ g.hsl, g.gd, tab_but32 g.tg g.fP b, g.fP⟩
theorem G32.same {H H' : Hp} {PT f c r sl : Addr} {hs : List HR} {bs : List BR} {late : Int} {sh : Nat → Int} (g : G32 H PT f c r sl hs bs late sh) (s : Same H H') : G32 H' PT f c r sl hs bs late sh := g.but (g.fl.same s) (But.refl.same s)
theorem G32.tab {H H' : Hp} {PT f c r sl : Addr} {hs : List HR} {bs : List BR} {late : Int} {sh : Nat → Int} (g : G32 H PT f c r sl hs bs late sh) (t : GxR.TabG H' PT) (b : But PT H H') : G32 H' PT f c r sl hs bs late sh :=
  ⟨But.flow32 g.fl g.tg b, g.hR.keep (tab_tk g.tg b), g.ok, tab_tk g.tg b _ _ g.hsl, g.gd, t, g.fP⟩
theorem G32.good {H : Hp} {PT f c r sl : Addr} {hs : List HR} {bs : List BR} {late : Int} {sh : Nat → Int} (g : G32 H PT f c r sl hs bs late sh) : ThOk f H (.ref sl) (some (levL hs.length sh)) :=
  .tup g.hsl (g.fl.tup g.hsl) fun x hx => by
    obtain ⟨k, _, rfl⟩ := List.mem_map.mp hx
    exact .int _
abbrev rfD (wd : Str) (ks : List Nat) : PyData := .tuple [.str "refused", .str wd, .tuple (ks.map fun n => PyData.int ((n : Nat) : Int))]
theorem rf_dp {K : PySem.W.Frag} {H : Hp} {p t : Addr} {wd : Str} {ks : List Nat} (h1 : H p = some (.tup [.str "refused", .str wd, .ref t])) (h2 : H t = some (.tup (ks.map nV))) : Dp K H (.ref p) (rfD wd ks) :=
  .tup (SqT.of h1) (.cons (.str _) (.cons (.str _) (.cons (.tup (SqT.of h2) (dp_nats ks)) .nil)))
theorem rf_lay {wd : Str} {ks : List Nat} (h : PyData.canLay0 (.str wd) = true) : PyData.canLay0 (rfD wd ks) = true := by
  have e : (ks.map fun n => PyData.int ((n : Nat) : Int)) = (ks.map fun n => ((n : Nat) : Int)).map PyData.int := by rw [List.map_map]; rfl
  have l := lay_ints (ks.map fun n => ((n : Nat) : Int))
  rw [← e] at l
  have h2 : PyData.canLay0 (.str "refused") = true := by decide +kernel
  unfold rfD
  simp only [PyData.canLay0, PyData.canLayAll0, l, Bool.and_true] at h h2 ⊢
  simp only [h, h2, Bool.and_true]
theorem rf_shaped {wd : Str} {ks : List Nat} (h : PyData.canLay0 (.str wd) = true) : SeqAt.shaped (rfD wd ks) = true := by
  have e : (ks.map fun n => PyData.int ((n : Nat) : Int)) = (ks.map fun n => ((n : Nat) : Int)).map PyData.int := by rw [List.map_map]; rfl
  have l := dep_ints (ks.map fun n => ((n : Nat) : Int))
  rw [← e] at l
  unfold SeqAt.shaped
  rw [Bool.and_eq_true]
  refine ⟨rf_lay h, decide_eq_true ?_⟩
  simp only [PyData.depth, PyData.depthAll]
  omega
theorem Dr.lay {hs : List HR} {bs : List BR} {late : Int} {o : Option (List V)} {wd : Str} {ks : List Nat} (a : Dr hs bs late o wd ks) : PyData.canLay0 (.str wd) = true := by
  rcases a.wds with rfl | rfl | rfl
  · decide +kernel
  · decide +kernel
  · decide +kernel
section
variable {P : Program} {w : World} {K : PySem.W.Frag} {mg : Str → Option Value} {base : Heap} {cT PT : Addr} [TI : TabI K mg base cT PT]
include TI
def sp_law (K : PySem.W.Frag) (PT : Addr) : Sp := fun vs H Q _ => ∃ (a : Addr) (ns : List Int), vs = [.ref a] ∧ SqL K H a (ns.map V.int) ∧ ns.length ≤ 63 ∧ GxR.TabG H PT ∧ ∀ H', Q (.bl true) H'
theorem ok_law {f : Addr} {fd : FuncData} (F : Fun K "law" "law" s_law f fd) (T : Top K mg) : FnOk P w K mg base CX0 6 f fd ["_law_script"] (sp_law K PT) := by
  obtain ⟨f_law_flow, fd_law_flow, F_law_flow, b_law_flow, m_law_flow⟩ := T.d_law_flow
  have G_law_flow := ok_law_flow (P := P) (w := w) (base := base) F_law_flow T
  obtain ⟨f_law_room, fd_law_room, F_law_room, b_law_room, m_law_room⟩ := T.d_law_room
  have G_law_room := ok_law_room (P := P) (w := w) (base := base) F_law_room T
  obtain ⟨f_law_pick, fd_law_pick, F_law_pick, b_law_pick, m_law_pick⟩ := T.d_law_pick
  have G_law_pick := ok_law_pick (P := P) (w := w) (base := base) F_law_pick T
  obtain ⟨f_law_shifts, fd_law_shifts, F_law_shifts, b_law_shifts, m_law_shifts⟩ := T.d_law_shifts
  have G_law_shifts := ok_law_shifts (P := P) (w := w) (base := base) F_law_shifts T
  obtain ⟨f_law_due, fd_law_due, F_law_due, b_law_due, m_law_due⟩ := T.d_law_due
  have G_law_due := ok_law_due (P := P) (w := w) (base := base) F_law_due T
  obtain ⟨f_law_spoilt, fd_law_spoilt, F_law_spoilt, b_law_spoilt, m_law_spoilt⟩ := T.d_law_spoilt
  have G_law_spoilt := ok_law_spoilt (P := P) (w := w) (base := base) F_law_spoilt T
  obtain ⟨f_law_told, fd_law_told, F_law_told, b_law_told, m_law_told⟩ := T.d_law_told
  have G_law_told := ok_law_told (P := P) (w := w) (base := base) F_law_told T
  refine F.ok sc_law (fun vs H Q E h => ?_) (fun cdv A outer s H vs Q E hr h => ?_)
  · obtain ⟨a, ns, rfl, _⟩ := h
    rfl
  obtain ⟨a, ns, rfl, hS, hlen, tg, q⟩ := h
  let sg : Addr → Addr → Addr → Int → Addr → V → Option V → Option V → Option V → L2.St := fun f wl r late sl v v7 v8 v9 => [some (.ref a), some (.ref f), some (.ref wl), some (.ref r), some (.int late), some (.ref sl), some v, v7, v8, v9]
  let R1 : TS := fun D' σ' H' => D'.rt = Q ∧ ∃ (f c r wl sl : Addr) (hs : List HR) (bs : List BR) (late w1 w2 : Int) (sh : Nat → Int), σ' = sg f wl r late sl (.ref sl) none none none ∧ G32 H' PT f c r sl hs bs late sh ∧ H' wl = some (.lst [V.int w1, V.int w2]) ∧ wl ≠ f
  let R2 : TS := fun D' σ' H' => D'.rt = Q ∧ ∃ (f c r wl sl : Addr) (hs : List HR) (bs : List BR) (late : Int) (sh : Nat → Int) (v : V) (o : Option (List V)) (v7 : Option V), σ' = sg f wl r late sl v v7 none none ∧ G32 H' PT f c r sl hs bs late sh ∧ ThOk f H' v o
  let R3 : TS := fun D' σ' H' => D'.rt = Q ∧ ∃ (f c r wl sl : Addr) (hs : List HR) (bs : List BR) (late : Int) (sh : Nat → Int) (v : V) (v7 v8 v9 : Option V), σ' = sg f wl r late sl v v7 v8 v9 ∧ G32 H' PT f c r sl hs bs late sh
  refine ⟨_, (pss_cons (ps_set (i := 1) sc_law.nd rfl (Or.inl rfl) (pe_call G_law_flow (hr.mono (by decide)) (by rfl) m_law_flow F_law_flow.kp b_law_flow .nil pass0 (pa_cons (pv 0) pa_nil)))
      (pss_cons (ps_set (i := 2) sc_law.nd rfl (Or.inl rfl) (pe_lst (pa_cons (pe_call G_law_pick (hr.mono (by decide)) (by rfl) m_law_pick F_law_pick.kp b_law_pick .nil pass0 (pa_cons (pv 1) (pa_cons pe_int pa_nil))) (pa_cons (pe_ix (ix_listK K rfl) (pe_lst (pa_cons pe_int (pa_cons pe_int (pa_cons pe_int (pa_cons pe_int (pa_cons pe_int pa_nil)))))) (pe_call G_law_pick (hr.mono (by decide)) (by rfl) m_law_pick F_law_pick.kp b_law_pick .nil pass0 (pa_cons (pv 1) (pa_cons pe_int pa_nil))) (fun _ _ => rfl)) pa_nil))))
      (pss_cons (ps_set (i := 3) sc_law.nd rfl (Or.inl rfl) (pe_call G_law_room (hr.mono (by decide)) (by rfl) m_law_room F_law_room.kp b_law_room .nil pass0 (pa_cons (pv 1) (pa_cons pe_int pa_nil))))
      (pss_cons (ps_set (i := 4) sc_law.nd rfl (Or.inl rfl) (pe_call G_law_pick (hr.mono (by decide)) (by rfl) m_law_pick F_law_pick.kp b_law_pick .nil pass0 (pa_cons (pv 1) (pa_cons pe_int pa_nil))))
      (pss_cons (ps_set (i := 5) sc_law.nd rfl (Or.inl rfl) (pe_call G_law_shifts (hr.mono (by decide)) (by rfl) m_law_shifts F_law_shifts.kp b_law_shifts .nil pass0 (pa_cons (pv 1) (pa_cons (pv 3) (pa_cons (pv 4) (pa_cons (pe_call G_law_pick (hr.mono (by decide)) (by rfl) m_law_pick F_law_pick.kp b_law_pick .nil pass0 (pa_cons (pv 1) (pa_cons pe_int pa_nil))) pa_nil))))))
      (pss_cons (ps_set (i := 6) sc_law.nd rfl (Or.inl rfl) (pv 5))
      (PSs.to (pss_cons (ps_for PassesOwn.never rfl (pi_listK K rfl (pv 2)) (pg_name (i := 7) sc_law.nd rfl (Or.inl rfl))
        (pss_one (ps_if (pt_cmpR op_gt (pv 7) pe_int (nomark _)) (pss_one (ps_set (i := 6) sc_law.nd rfl (Or.inl rfl) (pe_call G_law_spoilt (hr.mono (by decide)) (by rfl) m_law_spoilt F_law_spoilt.kp b_law_spoilt .nil pass0 (pa_cons (pv 1) (pa_cons (pv 7) (pa_cons (pv 6) pa_nil)))))) pss_nil)))
      (PSs.to (pss_cons (ps_for PassesOwn.never rfl (pi_listK K rfl (pe_lst (pa_cons (pv 6) (pa_cons (pv 5) (pa_cons (pv 6) pa_nil))))) (pg_name (i := 8) sc_law.nd rfl (Or.inl rfl))
        (pss_cons (ps_set (i := 9) sc_law.nd rfl (Or.inl rfl) (pe_call G_law_due (hr.mono (by decide)) (by rfl) m_law_due F_law_due.kp b_law_due .nil pass0 (pa_cons (pv 3) (pa_cons (pv 4) (pa_cons (pv 8) pa_nil)))))
      (pss_cons (ps_if (PW.pt (pw_and (pt_cmpR op_isN (pv 9) pe_non (nomark _)) (pw_and1 (pt_cmpR (op_neDK K rfl hr.units) (pe_call G_law_told (hr.mono (by decide)) (by rfl) m_law_told F_law_told.kp b_law_told .nil pass0 (pa_cons (pv 3) (pa_cons (pv 4) (pa_cons (pv 8) pa_nil)))) (pe_tup (pa_cons pe_str (pa_cons pe_bl pa_nil))) (nomark _))))) (pss_one (ps_ret pe_bl)) pss_nil)
      (pss_one (ps_if (PW.pt (pw_and (pt_cmpR op_notN (pv 9) pe_non (nomark _)) (pw_and1 (pt_cmpR (op_neDK K rfl hr.units) (pe_call G_law_told (hr.mono (by decide)) (by rfl) m_law_told F_law_told.kp b_law_told .nil pass0 (pa_cons (pv 3) (pa_cons (pv 4) (pa_cons (pv 8) pa_nil)))) (pe_op (op_catAK K rfl) (pe_tup (pa_cons pe_str pa_nil)) (pv 9)) (nomark _))))) (pss_one (ps_ret pe_bl)) pss_nil)))))
      (PSs.to (pss_one (ps_ret (pe_cmpR op_isN (pe_call G_law_due (hr.mono (by decide)) (by rfl) m_law_due F_law_due.kp b_law_due .nil pass0 (pa_cons (pv 3) (pa_cons (pv 4) (pa_cons (pv 5) pa_nil)))) pe_non (nomark _)))) R3 ?tail3)) R2 ?tail2)) R1 ?tail1))))))), ?_⟩
  case tail1 =>
    rintro D' σ' H1 ⟨eD, f, c, r, wl, sl, hs, bs, late, w1, w2, sh, rfl, g, hwl, nwf⟩
    have lh := g.ok.hands
    refine ⟨_, rfl, wl, rfl, ⟨_, SqL.of hwl⟩, for_list (K := K) (a := wl) (xs := [V.int w1, V.int w2]) (fun i σ H5 => ∃ (v : V) (o : Option (List V)) (v7 : Option V), σ = sg f wl r late sl v v7 none none ∧ G32 H5 PT f c r sl hs bs late sh ∧ H5 wl = some (.lst [V.int w1, V.int w2]) ∧ ThOk f H5 v o ∧ Few (12 + i) o) ⟨_, _, none, rfl, g, hwl, g.good, fun _ z => by cases z; rw [List.length_map, List.length_range]; omega⟩ (fun i σ H5 _ ⟨_, _, _, _, _, h, _⟩ => SqL.of h) ?_ ?_⟩
    · rintro i x σ H5 hx ⟨v, o, v7, rfl, g5, hwl5, hT, few⟩
      have il := (List.getElem?_eq_some_iff.mp hx).1
      have il : i < 2 := il
      obtain ⟨wi, rfl⟩ : ∃ wi : Int, x = .int wi := by
        rcases List.mem_cons.mp (List.mem_of_getElem? hx) with e | m
        · exact ⟨_, e⟩
        · exact ⟨_, List.mem_singleton.mp m⟩
      refine ⟨_, rfl, _, _, rfl, rfl, _, rfl, if_bl (fun _ => ?_) (fun _ => ?_)⟩
      · refine ⟨_, rfl, _, rfl, _, rfl, f, c, wi, v, o, 12 + i, rfl, g5.fl, hT, few, by omega, fun v' o' H6 hT' few' F6 B6 => ?_⟩
        exact ⟨v', o', _, rfl, g5.but F6 B6, B6 _ _ hwl5 nwf, hT', few'⟩
      · exact ⟨v, o, _, rfl, g5, hwl5, hT, fun xs e => Nat.le_succ_of_le (few xs e)⟩
    · rintro σ H5 ⟨v, o, v7, rfl, g5, hwl5, hT, few⟩
      exact ⟨eD, f, c, r, wl, sl, hs, bs, late, sh, v, o, v7, rfl, g5, hT⟩
  case tail2 =>
    rintro D' σ' H1 ⟨eD, f, c, r, wl, sl, hs, bs, late, sh, v, o, v7, rfl, g, hT⟩
    refine ⟨_, rfl, _, rfl, _, rfl, (by show 3 ≤ sizeLine; decide), fun L nL => ?_⟩
    have u := same_new (o := .lst [v, V.ref sl, v]) nL
    have g1 := g.same u
    have hL : (upd H1 L (.lst [v, V.ref sl, v])) L = some (.lst [v, V.ref sl, v]) := upd_same
    have hT1 := hT.same u
    generalize upd H1 L _ = H2 at *
    refine ⟨L, rfl, ⟨_, SqL.of hL⟩, for_list (K := K) (a := L) (xs := [v, V.ref sl, v]) (fun i σ H5 => ∃ (v8 v9 : Option V), σ = sg f wl r late sl v v7 v8 v9 ∧ G32 H5 PT f c r sl hs bs late sh ∧ H5 L = some (.lst [v, V.ref sl, v]) ∧ ThOk f H5 v o) ⟨none, none, rfl, g1, hL, hT1⟩ (fun i σ H5 _ ⟨_, _, _, _, h, _⟩ => SqL.of h) ?_ ?_⟩
    · rintro i x σ H5 hx ⟨v8, v9, rfl, g5, hL5, hT5⟩
      obtain ⟨ox, hX⟩ : ∃ ox, ThOk f H5 x ox := by
        have m := List.mem_of_getElem? hx
        rcases List.mem_cons.mp m with rfl | m
        · exact ⟨o, hT5⟩
        · rcases List.mem_cons.mp m with rfl | m
          · exact ⟨_, g5.good⟩
          · rw [List.mem_singleton.mp m]
            exact ⟨o, hT5⟩
      refine ⟨_, rfl, _, rfl, _, rfl, f, r, x, hs, bs, late, ox, rfl, g5.hR, g5.ok, hX, fun H6 e gd s6 => ?_, fun p t wd ks H6 dr hp ht s6 => ?_⟩
      · have g6 := g5.same s6
        have hX6 := hX.same s6
        refine ⟨_, rfl, rfl, _, rfl, if_bl (fun _ => ?_) (fun z => nomatch z)⟩
        refine ⟨_, rfl, _, rfl, _, rfl, f, r, x, hs, bs, late, ox, rfl, g6.hR, g6.ok, hX6, g6.tg, fun p H7 _ _ hp tg7 b7 => ?_, fun p t wd ks H7 dr _ _ _ _ => (dr.not e gd).elim⟩
        refine ⟨(by show 2 ≤ sizeLine; decide), fun p2 np2 => ?_⟩
        have u7 := same_new (o := .tup [V.str "let by", V.bl true]) np2
        refine ⟨_, _, .tup (SqT.of (u7 _ _ hp)) (.cons (.str _) (.cons (.bl _) .nil)), .tup (SqT.of upd_same) (.cons (.str _) (.cons (.bl _) .nil)), (by decide +kernel), (by decide +kernel), _, rfl, ?_⟩
        rw [SeqAt.eqv_refl _ (by decide +kernel)]
        refine if_bl (fun z => nomatch z) (fun _ => ?_)
        have b78 := b7.same u7
        have tg8 := same_tab tg7 u7
        refine ⟨_, rfl, rfl, _, rfl, if_bl (fun z => nomatch z) (fun _ => if_bl (fun z => nomatch z) (fun _ => ?_))⟩
        exact ⟨_, _, rfl, g6.tab tg8 b78, b78 _ _ (s6 _ _ hL5) (lst_off32 g6.tg (s6 _ _ hL5)), (hT5.same s6).tab g6.tg b78⟩
      · have g6 := g5.same s6
        have hX6 := hX.same s6
        refine ⟨_, rfl, rfl, _, rfl, if_bl (fun z => nomatch z) (fun _ => if_bl (fun z => nomatch z) (fun _ => ?_))⟩
        refine ⟨_, rfl, rfl, _, rfl, if_bl (fun _ => ?_) (fun z => nomatch z)⟩
        refine ⟨_, rfl, _, rfl, _, rfl, f, r, x, hs, bs, late, ox, rfl, g6.hR, g6.ok, hX6, g6.tg, fun p H7 e gd _ _ _ => (dr.not e gd).elim, fun p2 t2 wd2 ks2 H7 dr2 hp2 ht2 tg7 b7 => ?_⟩
        obtain ⟨rfl, rfl⟩ := dr.one dr2
        have k7 := tab_tk g6.tg b7
        refine ⟨(by show 1 ≤ sizeLine; decide), fun p3 np3 => ?_⟩
        have u7 := same_new (o := .tup [V.str "refused"]) np3
        refine ⟨_, rfl, catA_of upd_same (u7 _ _ (k7 _ _ hp)) (by show 1 + 2 ≤ 1000; decide) fun p4 H8 hp4 s8 => ?_⟩
        have t8 := u7.trans s8
        have lay := dr.lay
        refine ⟨_, _, rf_dp (t8 _ _ hp2) (t8 _ _ ht2), rf_dp hp4 (t8 _ _ (k7 _ _ ht)), rf_shaped lay, rf_shaped lay, _, rfl, ?_⟩
        rw [SeqAt.eqv_refl _ (rf_lay lay)]
        refine if_bl (fun z => nomatch z) (fun _ => ?_)
        have b78 := b7.same t8
        exact ⟨_, _, rfl, g6.tab (same_tab tg7 t8) b78, b78 _ _ (s6 _ _ hL5) (lst_off32 g6.tg (s6 _ _ hL5)), (hT5.same s6).tab g6.tg b78⟩
    · rintro σ H5 ⟨v8, v9, rfl, g5, hL5, hT5⟩
      exact ⟨eD, f, c, r, wl, sl, hs, bs, late, sh, v, v7, v8, v9, rfl, g5⟩
  case tail3 =>
    rintro D' σ' H1 ⟨eD, f, c, r, wl, sl, hs, bs, late, sh, v, v7, v8, v9, rfl, g⟩
    refine ⟨_, rfl, _, rfl, _, rfl, f, r, .ref sl, hs, bs, late, _, rfl, g.hR, g.ok, g.good, fun H2 e gd s2 => ?_, fun p t wd ks H2 dr _ _ _ => (dr.not okT_levL (good_lev g.ok g.gd)).elim⟩
    refine ⟨rfl, ?_⟩
    rw [eD]
    exact q H2
  refine ⟨_, rfl, a, ns, rfl, hS, fun f c H1 nf nc F1 s1 => ?_⟩
  have tg1 := same_tab tg s1
  have fP : f ≠ PT := fun z => by obtain ⟨ps, e, _⟩ := tg; rw [z, e] at nf; cases nf
  refine ⟨_, rfl, f, c, 6, rfl, by decide, by decide +kernel, F1, fun w1 H2 x0 x1 F2 B2 => ?_⟩
  have tg2 := tab_but32 tg1 fP B2
  refine ⟨(by show 5 ≤ sizeLine; decide), fun l2 nl2 => ?_⟩
  have u2 := same_new (o := .lst [V.int 0, V.int 0, V.int 5, V.int 3, V.int 1]) nl2
  have F2b := F2.same u2
  have nlf := F2.ne nl2
  have hl2 : (upd H2 l2 (.lst [V.int 0, V.int 0, V.int 5, V.int 3, V.int 1])) l2 = some (.lst [V.int 0, V.int 0, V.int 5, V.int 3, V.int 1]) := upd_same
  generalize upd H2 l2 _ = H2b at *
  refine ⟨_, rfl, f, c, 5, rfl, by decide, by decide +kernel, F2b, fun v5 H3 y0 y1 F3 B3 => ?_⟩
  have tg3 := tab_but32 (same_tab tg2 u2) fP B3
  obtain ⟨w2, ew⟩ : ∃ w2 : Int, atI [V.int 0, V.int 0, V.int 5, V.int 3, V.int 1] v5 = some (.int w2) := by
    have : v5 = 0 ∨ v5 = 1 ∨ v5 = 2 ∨ v5 = 3 ∨ v5 = 4 := by omega
    rcases this with rfl | rfl | rfl | rfl | rfl
    · exact ⟨_, rfl⟩
    · exact ⟨_, rfl⟩
    · exact ⟨_, rfl⟩
    · exact ⟨_, rfl⟩
    · exact ⟨_, rfl⟩
  refine ⟨l2, _, _, _, rfl, rfl, SqL.of (B3 _ _ hl2 nlf), ew, (by show 2 ≤ sizeLine; decide), fun wl nwl => ?_⟩
  have u3 := same_new (o := .lst [V.int w1, V.int w2]) nwl
  have hwl : (upd H3 wl (.lst [V.int w1, V.int w2])) wl = some (.lst [V.int w1, V.int w2]) := upd_same
  have nwf := F3.ne nwl
  have F3b := F3.same u3
  have tg3b := same_tab tg3 u3
  generalize upd H3 wl _ = H3b at *
  refine ⟨_, rfl, f, c, 6, rfl, by decide, by decide, F3b, fun r hs bs H4 hR ok some1 l6 F4 B4 => ?_⟩
  have tg4 := tab_but32 tg3b fP B4
  refine ⟨_, rfl, f, c, 7, rfl, by decide, by decide +kernel, F4, fun late H5 v0 v1 F5 B5 => ?_⟩
  have tg5 := tab_but32 tg4 fP B5
  refine ⟨_, rfl, _, rfl, _, rfl, _, rfl, f, c, 13, rfl, by decide, by decide +kernel, F5, fun v13 H6 z0 z1 F6 B6 => ?_⟩
  have tg6 := tab_but32 tg5 fP B6
  have k6 := (TK.but F4 B5).trans (TK.but F5 B6)
  refine ⟨f, c, r, hs, bs, late, v13, rfl, F6, hR.keep k6, ok, some1, v0, by omega, z0, by omega, fun sl sh H7 hsl gd bd F7 B7 => ?_⟩
  have tg7 := tab_but32 tg6 fP B7
  have hwl7 := B7 _ _ (B6 _ _ (B5 _ _ (B4 _ _ hwl nwf) nwf) nwf) nwf
  exact ⟨_, rfl, rfl, f, c, r, wl, sl, hs, bs, late, w1, w2, sh, rfl, ⟨F7, (hR.keep k6).keep (TK.but F6 B7), ok, hsl, gd, tg7, fP⟩, hwl7, nwf⟩
end
/-! ### the class of own errors, looked at in the head -/
def oexB (K : PySem.W.Frag) (C : Addr) : Bool := match K.lookup C with
  | some o => (match o.cls, o.data, o.slots.toList with
    | .type t, .cls cd, [_, _, _, _, some (.builtin n), _] => decide (t = "type") && (decide (n = "ValueError.__new__") && (!cd.hasDel && (cd.hasDict && (match cd.mro with
      | .ref C' :: bm => decide (C' = C) && PySem.HandSPX.refsVE bm
      | _ => false))))
    | _, _, _ => false)
  | none => false
theorem oexB_ok {K : PySem.W.Frag} {C : Addr} (h : oexB K C = true) : ∃ nm q N bs bm sn sub ab col dd k0 k1 k2 k3 k5, K.lookup C = some (excClassObj nm q C N bs bm true sn sub ab col dd k0 k1 k2 k3 k5 "ValueError.__new__") ∧ PySem.HandSPX.refsVE bm = true := by
  unfold oexB at h
  split at h
  · rename_i o ho
    split at h
    · rename_i t cd k0 k1 k2 k3 n k5 e1 e2 hs
      simp only [Bool.and_eq_true, decide_eq_true_eq, Bool.not_eq_true'] at h
      obtain ⟨q1, q2, q3, q4, q5⟩ := h
      split at q5
      · rename_i C' bm e3
        simp only [Bool.and_eq_true, decide_eq_true_eq] at q5
        obtain ⟨oc, od, odt, osl⟩ := o
        obtain ⟨nm, bs, mro, ns, qn, hd, sn, sub, ab, col, del⟩ := cd
        obtain ⟨l⟩ := osl
        dsimp only at e1 e2 e3 hs q3 q4
        have hs : l = [k0, k1, k2, k3, some (.builtin n), k5] := hs
        rw [e1, e2, e3, hs, q1, q2, q3, q4, q5.1] at ho
        exact ⟨nm, qn, ns, bs, bm, sn, sub, ab, col, od, k0, k1, k2, k3, k5, ho, q5.2⟩
      · cases q5
    · cases h
  · cases h
/-- all that is asked of the class named x, its __init__ at f -/
def ownB (K : PySem.W.Frag) (C f : Addr) : List Bool := [oexB K C,
  decide (PySem.W.findIn K (.ref C) "__setattr__" = some (some (.builtin "object.__setattr__"))),
  decide (PySem.W.subIn K (.ref C) (.type "BaseException") = some true),
  decide (PySem.W.typeIn K (.ref C) = some (.type "type")),
  PySem.W.keepIn K (.ref C),
  decide (PySem.W.findIn K (.ref C) "__init__" = some (some (.ref f))),
  decide (PySem.W.typeIn K (.ref f) = some (.type "function")),
  decide (PySem.W.findIn K (.ref C) "__getattribute__" = some (some (.builtin "BaseException.__getattribute__"))),
  decide (PySem.W.findIn K (.ref C) "__getattr__" = some none),
  PySem.W.hasDictIn K C,
  decide (PySem.W.findIn K (.ref C) "__class__" = some (some (.builtin "object.__class__"))),
  decide (PySem.W.specialIn K (.builtin "object.__class__") "__get__" = some (some (.builtin "getset_descriptor.__get__"))),
  decide (PySem.W.takesIn K (.builtin "object.__class__") = some true),
  decide (PySem.W.mroIn K C (.type "object") = some true),
  decide (PySem.W.kitOne K (.ref C) (.ref C) = some true),
  decide (PySem.W.kitOne K (.ref C) (.type "ValueError") = some true),
  decide (PySem.W.findIn K (.ref C) "word" = some none),
  decide (PySem.W.findIn K (.ref C) "at" = some none)]
def nsB (K : PySem.W.Frag) : Bool := (ownB K (He.ga K "NoShift") (He.fAd K ("NoShift", some "__init__"))).all id && decide (PySem.W.exmOne K (.ref (He.ga K "NoShift")) (.ref (He.ga K "BeltError")) = some true) && decide (PySem.W.kitAny K (.ref (He.ga K "NoShift")) [.ref (He.ga K "NoText"), .ref (He.ga K "NoRoom"), .ref (He.ga K "NoFormula"), .ref (He.ga K "NotReady"), .ref (He.ga K "NoName"), .ref (He.ga K "NoRow")] = some false)
theorem nsB_ok {K : PySem.W.Frag} {mg : Str → Option Value} {fd : FuncData} (h : nsB K = true) (gC : mg "NoShift" = some (.ref (He.ga K "NoShift"))) (gB : mg "BeltError" = some (.ref (He.ga K "BeltError"))) (F : Fun K "__init__" "NoShift.__init__" s_NoShift_init (He.fAd K ("NoShift", some "__init__")) fd) (b : Binds K fd ["self", "word", "at"] []) : NsC K mg (He.ga K "NoShift") (He.ga K "BeltError") (He.fAd K ("NoShift", some "__init__")) fd := by
  unfold nsB at h
  obtain ⟨h, ko⟩ := Bool.and_eq_true_iff.mp h
  have ko := of_decide_eq_true ko
  revert ko
  generalize He.ga K "NoShift" = C at *
  generalize He.ga K "BeltError" = CB at *
  intro ko
  generalize He.fAd K ("NoShift", some "__init__") = f at *
  obtain ⟨h, te⟩ := Bool.and_eq_true_iff.mp h
  have all := List.all_eq_true.mp h
  have at_ : ∀ (i : Nat) (z : Bool), (ownB K C f)[i]? = some z → z = true := fun i z e => all z (List.mem_of_getElem? e)
  have d : ∀ {p : Prop} [Decidable p], decide p = true → p := fun h => of_decide_eq_true h
  have w1 := d (at_ 1 _ rfl)
  have w2 := d (at_ 2 _ rfl)
  have w3 := d (at_ 3 _ rfl)
  have w4 := at_ 4 _ rfl
  have w7 := d (at_ 7 _ rfl)
  have w8 := d (at_ 8 _ rfl)
  have w9 := at_ 9 _ rfl
  exact ⟨gC, gB, ⟨oexB_ok (at_ 0 _ rfl), w1, w2, w3, w4⟩, d (at_ 16 _ rfl), d (at_ 17 _ rfl), d (at_ 5 _ rfl), d (at_ 6 _ rfl), F, b, of_decide_eq_true te, ⟨w7, w8, w2, w9⟩, ⟨w7, w8, w2, w9, d (at_ 10 _ rfl), d (at_ 11 _ rfl), d (at_ 12 _ rfl), d (at_ 13 _ rfl)⟩, d (at_ 14 _ rfl), d (at_ 15 _ rfl), ko⟩
theorem fun_of_D {K : PySem.W.Frag} {x q : Str} {st : Stmt} {f : Addr} {fd : FuncData} (D : FunD K x q (defArgs st) (defBody st) (defScope st) [] [] f fd) : Fun K x q st f fd := by
  obtain ⟨⟨oc, od, dV, kV, doc, pm, an, cdv, ct, osl, e, lk, ci, dfl, _⟩, kp⟩ := D
  have z : dV = .none := by
    rcases dfl with ⟨_, h⟩ | ⟨h, _⟩
    · exact h
    · exact absurd rfl h
  subst z
  exact ⟨⟨oc, od, kV, doc, pm, an, cdv, ct, osl, e, lk, ci⟩, kp⟩
def hd_is_whole : He.DefD := ⟨("is_whole", none), "is_whole", "is_whole", defArgs s_is_whole, defBody s_is_whole, defScope s_is_whole, [], []⟩
def hd_doors_in : He.DefD := ⟨("doors_in", none), "doors_in", "doors_in", defArgs s_doors_in, defBody s_doors_in, defScope s_doors_in, [], []⟩
def hd_doors_out : He.DefD := ⟨("doors_out", none), "doors_out", "doors_out", defArgs s_doors_out, defBody s_doors_out, defScope s_doors_out, [], []⟩
def hd_look_shifts : He.DefD := ⟨("look_shifts", none), "look_shifts", "look_shifts", defArgs s_look_shifts, defBody s_look_shifts, defScope s_look_shifts, [], []⟩
def hd_refuse_shifts : He.DefD := ⟨("refuse_shifts", none), "refuse_shifts", "refuse_shifts", defArgs s_refuse_shifts, defBody s_refuse_shifts, defScope s_refuse_shifts, [], []⟩
def hd_is_shifts : He.DefD := ⟨("is_shifts", none), "is_shifts", "is_shifts", defArgs s_is_shifts, defBody s_is_shifts, defScope s_is_shifts, [], []⟩
def hd_wrong_door : He.DefD := ⟨("wrong_door", none), "wrong_door", "wrong_door", defArgs s_wrong_door, defBody s_wrong_door, defScope s_wrong_door, [], []⟩
def hd_short_belt : He.DefD := ⟨("short_belt", none), "short_belt", "short_belt", defArgs s_short_belt, defBody s_short_belt, defScope s_short_belt, [], []⟩
def hd_trays_moved : He.DefD := ⟨("trays_moved", none), "trays_moved", "trays_moved", defArgs s_trays_moved, defBody s_trays_moved, defScope s_trays_moved, [], []⟩
def hd_law_flow : He.DefD := ⟨("_law_flow", none), "_law_flow", "_law_flow", defArgs s_law_flow, defBody s_law_flow, defScope s_law_flow, [], []⟩
def hd_law_pick : He.DefD := ⟨("_law_pick", none), "_law_pick", "_law_pick", defArgs s_law_pick, defBody s_law_pick, defScope s_law_pick, [], []⟩
def hd_law_thing : He.DefD := ⟨("_law_thing", none), "_law_thing", "_law_thing", defArgs s_law_thing, defBody s_law_thing, defScope s_law_thing, [], []⟩
def hd_law_needs : He.DefD := ⟨("_law_needs", none), "_law_needs", "_law_needs", defArgs s_law_needs, defBody s_law_needs, defScope s_law_needs, [], []⟩
def hd_law_rule : He.DefD := ⟨("_law_rule", none), "_law_rule", "_law_rule", defArgs s_law_rule, defBody s_law_rule, defScope s_law_rule, [], []⟩
def hd_law_shuffled : He.DefD := ⟨("_law_shuffled", none), "_law_shuffled", "_law_shuffled", defArgs s_law_shuffled, defBody s_law_shuffled, defScope s_law_shuffled, [], []⟩
def hd_law_hands : He.DefD := ⟨("_law_hands", none), "_law_hands", "_law_hands", defArgs s_law_hands, defBody s_law_hands, defScope s_law_hands, [], []⟩
def hd_law_room : He.DefD := ⟨("_law_room", none), "_law_room", "_law_room", defArgs s_law_room, defBody s_law_room, defScope s_law_room, [], []⟩
def hd_law_trays : He.DefD := ⟨("_law_trays", none), "_law_trays", "_law_trays", defArgs s_law_trays, defBody s_law_trays, defScope s_law_trays, [], []⟩
def hd_law_shifts : He.DefD := ⟨("_law_shifts", none), "_law_shifts", "_law_shifts", defArgs s_law_shifts, defBody s_law_shifts, defScope s_law_shifts, [], []⟩
def hd_law_whole : He.DefD := ⟨("_law_whole", none), "_law_whole", "_law_whole", defArgs s_law_whole, defBody s_law_whole, defScope s_law_whole, [], []⟩
def hd_law_spoilt : He.DefD := ⟨("_law_spoilt", none), "_law_spoilt", "_law_spoilt", defArgs s_law_spoilt, defBody s_law_spoilt, defScope s_law_spoilt, [], []⟩
def hd_law_due : He.DefD := ⟨("_law_due", none), "_law_due", "_law_due", defArgs s_law_due, defBody s_law_due, defScope s_law_due, [], []⟩
def hd_law_told : He.DefD := ⟨("_law_told", none), "_law_told", "_law_told", defArgs s_law_told, defBody s_law_told, defScope s_law_told, [], []⟩
def hd_law : He.DefD := ⟨("law", none), "law", "law", defArgs s_law, defBody s_law, defScope s_law, [], []⟩
def hd_NsInit : He.DefD := ⟨("NoShift", some "__init__"), "__init__", "NoShift.__init__", defArgs s_NoShift_init, defBody s_NoShift_init, defScope s_NoShift_init, [], []⟩
def hFn : List He.DefD := [hd_is_whole, hd_doors_in, hd_doors_out, hd_look_shifts, hd_refuse_shifts, hd_is_shifts, hd_wrong_door, hd_short_belt, hd_trays_moved, hd_law_flow, hd_law_pick, hd_law_thing, hd_law_needs, hd_law_rule, hd_law_shuffled, hd_law_hands, hd_law_room, hd_law_trays, hd_law_shifts, hd_law_whole, hd_law_spoilt, hd_law_due, hd_law_told, hd_law, hd_NsInit]
def hFa : List He.Fa := [.glo "is_whole", .glo "doors_in", .glo "doors_out", .glo "look_shifts", .glo "refuse_shifts", .glo "is_shifts", .glo "wrong_door", .glo "short_belt", .glo "trays_moved", .glo "_law_flow", .glo "_law_pick", .glo "_law_thing", .glo "_law_needs", .glo "_law_rule", .glo "_law_shuffled", .glo "_law_hands", .glo "_law_room", .glo "_law_trays", .glo "_law_shifts", .glo "_law_whole", .glo "_law_spoilt", .glo "_law_due", .glo "_law_told", .glo "law", .free "ValueError", .free "abs", .free "all", .free "bool", .free "enumerate", .free "int", .free "isinstance", .free "len", .free "list", .free "max", .free "min", .free "range", .free "tuple", .glo "IN_RULE", .glo "OUT_RULE", .glo "NoShift", .glo "BeltError", .glo "NoText", .glo "NoRoom", .glo "NoFormula", .glo "NotReady", .glo "NoName", .glo "NoRow"]
def hEx (K : PySem.W.Frag) : Bool := He.tupB K "IN_RULE" [.str "in"] && He.tupB K "OUT_RULE" [.str "out"] && nsB K
def hTf : List (Str × Option Str) := [("is_shifts", none)]
abbrev hR : PySem.W.OpenRow := PySem.W.OpenLaw.row PySem.Challenge.rw_beltshift_k32_shifts_looked_at
abbrev hk : PySem.W.Hook := He.hookX 4 hFa hFn [] hTf hEx
def hOb (s : PySem.W.SharedT) : He.AlX := He.obsX 4 hFa hFn [] hTf hEx (HandSHeadRun.getT s)
theorem hOb_eq (s : PySem.W.SharedT) : hOb s = hk.obs s.abs := He.obsX_eq (HandSHeadRun.getT_eq s)
def hN0 : List Str := ["BeltError", "NoText", "NoRoom", "NoFormula", "NoShift", "NotReady", "NoName", "NoRow", "is_whole", "IN_RULE", "OUT_RULE", "doors_in", "doors_out", "look_shifts", "refuse_shifts", "is_shifts", "wrong_door", "short_belt", "trays_moved", "_law_flow", "_law_pick", "_law_thing", "_law_needs", "_law_rule", "_law_shuffled", "_law_hands", "_law_room", "_law_trays", "_law_shifts", "_law_whole"]
def hN1 : List Str := ["_law_spoilt", "_law_due", "_law_told"]
def hNames : List Str := hN0 ++ hN1
set_option maxHeartbeats 0 in
theorem hRun (w : World) : HandSHeadRun.RunEq hR (PySem.W.view hR.prog [38]) hk hOb 40000 hNames w := by
  intro os
  kernel_rfl
set_option maxHeartbeats 0 in
theorem all_mkX {w : World} {K : PySem.W.Frag} {h : Heap} {mg : Str → Option Value} {fa : Addr} (X : K.In h) (G : h.Ns mainGlobals mg) (hfa : mg "law" = some (.ref fa)) (c : He.SaysX hFa hFn [] hTf hEx w h K) : LamX.LawAtS PySem.Challenge.rw_beltshift_k32_shifts_looked_at w K CX0 6 63 "_law_script" mg fa h := by
  have cd := c.t.d
  obtain ⟨fd0, D0⟩ := cd.def_ 0 (d := hd_is_whole) rfl
  have F0 : Fun K "is_whole" "is_whole" s_is_whole (He.ga K "is_whole") fd0 := fun_of_D D0
  have g0 : mg "is_whole" = some (.ref (He.ga K "is_whole")) := He.glo_ok X G (cd.fact 0 (f := .glo "is_whole") rfl)
  have b0 := F0.binds (ps := ["thing"]) fun _ _ _ _ _ _ us hl => match us, hl with | [_], _ => rfl
  obtain ⟨fd1, D1⟩ := cd.def_ 1 (d := hd_doors_in) rfl
  have F1 : Fun K "doors_in" "doors_in" s_doors_in (He.ga K "doors_in") fd1 := fun_of_D D1
  have g1 : mg "doors_in" = some (.ref (He.ga K "doors_in")) := He.glo_ok X G (cd.fact 1 (f := .glo "doors_in") rfl)
  have b1 := F1.binds (ps := ["room"]) fun _ _ _ _ _ _ us hl => match us, hl with | [_], _ => rfl
  obtain ⟨fd2, D2⟩ := cd.def_ 2 (d := hd_doors_out) rfl
  have F2 : Fun K "doors_out" "doors_out" s_doors_out (He.ga K "doors_out") fd2 := fun_of_D D2
  have g2 : mg "doors_out" = some (.ref (He.ga K "doors_out")) := He.glo_ok X G (cd.fact 2 (f := .glo "doors_out") rfl)
  have b2 := F2.binds (ps := ["room"]) fun _ _ _ _ _ _ us hl => match us, hl with | [_], _ => rfl
  obtain ⟨fd3, D3⟩ := cd.def_ 3 (d := hd_look_shifts) rfl
  have F3 : Fun K "look_shifts" "look_shifts" s_look_shifts (He.ga K "look_shifts") fd3 := fun_of_D D3
  have g3 : mg "look_shifts" = some (.ref (He.ga K "look_shifts")) := He.glo_ok X G (cd.fact 3 (f := .glo "look_shifts") rfl)
  have b3 := F3.binds (ps := ["room", "late", "shifts"]) fun _ _ _ _ _ _ us hl => match us, hl with | [_, _, _], _ => rfl
  obtain ⟨fd4, D4⟩ := cd.def_ 4 (d := hd_refuse_shifts) rfl
  have F4 : Fun K "refuse_shifts" "refuse_shifts" s_refuse_shifts (He.ga K "refuse_shifts") fd4 := fun_of_D D4
  have g4 : mg "refuse_shifts" = some (.ref (He.ga K "refuse_shifts")) := He.glo_ok X G (cd.fact 4 (f := .glo "refuse_shifts") rfl)
  have b4 := F4.binds (ps := ["word", "at"]) fun _ _ _ _ _ _ us hl => match us, hl with | [_, _], _ => rfl
  obtain ⟨fd5, D5⟩ := cd.def_ 5 (d := hd_is_shifts) rfl
  have F5 : Fun K "is_shifts" "is_shifts" s_is_shifts (He.ga K "is_shifts") fd5 := fun_of_D D5
  have g5 : mg "is_shifts" = some (.ref (He.ga K "is_shifts")) := He.glo_ok X G (cd.fact 5 (f := .glo "is_shifts") rfl)
  have b5 := F5.binds (ps := ["room", "thing"]) fun _ _ _ _ _ _ us hl => match us, hl with | [_, _], _ => rfl
  obtain ⟨fd6, D6⟩ := cd.def_ 6 (d := hd_wrong_door) rfl
  have F6 : Fun K "wrong_door" "wrong_door" s_wrong_door (He.ga K "wrong_door") fd6 := fun_of_D D6
  have g6 : mg "wrong_door" = some (.ref (He.ga K "wrong_door")) := He.glo_ok X G (cd.fact 6 (f := .glo "wrong_door") rfl)
  have b6 := F6.binds (ps := ["room", "late", "shifts"]) fun _ _ _ _ _ _ us hl => match us, hl with | [_, _, _], _ => rfl
  obtain ⟨fd7, D7⟩ := cd.def_ 7 (d := hd_short_belt) rfl
  have F7 : Fun K "short_belt" "short_belt" s_short_belt (He.ga K "short_belt") fd7 := fun_of_D D7
  have g7 : mg "short_belt" = some (.ref (He.ga K "short_belt")) := He.glo_ok X G (cd.fact 7 (f := .glo "short_belt") rfl)
  have b7 := F7.binds (ps := ["room", "shifts"]) fun _ _ _ _ _ _ us hl => match us, hl with | [_, _], _ => rfl
  obtain ⟨fd8, D8⟩ := cd.def_ 8 (d := hd_trays_moved) rfl
  have F8 : Fun K "trays_moved" "trays_moved" s_trays_moved (He.ga K "trays_moved") fd8 := fun_of_D D8
  have g8 : mg "trays_moved" = some (.ref (He.ga K "trays_moved")) := He.glo_ok X G (cd.fact 8 (f := .glo "trays_moved") rfl)
  have b8 := F8.binds (ps := ["room", "shifts"]) fun _ _ _ _ _ _ us hl => match us, hl with | [_, _], _ => rfl
  obtain ⟨fd9, D9⟩ := cd.def_ 9 (d := hd_law_flow) rfl
  have F9 : Fun K "_law_flow" "_law_flow" s_law_flow (He.ga K "_law_flow") fd9 := fun_of_D D9
  have g9 : mg "_law_flow" = some (.ref (He.ga K "_law_flow")) := He.glo_ok X G (cd.fact 9 (f := .glo "_law_flow") rfl)
  have b9 := F9.binds (ps := ["_law_script"]) fun _ _ _ _ _ _ us hl => match us, hl with | [_], _ => rfl
  obtain ⟨fd10, D10⟩ := cd.def_ 10 (d := hd_law_pick) rfl
  have F10 : Fun K "_law_pick" "_law_pick" s_law_pick (He.ga K "_law_pick") fd10 := fun_of_D D10
  have g10 : mg "_law_pick" = some (.ref (He.ga K "_law_pick")) := He.glo_ok X G (cd.fact 10 (f := .glo "_law_pick") rfl)
  have b10 := F10.binds (ps := ["_law_flow_here", "_law_many"]) fun _ _ _ _ _ _ us hl => match us, hl with | [_, _], _ => rfl
  obtain ⟨fd11, D11⟩ := cd.def_ 11 (d := hd_law_thing) rfl
  have F11 : Fun K "_law_thing" "_law_thing" s_law_thing (He.ga K "_law_thing") fd11 := fun_of_D D11
  have g11 : mg "_law_thing" = some (.ref (He.ga K "_law_thing")) := He.glo_ok X G (cd.fact 11 (f := .glo "_law_thing") rfl)
  have b11 := F11.binds (ps := ["_law_flow_here"]) fun _ _ _ _ _ _ us hl => match us, hl with | [_], _ => rfl
  obtain ⟨fd12, D12⟩ := cd.def_ 12 (d := hd_law_needs) rfl
  have F12 : Fun K "_law_needs" "_law_needs" s_law_needs (He.ga K "_law_needs") fd12 := fun_of_D D12
  have g12 : mg "_law_needs" = some (.ref (He.ga K "_law_needs")) := He.glo_ok X G (cd.fact 12 (f := .glo "_law_needs") rfl)
  have b12 := F12.binds (ps := ["_law_rule_here"]) fun _ _ _ _ _ _ us hl => match us, hl with | [_], _ => rfl
  obtain ⟨fd13, D13⟩ := cd.def_ 13 (d := hd_law_rule) rfl
  have F13 : Fun K "_law_rule" "_law_rule" s_law_rule (He.ga K "_law_rule") fd13 := fun_of_D D13
  have g13 : mg "_law_rule" = some (.ref (He.ga K "_law_rule")) := He.glo_ok X G (cd.fact 13 (f := .glo "_law_rule") rfl)
  have b13 := F13.binds (ps := ["_law_flow_here", "_law_most"]) fun _ _ _ _ _ _ us hl => match us, hl with | [_, _], _ => rfl
  obtain ⟨fd14, D14⟩ := cd.def_ 14 (d := hd_law_shuffled) rfl
  have F14 : Fun K "_law_shuffled" "_law_shuffled" s_law_shuffled (He.ga K "_law_shuffled") fd14 := fun_of_D D14
  have g14 : mg "_law_shuffled" = some (.ref (He.ga K "_law_shuffled")) := He.glo_ok X G (cd.fact 14 (f := .glo "_law_shuffled") rfl)
  have b14 := F14.binds (ps := ["_law_flow_here", "_law_some"]) fun _ _ _ _ _ _ us hl => match us, hl with | [_, _], _ => rfl
  obtain ⟨fd15, D15⟩ := cd.def_ 15 (d := hd_law_hands) rfl
  have F15 : Fun K "_law_hands" "_law_hands" s_law_hands (He.ga K "_law_hands") fd15 := fun_of_D D15
  have g15 : mg "_law_hands" = some (.ref (He.ga K "_law_hands")) := He.glo_ok X G (cd.fact 15 (f := .glo "_law_hands") rfl)
  have b15 := F15.binds (ps := ["_law_flow_here", "_law_many"]) fun _ _ _ _ _ _ us hl => match us, hl with | [_, _], _ => rfl
  obtain ⟨fd16, D16⟩ := cd.def_ 16 (d := hd_law_room) rfl
  have F16 : Fun K "_law_room" "_law_room" s_law_room (He.ga K "_law_room") fd16 := fun_of_D D16
  have g16 : mg "_law_room" = some (.ref (He.ga K "_law_room")) := He.glo_ok X G (cd.fact 16 (f := .glo "_law_room") rfl)
  have b16 := F16.binds (ps := ["_law_flow_here", "_law_most"]) fun _ _ _ _ _ _ us hl => match us, hl with | [_, _], _ => rfl
  obtain ⟨fd17, D17⟩ := cd.def_ 17 (d := hd_law_trays) rfl
  have F17 : Fun K "_law_trays" "_law_trays" s_law_trays (He.ga K "_law_trays") fd17 := fun_of_D D17
  have g17 : mg "_law_trays" = some (.ref (He.ga K "_law_trays")) := He.glo_ok X G (cd.fact 17 (f := .glo "_law_trays") rfl)
  have b17 := F17.binds (ps := ["_law_room_here", "_law_shifts_here"]) fun _ _ _ _ _ _ us hl => match us, hl with | [_, _], _ => rfl
  obtain ⟨fd18, D18⟩ := cd.def_ 18 (d := hd_law_shifts) rfl
  have F18 : Fun K "_law_shifts" "_law_shifts" s_law_shifts (He.ga K "_law_shifts") fd18 := fun_of_D D18
  have g18 : mg "_law_shifts" = some (.ref (He.ga K "_law_shifts")) := He.glo_ok X G (cd.fact 18 (f := .glo "_law_shifts") rfl)
  have b18 := F18.binds (ps := ["_law_flow_here", "_law_room_here", "_law_late", "_law_many"]) fun _ _ _ _ _ _ us hl => match us, hl with | [_, _, _, _], _ => rfl
  obtain ⟨fd19, D19⟩ := cd.def_ 19 (d := hd_law_whole) rfl
  have F19 : Fun K "_law_whole" "_law_whole" s_law_whole (He.ga K "_law_whole") fd19 := fun_of_D D19
  have g19 : mg "_law_whole" = some (.ref (He.ga K "_law_whole")) := He.glo_ok X G (cd.fact 19 (f := .glo "_law_whole") rfl)
  have b19 := F19.binds (ps := ["_law_thing_here"]) fun _ _ _ _ _ _ us hl => match us, hl with | [_], _ => rfl
  obtain ⟨fd20, D20⟩ := cd.def_ 20 (d := hd_law_spoilt) rfl
  have F20 : Fun K "_law_spoilt" "_law_spoilt" s_law_spoilt (He.ga K "_law_spoilt") fd20 := fun_of_D D20
  have g20 : mg "_law_spoilt" = some (.ref (He.ga K "_law_spoilt")) := He.glo_ok X G (cd.fact 20 (f := .glo "_law_spoilt") rfl)
  have b20 := F20.binds (ps := ["_law_flow_here", "_law_way", "_law_shifts_here"]) fun _ _ _ _ _ _ us hl => match us, hl with | [_, _, _], _ => rfl
  obtain ⟨fd21, D21⟩ := cd.def_ 21 (d := hd_law_due) rfl
  have F21 : Fun K "_law_due" "_law_due" s_law_due (He.ga K "_law_due") fd21 := fun_of_D D21
  have g21 : mg "_law_due" = some (.ref (He.ga K "_law_due")) := He.glo_ok X G (cd.fact 21 (f := .glo "_law_due") rfl)
  have b21 := F21.binds (ps := ["_law_room_here", "_law_late", "_law_shifts_here"]) fun _ _ _ _ _ _ us hl => match us, hl with | [_, _, _], _ => rfl
  obtain ⟨fd22, D22⟩ := cd.def_ 22 (d := hd_law_told) rfl
  have F22 : Fun K "_law_told" "_law_told" s_law_told (He.ga K "_law_told") fd22 := fun_of_D D22
  have g22 : mg "_law_told" = some (.ref (He.ga K "_law_told")) := He.glo_ok X G (cd.fact 22 (f := .glo "_law_told") rfl)
  have b22 := F22.binds (ps := ["_law_room_here", "_law_late", "_law_shifts_here"]) fun _ _ _ _ _ _ us hl => match us, hl with | [_, _, _], _ => rfl
  obtain ⟨fd23, D23⟩ := cd.def_ 23 (d := hd_law) rfl
  have F23 : Fun K "law" "law" s_law (He.ga K "law") fd23 := fun_of_D D23
  have g23 : mg "law" = some (.ref (He.ga K "law")) := He.glo_ok X G (cd.fact 23 (f := .glo "law") rfl)
  have ex := c.more
  unfold hEx at ex
  simp only [Bool.and_eq_true] at ex
  obtain ⟨⟨ex0, ex1⟩, ex2⟩ := ex
  obtain ⟨fdNs, DNs⟩ := cd.def_ 24 (d := hd_NsInit) rfl
  have FNs : Fun K "__init__" "NoShift.__init__" s_NoShift_init (He.fAd K ("NoShift", some "__init__")) fdNs := fun_of_D DNs
  have bNs := FNs.binds (ps := ["self", "word", "at"]) fun _ _ _ _ _ _ us hl => match us, hl with | [_, _, _], _ => rfl
  have gNs : mg "NoShift" = some (.ref (He.ga K "NoShift")) := He.glo_ok X G (cd.fact 39 (f := .glo "NoShift") rfl)
  have gBe : mg "BeltError" = some (.ref (He.ga K "BeltError")) := He.glo_ok X G (cd.fact 40 (f := .glo "BeltError") rfl)
  have T : Top K mg := ⟨⟨_, fd0, F0, b0, g0⟩, ⟨_, fd1, F1, b1, g1⟩, ⟨_, fd2, F2, b2, g2⟩, ⟨_, fd3, F3, b3, g3⟩, ⟨_, fd4, F4, b4, g4⟩, ⟨_, fd5, F5, b5, g5⟩, ⟨_, fd6, F6, b6, g6⟩, ⟨_, fd7, F7, b7, g7⟩, ⟨_, fd8, F8, b8, g8⟩, ⟨_, fd9, F9, b9, g9⟩, ⟨_, fd10, F10, b10, g10⟩, ⟨_, fd11, F11, b11, g11⟩, ⟨_, fd12, F12, b12, g12⟩, ⟨_, fd13, F13, b13, g13⟩, ⟨_, fd14, F14, b14, g14⟩, ⟨_, fd15, F15, b15, g15⟩, ⟨_, fd16, F16, b16, g16⟩, ⟨_, fd17, F17, b17, g17⟩, ⟨_, fd18, F18, b18, g18⟩, ⟨_, fd19, F19, b19, g19⟩, ⟨_, fd20, F20, b20, g20⟩, ⟨_, fd21, F21, b21, g21⟩, ⟨_, fd22, F22, b22, g22⟩, He.free_ok X G (cd.fact 24 (f := .free "ValueError") rfl), He.free_ok X G (cd.fact 25 (f := .free "abs") rfl), He.free_ok X G (cd.fact 26 (f := .free "all") rfl), He.free_ok X G (cd.fact 27 (f := .free "bool") rfl), He.free_ok X G (cd.fact 28 (f := .free "enumerate") rfl), He.free_ok X G (cd.fact 29 (f := .free "int") rfl), He.free_ok X G (cd.fact 30 (f := .free "isinstance") rfl), He.free_ok X G (cd.fact 31 (f := .free "len") rfl), He.free_ok X G (cd.fact 32 (f := .free "list") rfl), He.free_ok X G (cd.fact 33 (f := .free "max") rfl), He.free_ok X G (cd.fact 34 (f := .free "min") rfl), He.free_ok X G (cd.fact 35 (f := .free "range") rfl), He.free_ok X G (cd.fact 36 (f := .free "tuple") rfl), ⟨_, He.glo_ok X G (cd.fact 37 (f := .glo "IN_RULE") rfl), fun H => He.tupB_ok ex0 H⟩, ⟨_, He.glo_ok X G (cd.fact 38 (f := .glo "OUT_RULE") rfl), fun H => He.tupB_ok ex1 H⟩, ⟨_, nsB_ok ex2 gNs gBe FNs bNs⟩, He.glo_ok X G (cd.fact 41 (f := .glo "NoText") rfl), He.glo_ok X G (cd.fact 42 (f := .glo "NoRoom") rfl), He.glo_ok X G (cd.fact 43 (f := .glo "NoFormula") rfl), He.glo_ok X G (cd.fact 44 (f := .glo "NotReady") rfl), He.glo_ok X G (cd.fact 45 (f := .glo "NoName") rfl), He.glo_ok X G (cd.fact 46 (f := .glo "NoRow") rfl)⟩
  have e := hfa.symm.trans g23
  cases e
  have law_b : ∀ (s : Shared) (v : Value), BindsTo s fd23 ⟨[v], []⟩ [("_law_script", v)] := fun s v => by
    obtain ⟨_, _, _, _, _, _, _, _, _, rfl, _, _⟩ := F23.ex
    exact .of_eq rfl
  refine ⟨fd23, [He.cT K ("is_shifts", none)], sp_law K (He.cT K ("is_shifts", none)).2, fun p hp => ?_, fun p hp => ?_, fun p hp => ?_, law_b, fun H a ns hl _ hT hS => ⟨a, ns, rfl, hS, hl, ⟨#[], hT _ (List.mem_cons_self ..), trivial⟩, fun _ => rfl⟩, fun base _ _ TB => ?_⟩
  · have hin : ∀ p ∈ [He.cT K ("is_shifts", none)], ∃ q ∈ hTf, p = He.cT K q := fun p hp => by
      rcases List.mem_cons.mp hp with rfl | hp
      · exact ⟨_, List.mem_cons_self .., rfl⟩
      cases hp
    obtain ⟨q, hq, rfl⟩ := hin p hp
    exact c.empty _ hq
  · have hin : ∀ p ∈ [He.cT K ("is_shifts", none)], ∃ q ∈ hTf, p = He.cT K q := fun p hp => by
      rcases List.mem_cons.mp hp with rfl | hp
      · exact ⟨_, List.mem_cons_self .., rfl⟩
      cases hp
    obtain ⟨q, hq, rfl⟩ := hin p hp
    exact c.out _ hq
  · have hin : ∀ p ∈ [He.cT K ("is_shifts", none)], ∃ q ∈ hTf, p = He.cT K q := fun p hp => by
      rcases List.mem_cons.mp hp with rfl | hp
      · exact ⟨_, List.mem_cons_self .., rfl⟩
      cases hp
    obtain ⟨q, hq, rfl⟩ := hin p hp
    exact PySem.W.codeHd_of_K X (c.hd _ hq)
  have TB0 := TB _ (List.mem_cons_self ..)
  have TC0 : GxR.TabB base mg (He.codeOf K ("is_shifts", none)) (He.tabOf K (He.codeOf K ("is_shifts", none))) := ⟨TB0.code, TB0.bm, TB0.gP⟩
  haveI : TabI K mg base _ _ := ⟨TC0, fun f fd F m => by
    have e := m.symm.trans g5
    cases e
    obtain ⟨_, _, _, _, _, _, cdv, _, _, rfl, lk, ci⟩ := F.ex
    obtain ⟨c0, rfl⟩ := He.codeIn_ref ci
    exact congrArg Value.ref (He.codeOf_eq (p := ("is_shifts", none)) lk rfl).symm⟩
  exact ok_law F23 T
end Mine
open PySem PySem.W PySem.Calls PyProof.Rows
set_option maxRecDepth 100000 in
set_option maxHeartbeats 0 in
theorem PySem.Challenge.cw_beltshift_k32_shifts_looked_at_holds : PySem.Challenge.rw_beltshift_k32_shifts_looked_at.Holds := by
  w_on; o_law
  refine HandSHeadRun.head_any (r := Mine.hR) (q := view Mine.hR.prog [38]) (H := Mine.hk) (ob := Mine.hOb) (M := 40000) (loose := Mine.hNames) (d := HandSHeadRun.topDef Mine.hR.prog 38) (kwd := []) Mine.hOb_eq (by kernel_rfl) (fun s => by kernel_rfl) Mine.hRun (by kernel_rfl) (by kernel_rfl) (by kernel_rfl) (by rfl) (by first | assumption | decide +kernel) (by decide +kernel) ⟨rfl, rfl, rfl, rfl, rfl, by decide +kernel⟩ ?hw ?hc
  case hw => w_witness2
  case hc =>
    refine LamX.walk_ofTsE (l := PySem.Challenge.rw_beltshift_k32_shifts_looked_at) (n := 63) (k := 6) (x := "_law_script") (CX := fun _ => L2.CX0) rfl (by decide) (by kernel_rfl) ⟨rfl, by decide, by decide⟩ ?F (fun _ _ _ _ _ z => z)
    intro w mg fa h Y G hmg0
    obtain ⟨K, KX, c⟩ := Y
    have hmg : mg ("law" : PySem.Str) = some (.ref fa) := by
      have e : (HandSHeadRun.topDef Mine.hR.prog 38).name = ("law" : PySem.Str) := by kernel_rfl
      rw [← e]
      exact hmg0
    exact ⟨K, KX, Mine.all_mkX KX G hmg c⟩
