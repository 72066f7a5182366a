import PyProof.Rows.All
import Wide.All
import OpenK.AllK
import Wide.FinOn
import HandS.ForMost
import HandS.Wide
import HandS.Style
import HandS.IsInst
import HandS.TupAny
import HandS.NoneIn
import HandS.SetFor
import HandS.Conv
import HandS.Zip
import HandS.SortKw
import HandS.Deep
import KE.DataMinMax
import KE.GoesMore
import KE.KDictZip
import KE.GoesZip
import KE.GoesEnum
import HandS.AnyAll
import HandS.TupLen
import KE.KeyNested
import KE.KIndexOf
import PyProof.Rows.TupTab
import HandS.TupMul
import HandS.Words
import HandS.EndTab
import HandS.HeadWalk
import HandS.Defaults
import HandS.Head0
import HandS.Head1
import HandS.Head2
import HandS.HeadEnd
import HandS.HeadHook1
import HandS.HeadHook2
import HandS.HeadHook3
import HandS.HeadHook4
import KE.KStateDown
import KE.KIsAll
import KE.KNestM
import PyProof.GenCompD
import PyProof.WalksMore
import PySem.Challenge.RW_beltshift_k71_whole_as_far_as_need_be
import HandS.Lambda
import KE.KLam
import KE.DataMinKey
import HandS.TryOnly
import HandS.ExcInit
import HandS.WordsExc
import HandS.ExcIs
import HandS.ExcField
import HandS.ExcOwn
set_option Elab.async false
set_option linter.all false
set_option maxRecDepth 100000
namespace Mine
open PySem PyProof.Rows L2
def topS (i : Nat) : Stmt := PySem.Challenge.pw_beltshift_k71_whole_as_far_as_need_be.main.body.getD i (.Pass ⟨0, 0, 0, 0⟩)
abbrev s_comings : Stmt := topS 3
abbrev N_comings : List Str := ["room", "hand", "number", "belt"]
theorem sc_comings : FnScope N_comings ["room", "hand"] (defScope s_comings) := ⟨rfl, rfl, rfl, by decide +kernel, rfl, by decide +kernel, by decide +kernel⟩
abbrev s_kinds : Stmt := topS 5
abbrev N_kinds : List Str := ["room", "told", "hand", "rule", "moments", "before"]
theorem sc_kinds : FnScope N_kinds ["room"] (defScope s_kinds) := ⟨rfl, rfl, rfl, by decide +kernel, rfl, by decide +kernel, by decide +kernel⟩
abbrev s_numbered : Stmt := topS 6
abbrev N_numbered : List Str := ["marks", "numbers", "mark"]
theorem sc_numbered : FnScope N_numbered ["marks"] (defScope s_numbered) := ⟨rfl, rfl, rfl, by decide +kernel, rfl, by decide +kernel, by decide +kernel⟩
abbrev s_first_mark : Stmt := topS 7
abbrev N_first_mark : List Str := ["rule", "hand"]
theorem sc_first_mark : FnScope N_first_mark ["rule", "hand"] (defScope s_first_mark) := ⟨rfl, rfl, rfl, by decide +kernel, rfl, by decide +kernel, by decide +kernel⟩
abbrev s_mark_by : Stmt := topS 8
abbrev N_mark_by : List Str := ["room", "told", "hand", "belts", "number", "giver", "taker", "things"]
theorem sc_mark_by : FnScope N_mark_by ["room", "told", "hand"] (defScope s_mark_by) := ⟨rfl, rfl, rfl, by decide +kernel, rfl, by decide +kernel, by decide +kernel⟩
abbrev s_joined_alike : Stmt := topS 9
abbrev N_joined_alike : List Str := ["room", "told", "hands", "belts", "kind", "alike", "hand", "own", "number", "giver", "taker", "things"]
theorem sc_joined_alike : FnScope N_joined_alike ["room"] (defScope s_joined_alike) := ⟨rfl, rfl, rfl, by decide +kernel, rfl, by decide +kernel, by decide +kernel⟩
abbrev s_law_flow : Stmt := topS 11
abbrev N_law_flow : List Str := ["_law_script"]
theorem sc_law_flow : FnScope N_law_flow ["_law_script"] (defScope s_law_flow) := ⟨rfl, rfl, rfl, by decide +kernel, rfl, by decide +kernel, by decide +kernel⟩
abbrev s_law_pick : Stmt := topS 12
abbrev N_law_pick : List Str := ["_law_flow_here", "_law_many", "_law_cell", "_law_digit"]
theorem sc_law_pick : FnScope N_law_pick ["_law_flow_here", "_law_many"] (defScope s_law_pick) := ⟨rfl, rfl, rfl, by decide +kernel, rfl, by decide +kernel, by decide +kernel⟩
abbrev s_law_thing : Stmt := topS 13
abbrev N_law_thing : List Str := ["_law_flow_here"]
theorem sc_law_thing : FnScope N_law_thing ["_law_flow_here"] (defScope s_law_thing) := ⟨rfl, rfl, rfl, by decide +kernel, rfl, by decide +kernel, by decide +kernel⟩
abbrev s_law_needs : Stmt := topS 14
abbrev N_law_needs : List Str := ["_law_rule_here"]
theorem sc_law_needs : FnScope N_law_needs ["_law_rule_here"] (defScope s_law_needs) := ⟨rfl, rfl, rfl, by decide +kernel, rfl, by decide +kernel, by decide +kernel⟩
abbrev s_law_rule : Stmt := topS 15
abbrev N_law_rule : List Str := ["_law_flow_here", "_law_most", "_law_words", "_law_word"]
theorem sc_law_rule : FnScope N_law_rule ["_law_flow_here", "_law_most"] (defScope s_law_rule) := ⟨rfl, rfl, rfl, by decide +kernel, rfl, by decide +kernel, by decide +kernel⟩
abbrev s_law_shuffled : Stmt := topS 16
abbrev N_law_shuffled : List Str := ["_law_flow_here", "_law_some", "_law_left", "_law_k"]
theorem sc_law_shuffled : FnScope N_law_shuffled ["_law_flow_here", "_law_some"] (defScope s_law_shuffled) := ⟨rfl, rfl, rfl, by decide +kernel, rfl, by decide +kernel, by decide +kernel⟩
abbrev s_law_hands : Stmt := topS 17
abbrev N_law_hands : List Str := ["_law_flow_here", "_law_many", "_law_sorts", "_law_left", "_law_hands_here", "_law_k", "_law_sort", "_law_behind", "_law_other", "_law_rule_here"]
theorem sc_law_hands : FnScope N_law_hands ["_law_flow_here", "_law_many"] (defScope s_law_hands) := ⟨rfl, rfl, rfl, by decide +kernel, rfl, by decide +kernel, by decide +kernel⟩
abbrev s_law_room : Stmt := topS 18
abbrev N_law_room : List Str := ["_law_flow_here", "_law_most", "_law_hands_here", "_law_ranks", "_law_givers_here", "_law_k", "_law_takers", "_law_belts", "_law_to", "_law_one", "_law_trays"]
theorem sc_law_room : FnScope N_law_room ["_law_flow_here", "_law_most"] (defScope s_law_room) := ⟨rfl, rfl, rfl, by decide +kernel, rfl, by decide +kernel, by decide +kernel⟩
abbrev s_law_turned_room : Stmt := topS 19
abbrev N_law_turned_room : List Str := ["_law_flow_here", "_law_room_here", "_law_hands_here", "_law_belts", "_law_order", "_law_queues", "_law_belt", "_law_k", "_law_found", "_law_turn", "_law_some", "_law_one", "_law_to", "_law_things"]
theorem sc_law_turned_room : FnScope N_law_turned_room ["_law_flow_here", "_law_room_here"] (defScope s_law_turned_room) := ⟨rfl, rfl, rfl, by decide +kernel, rfl, by decide +kernel, by decide +kernel⟩
abbrev s_law_copied : Stmt := topS 20
abbrev N_law_copied : List Str := ["_law_flow_here", "_law_hands_here", "_law_belts", "_law_made", "_law_left", "_law_k", "_law_rule_here", "_law_moments", "_law_turn", "_law_found", "_law_to", "_law_one", "_law_old", "_law_things", "_law_some", "_law_j"]
theorem sc_law_copied : FnScope N_law_copied ["_law_flow_here"] (defScope s_law_copied) := ⟨rfl, rfl, rfl, by decide +kernel, rfl, by decide +kernel, by decide +kernel⟩
abbrev s_law_marred : Stmt := topS 21
abbrev N_law_marred : List Str := ["_law_flow_here", "_law_room_here", "_law_hands_here", "_law_belts", "_law_form", "_law_k", "_law_plain", "_law_same", "_law_rule_here", "_law_at", "_law_one", "_law_to", "_law_things", "_law_givers_here", "_law_j", "_law_spot"]
theorem sc_law_marred : FnScope N_law_marred ["_law_flow_here", "_law_room_here"] (defScope s_law_marred) := ⟨rfl, rfl, rfl, by decide +kernel, rfl, by decide +kernel, by decide +kernel⟩
abbrev s_law_lines : Stmt := topS 22
abbrev N_law_lines : List Str := ["_law_flow_here", "_law_other", "_law_many", "_law_number", "_law_things", "_law_k", "_law_hands_here", "_law_belts", "_law_first", "_law_place", "_law_at"]
theorem sc_law_lines : FnScope N_law_lines ["_law_flow_here"] (defScope s_law_lines) := ⟨rfl, rfl, rfl, by decide +kernel, rfl, by decide +kernel, by decide +kernel⟩
abbrev s_law_some_copied : Stmt := topS 23
abbrev N_law_some_copied : List Str := ["_law_flow_here", "_law_room_here"]
theorem sc_law_some_copied : FnScope N_law_some_copied ["_law_flow_here"] (defScope s_law_some_copied) := ⟨rfl, rfl, rfl, by decide +kernel, rfl, by decide +kernel, by decide +kernel⟩
abbrev s_law_givers : Stmt := topS 24
abbrev N_law_givers : List Str := ["_law_room_here", "_law_k", "_law_one", "_law_to", "_law_things"]
theorem sc_law_givers : FnScope N_law_givers ["_law_room_here", "_law_k"] (defScope s_law_givers) := ⟨rfl, rfl, rfl, by decide +kernel, rfl, by decide +kernel, by decide +kernel⟩
abbrev s_law_looks_alike : Stmt := topS 25
abbrev N_law_looks_alike : List Str := ["_law_room_here", "_law_j", "_law_k", "_law_one", "_law_things"]
theorem sc_law_looks_alike : FnScope N_law_looks_alike ["_law_room_here", "_law_j", "_law_k"] (defScope s_law_looks_alike) := ⟨rfl, rfl, rfl, by decide +kernel, rfl, by decide +kernel, by decide +kernel⟩
abbrev s_law_closed : Stmt := topS 26
abbrev N_law_closed : List Str := ["_law_room_here", "_law_numbers", "_law_j", "_law_k", "_law_pairs", "_law_one", "_law_other"]
theorem sc_law_closed : FnScope N_law_closed ["_law_room_here", "_law_numbers"] (defScope s_law_closed) := ⟨rfl, rfl, rfl, by decide +kernel, rfl, by decide +kernel, by decide +kernel⟩
abbrev s_law_could_be_one : Stmt := topS 27
abbrev N_law_could_be_one : List Str := ["_law_room_here", "_law_numbers", "_law_first", "_law_second", "_law_found", "_law_left", "_law_one", "_law_other", "_law_here", "_law_k", "_law_there", "_law_j", "_law_giver", "_law_partner"]
theorem sc_law_could_be_one : FnScope N_law_could_be_one ["_law_room_here", "_law_numbers", "_law_first", "_law_second"] (defScope s_law_could_be_one) := ⟨rfl, rfl, rfl, by decide +kernel, rfl, by decide +kernel, by decide +kernel⟩
abbrev s_law : Stmt := topS 28
abbrev N_law : List Str := ["_law_script", "_law_flow_here", "_law_room_here", "_law_numbers", "_law_firsts", "_law_kind", "_law_j", "_law_k", "_law_one", "_law_turned", "_law_order", "_law_other"]
theorem sc_law : FnScope N_law ["_law_script"] (defScope s_law) := ⟨rfl, rfl, rfl, by decide +kernel, rfl, by decide +kernel, by decide +kernel⟩

/-- a def of the text stands, binds and is bound -/
def Dd (K : PySem.W.Frag) (mg : Str → Option Value) (name : Str) (st : Stmt) (ps : List Str) : Prop :=
  ∃ (f : Addr) (fd : FuncData), Fun K name name st f fd ∧ Binds K fd ps [] ∧ mg name = some (.ref f)
structure Top (K : PySem.W.Frag) (mg : Str → Option Value) : Prop where
  d_comings : Dd K mg "comings" s_comings ["room", "hand"]
  d_kinds : Dd K mg "kinds" s_kinds ["room"]
  d_numbered : Dd K mg "numbered" s_numbered ["marks"]
  d_first_mark : Dd K mg "first_mark" s_first_mark ["rule", "hand"]
  d_mark_by : Dd K mg "mark_by" s_mark_by ["room", "told", "hand"]
  d_joined_alike : Dd K mg "joined_alike" s_joined_alike ["room"]
  d_law_flow : Dd K mg "_law_flow" s_law_flow ["_law_script"]
  d_law_pick : Dd K mg "_law_pick" s_law_pick ["_law_flow_here", "_law_many"]
  d_law_thing : Dd K mg "_law_thing" s_law_thing ["_law_flow_here"]
  d_law_needs : Dd K mg "_law_needs" s_law_needs ["_law_rule_here"]
  d_law_rule : Dd K mg "_law_rule" s_law_rule ["_law_flow_here", "_law_most"]
  d_law_shuffled : Dd K mg "_law_shuffled" s_law_shuffled ["_law_flow_here", "_law_some"]
  d_law_hands : Dd K mg "_law_hands" s_law_hands ["_law_flow_here", "_law_many"]
  d_law_room : Dd K mg "_law_room" s_law_room ["_law_flow_here", "_law_most"]
  d_law_turned_room : Dd K mg "_law_turned_room" s_law_turned_room ["_law_flow_here", "_law_room_here"]
  d_law_copied : Dd K mg "_law_copied" s_law_copied ["_law_flow_here"]
  d_law_marred : Dd K mg "_law_marred" s_law_marred ["_law_flow_here", "_law_room_here"]
  d_law_lines : Dd K mg "_law_lines" s_law_lines ["_law_flow_here"]
  d_law_some_copied : Dd K mg "_law_some_copied" s_law_some_copied ["_law_flow_here"]
  d_law_givers : Dd K mg "_law_givers" s_law_givers ["_law_room_here", "_law_k"]
  d_law_looks_alike : Dd K mg "_law_looks_alike" s_law_looks_alike ["_law_room_here", "_law_j", "_law_k"]
  d_law_closed : Dd K mg "_law_closed" s_law_closed ["_law_room_here", "_law_numbers"]
  d_law_could_be_one : Dd K mg "_law_could_be_one" s_law_could_be_one ["_law_room_here", "_law_numbers", "_law_first", "_law_second"]
  m_all : mg "all" = none
  m_enumerate : mg "enumerate" = none
  m_int : mg "int" = none
  m_len : mg "len" = none
  m_list : mg "list" = none
  m_max : mg "max" = none
  m_min : mg "min" = none
  m_range : mg "range" = none
  m_set : mg "set" = none
  m_sorted : mg "sorted" = none
  m_tuple : mg "tuple" = none
  m_zip : mg "zip" = none
  x_in : ∃ aI : Addr, mg "IN_RULE" = some (.ref aI) ∧ ∀ H : Hp, SqT K H aI [.str "in"]
  x_out : ∃ aO : Addr, mg "OUT_RULE" = some (.ref aO) ∧ ∀ H : Hp, SqT K H aO [.str "out"]

/-! ### heaps -/
def But (f : Addr) (H H' : Hp) : Prop := ∀ b o, H b = some o → b ≠ f → H' b = some o
theorem But.refl {f : Addr} {H : Hp} : But f H H := fun _ _ e _ => e
theorem But.trans {f : Addr} {H H1 H2 : Hp} (a : But f H H1) (b : But f H1 H2) : But f H H2 := fun x o e n => b x o (a x o e n) n
theorem But.upd {f : Addr} {H H1 : Hp} {o : HO} (a : But f H H1) : But f H (upd H1 f o) := fun x u e n => by rw [upd_ne n]; exact a x u e n
theorem But.new {f p : Addr} {H H1 : Hp} {o : HO} (a : But f H H1) (h : H1 p = none) : But f H (L2.upd H1 p o) := fun x u e n => by
  have e1 := a x u e n
  rw [upd_ne (ne_of_none e1 h)]
  exact e1
theorem same_new {H : Hp} {p : Addr} {o : HO} (h : H p = none) : Same H (upd H p o) := fun b u q => by rw [upd_ne (ne_of_none q h)]; exact q
theorem But.same {f : Addr} {H H1 H2 : Hp} (a : But f H H1) (b : Same H1 H2) : But f H H2 := fun x o e n => b x o (a x o e n)
theorem But.seqT {K : PySem.W.Frag} {f a : Addr} {H H1 : Hp} {xs : List V} (b : But f H H1) (h : SqT K H a xs) (n : a ≠ f) : SqT K H1 a xs := by
  rcases h with h | h
  · left
    rcases h with h | ⟨o, h⟩
    · exact .inl (b _ _ h n)
    · exact .inr ⟨o, b _ _ h n⟩
  · exact .inr h
/-- a comprehension without a test -/
theorem yes_in {σ : L2.St} {H : Hp} {A B : Hp → Prop} (h : A H) : tYes σ H (fun b H3 => if b = true then A H3 else B H3) := by
  show (if true = true then A H else B H)
  rw [if_pos rfl]
  exact h
/-! ### the draw -/
/-- the list of the law's draws at f, the script's copy at c -/
def Flow (H : Hp) (f c : Addr) : Prop := ∃ (ns : List Int) (i p q r : Int), H f = some (.lst [.ref c, .int i, .int p, .int q, .int r]) ∧ H c = some (.lst (ns.map V.int)) ∧ 0 ≤ i ∧ 0 ≤ p ∧ 0 ≤ q ∧ q < 2147483647
theorem Flow.new {H : Hp} {f c p : Addr} {o : HO} (h : Flow H f c) (n : H p = none) : Flow (upd H p o) f c := by
  obtain ⟨ns, i, a, q, r, e1, e2, e⟩ := h
  exact ⟨ns, i, a, q, r, same_new n _ _ e1, same_new n _ _ e2, e⟩
theorem Flow.ne {H : Hp} {f c p : Addr} (h : Flow H f c) (n : H p = none) : p ≠ f := by
  obtain ⟨ns, i, a, q, r, e1, _⟩ := h
  exact fun e => by rw [e, e1] at n; cases n
theorem Flow.nec {H : Hp} {f c p : Addr} (h : Flow H f c) (n : H p = none) : p ≠ c := by
  obtain ⟨ns, i, a, q, r, _, e1, _⟩ := h
  exact fun e => by rw [e, e1] at n; cases n
theorem Flow.lst {H : Hp} {f c p : Addr} {o : HO} (h : Flow H f c) (n1 : p ≠ f) (n2 : p ≠ c) : Flow (upd H p o) f c := by
  obtain ⟨ns, i, a, q, r, e1, e2, e⟩ := h
  exact ⟨ns, i, a, q, r, by rw [upd_ne n1.symm]; exact e1, by rw [upd_ne n2.symm]; exact e2, e⟩
theorem Flow.same {H H' : Hp} {f c : Addr} (h : Flow H f c) (s : Same H H') : Flow H' f c := by
  obtain ⟨ns, i, a, q, r, e1, e2, e⟩ := h
  exact ⟨ns, i, a, q, r, s _ _ e1, s _ _ e2, e⟩
theorem Flow.tup {H : Hp} {f c p : Addr} {xs : List V} (h : Flow H f c) (e : H p = some (.tup xs)) : p ≠ f := by
  obtain ⟨ns, i, a, q, r, e1, _⟩ := h
  exact ne_of e e1 (by intro z; cases z)
theorem at_ints {ns : List Int} {i : Int} (h0 : 0 ≤ i) (h1 : i < (ns.length : Int)) : ∃ v : Int, atI (ns.map V.int) i = some (.int v) := by
  have hk : i.toNat < ns.length := by omega
  have ek : i = ((i.toNat : Nat) : Int) := by omega
  have q : atI (ns.map V.int) ((i.toNat : Nat) : Int) = some (.int ns[i.toNat]) := atI_nat (by rw [List.getElem?_map, List.getElem?_eq_getElem hk]; rfl)
  rw [← ek] at q
  exact ⟨_, q⟩
/-- a block by less than it asks -/
theorem PSs.to {X : Cx} {ss : List Stmt} {t : TS} (h : PSs X ss t) (u : TS) (k : ∀ D σ H, u D σ H → t D σ H) : PSs X ss u := ⟨fun pins s σ H D I q => h.run pins s σ H D I (k D σ H q)⟩
theorem if_bl {b : Bool} {A B : Prop} (h1 : b = true → A) (h2 : b = false → B) : if b = true then A else B := by
  cases b
  · rw [if_neg Bool.false_ne_true]; exact h2 rfl
  · rw [if_pos rfl]; exact h1 rfl
/-! ### lists, two by two -/
inductive All2 {α β : Type} (R : α → β → Prop) : List α → List β → Prop
  | nil : All2 R [] []
  | cons {a b as bs} : R a b → All2 R as bs → All2 R (a :: as) (b :: bs)
theorem All2.imp {α β : Type} {R S : α → β → Prop} (h : ∀ a b, R a b → S a b) : ∀ {as bs}, All2 R as bs → All2 S as bs
  | _, _, .nil => .nil
  | _, _, .cons a b => .cons (h _ _ a) (All2.imp h b)
theorem All2.length {α β : Type} {R : α → β → Prop} : ∀ {as bs}, All2 R as bs → as.length = bs.length
  | _, _, .nil => rfl
  | _, _, .cons _ b => congrArg (· + 1) (All2.length b)
theorem All2.snoc {α β : Type} {R : α → β → Prop} {a b} (r : R a b) : ∀ {as bs}, All2 R as bs → All2 R (as ++ [a]) (bs ++ [b])
  | _, _, .nil => .cons r .nil
  | _, _, .cons h t => .cons h (All2.snoc r t)
theorem All2.get {α β : Type} {R : α → β → Prop} {as : List α} {bs : List β} (h : All2 R as bs) : ∀ {i : Nat} {b : β}, bs[i]? = some b → ∃ a, as[i]? = some a ∧ R a b := by
  induction h with
  | nil => intro i b e; cases e
  | cons r t ih =>
    intro i b e
    cases i with
    | zero => cases e; exact ⟨_, rfl, r⟩
    | succ i => exact ih e
theorem All2.getL {α β : Type} {R : α → β → Prop} {as : List α} {bs : List β} (h : All2 R as bs) : ∀ {i : Nat} {a : α}, as[i]? = some a → ∃ b, bs[i]? = some b ∧ R a b := by
  induction h with
  | nil => intro i b e; cases e
  | cons r t ih =>
    intro i b e
    cases i with
    | zero => cases e; exact ⟨_, rfl, r⟩
    | succ i => exact ih e
/-! ### tuples stay -/
def TK (H H' : Hp) : Prop := ∀ b xs, H b = some (.tup xs) → H' b = some (.tup xs)
theorem TK.refl {H : Hp} : TK H H := fun _ _ e => e
theorem TK.trans {H H1 H2 : Hp} (a : TK H H1) (b : TK H1 H2) : TK H H2 := fun x xs e => b x xs (a x xs e)
theorem TK.same {H H' : Hp} (s : Same H H') : TK H H' := fun x xs e => s _ _ e
theorem TK.new {H : Hp} {p : Addr} {o : HO} (n : H p = none) : TK H (upd H p o) := fun x xs e => same_new n _ _ e
theorem TK.lst {H : Hp} {p : Addr} {xs ys : List V} (h : H p = some (.lst xs)) : TK H (upd H p (.lst ys)) := fun x zs e => by
  rw [upd_ne (ne_of e h (by intro z; cases z))]
  exact e
theorem TK.but {H H' : Hp} {f c : Addr} (F : Flow H f c) (b : But f H H') : TK H H' := fun x xs e => b _ _ e (F.tup e)
theorem same_none {H H' : Hp} {p : Addr} (s : Same H H') (n : H' p = none) : H p = none := by
  cases e : H p with
  | none => rfl
  | some o => rw [s _ _ e] at n; cases n
theorem But.none {f p : Addr} {H H' : Hp} (b : But f H H') (n : H' p = Option.none) (h : p ≠ f) : H p = Option.none := by
  cases e : H p with
  | none => rfl
  | some o => rw [b _ _ e h] at n; cases n
theorem But.of {f : Addr} {H H' : Hp} (s : Same H H') : But f H H' := fun _ _ e _ => s _ _ e
/-- a list that was not there is written: what was stays -/
theorem But.own {f p : Addr} {H H1 : Hp} {o : HO} (a : But f H H1) (h : H p = Option.none) : But f H (L2.upd H1 p o) := fun x u e n => by
  rw [upd_ne (ne_of_none e h)]
  exact a x u e n
theorem Same.own {p : Addr} {H H1 : Hp} {o : HO} (a : Same H H1) (h : H p = Option.none) : Same H (L2.upd H1 p o) := fun x u e => by
  rw [upd_ne (ne_of_none e h)]
  exact a x u e
/-! ### loops over any iterator -/
theorem for_it {J : It} {n : Nat} {g : TG} {tb : TS} {D : Ends} {σ : L2.St} {H : Hp} (Pv : Nat → L2.St → Hp → Prop) (h0 : Pv 0 σ H) (go : ∀ i σ H, i < n → Pv i σ H → J.go i H) (st : ∀ σ H, Pv n σ H → J.stop n H)
    (hs : ∀ i x σ H H', i < n → Pv i σ H → J.yld i H x H' → g x σ H' fun σ2 H2 => tb { D with nx := Pv (i + 1), ct := Pv (i + 1), bk := D.nx } σ2 H2) (hd : ∀ σ H, Pv n σ H → D.nx σ H) :
    ∃ W : Nat → Nat → L2.St → Hp → Prop, (∃ m, W 0 m σ H) ∧ ∀ i m σ H, W i m σ H →
      (J.stop i H ∧ D.nx σ H) ∨ (J.go i H ∧ ∃ N : L2.St → Hp → Prop, (∀ σ' H', N σ' H' → ∃ m', m' < m ∧ W (i + 1) m' σ' H') ∧ ∀ x H', J.yld i H x H' → g x σ H' fun σ2 H2 => tb { D with nx := N, ct := N, bk := D.nx } σ2 H2) := by
  refine ⟨fun i m σ H => i + m = n ∧ Pv i σ H, ⟨n, by omega, h0⟩, fun i m σ H ⟨e, p⟩ => ?_⟩
  by_cases k : i < n
  · exact .inr ⟨go i σ H k p, Pv (i + 1), fun σ' H' p' => ⟨m - 1, by omega, by omega, p'⟩, fun x H' y => hs i x σ H H' k p y⟩
  · have z : i = n := by omega
    subst z
    exact .inl ⟨st σ H p, hd σ H p⟩
theorem lc_it {J : It} {n : Nat} {g : TG} {tt : TT} {te : TE} {vs : List Nat} {σ : L2.St} {H1 : Hp} {D : Addr} {Qd : Hp → Prop} (Pv : Nat → Hp → Prop) (h0 : Pv 0 (upd H1 D (.lst []))) (go : ∀ i H, i < n → Pv i H → J.go i H) (st : ∀ H, Pv n H → J.stop n H)
    (hs : ∀ i x H H', i < n → Pv i H → J.yld i H x H' → g x (wipe σ vs) H' fun σ2 H2 => wipe σ2 vs = wipe σ vs ∧ tt σ2 H2 fun b H3 =>
      if b = true then te σ2 H3 fun y H4 => ∃ acc, H4 D = some (.lst acc) ∧ acc.length < sizeLine ∧ Pv (i + 1) (upd H4 D (.lst (acc ++ [y]))) else Pv (i + 1) H3) (hd : ∀ H, Pv n H → Qd H) :
    ∃ W : Nat → Nat → Hp → Prop, (∃ m, W 0 m (upd H1 D (.lst []))) ∧ ∀ i m H, W i m H →
      (J.stop i H ∧ Qd H) ∨ (J.go i H ∧ ∃ Nx : Hp → Prop, (∀ H', Nx H' → ∃ m', m' < m ∧ W (i + 1) m' H') ∧ ∀ x H', J.yld i H x H' → g x (wipe σ vs) H' fun σ2 H2 => wipe σ2 vs = wipe σ vs ∧ tt σ2 H2 fun b H3 =>
        if b = true then te σ2 H3 fun y H4 => ∃ acc, H4 D = some (.lst acc) ∧ acc.length < sizeLine ∧ Nx (upd H4 D (.lst (acc ++ [y]))) else Nx H3) := by
  refine ⟨fun i m H => i + m = n ∧ Pv i H, ⟨n, by omega, h0⟩, fun i m H ⟨e, p⟩ => ?_⟩
  by_cases k : i < n
  · exact .inr ⟨go i H k p, Pv (i + 1), fun H' p' => ⟨m - 1, by omega, by omega, p'⟩, fun x H' y => hs i x H H' k p y⟩
  · have z : i = n := by omega
    subst z
    exact .inl ⟨st H p, hd H p⟩
/-! ### tests -/
theorem if_str {x z : Str} {A B : Prop} (h1 : x = z → A) (h2 : x ≠ z → B) : if decide (V.str x = V.str z) = true then A else B :=
  if_bl (fun e => h1 (V.str.inj (of_decide_eq_true e))) (fun e => h2 (fun q => of_decide_eq_false e (congrArg V.str q)))
theorem inV_strs {x : Str} {zs : List Str} : inV (.str x) (zs.map V.str) = true ↔ x ∈ zs := by
  unfold inV
  induction zs with
  | nil => simp
  | cons z zs ih =>
    rw [List.map_cons, List.any_cons, Bool.or_eq_true, ih, List.mem_cons]
    constructor
    · rintro (h | h)
      · exact .inl (by simpa [eqV] using (show (z == x) = true from h) |> fun k => (eq_of_beq k).symm)
      · exact .inr h
    · rintro (h | h)
      · exact .inl (show (z == x) = true by rw [h]; exact beq_self_eq_true z)
      · exact .inr h
theorem if_in {x : Str} {zs : List Str} {A B : Prop} (h1 : x ∈ zs → A) (h2 : x ∉ zs → B) : if (if false = true then !inV (.str x) (zs.map V.str) else inV (.str x) (zs.map V.str)) = true then A else B := by
  have e : (if false = true then !inV (.str x) (zs.map V.str) else inV (.str x) (zs.map V.str)) = inV (.str x) (zs.map V.str) := if_neg Bool.false_ne_true
  rw [e]
  exact if_bl (fun c => h1 (inV_strs.mp c)) (fun c => h2 (fun k => by rw [inV_strs.mpr k] at c; cases c))
theorem same_seqT {K : PySem.W.Frag} {a : Addr} {H H1 : Hp} {xs : List V} (b : Same H H1) (h : SqT K H a xs) : SqT K H1 a xs := by
  rcases h with h | h
  · left
    rcases h with h | ⟨o, h⟩
    · exact .inl (b _ _ h)
    · exact .inr ⟨o, b _ _ h⟩
  · exact .inr h
theorem little {n : Nat} (h : n ≤ 1000) : n ≤ sizeLine := Nat.le_of_lt (small1000 h)
/-! ### xs[i] op= e -/
def rGetL (K : PySem.W.Frag) : V → V → Hp → VK → Prop := fun o i H Q => ∃ (p : Addr) (xs : List V) (j : Nat) (v : V), o = .ref p ∧ i = .int (j : Nat) ∧ SqL K H p xs ∧ xs[j]? = some v ∧ Q v H
theorem get_list {X : Cx} : PGet X (rGetL X.K) := by
  intro pins st σ H o i ov iv Q J ro ri asked
  obtain ⟨p, xs, j, v, rfl, rfl, hq, hj, now⟩ := asked
  cases ro
  obtain ⟨t, rfl⟩ := ri
  obtain ⟨its, r, pl, hz⟩ := J.list hq
  obtain ⟨u, eu, ru⟩ := r.get hj
  have n1 := (List.getElem?_eq_some_iff.mp hj).1
  have n2 := line63
  exact wpAny_getItem_list pl.isList (by omega) (by omega) (by simpa using eu) ⟨v, H, J, ru, now⟩
/-! ### the same rules, the written part named (so that they fit within comprehensions) -/
section
variable {X : Cx}
theorem ix_listK (K : PySem.W.Frag) (h : X.K = K) : IxR X (rIxL K) := by subst h; exact ix_list
theorem ix_tupK (K : PySem.W.Frag) (h : X.K = K) : IxR X (rIxT K) := by subst h; exact ix_tup
def rLenK (K : PySem.W.Frag) : List V → Hp → VK → Prop := fun xs H Q => ∃ (p : Addr) (ys : List V), xs = [.ref p] ∧ (SqL K H p ys ∨ SqT K H p ys) ∧ Q (.int (ys.length : Nat)) H
theorem call_len_seqK (K : PySem.W.Frag) (h : X.K = K) : CallR X (.builtin "len") (rLenK K) := by subst h; exact call_len_seq
def rListOfK (K : PySem.W.Frag) : List V → Hp → VK → Prop := fun xs H Q => ∃ (p : Addr) (ys : List V), xs = [.ref p] ∧ (SqL K H p ys ∨ SqT K H p ys) ∧ ∀ l, H l = none → Q (.ref l) (upd H l (.lst ys))
theorem call_list_ofK (K : PySem.W.Frag) (h : X.K = K) : CallR X (.type "list") (rListOfK K) := by subst h; exact call_list_of
def rTupOfK (K : PySem.W.Frag) : List V → Hp → VK → Prop := fun xs H Q => ∃ (p : Addr) (ys : List V), xs = [.ref p] ∧ ((SqL K H p ys ∧ ∀ l, H l = none → Q (.ref l) (upd H l (.tup ys))) ∨ (SqT K H p ys ∧ Q (.ref p) H))
theorem call_tuple_ofK (K : PySem.W.Frag) (h : X.K = K) : CallR X (.type "tuple") (rTupOfK K) := by subst h; exact call_tuple_of
theorem op_in_seqK (K : PySem.W.Frag) (h : X.K = K) : OpR X (compareOp .In) (rIn K false) := by subst h; exact op_in_seq
theorem op_notIn_seqK (K : PySem.W.Frag) (h : X.K = K) : OpR X (compareOp .NotIn) (rIn K true) := by subst h; exact op_notIn_seq
theorem sl_listK (K : PySem.W.Frag) (h : X.K = K) : SlR X (rSlL K) := by subst h; exact sl_list
theorem sl_tupAK (K : PySem.W.Frag) (h : X.K = K) : SlR X (rSlA K) := by subst h; exact sl_tupA
theorem op_eqDK (K : PySem.W.Frag) (h : X.K = K) (hu : X.A.units + 64 < cLine) : OpR X (compareOp .Eq) (rEqD K) := by subst h; exact op_eqD hu
theorem op_neDK (K : PySem.W.Frag) (h : X.K = K) (hu : X.A.units + 64 < cLine) : OpR X (compareOp .NotEq) (rNeD K) := by subst h; exact op_neD hu
theorem call_isiKK (K : PySem.W.Frag) (h : X.K = K) : CallR X (.builtin "isinstance") (rIsi K) := by subst h; exact call_isi
theorem cr_allK (K : PySem.W.Frag) (h : X.K = K) (hc : X.calm = true) : CallR X (.builtin "all") (rAll K) := by subst h; exact cr_all hc
theorem cr_anyK (K : PySem.W.Frag) (h : X.K = K) (hc : X.calm = true) : CallR X (.builtin "any") (rAny K) := by subst h; exact cr_any hc
theorem cr_minKK (K : PySem.W.Frag) (h : X.K = K) (hc : X.calm = true) : CallR X (.builtin "min") (rMin K) := by subst h; exact cr_min hc
theorem cr_maxKK (K : PySem.W.Frag) (h : X.K = K) (hc : X.calm = true) : CallR X (.builtin "max") (rMax K) := by subst h; exact cr_max hc
def tTruK (K : PySem.W.Frag) (ta : TE) : TT := fun σ H Q => ta σ H fun x H' => ∃ k, TruV K x H' k ∧ Q k H'
theorem pt_truthK (K : PySem.W.Frag) (h : X.K = K) {a : Expr} {ta : TE} (ha : PE X a ta) (he : ∀ whole, isTrue a X.env whole = (do let v ← whole; standAt a.pos; holding [v] (truthy v))) : PT X a (tTruK K ta) := by subst h; exact pt_truth ha he
theorem get_listK (K : PySem.W.Frag) (h : X.K = K) : PGet X (rGetL K) := by subst h; exact get_list
theorem pg_tupK (K : PySem.W.Frag) (h : X.K = K) {es : List Expr} {k n : Nat} {t : TGs} {pos : Pos} (hc : X.calm = true) (g : PGs X es t)
    (hn : (assignEach es X.env).length = n := by rfl) (hst : (assignEach es X.env).findIdx? (·.1) = none := by rfl) : PG X (.Tuple es k pos) (gTup K n t) := by subst h; exact pg_tup hc g hn hst
theorem pg_unlK (K : PySem.W.Frag) (h : X.K = K) {es : List Expr} {k n : Nat} {t : TGs} {pos : Pos} (hc : X.calm = true) (g : PGs X es t)
    (hn : (assignEach es X.env).length = n := by rfl) (hst : (assignEach es X.env).findIdx? (·.1) = none := by rfl) : PG X (.Tuple es k pos) (gUnl K n t) := by subst h; exact pg_unl hc g hn hst
theorem pi_listK (K : PySem.W.Frag) (h : X.K = K) {tg e : Expr} {te : TE} (he : PE X e te) : PI X tg e (iList K te) := by subst h; exact pi_list he
theorem pi_tupK (K : PySem.W.Frag) (h : X.K = K) {tg e : Expr} {te : TE} (he : PE X e te) : PI X tg e (iTup K te) := by subst h; exact pi_tup he
theorem pe_revLK (K : PySem.W.Frag) (h : X.K = K) {e : Expr} {te : TE} {k : Nat} {p1 p2 p3 pos : Pos} (he : PE X e te) : PE X (.Subscript e (.Slice none none (some (.UnaryOp .USub (.Constant (.int 1) k p1) p2)) p3) pos) (tRevL K te) := by subst h; exact pe_revL he
theorem pe_bmK (K : PySem.W.Frag) (h : X.K = K) {o e : Expr} {es : List Expr} {to : TE} {t : TA} {name : Str} {apos cpos : Pos} {T id : String} {r : V → List V → Hp → VK → Prop}
    (pa : PlainAttrs T) (slot : Slot T name id) (hty : typeOf (.builtin id) = pure (.type "method_descriptor")) (hm : MtR X id r) (ho : PE X o to) (ha : PA X (e :: es) t)
    (n1 : attributeBase o name X.env (eval o X.env) = eval o X.env := by rfl)
    (n2 : ((backTo cpos (starEach (e :: es) X.env)).all (fun x => !x.1) && (backToKw cpos (keywordEach [] X.env)).all (fun x => x.1.isSome) && decide ((e :: es).length + ([] : List Keyword).length + (if ([] : List Keyword).isEmpty then 0 else 1) < 30)) = true := by rfl)
    (n3 : (apos.endLine == cpos.line) = true := by rfl) (n4 : starEach (e :: es) X.env = (false, eval e X.env) :: starEach es X.env := by rfl) (n5 : (backTo cpos (starEach es X.env)).any (·.1) = false := by rfl) :
    PE X (.Call (.Attribute o name apos) (e :: es) [] cpos) (tBM K T r to t) := by subst h; exact pe_bm pa slot hty hm ho ha n1 n2 n3 n4 n5
theorem pe_bm0K (K : PySem.W.Frag) (h : X.K = K) {o : Expr} {to : TE} {name : Str} {apos cpos : Pos} {T id : String} {r : V → List V → Hp → VK → Prop}
    (pa : PlainAttrs T) (slot : Slot T name id) (hty : typeOf (.builtin id) = pure (.type "method_descriptor")) (hm : MtR X id r) (ho : PE X o to)
    (n1 : attributeBase o name X.env (eval o X.env) = eval o X.env := by rfl) (n3 : (apos.endLine == cpos.line) = true := by rfl) : PE X (.Call (.Attribute o name apos) [] [] cpos) (tBM0 K T r to) := by subst h; exact pe_bm0 pa slot hty hm ho n1 n3
theorem op_catAK (K : PySem.W.Frag) (h : X.K = K) : OpR X (binaryOp .Add) (rCatA K) := by subst h; exact op_catA
theorem call_isiTK (K : PySem.W.Frag) (h : X.K = K) : CallR X (.builtin "isinstance") (rIsiT K) := by subst h; exact call_isiT
theorem pi_zipAK (K : PySem.W.Frag) (h : X.K = K) {e e2 : Expr} {ta : TA} {p pos tpos : Pos} {elts : List Expr} {kk : Nat} (hg : Gl X "zip") (hm : X.mg "zip" = none) (ha : PA X [e, e2] ta)
    (hs : starEach [e, e2] X.env = (false, eval e X.env) :: starEach [e2] X.env := by rfl) (hpl : (backTo pos (starEach [e2] X.env)).any (·.1) = false := by rfl) :
    PI X (.Tuple elts kk tpos) (.Call (.Name "zip" p) [e, e2] [] pos) (RZ.iZipA K ta) := by subst h; exact RZ.pi_zipA hg hm ha hs hpl
theorem pi_or {tg e : Expr} {t1 t2 : TI} (h1 : PI X tg e t1) (h2 : PI X tg e t2) : PI X tg e (fun σ H R => t1 σ H R ∨ t2 σ H R) := ⟨fun pins s σ H R I h => h.elim (h1.run pins s σ H R I) (h2.run pins s σ H R I)⟩
theorem pe_fldK (K : PySem.W.Frag) (h : X.K = K) {e : Expr} {ta : TE} {f : Str} {pos : Pos} (he : PE X e ta) (hb : attributeBase e f X.env (eval e X.env) = eval e X.env) : PE X (.Attribute e f pos) (tFld K ta f) := by subst h; exact pe_fld he hb
theorem ps_fldK (K : PySem.W.Frag) (h : X.K = K) {o value : Expr} {ta tv : TE} {f : Str} {pos pos' : Pos} (ha : PE X o ta) (hv : PE X value tv) (hs : swapsWith value (some (.Attribute o f pos')) pos.line X.env = pure false) : PS X (.Assign [.Attribute o f pos'] value pos) (sFld K ta tv f) := by subst h; exact ps_fld ha hv hs
theorem ps_fldaugK (K : PySem.W.Frag) (h : X.K = K) {o value : Expr} {ta tv : TE} {f : Str} {pos tpos : Pos} {op : Operator} {rd : V → V → Hp → VK → Prop} (ha : PE X o ta) (hv : PE X value tv) (hop : InOp X op rd) : PS X (.AugAssign (.Attribute o f tpos) op value pos) (sFldAug K ta tv rd f) := by subst h; exact ps_fldaug ha hv hop
end
section
variable {X : Cx}
theorem cr_sumK (K : PySem.W.Frag) (h : X.K = K) (hc : X.calm = true) : CallR X (.builtin "sum") (rSum K) := by subst h; exact cr_sum hc
end
section
variable {X : Cx}
theorem op_ltTK (K : PySem.W.Frag) (h : X.K = K) (hu : X.A.units < cLine) : OpR X (compareOp .Lt) (rLtT K) := by subst h; exact op_ltT hu
end
section
variable {X : Cx}
theorem cr_sortedRevK (K : PySem.W.Frag) (h : X.K = K) {b : Bool} : CallRK X (.builtin "sorted") [Str.ofString "reverse"] (rSortedKw K b [.bl b]) := by subst h; exact cr_sortedRev
theorem op_inDK (K : PySem.W.Frag) (h : X.K = K) (hu : X.A.units + 65 < cLine) : OpR X (compareOp .In) (rInD K) := by subst h; exact op_inD hu
end
theorem hu65 {A : Around} {k : Nat} (hr : Room k A) : A.units + 65 < cLine := by have := hr.un; omega
section
variable {X : Cx}
/-- x not in t, t a tuple of data of any depth -/
def rNotInDT (K : PySem.W.Frag) : R2 := fun x y H Q => ∃ d ds, Dp K H x d ∧ Dp K H y (.tuple ds) ∧ SeqAt.shaped d = true ∧ SeqAt.shaped (.tuple ds) = true ∧ Q (.bl (!ds.any fun z => PyData.eqv z d)) H
theorem op_notInDTK (K : PySem.W.Frag) (same : X.K = K) (room : X.A.units + 65 < cLine) : OpR X (compareOp .NotIn) (rNotInDT K) := by
  subst same
  intro pins st σ H one many ov mv Q J ro rm asked
  have ⟨d, ds, dpO, dpM, shO, shM, done⟩ := asked
  have ⟨_, readO⟩ := Dp.reads J d one ov dpO ro
  have ⟨_, readM⟩ := Dp.reads J (.tuple ds) many mv dpM rm
  exact SeqAt.notIn_tuple_reads readM readO (SeqAt.canLay_of_shaped shM) (SeqAt.canLay_of_shaped shO) (room_in_shaped shO room) ⟨.bl _, H, J, rfl, done⟩
end
section
variable {X : Cx}
/-- x in t, t a tuple of data of any depth -/
def rInDT (K : PySem.W.Frag) : R2 := fun x y H Q => ∃ d ds, Dp K H x d ∧ Dp K H y (.tuple ds) ∧ SeqAt.shaped d = true ∧ SeqAt.shaped (.tuple ds) = true ∧ Q (.bl (ds.any fun z => PyData.eqv z d)) H
theorem op_inDTK (K : PySem.W.Frag) (same : X.K = K) (room : X.A.units + 65 < cLine) : OpR X (compareOp .In) (rInDT K) := by
  subst same
  intro pins st σ H one many ov mv Q J ro rm asked
  have ⟨d, ds, dpO, dpM, shO, shM, done⟩ := asked
  have ⟨_, readO⟩ := Dp.reads J d one ov dpO ro
  have ⟨_, readM⟩ := Dp.reads J (.tuple ds) many mv dpM rm
  exact SeqAt.in_tuple_reads readM readO (SeqAt.canLay_of_shaped shM) (SeqAt.canLay_of_shaped shO) (room_in_shaped shO room) ⟨.bl _, H, J, rfl, done⟩
end
/-! ### for i, x in enumerate(t), t a tuple -/
section
open Sem (wp)
open AutoSeq1 (wpAny_loadPart')
theorem enum_of_tup (t : Addr) (its : Array Value) (n : Nat) (dct : Option Addr) (sl : Array (Option Value)) :
    Meets (Builtin.«enumerate.__new__» ⟨[.type "enumerate", .ref t], []⟩) (fun _ R st => st.heap.get? t = some { cls := .type "tuple", dict := dct, data := .seq its n, slots := sl } ∧
      R (.ok (.ret (.ref (st.heap.push { cls := .type "tuple_iterator", data := .fields #[.ref t, .int 0 0] }).objs.size)))
        { st with heap := (st.heap.push { cls := .type "tuple_iterator", data := .fields #[.ref t, .int 0 0] }).push { cls := .type "enumerate", data := .fields #[.none, .bool false, .ref st.heap.objs.size, rawInt 0, .none, .none] } }) :=
  .of_wp fun prog w A R st asked => by
    obtain ⟨hp, g, d, tk, os⟩ := st; obtain ⟨at_, asked⟩ := asked
    have sub := sub_enumerate
    have hT : Heap.IsTuple (Shared.heap ⟨hp, g, d, tk, os⟩) t its := ⟨_, at_, rfl, n, rfl⟩
    wp_walk using wpAny_loadPart' at_
    refine wpAny_stack_any fun stk => wpAny_pure ?_
    split
    · rename_i c _ _ _ _ _
      cases (c == Value.type "enumerate")
      · wp_walk using wpAny_loadPart' at_, wpAny_pyIter_tuple hT
        exact ⟨_, rfl, asked⟩
      · wp_walk using wpAny_loadPart' at_, wpAny_pyIter_tuple hT
        exact ⟨_, rfl, asked⟩
    · wp_walk using wpAny_loadPart' at_, wpAny_pyIter_tuple hT
      exact ⟨_, rfl, asked⟩
theorem call_enum_tup {prog : Program} {w : World} {A : Around} {E : Value → Shared → Prop} {st : Shared} {t : Addr} {its : Array Value} {Q : Value → Shared → Prop} (hT : st.heap.IsTuple t its)
    (now : ∀ h', IsEnum h' (st.heap.objs.size + 1) st.heap.objs.size 0 .none → h'.IsTupleIter st.heap.objs.size t 0 → h'.objs.size = st.heap.objs.size + 2 →
      (∀ b o, st.heap.get? b = some o → h'.get? b = some o) → Q (.ref (st.heap.objs.size + 1)) { st with heap := h' }) :
    wpAny (model prog w) A (call (.type "enumerate") [.ref t]) Q E st := by
  obtain ⟨⟨c, dct, dt, sl⟩, at_, hc, n, hd⟩ := hT
  replace hc : c = .type "tuple" := hc
  replace hd : dt = .seq its n := hd
  subst hc hd
  refine callType_new F.called_enumerate (by decide) (F.typeCall_enumerate_1 _) (F.newCall_enumerate_1 _) (fun obj => F.args_object_init_2 obj _) F.entry_enumerate_new (enum_of_tup t its n dct sl) ⟨at_, ?_⟩
  have size1 : (st.heap.push { cls := .type "tuple_iterator", data := .fields #[.ref t, .int 0 0] }).objs.size = st.heap.objs.size + 1 := Heap.size_push ..
  show _ ∧ _
  rw [size1]
  have made := Heap.get?_push_size (st.heap.push { cls := .type "tuple_iterator", data := .fields #[.ref t, .int 0 0] }) (o := { cls := .type "enumerate", data := .fields #[.none, .bool false, .ref st.heap.objs.size, rawInt 0, .none, .none] }) rfl
  rw [size1] at made
  exact ⟨⟨_, made, rfl⟩, now _ made ⟨_, Heap.get?_push_of_some _ (Heap.get?_push_size _ rfl), rfl, rfl⟩ (by rw [Heap.size_push, size1]) fun b o e => Heap.get?_push_of_some _ (Heap.get?_push_of_some _ e)⟩
end
/-- the tuple at a, each item in a new pair -/
def IteT (K : PySem.W.Frag) (a : Addr) (xs : List V) : It :=
  ⟨fun i H => SqT K H a xs ∧ i < xs.length, fun i H v H' => ∃ T x, v = .ref T ∧ H T = none ∧ H' = upd H T (.tup [.int (i : Nat), x]) ∧ xs[i]? = some x, fun i H => SqT K H a xs ∧ i = xs.length⟩
theorem turn_enumT {P : Program} {w : World} {K : PySem.W.Frag} {elts : List Expr} {kk : Nat} {tpos : Pos} (a e it : Addr) (xs : List V) :
    Turn P w K (.Tuple elts kk tpos) (IteT K a xs) [e, it] e (fun i h => (∃ old, IsEnum h e it ((i : Nat) : Int) old) ∧ h.IsTupleIter it a i ∧ e ≠ it ∧ a ≠ it ∧ a ≠ e) where
  mem := by simp
  obj := fun i h st b hb => by
    obtain ⟨⟨old, he⟩, ⟨o, ho, hc, hd⟩, _⟩ := st
    have either : b = e ∨ b = it := by simpa using hb
    rcases either with z | z
    · rw [z]; exact ⟨_, he, fun v q => nomatch q⟩
    · rw [z]; exact ⟨o, ho, fun v q => by rw [hd] at q; cases q⟩
  keep := fun i h h' st k => let ⟨⟨old, he⟩, hi, apart⟩ := st; ⟨⟨old, k e (by simp) _ he⟩, hi.at fun o q => k it (by simp) o q, apart⟩
  item := by
    intro X hP hw hK hc i pins st σ H E J hf stt going
    subst hP hw hK
    obtain ⟨⟨old, he⟩, hit, n1, n2, n3⟩ := stt
    obtain ⟨hq, hi⟩ := going
    obtain ⟨its, rv, tup, hz⟩ := J.tuple hq
    have len := rv.length
    have el : e < st.heap.objs.size := Heap.lt_size he
    have il : it < st.heap.objs.size := by obtain ⟨_, q, _⟩ := hit; exact Heap.lt_size q
    have D := Draws.tuple (prog := X.prog) (w := X.w) (A := X.A.in1) (J.ok.hd hc) it a n2 its.toArray
    refine wpAny_pyNext_enum_itemD D he ⟨hit, tup⟩ (by rw [List.size_toArray]; omega) n1 (by simp [n1, n3.symm]) fun u h' tk px out stt' new size kp => ?_
    refine ⟨_, rfl, wpAny_letOwnedTupleGo_enum (s := { st with heap := h', toks := tk + 1 }) out fun h'' he' sb => ?_⟩
    obtain ⟨x, hx⟩ : ∃ x, xs[i]? = some x := ⟨_, List.getElem?_eq_getElem hi⟩
    obtain ⟨u', hu', ru⟩ := rv.get hx
    have eu : u' = u := by
      have px : its.toArray[i]? = some u := px
      rw [List.getElem?_toArray, hu'] at px
      exact Option.some.inj px
    subst eu
    have there : h''.get? st.heap.objs.size = some { cls := .type "tuple", data := .seq #[.int i tk, u'] } := (sb.2 _ (Nat.ne_of_gt el)).trans new
    have ok2 : ObjOk X.prog X.w (upd H st.heap.objs.size (.tup [.int (i : Nat), x])) h'' st.heap.objs.size (.tup [.int (i : Nat), x]) :=
      ⟨by show 2 ≤ sizeLine; decide, [.int i tk, u'], .cons ⟨_, rfl⟩ (.cons ru .nil), ⟨_, there, rfl, _, rfl⟩⟩
    have J1 : Inv X pins σ (upd H st.heap.objs.size (.tup [.int (i : Nat), x])) { st with heap := h'', toks := tk + 1 } :=
      J.turnedNew (ch := [e, it]) (fun b ob hb q => (sb.2 b (fun z => hb (by simp [z]))).trans (kp b ob (fun z => hb (by simp [z])) (fun z => hb (by simp [z])) q)) hf (Nat.le_refl _) ok2
    refine ⟨.ref st.heap.objs.size, _, J1, rfl, ⟨_, x, rfl, J.hok.fresh (Nat.le_refl _), rfl, hx⟩, ⟨⟨u', ?_⟩, stt'.1.at fun o q => (sb.2 it (Ne.symm n1)).trans q, n1, n2, n3⟩, fun b hb => ?_⟩
    · rw [show ((i + 1 : Nat) : Int) = (i : Int) + 1 by omega]
      exact he'
    · have bl : b < st.heap.objs.size := by
        have either : b = e ∨ b = it := by simpa using hb
        rcases either with z | z
        · rw [z]; exact el
        · rw [z]; exact il
      rw [upd_ne (Nat.ne_of_lt bl)]
      exact (hf b hb).1
  done := by
    intro X hP hw hK hc i pins st σ H E J hf stt over
    subst hP hw hK
    obtain ⟨⟨old, he⟩, hit, n1, n2, n3⟩ := stt
    obtain ⟨hq, hi⟩ := over
    obtain ⟨its, rv, tup, hz⟩ := J.tuple hq
    obtain ⟨f0, f1, f2, f3, f4, f5⟩ := hf it (by simp)
    have len := rv.length
    have D := Draws.tuple (prog := X.prog) (w := X.w) (A := X.A.in1) (J.ok.hd hc) it a n2 its.toArray
    have ei : its.toArray.size = i := by rw [List.size_toArray]; omega
    exact wpAny_pyNext_enum_endD D he ⟨by rw [ei]; exact hit, tup⟩ fun h' eb => ⟨rfl, J.turned (t' := st.toks) (fun b o hb q => eb b o hb q) f0 f1 f3 f4 f5⟩
  self := fun A i st Q E stt now => let ⟨⟨_, he⟩, _⟩ := stt; wpAny_pyIter_enum he now
def iEnumT (K : PySem.W.Frag) (ta : TA) : TI := fun σ H R => ta σ H fun vs H1 => ∃ a xs, vs = [.ref a] ∧ SqT K H1 a xs ∧ R (IteT K a xs) H1
theorem pi_enumT (K : PySem.W.Frag) {X : Cx} (hk : X.K = K) {e : Expr} {ta : TA} {p pos tpos : Pos} {elts : List Expr} {kk : Nat} (hg : Gl X "enumerate") (hm : X.mg "enumerate" = none) (ha : PA X [e] ta) (hs : starEach [e] X.env = [(false, eval e X.env)] := by rfl) :
    PI X (.Tuple elts kk tpos) (.Call (.Name "enumerate" p) [e] [] pos) (iEnumT K ta) := by
  subst hk
  refine ⟨fun pins st σ H R J asked => ?_⟩
  refine Call_ (ld_blt J hg hm boot_enumerate (PyProof.Rows.callWith_type1 (thn (ha.run pos pins st σ H _ J asked) fun us st1 ⟨vs, H1, J1, rel, now⟩ => ?_) hs rfl))
  obtain ⟨a, xs, ex, hq, now⟩ := now
  subst ex
  obtain ⟨u, rfl, ru⟩ := vals1 rel
  obtain rfl : u = Value.ref a := ru
  obtain ⟨its, rv, tup, hz⟩ := J1.tuple hq
  have al : a < st1.heap.objs.size := by obtain ⟨o, ho, _⟩ := tup; exact Heap.lt_size ho
  refine call_enum_tup tup fun h' he hit size kp => wpAny_pyIter_enum he ?_
  have J2 : Inv X pins σ H1 { st1 with heap := h' } := J1.kept (t' := st1.toks) kp
  refine ⟨st1.heap.objs.size + 1, [st1.heap.objs.size + 1, st1.heap.objs.size], _, _, H1, rfl, J2, turn_enumT a (st1.heap.objs.size + 1) st1.heap.objs.size xs, ⟨⟨.none, he⟩, hit, Nat.succ_ne_self _, Nat.ne_of_lt al, Nat.ne_of_lt (Nat.lt_succ_of_lt al)⟩, fun b hb => ?_, now⟩
  have either : b = st1.heap.objs.size + 1 ∨ b = st1.heap.objs.size := by simpa using hb
  have low : st1.heap.objs.size ≤ b := by
    rcases either with z | z
    · rw [z]; exact Nat.le_add_right _ _
    · rw [z]; exact Nat.le_refl _
  exact J1.fpOk low (J1.hok.fresh low)
theorem pi_enumK (K : PySem.W.Frag) (h : X.K = K) {e : Expr} {ta : TA} {p pos tpos : Pos} {elts : List Expr} {kk : Nat} (hg : Gl X "enumerate") (hm : X.mg "enumerate" = none) (ha : PA X [e] ta) (hs : starEach [e] X.env = [(false, eval e X.env)] := by rfl) :
    PI X (.Tuple elts kk tpos) (.Call (.Name "enumerate" p) [e] [] pos) (iEnum K ta) := by subst h; exact pi_enum hg hm ha hs
/-! ### dict(zip(xs, ys)), xs a list, ys a tuple -/
section
open Sem (wp)
variable {prog : Program} {w : World} {A : Around} {E : Value → Shared → Prop} {st : Shared} {z TI TO T i1 i2 : Addr} {fp1 fp2 : List Addr} {n1 n2 i : Nat} {P1 P2 : Nat → Value → Prop} {S1 S2 : Nat → Heap → Prop} {f : Bool} {oT : Obj}
theorem out_next (S : ZipSep2 z TI TO i1 i2 fp1 fp2) (D1 : Draws prog w A i1 fp1 n1 P1 S1) (D2 : Draws prog w A i2 fp2 n2 P2 S2) {Q : Value → Shared → Prop}
    (out : IsZipHeld st.heap z TI TO T f) (hT : st.heap.get? T = some oT) (both : IsTupOf2 st.heap TI (.ref i1) (.ref i2)) (at1 : S1 i st.heap) (at2 : S2 i st.heap) (l1 : i < n1) (l2 : i < n2)
    (now : ∀ x y h' tk, P1 i x → P2 i y → IsZipHeld h' z TI TO T true → S1 (i + 1) h' → S2 (i + 1) h' → IsTupOf2 h' st.heap.objs.size x y → (∀ c o, c ≠ z → c ≠ i1 → c ≠ i2 → st.heap.get? c = some o → h'.get? c = some o) → Q (.ref st.heap.objs.size) { st with heap := h', toks := tk }) :
    wpAny (model prog w) A (Builtin.«zip.__next__» ⟨[.ref z], []⟩) (fun fin s' => ∃ v, fin = .done (.ret v) ∧ Q v s') E st := by
  obtain ⟨hp, g, d, tk0, os⟩ := st
  show wpAny _ _ (field (.ref z) 2 >>= _) _ _ _; refine wpAny_bind (wpAny_field out rfl (x := .bool false) rfl ?_)
  show wpAny _ _ (field (.ref z) 3 >>= _) _ _ _; refine wpAny_bind (wpAny_field out rfl (x := .ref TI) rfl ?_)
  refine wpAny_bind (wpAny_seqItems both rfl ?_); show wpAny _ _ (Builtin.SmallTypes.ownedTupleIsFree (.ref z) >>= _) _ _ _
  refine wpAny_bind (wpAny_tupleHeld_zip out hT fun g1 out1 b1 => ?_)
  replace b1 : Heap.SameBut z hp g1 := b1
  simp only [Bool.false_eq_true, if_false]; refine wpAny_bind ?_; rw [← Array.forIn_toList]; simp only [List.forIn_cons, List.forIn_nil]
  refine wpAny_bind (wpAny_bind (wpAny_holding ?_)); show wpAny _ _ (Builtin.SmallTypes.nextOf (.ref i1) >>= _) _ _ ⟨g1, g, d, tk0, os⟩
  refine wpAny_bind (D1.item i _ _ _ l1 (D1.over at1 b1 S.zf1) fun x g2 tk1 px n1' b2 => wpAny_pure ?_)
  replace b2 : Heap.SameBut i1 g1 g2 := b2
  refine wpAny_pure ?_; refine wpAny_bind (wpAny_bind (wpAny_holding ?_)); show wpAny _ _ (Builtin.SmallTypes.nextOf (.ref i2) >>= _) _ _ ⟨g2, g, d, tk1, os⟩
  refine wpAny_bind (D2.item i _ _ _ l2 (D2.over (D2.over at2 b1 S.zf2) b2 S.sep1_2) fun y g3 tk2 py n2' b3 => wpAny_pure ?_)
  replace b3 : Heap.SameBut i2 g2 g3 := b3
  refine wpAny_pure (wpAny_pure ?_); show wpAny _ _ (newTuple [x, y] >>= _) _ _ ⟨g3, g, d, tk2, os⟩
  refine wpAny_bind (wpAny_newTuple ?_); refine wpAny_pure ⟨_, rfl, ?_⟩
  have size : g3.objs.size = hp.objs.size := by rw [b3.1, b2.1, b1.1]
  have out3 : IsZipHeld g3 z TI TO T true := b3.extBut _ _ S.zi2 (b2.extBut _ _ S.zi1 out1)
  have new : IsTupOf2 (g3.push { cls := .type "tuple", data := .seq #[x, y] }) g3.objs.size x y := Heap.get?_push_size _ rfl
  show Q (.ref g3.objs.size) _
  rw [size] at new ⊢
  exact now x y _ tk2 px py (Heap.get?_push_of_some _ out3) (D1.frame _ _ _ (D1.over n1' b3 S.sep2_1) fun _ _ _ q => Heap.get?_push_of_some _ q) (D2.frame _ _ _ n2' fun _ _ _ q => Heap.get?_push_of_some _ q) new
    fun c o c1 c2 c3 q => Heap.get?_push_of_some _ (b3.extBut _ _ c3 (b2.extBut _ _ c2 (b1.extBut _ _ c1 q)))
theorem out_end (S : ZipSep2 z TI TO i1 i2 fp1 fp2) (D1 : Draws prog w A i1 fp1 n1 P1 S1) (D2 : Draws prog w A i2 fp2 n2 P2 S2) {Q : Fin → Shared → Prop}
    (out : IsZipHeld st.heap z TI TO T f) (hT : st.heap.get? T = some oT) (both : IsTupOf2 st.heap TI (.ref i1) (.ref i2)) (at1 : S1 i st.heap) (at2 : S2 i st.heap) (l1 : i ≤ n1) (l2 : i ≤ n2) (last : i = n1 ∨ i = n2)
    (now : ∀ h' tk e, (∀ c o, c ≠ z → c ≠ i1 → c ≠ i2 → st.heap.get? c = some o → h'.get? c = some o) → (∃ o, h'.get? e = some o ∧ o.cls = .type "StopIteration") → E (.ref e) { st with heap := h', toks := tk }) :
    wpAny (model prog w) A (Builtin.«zip.__next__» ⟨[.ref z], []⟩) Q E st := by
  obtain ⟨hp, g, d, tk0, os⟩ := st
  show wpAny _ _ (field (.ref z) 2 >>= _) _ _ _; refine wpAny_bind (wpAny_field out rfl (x := .bool false) rfl ?_)
  show wpAny _ _ (field (.ref z) 3 >>= _) _ _ _; refine wpAny_bind (wpAny_field out rfl (x := .ref TI) rfl ?_)
  refine wpAny_bind (wpAny_seqItems both rfl ?_); show wpAny _ _ (Builtin.SmallTypes.ownedTupleIsFree (.ref z) >>= _) _ _ _
  refine wpAny_bind (wpAny_tupleHeld_zip out hT fun g1 out1 b1 => ?_)
  replace b1 : Heap.SameBut z hp g1 := b1
  simp only [Bool.false_eq_true, if_false]; refine wpAny_bind ?_; rw [← Array.forIn_toList]; simp only [List.forIn_cons, List.forIn_nil]
  refine wpAny_bind (wpAny_bind (wpAny_holding ?_)); show wpAny _ _ (Builtin.SmallTypes.nextOf (.ref i1) >>= _) _ _ ⟨g1, g, d, tk0, os⟩
  by_cases more : i < n1
  · refine wpAny_bind (D1.item i _ _ _ more (D1.over at1 b1 S.zf1) fun x g2 tk1 px n1' b2 => wpAny_pure ?_)
    replace b2 : Heap.SameBut i1 g1 g2 := b2
    refine wpAny_pure ?_; refine wpAny_bind (wpAny_bind (wpAny_holding ?_)); show wpAny _ _ (Builtin.SmallTypes.nextOf (.ref i2) >>= _) _ _ ⟨g2, g, d, tk1, os⟩
    have e2 : i = n2 := by omega
    subst e2
    refine wpAny_bind (D2.done _ _ _ (D2.over (D2.over at2 b1 S.zf2) b2 S.sep1_2) fun g3 e b3 he => ?_)
    exact now g3 tk1 e (fun c o c1 c2 c3 q => b3 _ _ c3 (b2.extBut _ _ c2 (b1.extBut _ _ c1 q))) he
  · have e1 : i = n1 := by omega
    subst e1
    refine wpAny_bind (D1.done _ _ _ (D1.over at1 b1 S.zf1) fun g3 e b3 he => ?_)
    exact now g3 tk0 e (fun c o c1 c2 c3 q => b3 _ _ c2 (b1.extBut _ _ c1 q)) he
theorem out_pyNext (S : ZipSep2 z TI TO i1 i2 fp1 fp2) (D1 : Draws prog w A.in1 i1 fp1 n1 P1 S1) (D2 : Draws prog w A.in1 i2 fp2 n2 P2 S2) {Q : Option Value → Shared → Prop}
    (out : IsZipHeld st.heap z TI TO T f) (hT : st.heap.get? T = some oT) (both : IsTupOf2 st.heap TI (.ref i1) (.ref i2)) (at1 : S1 i st.heap) (at2 : S2 i st.heap) (l1 : i < n1) (l2 : i < n2)
    (now : ∀ x y h' tk, P1 i x → P2 i y → IsZipHeld h' z TI TO T true → S1 (i + 1) h' → S2 (i + 1) h' → IsTupOf2 h' st.heap.objs.size x y → (∀ c o, c ≠ z → c ≠ i1 → c ≠ i2 → st.heap.get? c = some o → h'.get? c = some o) → Q (some (.ref st.heap.objs.size)) { st with heap := h', toks := tk }) :
    wpAny (model prog w) A (pyNext (.ref z)) Q E st := by
  have ty : st.TypeIs (.ref z) "zip" := ⟨_, out, rfl⟩
  unfold pyNext
  refine wpAny_bind (wpAny_attempt (wpAny_callSpecial?_slot (name := Str.ofString "__next__") ty F.slot_zip_next (wpAny_call_entry F.slot_zip_next ty F.entry_zip_next (out_next S D1 D2 out hT both at1 at2 l1 l2 ?_) (F.args_zip_next_1 _))))
  exact fun x y h' tk a b c d e g k => wpAny_pure (now x y h' tk a b c d e g k)
theorem out_pyNext_end (S : ZipSep2 z TI TO i1 i2 fp1 fp2) (D1 : Draws prog w A.in1 i1 fp1 n1 P1 S1) (D2 : Draws prog w A.in1 i2 fp2 n2 P2 S2) {Q : Option Value → Shared → Prop}
    (out : IsZipHeld st.heap z TI TO T f) (hT : st.heap.get? T = some oT) (both : IsTupOf2 st.heap TI (.ref i1) (.ref i2)) (at1 : S1 i st.heap) (at2 : S2 i st.heap) (l1 : i ≤ n1) (l2 : i ≤ n2) (last : i = n1 ∨ i = n2)
    (now : ∀ h' tk, (∀ c o, c ≠ z → c ≠ i1 → c ≠ i2 → st.heap.get? c = some o → h'.get? c = some o) → Q none { st with heap := h', toks := tk }) :
    wpAny (model prog w) A (pyNext (.ref z)) Q E st := by
  have ty : st.TypeIs (.ref z) "zip" := ⟨_, out, rfl⟩
  unfold pyNext
  refine wpAny_bind (wpAny_attempt (wpAny_callSpecial?_slot (name := Str.ofString "__next__") ty F.slot_zip_next (wpAny_call_entry F.slot_zip_next ty F.entry_zip_next (out_end S D1 D2 out hT both at1 at2 l1 l2 last ?_) (F.args_zip_next_1 _))))
  rintro h' tk e kp ⟨o, ho, hc⟩
  exact wpAny_bind (wpAny_isInstance (T := "StopIteration") (b := true) ⟨o, ho, hc⟩ isSubtype_stop (wpAny_pure (now _ _ kp)))
/-- the zip of the list l and the tuple t, begun -/
def ZipLT (h : Heap) (z TI TO i1 i2 l t : Addr) (xs ys : Array Value) (n : Nat) : Prop := IsTupOf2 h TI (.ref i1) (.ref i2) ∧ (h.IsListIter i1 l n ∧ h.IsList l xs) ∧ (h.IsTupleIter i2 t n ∧ h.IsTuple t ys)
theorem ZipLT.keep {h h' : Heap} {z TI TO i1 i2 l t : Addr} {xs ys : Array Value} {n : Nat} (q : ZipLT h z TI TO i1 i2 l t xs ys n) (k : ∀ b, b = TI ∨ b = i1 ∨ b = i2 ∨ b = l ∨ b = t → ∀ o, h.get? b = some o → h'.get? b = some o) : ZipLT h' z TI TO i1 i2 l t xs ys n :=
  ⟨k _ (.inl rfl) _ q.1, ⟨q.2.1.1.at fun o e => k _ (.inr (.inl rfl)) o e, q.2.1.2.at fun o e => k _ (.inr (.inr (.inr (.inl rfl)))) o e⟩, ⟨q.2.2.1.at fun o e => k _ (.inr (.inr (.inl rfl))) o e, q.2.2.2.at fun o e => k _ (.inr (.inr (.inr (.inr rfl)))) o e⟩⟩
theorem pairs_LT (z TI TO i1 i2 l t : Addr) (S : ZipSep2 z TI TO i1 i2 [i1, l] [i2, t]) (hl : l ≠ i1) (ht : t ≠ i2) (xs ys : Array Value) :
    PairArg prog w "zip" z [z, TI, TO, i1, i2, l, t] [z, TO, i1, i2] (min xs.size ys.size) (fun i k v => xs[i]? = some k ∧ ys[i]? = some v)
      (fun h => IsZip h z TI TO .none ∧ (∃ a b, IsTupOf2 h TO a b) ∧ ZipLT h z TI TO i1 i2 l t xs ys 0) where
  type := fun s ok => ⟨_, ok.1, rfl⟩
  notDict := by decide
  keep := fun h h' ok k => by
    obtain ⟨a1, ⟨a, b, a2⟩, a3⟩ := ok
    exact ⟨k _ _ a1, ⟨a, b, k _ _ a2⟩, a3.keep fun b _ o e => k b o e⟩
  there := fun h ok b hb => by
    obtain ⟨a1, ⟨a, c, a2⟩, a3, ⟨⟨o1, e1, _⟩, ⟨o2, e2, _⟩⟩, ⟨⟨o3, e3, _⟩, ⟨o4, e4, _⟩⟩⟩ := ok
    have either : b = z ∨ b = TI ∨ b = TO ∨ b = i1 ∨ b = i2 ∨ b = l ∨ b = t := by simpa using hb
    rcases either with q | q | q | q | q | q | q <;> subst q
    · exact ⟨_, a1⟩
    · exact ⟨_, a3⟩
    · exact ⟨_, a2⟩
    · exact ⟨_, e1⟩
    · exact ⟨_, e3⟩
    · exact ⟨_, e2⟩
    · exact ⟨_, e4⟩
  sub := fun b hb => by
    have either : b = z ∨ b = TO ∨ b = i1 ∨ b = i2 := by simpa using hb
    rcases either with q | q | q | q <;> subst q <;> simp
  noKeys := fun A s Q E hA ok now => getAttrOr_miss_zip ok.1 rfl rfl rfl zip_no_keys (by decide +kernel) hA now
  iter := fun A s d Q E hA ok dlt dfar now => by
    obtain ⟨a1, ⟨a, b, a2⟩, a3⟩ := ok
    have far : d ≠ z ∧ d ≠ TI ∧ d ≠ TO ∧ d ≠ i1 ∧ d ≠ i2 ∧ d ≠ l ∧ d ≠ t := by simpa using dfar
    obtain ⟨d1, d2, d3, d4, d5, d6, d7⟩ := far
    have D1 := Draws.list (prog := prog) (w := w) (A := A.in1) hA i1 l hl xs
    have D2 := Draws.tuple (prog := prog) (w := w) (A := A.in1) hA i2 t ht ys
    refine wpAny_pyIter_zip a1 (now z [z, TO, i1, i2] (fun n h => ZipLT h z TI TO i1 i2 l t xs ys n ∧ ((IsZip h z TI TO .none ∧ ∃ a b, IsTupOf2 h TO a b) ∨ ∃ T f oT, IsZipHeld h z TI TO T f ∧ h.get? T = some oT ∧ T ≠ z ∧ T ≠ i1 ∧ T ≠ i2 ∧ T ≠ d)) s.heap s.toks ?_ ⟨a3, .inl ⟨a1, a, b, a2⟩⟩ (fun _ _ e => e) fun b hb => .inl hb)
    refine ⟨fun hm => ?_, fun n h h' q k => ?_, fun n s1 Q1 E1 hn q dl now1 => ?_, fun s1 Q1 E1 q now1 => ?_⟩
    · have either : d = z ∨ d = TO ∨ d = i1 ∨ d = i2 := by simpa using hm
      rcases either with q | q | q | q
      · exact d1 q
      · exact d3 q
      · exact d4 q
      · exact d5 q
    · refine ⟨q.1.keep fun b hb o e => k b o (fun y => ?_) e, ?_⟩
      · rcases hb with q | q | q | q | q <;> rw [q] at y
        · exact d2 y.symm
        · exact d4 y.symm
        · exact d5 y.symm
        · exact d6 y.symm
        · exact d7 y.symm
      · rcases q.2 with ⟨q1, a, b, q2⟩ | ⟨T, f, oT, q1, q2, r1, r2, r3, r4⟩
        · exact .inl ⟨k _ _ (Ne.symm d1) q1, a, b, k _ _ (Ne.symm d3) q2⟩
        · exact .inr ⟨T, f, oT, k _ _ (Ne.symm d1) q1, k _ _ r4 q2, r1, r2, r3, r4⟩
    · obtain ⟨⟨both, at1, at2⟩, q⟩ := q
      have m1 : n < xs.size := Nat.lt_of_lt_of_le hn (Nat.min_le_left ..)
      have m2 : n < ys.size := Nat.lt_of_lt_of_le hn (Nat.min_le_right ..)
      have lt : ∀ {c o}, s1.heap.get? c = some o → s1.heap.objs.size ≠ c := fun e => Nat.ne_of_gt (Heap.lt_size e)
      have j1 : s1.heap.objs.size ≠ i1 := let ⟨_, e⟩ := D1.live _ _ at1; lt e
      have j2 : s1.heap.objs.size ≠ i2 := let ⟨_, e⟩ := D2.live _ _ at2; lt e
      rcases q with ⟨q1, a, b, q2⟩ | ⟨T, f, oT, q1, q2, r1, r2, r3, r4⟩
      · refine wpAny_pyNext_zipD2_item S D1 D2 q1 both q2 at1 at2 m1 m2 fun x y h' tk px py b1 b2 b3 b4 b5 b6 k => ?_
        exact now1 s1.heap.objs.size x y h' tk ⟨px, py⟩ (.inl ⟨_, b5, rfl, _, rfl⟩) ⟨⟨k _ _ S.TIz S.TITO S.TIi1 S.TIi2 both, b3, b4⟩, .inr ⟨_, false, _, b1, b5, lt q1, j1, j2, Nat.ne_of_gt dl⟩⟩
          fun c o hc e => k c o (fun y => hc (by simp [y])) (fun y => hc (by simp [y])) (fun y => hc (by simp [y])) (fun y => hc (by simp [y])) e
      · refine out_pyNext S D1 D2 q1 q2 both at1 at2 m1 m2 fun x y h' tk px py b1 b3 b4 b5 k => ?_
        exact now1 s1.heap.objs.size x y h' tk ⟨px, py⟩ (.inl ⟨_, b5, rfl, _, rfl⟩) ⟨⟨k _ _ S.TIz S.TIi1 S.TIi2 both, b3, b4⟩, .inr ⟨T, true, oT, b1, k _ _ r1 r2 r3 q2, r1, r2, r3, r4⟩⟩
          fun c o hc e => k c o (fun y => hc (by simp [y])) (fun y => hc (by simp [y])) (fun y => hc (by simp [y])) e
    · obtain ⟨⟨both, at1, at2⟩, q⟩ := q
      rcases q with ⟨q1, a, b, q2⟩ | ⟨T, f, oT, q1, q2, r1, r2, r3, r4⟩
      · exact wpAny_pyNext_zipD2_end S D1 D2 q1 both q2 at1 at2 (Nat.min_le_left ..) (Nat.min_le_right ..) (by omega) fun h' tk k => now1 h' tk fun c o hc e => k c o (fun y => hc (by simp [y])) (fun y => hc (by simp [y])) (fun y => hc (by simp [y])) (fun y => hc (by simp [y])) e
      · exact out_pyNext_end S D1 D2 q1 q2 both at1 at2 (Nat.min_le_left ..) (Nat.min_le_right ..) (by omega) fun h' tk k => now1 h' tk fun c o hc e => k c o (fun y => hc (by simp [y])) (fun y => hc (by simp [y])) (fun y => hc (by simp [y])) e
end
/-- dict(zip(e1, e2)): keys from a list, values from a tuple -/
def eDictZip (K : PySem.W.Frag) (ta : TA) : TE := fun σ H Q => ta σ H fun vs H1 => ∃ (a b : Addr) (ks : List Key) (xs : List V), vs = [.ref a, .ref b] ∧ SqL K H1 a (ks.map kV) ∧ SqT K H1 b xs ∧ ∀ p, H1 p = none → Q (.ref p) (upd H1 p (.dK (mergeK [] (ks.zip xs))))
theorem pe_dictZip (K : PySem.W.Frag) {X : Cx} (hk : X.K = K) (hcalm : X.calm = true) {e e2 : Expr} {ta : TA} {p p2 pos pos2 : Pos} (hd : Gl X "dict") (md : X.mg "dict" = none) (hg : Gl X "zip") (hm : X.mg "zip" = none) (ha : PA X [e, e2] ta)
    (hs : starEach [e, e2] X.env = (false, eval e X.env) :: starEach [e2] X.env := by rfl) (hpl : (backTo pos2 (starEach [e2] X.env)).any (·.1) = false := by rfl)
    (hs1 : starEach [.Call (.Name "zip" p2) [e, e2] [] pos2] X.env = [(false, eval (.Call (.Name "zip" p2) [e, e2] [] pos2) X.env)] := by rfl) :
    PE X (.Call (.Name "dict" p) [.Call (.Name "zip" p2) [e, e2] [] pos2] [] pos) (eDictZip K ta) := by
  subst hk
  refine ⟨fun pins st σ H Q J asked => ?_⟩
  refine Call_ (ld_blt J hd md boot_dict (PyProof.Rows.callWith_type1 (args_cons (Call_ (ld_blt J hg hm boot_zip (PyProof.Rows.callWith_type1 (thn (ha.run pos2 pins st σ H _ J asked) fun us st1 ⟨vs, H1, J1, rel, now⟩ => ?_) hs hpl))) hs1) hs1 rfl))
  obtain ⟨a, b, ks, xs, ex, hq1, hq2, now⟩ := now
  subst ex
  cases rel with
  | cons r1 rel =>
  cases rel with
  | cons r2 rel =>
  cases rel
  cases r1
  cases r2
  obtain ⟨its, rv, p1, z1⟩ := J1.list hq1
  obtain ⟨its2, rv2, p2, z2⟩ := J1.tuple hq2
  have al : a < st1.heap.objs.size := p1.lt
  have bl : b < st1.heap.objs.size := by obtain ⟨o, ho, _⟩ := p2; exact Heap.lt_size ho
  have B1 := begins_list a its.toArray
  have B2 := begins_tuple b its2.toArray
  refine zip_begins2 B1 B2 p1.isList p2 fun h' c1 c2 c3 c4 c5 size kp => args_nil ?_
  have S := zip_sep2 (N := st1.heap.objs.size) (fp1 := [a]) (fp2 := [b]) (by simpa using al) (by simpa using bl)
  have P := pairs_LT (prog := X.prog) (w := X.w) _ _ _ _ _ a b S (Nat.ne_of_lt al) (Nat.ne_of_lt (Nat.lt_succ_of_lt bl)) its.toArray its2.toArray
  have n1 := rv.length
  have n2 := rv2.length
  rw [List.length_map] at n1 z1
  have all : ∀ (ks : List Key) (xs : List V) (us vs : List Value), Vals (ks.map kV) us → Vals xs vs → ∃ rs : List (Key × Value), KV (ks.zip xs) rs ∧ rs.length = min us.length vs.length ∧ ∀ (i : Nat) (k v : Value), us[i]? = some k → vs[i]? = some v → ∃ q, rs[i]? = some (q, v) ∧ (mixKind X.prog X.w).is q k = true := by
    intro ks
    induction ks with
    | nil => intro xs us vs r1 r2; cases r1; exact ⟨[], .nil, by simp, fun i k v e => nomatch e⟩
    | cons k ks ih =>
      intro xs us vs r1 r2
      cases r1 with
      | cons h1 t1 =>
      cases r2 with
      | nil => exact ⟨[], .nil, by simp, fun i k v _ e => nomatch e⟩
      | cons h2 t2 =>
        obtain ⟨rs, e1, e2, e3⟩ := ih _ _ _ t1 t2
        refine ⟨(k, _) :: rs, .cons ⟨rfl, h2⟩ e1, by simp only [List.length_cons, e2]; omega, fun i q v e f => ?_⟩
        cases i with
        | zero => cases e; cases f; exact ⟨k, rfl, kV_is h1⟩
        | succ i => exact e3 i q v e f
  obtain ⟨rs, e1, e2, e3⟩ := all ks xs its its2 rv rv2
  have PH : PairsHave (mixKind X.prog X.w) (min its.toArray.size its2.toArray.size) (fun i k v => its.toArray[i]? = some k ∧ its2.toArray[i]? = some v) rs :=
    ⟨by simpa using e2, fun i k v q => e3 i k v (by simpa using q.1) (by simpa using q.2)⟩
  refine _root_.PySem.call_dict_pairs (s := { st1 with heap := h' }) P (J1.ok.hd hcalm) ⟨c1, ⟨_, _, c3⟩, c2, ⟨⟨_, c4, rfl, rfl⟩, B1.keeps _ _ p1.isList kp⟩, ⟨⟨_, c5, rfl, rfl⟩, B2.keeps _ _ p2 kp⟩⟩ PH (by have := n1; have := n2; simp only [List.size_toArray]; omega) fun h2 tk isd kp2 => ?_
  replace isd : h2.DictOf (mixKind X.prog X.w) h'.objs.size (merged [] rs) := isd
  have low : st1.heap.objs.size ≤ h'.objs.size := by rw [size]; exact Nat.le_add_right _ _
  have big : sysModules < h'.objs.size := Nat.lt_of_lt_of_le J1.big low
  have ne : (h'.objs.size == sysModules) = false := beq_eq_false_iff_ne.mpr (Nat.ne_of_gt big)
  have few : (mergeK [] (ks.zip xs)).length ≤ sizeLine := by
    refine Nat.le_trans (length_mergeK _ []) ?_
    rw [List.length_nil, Nat.zero_add, List.length_zip]
    omega
  refine ⟨.ref h'.objs.size, upd H1 h'.objs.size (.dK (mergeK [] (ks.zip xs))), J1.laid (t' := tk) (fun c o q => kp2 c o (fun hm => ?_) (kp c o q)) low (show ObjOk X.prog X.w _ _ _ (.dK (mergeK [] (ks.zip xs))) from ⟨few, ne, merged [] rs, KV.merge e1 .nil, isd⟩), rfl, now _ (J1.hok.fresh low)⟩
  have cl := Heap.lt_size q
  have either : c = st1.heap.objs.size + 4 ∨ c = st1.heap.objs.size + 3 ∨ c = st1.heap.objs.size ∨ c = st1.heap.objs.size + 1 := by simpa using hm
  rcases either with y | y | y | y <;> rw [y] at cl
  · exact absurd cl (Nat.not_lt.mpr (Nat.le_add_right _ _))
  · exact absurd cl (Nat.not_lt.mpr (Nat.le_add_right _ _))
  · exact absurd cl (Nat.lt_irrefl _)
  · exact absurd cl (Nat.not_lt.mpr (Nat.le_add_right _ _))
theorem one_at {K : PySem.W.Frag} {a : Addr} {od : Option Addr} {z : Str} {t1 : Tok} {n : Nat} {sl : Array (Option Value)} (l : K.lookup a = some ⟨.type "tuple", od, .seq #[.str z t1] n, sl⟩) (H : Hp) : SqT K H a [.str z] :=
  .inr ⟨_, _, _, l, rfl, rfl, (show 1 ≤ sizeLine by decide), .cons ⟨_, rfl⟩ .nil⟩
/-! ### dicts whose keys are tuples of tuples -/
mutual
/-- a value that is such a key -/
inductive NkV (H : Hp) : NestedKey → V → Prop
  | num (i : Int) : NkV H (.num i) (.int i)
  | text (x : Str) : NkV H (.text x) (.str x)
  | tup {a : Addr} {xs : List V} {ks : List NestedKey} : H a = some (.tup xs) → NkL H ks xs → NkV H (.tup ks) (.ref a)
inductive NkL (H : Hp) : List NestedKey → List V → Prop
  | nil : NkL H [] []
  | cons {k : NestedKey} {x : V} {ks : List NestedKey} {xs : List V} : NkV H k x → NkL H ks xs → NkL H (k :: ks) (x :: xs)
end
section
variable {P : Program} {w : World} {H H' : Hp} {h : Heap}
mutual
theorem NkV.keep (kp : TK H H') : ∀ {k : NestedKey} {x : V}, NkV H k x → NkV H' k x
  | _, _, .num i => .num i
  | _, _, .text x => .text x
  | _, _, .tup e l => .tup (kp _ _ e) (NkL.keep kp l)
theorem NkL.keep (kp : TK H H') : ∀ {ks : List NestedKey} {xs : List V}, NkL H ks xs → NkL H' ks xs
  | _, _, .nil => .nil
  | _, _, .cons a b => .cons (NkV.keep kp a) (NkL.keep kp b)
end
mutual
theorem NkV.is (ok : HOk P w H h) : ∀ {k : NestedKey} {x : V} {u : Value}, NkV H k x → RelV x u → NestedIs h k u
  | _, _, u, .num i, r => by
    obtain ⟨t, rfl⟩ := (show ∃ t, u = Value.int i t from r)
    exact .int i t
  | _, _, u, .text x, r => by
    obtain ⟨t, rfl⟩ := (show ∃ t, u = Value.str x t from r)
    exact .text x t
  | _, _, u, @NkV.tup _ a xs ks e l, r => by
    obtain rfl : u = Value.ref a := r
    obtain ⟨_, its, rv, o, e1, e2, n, e3⟩ := (show ObjOk P w H h a (.tup xs) from ok a _ e)
    exact .tup e1 e2 e3 (by simpa using NkL.is ok l rv)
theorem NkL.is (ok : HOk P w H h) : ∀ {ks : List NestedKey} {xs : List V} {us : List Value}, NkL H ks xs → Vals xs us → NestedAll h ks us
  | _, _, _, .nil, .nil => .nil
  | _, _, _, .cons a b, .cons r t => .cons (NkV.is ok a r) (NkL.is ok b t)
end
/-- what stands in the heap for a dict with the entries kas: key, the key's address, number -/
def nkRow (k : NestedKey × Addr × Int) (x : NestedKey × Addr × Value) : Prop := x.1 = k.1 ∧ x.2.1 = k.2.1 ∧ ∃ t, x.2.2 = .int k.2.2 t
def nkObj (P : Program) (w : World) (d : Addr) (kas : List (NestedKey × Addr × Int)) (h : Heap) : Prop :=
  (d == sysModules) = false ∧ kas.length ≤ sizeLine ∧ ∃ xs : List (NestedKey × Addr × Value), All2 nkRow kas xs ∧ ∃ o es ep, h.get? d = some o ∧ o.ExactDict ∧ o.data = .dict es ep ∧ es.toList = xs.map (entryOfKey (nestedKind P w)) ∧ (xs.map (·.1)).Nodup
def nkO (P : Program) (w : World) (d : Addr) (kas : List (NestedKey × Addr × Int)) : HO := .ext (nkObj P w d kas)
structure NkD (P : Program) (w : World) (H : Hp) (d : Addr) (kas : List (NestedKey × Addr × Int)) : Prop where
  at_ : H d = some (nkO P w d kas)
  key : ∀ q ∈ kas, NkV H q.1 (.ref q.2.1) ∧ q.1.depth ≤ 8
theorem nkO_tup {d : Addr} {kas : List (NestedKey × Addr × Int)} {xs : List V} : nkO P w d kas ≠ .tup xs := fun z => by
  have z' : HO.ext _ = HO.tup xs := z
  cases z'
theorem nkObj_ok {d : Addr} {kas : List (NestedKey × Addr × Int)} (q : nkObj P w d kas h) : ObjOk P w H h d (nkO P w d kas) := by
  have q0 := q
  obtain ⟨_, _, xs, _, o, es, ep, e, _⟩ := q0
  refine ⟨q, ⟨o, e⟩, fun h1 h2 q1 k => ?_⟩
  obtain ⟨a1, a2, xs, al, o, es, ep, e, r⟩ := q1
  exact ⟨a1, a2, xs, al, o, es, ep, k _ e, r⟩
theorem nk_names : ∀ {kas : List (NestedKey × Addr × Int)} {xs : List (NestedKey × Addr × Value)}, All2 nkRow kas xs → xs.map (·.1) = kas.map (·.1)
  | _, _, .nil => rfl
  | _, _, .cons r t => by rw [List.map_cons, List.map_cons, r.1, nk_names t]
/-- the number at a key -/
def nkAt (kas : List (NestedKey × Addr × Int)) (k : NestedKey) : Option Int := (kas.find? fun q => decide (q.1 = k)).map fun q => q.2.2
theorem nk_at {k : NestedKey} : ∀ {kas : List (NestedKey × Addr × Int)} {xs : List (NestedKey × Addr × Value)}, All2 nkRow kas xs → (nkAt kas k = none ∧ atKey xs k = none) ∨ ∃ n a t, nkAt kas k = some n ∧ atKey xs k = some (a, .int n t)
  | _, _, .nil => .inl ⟨rfl, rfl⟩
  | _, _, @All2.cons _ _ _ c x cs xs r t => by
    unfold nkAt atKey
    rw [List.find?_cons, List.find?_cons, r.1]
    by_cases e : c.1 = k
    · rw [decide_eq_true e]
      obtain ⟨tt, ht⟩ := r.2.2
      refine .inr ⟨c.2.2, x.2.1, tt, rfl, ?_⟩
      show some x.2 = _
      rw [← ht]
    · rw [decide_eq_false e]
      exact nk_at t
theorem NkD.get {d : Addr} {kas : List (NestedKey × Addr × Int)} (D : NkD P w H d kas) (ok : HOk P w H h) : (d == sysModules) = false ∧ kas.length ≤ sizeLine ∧ ∃ xs, All2 nkRow kas xs ∧ h.DictOfH (nestedKind P w) d xs := by
  obtain ⟨⟨a1, a2, xs, al, o, es, ep, e1, e2, e3, e4, e5⟩, _⟩ := (show ObjOk P w H h d (nkO P w d kas) from ok d _ D.at_)
  refine ⟨a1, a2, xs, al, o, es, ep, e1, e2, e3, e4, fun x hx => ?_, e5⟩
  have : ∀ {kas : List (NestedKey × Addr × Int)} {xs : List (NestedKey × Addr × Value)}, All2 nkRow kas xs → ∀ x ∈ xs, ∃ q ∈ kas, x.1 = q.1 ∧ x.2.1 = q.2.1 := by
    intro kas xs al
    induction al with
    | nil => intro x hx; cases hx
    | cons r t ih =>
      intro x hx
      rcases List.mem_cons.mp hx with rfl | hx
      · exact ⟨_, List.mem_cons_self .., r.1, r.2.1⟩
      · obtain ⟨q, hq, z⟩ := ih x hx
        exact ⟨q, List.mem_cons_of_mem _ hq, z⟩
  obtain ⟨q, hq, z1, z2⟩ := this al x hx
  obtain ⟨k1, k2⟩ := D.key q hq
  rw [z1, z2]
  exact ⟨NkV.is ok k1 rfl, k2⟩
theorem NkD.go {d : Addr} {kas : List (NestedKey × Addr × Int)} (D : NkD P w H d kas) (e : H' d = H d) (kp : TK H H') : NkD P w H' d kas := ⟨e.trans D.at_, fun q hq => ⟨(D.key q hq).1.keep kp, (D.key q hq).2⟩⟩
theorem NkD.same {d : Addr} {kas : List (NestedKey × Addr × Int)} (D : NkD P w H d kas) (s : Same H H') : NkD P w H' d kas := D.go ((s _ _ D.at_).trans D.at_.symm) (TK.same s)
end
section
variable {X : Cx} {o i e : Expr} {pos pos' : Pos} {td ty tv : TE}
theorem nk_room {X : Cx} (hu : X.A.units + 65 < cLine) : (nestedKind X.prog X.w).room X.A.in1 := by
  show X.A.in1.units + 8 < cLine
  show X.A.units + 1 + 8 < cLine
  omega
/-- {}, for such keys -/
def tNkNew (P : Program) (w : World) : TE := fun _ H Q => ∀ p, H p = none → NkD P w (upd H p (nkO P w p [])) p [] → Q (.ref p) (upd H p (nkO P w p []))
theorem pe_nknew (P : Program) (w : World) (h1 : X.prog = P) (h2 : X.w = w) : PE X (.Dict [] [] pos) (tNkNew P w) := by
  subst h1 h2
  refine ⟨fun pins s σ H Q I h => ?_⟩
  have hb := I.big
  have ob : nkObj X.prog X.w s.heap.objs.size [] (s.heap.push { cls := .type "dict", data := .dict #[] }) := ⟨beq_eq_false_iff_ne.mpr (Ne.symm (Nat.ne_of_lt hb)), Nat.zero_le _, [], .nil, _, #[], 0, Heap.get?_push_size _ rfl, ⟨rfl, rfl, rfl⟩, rfl, rfl, List.nodup_nil⟩
  exact wpAny_Dict_empty ⟨.ref s.heap.objs.size, _, I.laid (a := s.heap.objs.size) (o := nkO X.prog X.w s.heap.objs.size []) (t' := s.toks) (fun _ _ q => Heap.get?_push_of_some _ q) (Nat.le_refl _) (nkObj_ok ob), rfl, h _ (I.hok.fresh (Nat.le_refl _)) ⟨upd_same, fun q hq => by cases hq⟩⟩
/-- y not in d -/
def tNkOut (P : Program) (w : World) (ty td : TE) : TE := fun σ H Q => ty σ H fun y H1 => td σ H1 fun x H2 => ∃ (d b : Addr) (kas : List (NestedKey × Addr × Int)) (k : NestedKey), x = .ref d ∧ y = .ref b ∧ NkD P w H2 d kas ∧ NkV H2 k (.ref b) ∧ k.depth ≤ 8 ∧ Q (.bl (!(nkAt kas k).isSome)) H2
theorem pc_nkout (P : Program) (w : World) (h1 : X.prog = P) (h2 : X.w = w) (hu : X.A.units + 65 < cLine) (hi : PE X i ty) (ho : PE X o td) : PC X .NotIn i o (tNkOut P w ty td) := by
  subst h1 h2
  refine ⟨fun pins s σ H Q I h => ?_⟩
  refine thn (hi.run pins s σ H _ I h) fun iv s1 ⟨y, H1, I1, ry, q1⟩ => thn (ho.run pins s1 σ H1 _ I1 q1) fun u s2 ⟨x, H2, I2, rx, d, b, kas, k, ex, ey, D, kv, dp, q2⟩ => ?_
  subst ex ey
  obtain rfl : u = Value.ref d := rx
  obtain rfl : iv = Value.ref b := ry
  obtain ⟨a1, a2, xs, al, dd⟩ := D.get I2.hok
  refine wpAny_notIn_heap (nk_room hu) ⟨NkV.is I2.hok kv rfl, dp⟩ a1 dd ⟨.bl (!(nkAt kas k).isSome), H2, I2.tok _, ?_, q2⟩
  rcases nk_at (k := k) al with ⟨z1, z2⟩ | ⟨n, a, t, z1, z2⟩ <;> rw [z1, z2] <;> rfl
/-- d[y] -/
def tNkGet (P : Program) (w : World) (td ty : TE) : TE := fun σ H Q => td σ H fun x H1 => ty σ H1 fun y H2 => ∃ (d b : Addr) (kas : List (NestedKey × Addr × Int)) (k : NestedKey) (n : Int), x = .ref d ∧ y = .ref b ∧ NkD P w H2 d kas ∧ NkV H2 k (.ref b) ∧ k.depth ≤ 8 ∧ nkAt kas k = some n ∧ Q (.int n) H2
theorem pe_nkget (P : Program) (w : World) (h1 : X.prog = P) (h2 : X.w = w) (hu : X.A.units + 65 < cLine) (ho : PE X o td) (hi : PE X i ty) (hs : NoSl i) : PE X (.Subscript o i pos) (tNkGet P w td ty) := by
  subst h1 h2
  refine ⟨fun pins s σ H Q I h => ?_⟩
  refine subD_of PySem.F.slot_dict_getitem.lookup hs (thn (ho.run pins s σ H _ I h) fun u s1 ⟨x, H1, I1, rx, q1⟩ => thn (hi.run pins s1 σ H1 _ I1 q1) fun iv s2 ⟨y, H2, I2, ry, d, b, kas, k, n, ex, ey, D, kv, dp, hk, q2⟩ => ?_)
  subst ex ey
  obtain rfl : u = Value.ref d := rx
  obtain rfl : iv = Value.ref b := ry
  obtain ⟨a1, a2, xs, al, dd⟩ := D.get I2.hok
  refine ⟨dd.typeIs, ?_⟩
  rcases nk_at (k := k) al with ⟨z1, z2⟩ | ⟨m, a, t, z1, z2⟩
  · rw [z1] at hk; cases hk
  · rw [z1] at hk
    cases hk
    exact wpAny_getItem_heap (nk_room hu) ⟨NkV.is I2.hok kv rfl, dp⟩ dd z2 ⟨.int n, H2, I2.tok _, ⟨t, rfl⟩, q2⟩
/-- len(d) -/
theorem call_lenNk (P : Program) (w : World) (h1 : X.prog = P) (h2 : X.w = w) : CallR X (.builtin "len") (fun vs H Q => ∃ (d : Addr) (kas : List (NestedKey × Addr × Int)), vs = [.ref d] ∧ NkD P w H d kas ∧ Q (.int (kas.length : Nat)) H) := by
  subst h1 h2
  intro pins s σ H vs us Q I r asked
  obtain ⟨d, kas, rfl, D, q⟩ := asked
  obtain ⟨u, rfl, ru⟩ := vals1 r
  obtain rfl : u = Value.ref d := ru
  obtain ⟨a1, a2, xs, al, dd⟩ := D.get I.hok
  have l := al.length
  refine PySem.call_len_dictH a1 dd (by rw [← l]; rw [sizeLine_eq] at a2; omega) ?_
  exact ⟨.int (kas.length : Nat), H, I.tok _, ⟨_, by rw [l]⟩, q⟩
/-- d[y] = v, y not yet in d -/
def sNkPut (P : Program) (w : World) (td ty tv : TE) : TS := fun D σ H => tv σ H fun v H1 => td σ H1 fun x H2 => ty σ H2 fun y H3 => ∃ (d b : Addr) (kas : List (NestedKey × Addr × Int)) (k : NestedKey) (n : Int), x = .ref d ∧ y = .ref b ∧ v = .int n ∧ NkD P w H3 d kas ∧ NkV H3 k (.ref b) ∧ k.depth ≤ 8 ∧ nkAt kas k = none ∧ kas.length < sizeLine ∧
  (NkD P w (upd H3 d (nkO P w d (kas ++ [(k, b, n)]))) d (kas ++ [(k, b, n)]) → D.nx σ (upd H3 d (nkO P w d (kas ++ [(k, b, n)]))))
theorem ps_nkput {value : Expr} (P : Program) (w : World) (h1 : X.prog = P) (h2 : X.w = w) (hu : X.A.units + 65 < cLine) (ho : PE X o td) (hi : PE X i ty) (hv : PE X value tv) (hs : swapsWith value (some (.Subscript o i pos')) pos.line X.env = pure false) :
    PS X (.Assign [.Subscript o i pos'] value pos) (sNkPut P w td ty tv) := by
  subst h1 h2
  refine ⟨fun pins s σ H D I h => ?_⟩
  refine wpAny_Assign_Subscript (thn (hv.run pins s σ H _ I h) fun r s1 ⟨v, H1, I1, rv, q1⟩ => thn (ho.run pins s1 σ H1 _ I1 q1) fun u s2 ⟨x, H2, I2, rx, q2⟩ => thn (hi.run pins s2 σ H2 _ I2 q2) fun iv s3 ⟨y, H3, I3, ry, d, b, kas, k, n, ex, ey, ev, Dk, kv, dp, hk, hl, q3⟩ => ?_) hs
  subst ex ey ev
  obtain rfl : u = Value.ref d := rx
  obtain rfl : iv = Value.ref b := ry
  obtain ⟨t, rfl⟩ := (show ∃ t, r = Value.int n t from rv)
  obtain ⟨a1, a2, xs, al, dd⟩ := Dk.get I3.hok
  have l := al.length
  have z2 : atKey xs k = none := by
    rcases nk_at (k := k) al with ⟨z1, z2⟩ | ⟨m, a, t, z1, z2⟩
    · exact z2
    · rw [z1] at hk; cases hk
  refine wpAny_setItem_heap (hsz := by rw [← l]; exact a2) (nk_room hu) ⟨NkV.is I3.hok kv rfl, dp⟩ dd fun h' dd' hsb => ?_
  rw [storedH_new z2] at dd'
  obtain ⟨ob, es, ep, g1, g2, g3, g4, g5, g6⟩ := dd'
  have kp : TK H3 (upd H3 d (nkO X.prog X.w d (kas ++ [(k, b, n)]))) := fun a ys e => by
    rw [upd_ne (ne_of e Dk.at_ (fun z => nkO_tup z.symm))]
    exact e
  have new : nkObj X.prog X.w d (kas ++ [(k, b, n)]) h' := ⟨a1, by rw [List.length_append]; exact hl, _, al.snoc ⟨rfl, rfl, t, rfl⟩, ob, es, ep, g1, g2, g3, g4, g6⟩
  refine ⟨σ, _, d_write I3 (by rw [Dk.at_]; exact True.intro) hsb ⟨ob, g1⟩ (nkObj_ok new), q3 ⟨upd_same, fun q hq => ?_⟩⟩
  rcases List.mem_append.mp hq with hq | hq
  · exact ⟨(Dk.key q hq).1.keep kp, (Dk.key q hq).2⟩
  · rw [List.mem_singleton.mp hq]
    exact ⟨kv.keep kp, dp⟩
end
section
variable {P : Program} {w : World} {K : PySem.W.Frag} {mg : Str → Option Value} {base : Heap}
def sp_law_flow (K : PySem.W.Frag) : Sp := fun vs H Q _ => ∃ (a : Addr) (ns : List Int), vs = [.ref a] ∧ SqL K H a (ns.map V.int) ∧ ∀ (f c : Addr) (H' : Hp), H f = none → H c = none → Flow H' f c → Same H H' → Q (.ref f) H'
theorem ok_law_flow {f : Addr} {fd : FuncData} (F : Fun K "_law_flow" "_law_flow" s_law_flow f fd) (T : Top K mg) : FnOk P w K mg base CX0 1 f fd ["_law_script"] (sp_law_flow K) := by
  refine F.ok sc_law_flow (fun vs H Q E h => ?_) (fun cdv A outer s H vs Q E hr h => ?_)
  · obtain ⟨a, ns, rfl, _⟩ := h
    rfl
  obtain ⟨a, ns, rfl, hS, q⟩ := h
  refine ⟨_, (pss_one (ps_ret (pe_lst (pa_cons (pe_callTy (call_list_ofK K rfl) (by rfl) T.m_list (by decide +kernel) (pa_cons (pv 0) pa_nil)) (pa_cons pe_int (pa_cons pe_int (pa_cons pe_int (pa_cons pe_int pa_nil)))))))), ?_⟩
  refine ⟨_, rfl, a, _, rfl, .inl hS, fun c hc => ?_⟩
  refine ⟨(by show 5 ≤ sizeLine; decide), fun f hf => ?_⟩
  have nf : H f = none := by
    cases e : H f with
    | none => rfl
    | some o => rw [same_new hc _ _ e] at hf; cases hf
  have s1 := same_new (o := .lst (ns.map V.int)) hc
  refine q f c _ nf hc ⟨ns, 0, 0, 1, 0, upd_same, same_new hf _ _ upd_same, by decide, by decide, by decide, by decide⟩ fun b o e => same_new hf _ _ (s1 _ _ e)
def sp_law_pick (K : PySem.W.Frag) : Sp := fun vs H Q _ => ∃ (f c : Addr) (m : Int), vs = [.ref f, .int m] ∧ 0 < m ∧ m.natAbs.log2 < 9000 ∧ Flow H f c ∧
  ∀ (v : Int) (H' : Hp), 0 ≤ v → v < m → Flow H' f c → But f H H' → Q (.int v) H'
theorem ok_law_pick {f : Addr} {fd : FuncData} (F : Fun K "_law_pick" "_law_pick" s_law_pick f fd) (T : Top K mg) : FnOk P w K mg base CX0 1 f fd ["_law_flow_here", "_law_many"] (sp_law_pick K) := by
  refine F.ok sc_law_pick (fun vs H Q E h => ?_) (fun cdv A outer s H vs Q E hr h => ?_)
  · obtain ⟨f, c, m, rfl, _⟩ := h
    rfl
  obtain ⟨f, c, m, rfl, m0, m9, hF, q⟩ := h
  obtain ⟨ns, i, p, z, r, hf, hc, hi, hp, hz, hz2⟩ := hF
  have ncf : c ≠ f := ne_of hc hf (by intro e; injection e with e; cases ns with | nil => cases e | cons x l => cases e)
  let R1 : TS := fun D' σ' H' => D'.rt = Q ∧ ∃ x2 : Option V, σ' = [some (.ref f), some (.int m), x2, none] ∧ (∃ (i p z r : Int), H' f = some (.lst [.ref c, .int i, .int p, .int z, .int r]) ∧ H' c = some (.lst (ns.map V.int)) ∧ 0 ≤ i ∧ 0 ≤ p ∧ 0 ≤ z ∧ z < 2147483647) ∧ But f H H'
  refine ⟨_, (pss_cons (ps_if (PW.pt (pw_and (pt_cmpR op_eq (pe_ix (ix_listK K rfl) (pv 0) pe_int (fun _ _ => rfl)) pe_int (nomark _)) (pw_and1 (pt_cmpR op_lt (pe_ix (ix_listK K rfl) (pv 0) pe_int (fun _ _ => rfl)) (pe_callB (call_len_seqK K rfl) (by rfl) T.m_len (by decide +kernel) (pa_cons (pe_ix (ix_listK K rfl) (pv 0) pe_int (fun _ _ => rfl)) pa_nil)) (nomark _))))) (pss_cons (ps_set (i := 2) sc_law_pick.nd rfl (Or.inl rfl) (pe_ix (ix_listK K rfl) (pe_ix (ix_listK K rfl) (pv 0) pe_int (fun _ _ => rfl)) (pe_ix (ix_listK K rfl) (pv 0) pe_int (fun _ _ => rfl)) (fun _ _ => rfl)))
      (pss_cons (ps_asg (pe_op op_add (pe_ix (ix_listK K rfl) (pv 0) pe_int (fun _ _ => rfl)) pe_int) (pg_sub (pv 0) pe_int set_list))
      (pss_one (ps_if (pt_cmpR op_ge (pv 2) (pe_op op_pow pe_int pe_int) (nomark _)) (pss_one (ps_asg (pv 2) (pg_sub (pv 0) pe_int set_list))) (pss_one (ps_asg (pe_op op_mod (pe_op op_add (pe_op op_add (pe_op op_mul (pe_ix (ix_listK K rfl) (pv 0) pe_int (fun _ _ => rfl)) pe_int) (pe_op op_mod (pv 2) pe_int)) pe_int) pe_int) (pg_sub (pv 0) pe_int set_list))))))) pss_nil)
      (PSs.to (pss_cons (ps_if (pt_cmpR op_gt (pe_ix (ix_listK K rfl) (pv 0) pe_int (fun _ _ => rfl)) pe_int (nomark _)) (pss_cons (ps_set (i := 3) sc_law_pick.nd rfl (Or.inl rfl) (pe_op op_mod (pe_ix (ix_listK K rfl) (pv 0) pe_int (fun _ _ => rfl)) (pv 1)))
      (pss_cons (ps_asg (pe_op op_fdivW (pe_ix (ix_listK K rfl) (pv 0) pe_int (fun _ _ => rfl)) (pv 1)) (pg_sub (pv 0) pe_int set_list))
      (pss_one (ps_ret (pv 3))))) pss_nil)
      (pss_cons (ps_asg (pe_op op_add (pe_ix (ix_listK K rfl) (pv 0) pe_int (fun _ _ => rfl)) pe_int) (pg_sub (pv 0) pe_int set_list))
      (pss_cons (ps_asg (pe_op op_mod (pe_op op_add (pe_op op_add (pe_op op_mul (pe_ix (ix_listK K rfl) (pv 0) pe_int (fun _ _ => rfl)) pe_int) pe_int) (pe_ix (ix_listK K rfl) (pv 0) pe_int (fun _ _ => rfl))) pe_int) (pg_sub (pv 0) pe_int set_list))
      (pss_one (ps_ret (pe_op op_mod (pe_op op_fdiv (pe_op op_mod (pe_op op_mul (pe_op op_add (pe_op op_mod (pe_ix (ix_listK K rfl) (pv 0) pe_int (fun _ _ => rfl)) pe_int) pe_int) (pe_op op_add (pe_op op_fdiv (pe_ix (ix_listK K rfl) (pv 0) pe_int (fun _ _ => rfl)) pe_int) pe_int)) pe_int) pe_int) (pv 1))))))) R1 ?tail1)), ?_⟩
  case tail1 =>
    rintro D' σ' H1 ⟨eD, x2, rfl, ⟨i, p, z, r, hf, hc, hi, hp, hz, hz2⟩, bt⟩
    refine ⟨_, rfl, f, _, _, _, rfl, rfl, SqL.of hf, atI_nat (j := 2) rfl, _, _, rfl, rfl, _, rfl, if_bl (fun c1 => ?_) (fun c1 => ?_)⟩
    · refine ⟨_, rfl, f, _, _, _, rfl, rfl, SqL.of hf, atI_nat (j := 2) rfl, _, rfl, _, _, rfl, rfl, m0, ?_⟩
      refine ⟨_, rfl, f, _, _, _, rfl, rfl, SqL.of hf, atI_nat (j := 2) rfl, _, rfl, _, _, rfl, rfl, ⟨m0, m9⟩, _, rfl, f, _, _, 2, rfl, rfl, hf, rfl, ?_⟩
      refine ⟨_, rfl, ?_⟩
      rw [eD]
      exact q _ _ (Int.emod_nonneg _ (by omega)) (Int.emod_lt_of_pos _ m0) ⟨ns, i, p / m, z, r, upd_same, (by rw [upd_ne ncf]; exact hc), hi, Int.ediv_nonneg hp (by omega), hz, hz2⟩ bt.upd
    · refine ⟨_, rfl, f, _, _, _, rfl, rfl, SqL.of hf, atI_nat (j := 4) rfl, _, _, rfl, rfl, _, rfl, f, _, _, 4, rfl, rfl, hf, rfl, ?_⟩
      have hf2 : upd H1 f (.lst ([V.ref c, V.int i, V.int p, V.int z, V.int r].set 4 (V.int (r + 1)))) f = some (.lst [.ref c, .int i, .int p, .int z, .int (r + 1)]) := upd_same
      refine ⟨_, rfl, f, _, _, _, rfl, rfl, SqL.of hf2, atI_nat (j := 3) rfl, _, _, rfl, rfl, .inl ⟨by omega, by omega⟩, _, _, rfl, rfl, _, rfl, f, _, _, _, rfl, rfl, SqL.of hf2, atI_nat (j := 4) rfl, _, _, rfl, rfl, _, _, rfl, rfl, (by show (0 : Int) < 2147483647; decide), _, rfl, f, _, _, 3, rfl, rfl, hf2, rfl, ?_⟩
      have z0 : 0 ≤ (z * 48271 + 12820163 + (r + 1)) % 2147483647 := Int.emod_nonneg _ (by decide)
      have z1 : (z * 48271 + 12820163 + (r + 1)) % 2147483647 < 2147483647 := Int.emod_lt_of_pos _ (by decide)
      have hf3 : upd (upd H1 f (.lst ([V.ref c, V.int i, V.int p, V.int z, V.int r].set 4 (V.int (r + 1))))) f (.lst ([V.ref c, V.int i, V.int p, V.int z, V.int (r + 1)].set 3 (V.int ((z * 48271 + 12820163 + (r + 1)) % 2147483647)))) f =
        some (.lst [.ref c, .int i, .int p, .int ((z * 48271 + 12820163 + (r + 1)) % 2147483647), .int (r + 1)]) := upd_same
      have hc3 : upd (upd H1 f (.lst ([V.ref c, V.int i, V.int p, V.int z, V.int r].set 4 (V.int (r + 1))))) f (.lst ([V.ref c, V.int i, V.int p, V.int z, V.int (r + 1)].set 3 (V.int ((z * 48271 + 12820163 + (r + 1)) % 2147483647)))) c = some (.lst (ns.map V.int)) := by
        rw [upd_ne ncf, upd_ne ncf]
        exact hc
      refine ⟨_, rfl, f, _, _, _, rfl, rfl, SqL.of hf3, atI_nat (j := 3) rfl, _, _, rfl, rfl, (by show (0 : Int) < 65521; decide), _, _, rfl, rfl, _, rfl, f, _, _, _, rfl, rfl, SqL.of hf3, atI_nat (j := 3) rfl, _, _, rfl, rfl, ⟨by decide, by decide⟩, _, _, rfl, rfl, _, _, rfl, rfl, .inl ⟨?_, ?_⟩, _, _, rfl, rfl, (by show (0 : Int) < 1000003; decide), _, _, rfl, rfl, ⟨by decide, by decide⟩, _, rfl, _, _, rfl, rfl, m0, ?_⟩
      · omega
      · omega
      · rw [eD]
        exact q _ _ (Int.emod_nonneg _ (by omega)) (Int.emod_lt_of_pos _ m0) ⟨ns, i, p, _, r + 1, hf3, hc3, hi, hp, z0, z1⟩ bt.upd.upd
  refine ⟨_, rfl, f, _, _, _, rfl, rfl, SqL.of hf, atI_nat (j := 2) rfl, rfl, _, rfl, if_bl (fun c1 => ?_) (fun c1 => ?_)⟩
  · refine ⟨_, rfl, f, _, _, _, rfl, rfl, SqL.of hf, atI_nat (j := 1) rfl, _, rfl, f, _, _, _, rfl, rfl, SqL.of hf, atI_nat (j := 0) rfl, c, _, rfl, .inl (SqL.of hc), _, _, rfl, rfl, _, rfl, if_bl (fun c2 => ?_) (fun c2 => ?_)⟩
    · have c3 : i < ((ns.map V.int).length : Int) := of_decide_eq_true c2
      rw [List.length_map] at c3
      obtain ⟨v, hv⟩ := at_ints hi c3
      refine ⟨_, rfl, f, _, _, _, rfl, rfl, SqL.of hf, atI_nat (j := 0) rfl, _, rfl, f, _, _, _, rfl, rfl, SqL.of hf, atI_nat (j := 1) rfl, c, _, i, _, rfl, rfl, SqL.of hc, hv, ?_⟩
      refine ⟨_, rfl, f, _, _, _, rfl, rfl, SqL.of hf, atI_nat (j := 1) rfl, _, _, rfl, rfl, _, rfl, f, _, _, 1, rfl, rfl, hf, rfl, ?_⟩
      have hf2 : upd H f (.lst ([V.ref c, V.int i, V.int p, V.int z, V.int r].set 1 (V.int (i + 1)))) f = some (.lst [.ref c, .int (i + 1), .int p, .int z, .int r]) := upd_same
      refine ⟨_, rfl, _, _, rfl, rfl, ⟨by decide, by decide, by decide⟩, _, _, rfl, rfl, _, rfl, if_bl (fun c4 => ?_) (fun c4 => ?_)⟩
      · have c5 : (10 : Int) ^ (18 : Int).toNat ≤ v := of_decide_eq_true c4
        have c6 : (0 : Int) ≤ (10 : Int) ^ (18 : Int).toNat := by decide
        refine ⟨_, rfl, _, rfl, f, _, _, 2, rfl, rfl, hf2, rfl, rfl, _, rfl, ⟨i + 1, v, z, r, upd_same, ?_, by omega, by omega, hz, hz2⟩, But.refl.upd.upd⟩
        rw [upd_ne ncf, upd_ne ncf]
        exact hc
      · refine ⟨_, rfl, f, _, _, _, rfl, rfl, SqL.of hf2, atI_nat (j := 3) rfl, _, _, rfl, rfl, .inl ⟨by omega, by omega⟩, _, rfl, _, _, rfl, rfl, (by show (0 : Int) < 1000003; decide), _, _, rfl, rfl, _, _, rfl, rfl, _, _, rfl, rfl, (by show (0 : Int) < 2147483647; decide), _, rfl, f, _, _, 3, rfl, rfl, hf2, rfl, rfl, _, rfl, ⟨i + 1, p, _, r, upd_same, ?_, by omega, hp, Int.emod_nonneg _ (by decide), Int.emod_lt_of_pos _ (by decide)⟩, But.refl.upd.upd⟩
        rw [upd_ne ncf, upd_ne ncf]
        exact hc
    · exact ⟨rfl, _, rfl, ⟨i, p, z, r, hf, hc, hi, hp, hz, hz2⟩, But.refl⟩
  · exact ⟨rfl, _, rfl, ⟨i, p, z, r, hf, hc, hi, hp, hz, hz2⟩, But.refl⟩
end
/-! ### rooms: what they are -/
/-- a hand: its rule's word, its number if it has one, its moments -/
structure HR where
  wd : Str
  no : Option Int
  mom : Int
/-- a belt -/
structure BR where
  one : Nat
  to : Nat
  th : List Int
abbrev ruleL (h : HR) : List V := .str h.wd :: (match h.no with | none => [] | some n => [.int n])
def HandAt (H : Hp) (v : V) (h : HR) : Prop := ∃ t r : Addr, v = .ref t ∧ H t = some (.tup [.ref r, .int h.mom]) ∧ H r = some (.tup (ruleL h))
def BeltAt (H : Hp) (v : V) (b : BR) : Prop := ∃ t g : Addr, v = .ref t ∧ H t = some (.tup [.int (b.one : Nat), .int (b.to : Nat), .ref g]) ∧ H g = some (.tup (b.th.map V.int))
theorem HandAt.keep {H H' : Hp} {v : V} {h : HR} (a : HandAt H v h) (k : TK H H') : HandAt H' v h := by
  obtain ⟨t, r, e, e1, e2⟩ := a
  exact ⟨t, r, e, k _ _ e1, k _ _ e2⟩
theorem BeltAt.keep {H H' : Hp} {v : V} {b : BR} (a : BeltAt H v b) (k : TK H H') : BeltAt H' v b := by
  obtain ⟨t, r, e, e1, e2⟩ := a
  exact ⟨t, r, e, k _ _ e1, k _ _ e2⟩
def nine : List Str := ["always", "same", "times", "sum", "gap", "below", "most", "least", "pick"]
def needs (wd : Str) : Int := if wd ∈ (["in", "always"] : List Str) then 0 else if wd ∈ (["out", "same", "times"] : List Str) then 1 else 2 + (if wd = "pick" then 1 else 0)
/-- a rule of one of the nine words -/
structure GoodRule (h : HR) : Prop where
  wd : h.wd ∈ nine
  no : h.no.isSome = true ↔ h.wd = "times" ∨ h.wd = "always"
  big : ∀ n, h.no = some n → -1000000 ≤ n ∧ n ≤ 1000000
def GoodHand (h : HR) : Prop := (GoodRule h ∨ ((h.wd = "in" ∨ h.wd = "out") ∧ h.no = none)) ∧ 0 ≤ h.mom ∧ h.mom ≤ 30
def Small (v : Int) : Prop := -1000000 ≤ v ∧ v ≤ 1000000
section
variable {P : Program} {w : World} {K : PySem.W.Frag} {mg : Str → Option Value} {base : Heap}
def sp_law_thing (K : PySem.W.Frag) : Sp := fun vs H Q _ => ∃ f c : Addr, vs = [.ref f] ∧ Flow H f c ∧ ∀ (v : Int) (H' : Hp), Small v → Flow H' f c → But f H H' → Q (.int v) H'
theorem ok_law_thing {f : Addr} {fd : FuncData} (F : Fun K "_law_thing" "_law_thing" s_law_thing f fd) (T : Top K mg) : FnOk P w K mg base CX0 2 f fd ["_law_flow_here"] (sp_law_thing K) := by
  obtain ⟨f_law_pick, fd_law_pick, F_law_pick, b_law_pick, m_law_pick⟩ := T.d_law_pick
  have G_law_pick := ok_law_pick (P := P) (w := w) (base := base) F_law_pick T
  refine F.ok sc_law_thing (fun vs H Q E h => ?_) (fun cdv A outer s H vs Q E hr h => ?_)
  · obtain ⟨f, c, rfl, _⟩ := h
    rfl
  obtain ⟨f, c, rfl, hF, q⟩ := h
  refine ⟨_, (pss_cons (ps_if (pt_cmpR op_gt (pe_call G_law_pick (hr.mono (by decide)) (by rfl) m_law_pick F_law_pick.kp b_law_pick .nil pass0 (pa_cons (pv 0) (pa_cons pe_int pa_nil))) pe_int (nomark _)) (pss_one (ps_ret (pe_op op_sub (pe_call G_law_pick (hr.mono (by decide)) (by rfl) m_law_pick F_law_pick.kp b_law_pick .nil pass0 (pa_cons (pv 0) (pa_cons pe_int pa_nil))) pe_int))) pss_nil)
      (pss_one (ps_ret (pe_op op_sub (pe_call G_law_pick (hr.mono (by decide)) (by rfl) m_law_pick F_law_pick.kp b_law_pick .nil pass0 (pa_cons (pv 0) (pa_cons pe_int pa_nil))) pe_int)))), ?_⟩
  refine ⟨_, rfl, f, c, 3, rfl, by decide, by decide +kernel, hF, fun v1 H1 a1 b1 F1 B1 => ⟨_, _, rfl, rfl, _, rfl, if_bl (fun _ => ?_) (fun _ => ?_)⟩⟩
  · exact ⟨_, rfl, f, c, 7, rfl, by decide, by decide +kernel, F1, fun v2 H2 a2 b2 F2 B2 => ⟨_, _, rfl, rfl, q _ _ ⟨by omega, by omega⟩ F2 (B1.trans B2)⟩⟩
  · exact ⟨_, rfl, f, c, 2000001, rfl, by decide, by decide +kernel, F1, fun v2 H2 a2 b2 F2 B2 => ⟨_, _, rfl, rfl, q _ _ ⟨by omega, by omega⟩ F2 (B1.trans B2)⟩⟩
def sp_law_needs (K : PySem.W.Frag) : Sp := fun vs H Q _ => ∃ (r : Addr) (wd : Str) (l : List V), vs = [.ref r] ∧ SqT K H r (.str wd :: l) ∧ ∀ H', Same H H' → Q (.int (needs wd)) H'
theorem ok_law_needs {f : Addr} {fd : FuncData} (F : Fun K "_law_needs" "_law_needs" s_law_needs f fd) (T : Top K mg) : FnOk P w K mg base CX0 1 f fd ["_law_rule_here"] (sp_law_needs K) := by
  refine F.ok sc_law_needs (fun vs H Q E h => ?_) (fun cdv A outer s H vs Q E hr h => ?_)
  · obtain ⟨r, wd, l, rfl, _⟩ := h
    rfl
  obtain ⟨r, wd, l, rfl, hR, q⟩ := h
  unfold needs at q
  refine ⟨_, (pss_cons (ps_if (pt_cmpR (op_in_seqK K rfl) (pe_ix (ix_tupK K rfl) (pv 0) pe_int (fun _ _ => rfl)) (pe_tup (pa_cons pe_str (pa_cons pe_str pa_nil))) (by with_unfolding_all rfl)) (pss_one (ps_ret pe_int)) pss_nil)
      (pss_cons (ps_if (pt_cmpR (op_in_seqK K rfl) (pe_ix (ix_tupK K rfl) (pv 0) pe_int (fun _ _ => rfl)) (pe_tup (pa_cons pe_str (pa_cons pe_str (pa_cons pe_str pa_nil)))) (by with_unfolding_all rfl)) (pss_one (ps_ret pe_int)) pss_nil)
      (pss_one (ps_ret (pe_op op_add pe_int (pe_callTy call_int1 (by rfl) T.m_int (by decide +kernel) (pa_cons (pe_cmpR op_eq (pe_ix (ix_tupK K rfl) (pv 0) pe_int (fun _ _ => rfl)) pe_str (nomark _)) pa_nil))))))), ?_⟩
  refine ⟨_, rfl, r, _, _, _, rfl, rfl, hR, atI_nat (j := 0) rfl, (by show 2 ≤ sizeLine; decide), fun p np => ⟨p, _, rfl, .inr (SqT.of upd_same), rfl, rfl, _, rfl, if_in (zs := ["in", "always"]) (fun e => ?_) (fun e => ?_)⟩⟩
  · have q := q _ (same_new (o := .tup [V.str "in", V.str "always"]) np)
    rw [if_pos e] at q
    exact q
  have s1 := same_new (o := .tup [V.str "in", V.str "always"]) np
  refine ⟨_, rfl, r, _, _, _, rfl, rfl, same_seqT s1 hR, atI_nat (j := 0) rfl, (by show 3 ≤ sizeLine; decide), fun p2 np2 => ⟨p2, _, rfl, .inr (SqT.of upd_same), rfl, rfl, _, rfl, if_in (zs := ["out", "same", "times"]) (fun e2 => ?_) (fun e2 => ?_)⟩⟩
  · have q := q _ (s1.trans (same_new (o := .tup [V.str "out", V.str "same", V.str "times"]) np2))
    rw [if_neg e, if_pos e2] at q
    exact q
  have s2 := s1.trans (same_new (o := .tup [V.str "out", V.str "same", V.str "times"]) np2)
  have q := q _ s2
  rw [if_neg e, if_neg e2] at q
  refine ⟨_, rfl, r, _, _, _, rfl, rfl, same_seqT s2 hR, atI_nat (j := 0) rfl, rfl, .inr ⟨_, rfl, _, _, rfl, rfl, ?_⟩⟩
  by_cases k : wd = "pick"
  · rw [if_pos k] at q
    rw [decide_eq_true (show V.str wd = V.str "pick" by rw [k])]
    exact q
  · rw [if_neg k] at q
    rw [decide_eq_false (show ¬ V.str wd = V.str "pick" from fun z => k (V.str.inj z))]
    exact q
theorem nine_at {m : Int} (h0 : 0 ≤ m) (h9 : m < 9) : ∃ wd : Str, wd ∈ nine ∧ atI (nine.map V.str) m = some (.str wd) ∧ (m < 1 → needs wd ≤ 0) ∧ (m < 3 → needs wd ≤ 1) ∧ (m < 8 → needs wd ≤ 2) ∧ needs wd ≤ 3 ∧ 0 ≤ needs wd := by
  have : m = 0 ∨ m = 1 ∨ m = 2 ∨ m = 3 ∨ m = 4 ∨ m = 5 ∨ m = 6 ∨ m = 7 ∨ m = 8 := by omega
  rcases this with rfl | rfl | rfl | rfl | rfl | rfl | rfl | rfl | rfl
  · exact ⟨"always", by decide +kernel, rfl, by decide +kernel, by decide +kernel, by decide +kernel, by decide +kernel, by decide +kernel⟩
  · exact ⟨"same", by decide +kernel, rfl, by decide +kernel, by decide +kernel, by decide +kernel, by decide +kernel, by decide +kernel⟩
  · exact ⟨"times", by decide +kernel, rfl, by decide +kernel, by decide +kernel, by decide +kernel, by decide +kernel, by decide +kernel⟩
  · exact ⟨"sum", by decide +kernel, rfl, by decide +kernel, by decide +kernel, by decide +kernel, by decide +kernel, by decide +kernel⟩
  · exact ⟨"gap", by decide +kernel, rfl, by decide +kernel, by decide +kernel, by decide +kernel, by decide +kernel, by decide +kernel⟩
  · exact ⟨"below", by decide +kernel, rfl, by decide +kernel, by decide +kernel, by decide +kernel, by decide +kernel, by decide +kernel⟩
  · exact ⟨"most", by decide +kernel, rfl, by decide +kernel, by decide +kernel, by decide +kernel, by decide +kernel, by decide +kernel⟩
  · exact ⟨"least", by decide +kernel, rfl, by decide +kernel, by decide +kernel, by decide +kernel, by decide +kernel, by decide +kernel⟩
  · exact ⟨"pick", by decide +kernel, rfl, by decide +kernel, by decide +kernel, by decide +kernel, by decide +kernel, by decide +kernel⟩
def sp_law_rule (K : PySem.W.Frag) : Sp := fun vs H Q _ => ∃ (f c : Addr) (m : Int), vs = [.ref f, .int m] ∧ 0 ≤ m ∧ Flow H f c ∧
  ∀ (r : Addr) (h : HR) (H' : Hp), H' r = some (.tup (ruleL h)) → GoodRule h → needs h.wd ≤ m → 0 ≤ needs h.wd → h.mom = 0 → Flow H' f c → But f H H' → Q (.ref r) H'
theorem ok_law_rule {f : Addr} {fd : FuncData} (F : Fun K "_law_rule" "_law_rule" s_law_rule f fd) (T : Top K mg) : FnOk P w K mg base CX0 3 f fd ["_law_flow_here", "_law_most"] (sp_law_rule K) := by
  obtain ⟨f_law_pick, fd_law_pick, F_law_pick, b_law_pick, m_law_pick⟩ := T.d_law_pick
  have G_law_pick := ok_law_pick (P := P) (w := w) (base := base) F_law_pick T
  obtain ⟨f_law_thing, fd_law_thing, F_law_thing, b_law_thing, m_law_thing⟩ := T.d_law_thing
  have G_law_thing := ok_law_thing (P := P) (w := w) (base := base) F_law_thing T
  refine F.ok sc_law_rule (fun vs H Q E h => ?_) (fun cdv A outer s H vs Q E hr h => ?_)
  · obtain ⟨f, c, m, rfl, _⟩ := h
    rfl
  obtain ⟨f, c, m, rfl, m0, hF, q⟩ := h
  refine ⟨_, (pss_cons (ps_set (i := 2) sc_law_rule.nd rfl (Or.inl rfl) (pe_lst (pa_cons pe_str (pa_cons pe_str (pa_cons pe_str (pa_cons pe_str (pa_cons pe_str (pa_cons pe_str (pa_cons pe_str (pa_cons pe_str (pa_cons pe_str pa_nil)))))))))))
      (pss_cons (ps_set (i := 3) sc_law_rule.nd rfl (Or.inl rfl) (pe_ix (ix_listK K rfl) (pv 2) (pe_call G_law_pick (hr.mono (by decide)) (by rfl) m_law_pick F_law_pick.kp b_law_pick .nil pass0 (pa_cons (pv 0) (pa_cons (pe_ix (ix_listK K rfl) (pe_lst (pa_cons pe_int (pa_cons pe_int (pa_cons pe_int (pa_cons pe_int pa_nil))))) (pe_callB (call_min2 rfl) (by rfl) T.m_min (by decide +kernel) (pa_cons pe_int (pa_cons (pv 1) pa_nil))) (fun _ _ => rfl)) pa_nil))) (fun _ _ => rfl)))
      (pss_cons (ps_if (pt_cmpR op_eq (pv 3) pe_str (nomark _)) (pss_one (ps_ret (pe_tup (pa_cons (pv 3) (pa_cons (pe_op op_sub (pe_call G_law_pick (hr.mono (by decide)) (by rfl) m_law_pick F_law_pick.kp b_law_pick .nil pass0 (pa_cons (pv 0) (pa_cons pe_int pa_nil))) pe_int) pa_nil))))) pss_nil)
      (pss_cons (ps_if (pt_cmpR op_eq (pv 3) pe_str (nomark _)) (pss_one (ps_ret (pe_tup (pa_cons (pv 3) (pa_cons (pe_call G_law_thing (hr.mono (by decide)) (by rfl) m_law_thing F_law_thing.kp b_law_thing .nil pass0 (pa_cons (pv 0) pa_nil)) pa_nil))))) pss_nil)
      (pss_one (ps_ret (pe_tup (pa_cons (pv 3) pa_nil)))))))), ?_⟩
  refine ⟨(by show 9 ≤ sizeLine; decide), fun wl nwl => ?_⟩
  have F1 : Flow (upd H wl (.lst (nine.map V.str))) f c := hF.new nwl
  refine ⟨_, rfl, _, rfl, (by show 4 ≤ sizeLine; decide), fun cl ncl => ?_⟩
  have F2 : Flow (upd (upd H wl (.lst (nine.map V.str))) cl (.lst [V.int 1, V.int 3, V.int 8, V.int 9])) f c := F1.new ncl
  have B2 : But f H (upd (upd H wl (.lst (nine.map V.str))) cl (.lst [V.int 1, V.int 3, V.int 8, V.int 9])) := (But.refl.new nwl).new ncl
  obtain ⟨j, hj, j1, j9, jn⟩ : ∃ j : Int, atI [V.int 1, V.int 3, V.int 8, V.int 9] (if m < 3 then m else 3) = some (.int j) ∧ 1 ≤ j ∧ j ≤ 9 ∧ ((j = 1 ∧ m = 0) ∨ (j = 3 ∧ m = 1) ∨ (j = 8 ∧ m = 2) ∨ (j = 9 ∧ 3 ≤ m)) := by
    by_cases k : m < 3
    · rw [if_pos k]
      have : m = 0 ∨ m = 1 ∨ m = 2 := by omega
      rcases this with rfl | rfl | rfl
      · exact ⟨1, rfl, by decide, by decide, by decide⟩
      · exact ⟨3, rfl, by decide, by decide, by decide⟩
      · exact ⟨8, rfl, by decide, by decide, by decide⟩
    · rw [if_neg k]
      exact ⟨9, rfl, by decide, by decide, by omega⟩
  refine ⟨_, rfl, _, _, rfl, cl, _, _, _, rfl, rfl, SqL.of upd_same, hj, f, c, j, rfl, by omega, ?_, F2, fun v H1 v0 v1 F3 B3 => ?_⟩
  · have : j = 1 ∨ j = 3 ∨ j = 8 ∨ j = 9 := by omega
    rcases this with rfl | rfl | rfl | rfl <;> decide +kernel
  obtain ⟨wd, hw, hat, n1, n3, n8, n9, n0⟩ := nine_at v0 (by omega)
  have hn : needs wd ≤ m := by
    rcases jn with ⟨rfl, rfl⟩ | ⟨rfl, rfl⟩ | ⟨rfl, rfl⟩ | ⟨rfl, k⟩
    · exact n1 v1
    · exact n3 v1
    · exact n8 v1
    · omega
  have hwl : H1 wl = some (.lst (nine.map V.str)) := B3 _ _ (same_new ncl _ _ upd_same) (hF.ne nwl)
  refine ⟨wl, _, _, _, rfl, rfl, SqL.of hwl, hat, ?_⟩
  have BB := B2.trans B3
  refine ⟨_, rfl, rfl, _, rfl, if_str (fun e => ?_) (fun e => ?_)⟩
  · refine ⟨_, rfl, _, rfl, f, c, 19, rfl, by decide, by decide +kernel, F3, fun v2 H2 a2 b2 F4 B4 => ⟨_, _, rfl, rfl, (by show 2 ≤ sizeLine; decide), fun r nr => ?_⟩⟩
    exact q r ⟨wd, some (v2 - 9), 0⟩ _ upd_same ⟨hw, ⟨fun _ => .inl e, fun _ => rfl⟩, fun n en => by cases en; exact ⟨by omega, by omega⟩⟩ hn n0 rfl (F4.new nr) ((BB.trans B4).new nr)
  refine ⟨_, rfl, rfl, _, rfl, if_str (fun e2 => ?_) (fun e2 => ?_)⟩
  · refine ⟨_, rfl, _, rfl, f, c, rfl, F3, fun v2 H2 s2 F4 B4 => ⟨(by show 2 ≤ sizeLine; decide), fun r nr => ?_⟩⟩
    exact q r ⟨wd, some v2, 0⟩ _ upd_same ⟨hw, ⟨fun _ => .inr e2, fun _ => rfl⟩, fun n en => by cases en; exact s2⟩ hn n0 rfl (F4.new nr) ((BB.trans B4).new nr)
  · refine ⟨_, rfl, (by show 1 ≤ sizeLine; decide), fun r nr => ?_⟩
    exact q r ⟨wd, none, 0⟩ _ upd_same ⟨hw, ⟨(fun z => nomatch z), fun z => absurd z (fun z => z.elim e e2)⟩, (fun n en => nomatch en)⟩ hn n0 rfl (F3.new nr) (BB.new nr)
def sp_law_shuffled (K : PySem.W.Frag) : Sp := fun vs H Q _ => ∃ (f c l : Addr) (xs : List V), vs = [.ref f, .ref l] ∧ SqL K H l xs ∧ l ≠ f ∧ xs.length ≤ 500 ∧ Flow H f c ∧
  ∀ (p : Addr) (ys : List V) (H' : Hp), ys.Perm xs → H p = none → H' p = some (.lst ys) → Flow H' f c → But f H H' → Q (.ref p) H'
theorem But.seqL {K : PySem.W.Frag} {f a : Addr} {H H1 : Hp} {xs : List V} (b : But f H H1) (h : SqL K H a xs) (n : a ≠ f) : SqL K H1 a xs := by
  rcases h with h | h
  · left
    rcases h with h | ⟨o, h⟩
    · exact .inl (b _ _ h n)
    · exact .inr ⟨o, b _ _ h n⟩
  · exact .inr h
theorem same_seqL {K : PySem.W.Frag} {a : Addr} {H H1 : Hp} {xs : List V} (b : Same H H1) (h : SqL K H a xs) : SqL K H1 a xs := by
  rcases h with h | h
  · left
    rcases h with h | ⟨o, h⟩
    · exact .inl (b _ _ h)
    · exact .inr ⟨o, b _ _ h⟩
  · exact .inr h
theorem log_small {m : Nat} (h : m ≤ 500) : ((m : Int)).natAbs.log2 < 9000 := by
  rw [Int.natAbs_natCast]
  exact Nat.lt_of_le_of_lt (Nat.log2_le_self m) (by omega)
theorem perm_erase {α : Type} : ∀ {l : List α} {j : Nat} {y : α}, l[j]? = some y → (y :: l.eraseIdx j).Perm l
  | [], _, _, h => nomatch h
  | a :: l, 0, y, h => by
    cases h
    exact List.Perm.refl _
  | a :: l, j + 1, y, h => by
    have ih : (y :: l.eraseIdx j).Perm l := perm_erase h
    exact (List.Perm.swap a y _).trans (ih.cons a)
theorem ok_law_shuffled {f : Addr} {fd : FuncData} (F : Fun K "_law_shuffled" "_law_shuffled" s_law_shuffled f fd) (T : Top K mg) : FnOk P w K mg base CX0 2 f fd ["_law_flow_here", "_law_some"] (sp_law_shuffled K) := by
  obtain ⟨f_law_pick, fd_law_pick, F_law_pick, b_law_pick, m_law_pick⟩ := T.d_law_pick
  have G_law_pick := ok_law_pick (P := P) (w := w) (base := base) F_law_pick T
  refine F.ok sc_law_shuffled (fun vs H Q E h => ?_) (fun cdv A outer s H vs Q E hr h => ?_)
  · obtain ⟨f, c, l, xs, rfl, _⟩ := h
    rfl
  obtain ⟨f, c, l, xs, rfl, hL, nl, hlen, hF, q⟩ := h
  refine ⟨_, (pss_cons (ps_set (i := 2) sc_law_shuffled.nd rfl (Or.inr rfl) (pe_callTy (call_list_ofK K rfl) (by rfl) T.m_list (by decide +kernel) (pa_cons (pv 1) pa_nil)))
      (pss_one (ps_ret (pe_lc (own := [("_law_k", 3)]) (g := gName 3) (tt := tYes) (by rfl) sc_law_shuffled.nd (pi_range1 (by rfl) T.m_range (pa_cons (pe_callB (call_len_seqK K rfl) (by rfl) T.m_len (by decide +kernel) (pa_cons (pv 1) pa_nil)) pa_nil)) (blkOk_by (own := [("_law_k", 3)]) (N := N_law_shuffled) (sc := defScope s_law_shuffled) (by decide +kernel)) (fun _ _ _ _ _ => (pg_name (i := 3) sc_law_shuffled.nd rfl (Or.inl rfl))) (fun _ _ _ _ _ => pts_nil) (fun _ _ _ _ _ => (pe_bmK K rfl PySem.F.plainAttrs_list PySem.F.slot_list_pop PySem.F.type_list_pop mt_popAt (pv 2) (pa_cons (pe_call G_law_pick (hr.mono (by decide)) (by rfl) m_law_pick F_law_pick.kp b_law_pick .nil pass0 (pa_cons (pv 0) (pa_cons (pe_callB (call_len_seqK K rfl) (by rfl) T.m_len (by decide +kernel) (pa_cons (pv 2) pa_nil)) pa_nil))) pa_nil))))))), ?_⟩
  refine ⟨_, rfl, l, _, rfl, .inl hL, fun lf nlf => ?_⟩
  refine ⟨_, rfl, l, _, rfl, .inl (same_seqL (same_new nlf) hL), _, rfl, by omega, (by omega), fun D nD => ?_⟩
  have F1 : Flow (upd H lf (.lst xs)) f c := hF.new nlf
  have dl : D ≠ lf := (ne_of_none upd_same nD).symm
  refine lc_range (lo := 0) (n := xs.length) (fun i H5 => ∃ acc rest : List V, H5 D = some (.lst acc) ∧ H5 lf = some (.lst rest) ∧ acc.length = i ∧ rest.length + i = xs.length ∧ (acc ++ rest).Perm xs ∧ Flow H5 f c ∧ But f H H5)
    ⟨[], xs, upd_same, by rw [upd_ne dl.symm]; exact upd_same, rfl, by omega, List.Perm.refl _, F1.new nD, (But.refl.new nlf).new nD⟩ ?_ ?_
  · rintro i H5 hi ⟨acc, rest, hD, hl, ha, hr2, hp, F5, B5⟩
    refine ⟨rfl, yes_in ?_⟩
    refine ⟨_, rfl, .inl ⟨rfl, _, SqL.of hl⟩, _, rfl, _, rfl, lf, _, rfl, .inl (SqL.of hl), f, c, ((rest.length : Nat) : Int), rfl, by omega, log_small (by omega), F5, fun v H6 v0 v1 F6 B6 => ?_⟩
    have hl6 := B6 _ _ hl (hF.ne nlf)
    have hv : v.toNat < rest.length := by omega
    have e1 : seqIndex? v rest.length = some v.toNat := by
      rw [seqIndex_of v0 (by omega)]
    refine ⟨lf, rest, v, v.toNat, rest[v.toNat], rfl, rfl, hl6, by omega, by omega, e1, List.getElem?_eq_getElem hv, ?_⟩
    have hD6 := B6 _ _ hD (fun e => by rw [e] at nD; rw [show upd H lf (.lst xs) f = H f from upd_ne (hF.ne nlf).symm] at nD; obtain ⟨_, _, _, _, _, e1, _⟩ := hF; rw [e1] at nD; cases nD)
    refine ⟨acc, by rw [upd_ne dl]; exact hD6, small1000 (by omega), acc ++ [rest[v.toNat]], rest.eraseIdx v.toNat, upd_same, by rw [upd_ne dl.symm]; exact upd_same, by rw [List.length_append, ha]; rfl, ?_, ?_, ?_, ?_⟩
    · rw [List.length_eraseIdx, if_pos hv]
      omega
    · refine List.Perm.trans ?_ hp
      rw [List.append_assoc]
      exact List.Perm.append_left acc (perm_erase (List.getElem?_eq_getElem hv))
    · have dc : D ≠ c := fun e => by
        rw [e] at nD
        obtain ⟨_, _, _, _, _, _, e1, _⟩ := F1
        rw [e1] at nD
        cases nD
      exact (F6.lst (hF.ne nlf) (hF.nec nlf)).lst (F1.ne nD) dc
    · exact ((B5.trans B6).own nlf).own (same_none (same_new nlf) nD)
  · rintro H5 ⟨acc, rest, hD, hl, ha, hr2, hp, F5, B5⟩
    have er : rest = [] := by
      cases rest with
      | nil => rfl
      | cons a l => simp at hr2
    subst er
    rw [List.append_nil] at hp
    exact q D acc H5 hp (same_none (same_new nlf) nD) hD F5 B5
end
/-! ### the hands of a drawn room -/
def unS : V → Str
  | .str s => s
  | _ => ""
theorem perm_strs {ys : List V} {zs : List Str} (h : ys.Perm (zs.map V.str)) : ∃ ss : List Str, ys = ss.map V.str ∧ ss.Perm zs := by
  refine ⟨ys.map unS, ?_, ?_⟩
  · rw [List.map_map]
    symm
    refine (List.map_congr_left (g := id) fun y hy => ?_).trans (List.map_id _)
    obtain ⟨z, _, e⟩ := List.mem_map.mp (h.mem_iff.mp hy)
    subst e
    rfl
  · have q := h.map unS
    rw [List.map_map] at q
    have e : zs.map (unS ∘ V.str) = zs := (List.map_congr_left (g := id) fun z _ => rfl).trans (List.map_id _)
    rw [e] at q
    exact q
theorem flat_rep {α : Type} (x : α) : ∀ n : Nat, (List.replicate n [x]).flatten = List.replicate n x
  | 0 => rfl
  | n + 1 => by
    rw [List.replicate_succ, List.flatten_cons, flat_rep x n]
    rfl
def cnt (ss : List Str) : Nat := (ss.filter fun s => !decide (s = ("in" : Str))).length
theorem cnt_le (ss : List Str) : cnt ss ≤ ss.length := List.length_filter_le ..
theorem cut_drop (xs : List V) (k : Nat) : cutV xs (some ((k : Nat) : Int)) none = xs.drop k := by
  unfold cutV
  rw [HT.sIx_nat, HT.sIx_none]
  by_cases h : k ≤ xs.length
  · rw [Nat.min_eq_left h]
    exact List.take_of_length_le (by rw [List.length_drop]; exact Nat.le_refl _)
  · rw [Nat.min_eq_right (by omega), Nat.sub_self, List.take_zero, List.drop_eq_nil_of_le (by omega)]
structure HInv (f c sl hh : Addr) (ss : List Str) (H0 H : Hp) (i : Nat) (vs : List V) (hs : List HR) (left : Int) : Prop where
  fl : Flow H f c
  bt : But f H0 H
  hsl : H sl = some (.lst (ss.map V.str))
  hhh : H hh = some (.lst vs)
  al : All2 (HandAt H) vs hs
  len : hs.length = i
  good : ∀ h ∈ hs, GoodHand h
  lf : (cnt (ss.drop i) : Int) ≤ left
  sum : (hs.map fun h => needs h.wd).sum + left = 20
  nz : ∀ h ∈ hs, 0 ≤ needs h.wd
  one : ("hand" : Str) ∈ ss.take i → ∃ h ∈ hs, h.wd ≠ "out"
  n1 : sl ≠ f
  n2 : sl ≠ hh
  n3 : hh ≠ f
  n4 : hh ≠ c
  n5 : H0 hh = none
section
variable {f c sl hh : Addr} {ss : List Str} {H0 H H' : Hp} {i : Nat} {vs : List V} {hs : List HR} {left : Int}
theorem HInv.but (s : HInv f c sl hh ss H0 H i vs hs left) (F : Flow H' f c) (b : But f H H') : HInv f c sl hh ss H0 H' i vs hs left :=
  { s with fl := F, bt := s.bt.trans b, hsl := b _ _ s.hsl s.n1, hhh := b _ _ s.hhh s.n3, al := s.al.imp fun _ _ k => k.keep (TK.but s.fl b) }
theorem HInv.new {p : Addr} {o : HO} (s : HInv f c sl hh ss H0 H i vs hs left) (n : H p = none) : HInv f c sl hh ss H0 (upd H p o) i vs hs left :=
  { s with fl := s.fl.new n, bt := s.bt.new n, hsl := same_new n _ _ s.hsl, hhh := same_new n _ _ s.hhh, al := s.al.imp fun _ _ k => k.keep (TK.new n) }
theorem HInv.same (s : HInv f c sl hh ss H0 H i vs hs left) (k : Same H H') : HInv f c sl hh ss H0 H' i vs hs left :=
  { s with fl := s.fl.same k, bt := s.bt.same k, hsl := k _ _ s.hsl, hhh := k _ _ s.hhh, al := s.al.imp fun _ _ z => z.keep (TK.same k) }
theorem HInv.step {x : V} {h : HR} {sd : Str} (s : HInv f c sl hh ss H0 H i vs hs left) (hx : HandAt H x h) (g : GoodHand h) (z : 0 ≤ needs h.wd) (k : needs h.wd + (cnt (ss.drop (i + 1)) : Int) ≤ left) (e : ss[i]? = some sd) (o : sd = "hand" → h.wd ≠ "out") :
    HInv f c sl hh ss H0 (upd H hh (.lst (vs ++ [x]))) (i + 1) (vs ++ [x]) (hs ++ [h]) (left - needs h.wd) := by
  refine { s with fl := s.fl.lst s.n3 s.n4, bt := s.bt.own s.n5, hsl := by rw [upd_ne s.n2]; exact s.hsl, hhh := upd_same, al := (s.al.snoc hx).imp fun _ _ z => z.keep (TK.lst s.hhh), len := by rw [List.length_append, s.len]; rfl, good := ?_, lf := by omega, sum := ?_, nz := ?_, one := ?_ }
  · intro y hy
    rcases List.mem_append.mp hy with hy | hy
    · exact s.good y hy
    · obtain rfl : y = h := by simpa using hy
      exact g
  · have := s.sum
    rw [List.map_append, List.sum_append]
    simp only [List.map_cons, List.map_nil, List.sum_cons, List.sum_nil]
    omega
  · intro y hy
    rcases List.mem_append.mp hy with hy | hy
    · exact s.nz y hy
    · obtain rfl : y = h := by simpa using hy
      exact z
  · intro hm
    rw [List.take_add_one, e] at hm
    rcases List.mem_append.mp hm with hm | hm
    · obtain ⟨y, h1, h2⟩ := s.one hm
      exact ⟨y, List.mem_append_left _ h1, h2⟩
    · have e2 : ("hand" : Str) = sd := by simpa using hm
      exact ⟨h, List.mem_append_right _ (by simp), o e2.symm⟩
end
theorem cnt_cons {ss : List Str} {i : Nat} {sd : Str} (e : ss[i]? = some sd) : cnt (ss.drop i) = (if sd = "in" then 0 else 1) + cnt (ss.drop (i + 1)) := by
  have hi := (List.getElem?_eq_some_iff.mp e).1
  have e2 : ss.drop i = sd :: ss.drop (i + 1) := by
    rw [List.drop_eq_getElem_cons hi, (List.getElem?_eq_some_iff.mp e).2]
  rw [e2]
  unfold cnt
  rw [List.filter_cons]
  by_cases k : sd = "in"
  · rw [if_pos k, decide_eq_true k]
    simp
  · rw [if_neg k, decide_eq_false k]
    simp only [Bool.not_false, if_true, List.length_cons]
    omega
section
variable {P : Program} {w : World} {K : PySem.W.Frag} {mg : Str → Option Value} {base : Heap}
structure HandsOk (hs : List HR) : Prop where
  len : hs.length ≤ 12
  good : ∀ h ∈ hs, GoodHand h
  sum : (hs.map fun h => needs h.wd).sum ≤ 20
  nz : ∀ h ∈ hs, 0 ≤ needs h.wd
  one : ∃ h ∈ hs, h.wd ≠ "out"
def sp_law_hands (K : PySem.W.Frag) : Sp := fun vs H Q _ => ∃ (f c : Addr) (m : Int), vs = [.ref f, .int m] ∧ 1 ≤ m ∧ m ≤ 8 ∧ Flow H f c ∧
  ∀ (p : Addr) (xs : List V) (hs : List HR) (H' : Hp), H p = none → H' p = some (.lst xs) → All2 (HandAt H') xs hs → HandsOk hs → Flow H' f c → But f H H' → Q (.ref p) H'
theorem ok_law_hands {f : Addr} {fd : FuncData} (F : Fun K "_law_hands" "_law_hands" s_law_hands f fd) (T : Top K mg) : FnOk P w K mg base CX0 4 f fd ["_law_flow_here", "_law_many"] (sp_law_hands K) := by
  obtain ⟨f_law_shuffled, fd_law_shuffled, F_law_shuffled, b_law_shuffled, m_law_shuffled⟩ := T.d_law_shuffled
  have G_law_shuffled := ok_law_shuffled (P := P) (w := w) (base := base) F_law_shuffled T
  obtain ⟨f_law_rule, fd_law_rule, F_law_rule, b_law_rule, m_law_rule⟩ := T.d_law_rule
  have G_law_rule := ok_law_rule (P := P) (w := w) (base := base) F_law_rule T
  obtain ⟨f_law_needs, fd_law_needs, F_law_needs, b_law_needs, m_law_needs⟩ := T.d_law_needs
  have G_law_needs := ok_law_needs (P := P) (w := w) (base := base) F_law_needs T
  obtain ⟨f_law_pick, fd_law_pick, F_law_pick, b_law_pick, m_law_pick⟩ := T.d_law_pick
  have G_law_pick := ok_law_pick (P := P) (w := w) (base := base) F_law_pick T
  refine F.ok sc_law_hands (fun vs H Q E h => ?_) (fun cdv A outer s H vs Q E hr h => ?_)
  · obtain ⟨f, c, m, rfl, _⟩ := h
    rfl
  obtain ⟨f, c, m, rfl, m1, m8, hF, q⟩ := h
  let R1 : TS := fun D' σ' H' => D'.rt = Q ∧ ∃ (sl : Addr) (ss : List Str), σ' = [some (.ref f), some (.int m), some (.ref sl), none, none, none, none, none, none, none] ∧ H' sl = some (.lst (ss.map V.str)) ∧ sl ≠ f ∧ ss.length ≤ 12 ∧ ("hand" : Str) ∈ ss ∧ (∀ s ∈ ss, s = "in" ∨ s = "out" ∨ s = "hand") ∧ Flow H' f c ∧ But f H H'
  refine ⟨_, (pss_cons (ps_set (i := 2) sc_law_hands.nd rfl (Or.inl rfl) (pe_op op_cat (pe_op op_cat (pe_op op_rep (pe_lst (pa_cons pe_str pa_nil)) (pe_call G_law_pick (hr.mono (by decide)) (by rfl) m_law_pick F_law_pick.kp b_law_pick .nil pass0 (pa_cons (pv 0) (pa_cons pe_int pa_nil)))) (pe_op op_rep (pe_lst (pa_cons pe_str pa_nil)) (pe_call G_law_pick (hr.mono (by decide)) (by rfl) m_law_pick F_law_pick.kp b_law_pick .nil pass0 (pa_cons (pv 0) (pa_cons pe_int pa_nil))))) (pe_op op_rep (pe_lst (pa_cons pe_str pa_nil)) (pv 1))))
      (pss_cons (ps_set (i := 2) sc_law_hands.nd rfl (Or.inl rfl) (pe_call G_law_shuffled (hr.mono (by decide)) (by rfl) m_law_shuffled F_law_shuffled.kp b_law_shuffled .nil pass0 (pa_cons (pv 0) (pa_cons (pv 2) pa_nil))))
      (PSs.to (pss_cons (ps_set (i := 3) sc_law_hands.nd rfl (Or.inl rfl) pe_int)
      (pss_cons (ps_set (i := 4) sc_law_hands.nd rfl (Or.inl rfl) (pe_lst pa_nil))
      (pss_cons (ps_for PassesOwn.never rfl (pi_enumK K rfl (by rfl) T.m_enumerate (pa_cons (pv 2) pa_nil)) (pg_tupK K rfl rfl (pgs_cons (pg_name (i := 5) sc_law_hands.nd rfl (Or.inl rfl)) (pgs_cons (pg_name (i := 6) sc_law_hands.nd rfl (Or.inl rfl)) pgs_nil)))
        (pss_cons (ps_if (pt_cmpR op_eq (pv 6) pe_str (nomark _)) (pss_cons (ps_set (i := 7) sc_law_hands.nd rfl (Or.inl rfl) (pe_callB (call_len_seqK K rfl) (by rfl) T.m_len (by decide +kernel) (pa_cons (pe_lc (own := [("_law_other", 8)]) (g := gName 8) (by rfl) sc_law_hands.nd (pi_listK K rfl (pe_slice (sl_listK K rfl) (pv 2) (po_some (pe_op op_add (pv 5) pe_int)) po_none)) (blkOk_by (own := [("_law_other", 8)]) (N := N_law_hands) (sc := defScope s_law_hands) (by decide +kernel)) (fun _ _ _ _ _ => (pg_name (i := 8) sc_law_hands.nd rfl (Or.inl rfl))) (fun _ _ _ _ _ => pts_one (pt_cmpR op_ne (pv 8) pe_str (nomark _))) (fun _ _ _ _ _ => (pv 8))) pa_nil)))
      (pss_cons (ps_set (i := 9) sc_law_hands.nd rfl (Or.inl rfl) (pe_call G_law_rule (hr.mono (by decide)) (by rfl) m_law_rule F_law_rule.kp b_law_rule .nil pass0 (pa_cons (pv 0) (pa_cons (pe_op op_sub (pv 3) (pv 7)) pa_nil))))
      (pss_one (ps_expr (pe_bmK K rfl PySem.F.plainAttrs_list PySem.F.slot_list_append PySem.F.type_list_append mt_append (pv 4) (pa_cons (pe_tup (pa_cons (pv 9) (pa_cons (pe_call G_law_pick (hr.mono (by decide)) (by rfl) m_law_pick F_law_pick.kp b_law_pick .nil pass0 (pa_cons (pv 0) (pa_cons (pe_ix (ix_listK K rfl) (pe_lst (pa_cons pe_int (pa_cons pe_int (pa_cons pe_int pa_nil)))) (pe_call G_law_pick (hr.mono (by decide)) (by rfl) m_law_pick F_law_pick.kp b_law_pick .nil pass0 (pa_cons (pv 0) (pa_cons pe_int pa_nil))) (fun _ _ => rfl)) pa_nil))) pa_nil))) pa_nil)))))) (pss_one (ps_expr (pe_bmK K rfl PySem.F.plainAttrs_list PySem.F.slot_list_append PySem.F.type_list_append mt_append (pv 4) (pa_cons (pe_tup (pa_cons (pe_tup (pa_cons (pv 6) pa_nil)) (pa_cons pe_int pa_nil))) pa_nil)))))
      (pss_one (ps_set (i := 3) sc_law_hands.nd rfl (Or.inl rfl) (pe_op op_sub (pv 3) (pe_call G_law_needs (hr.mono (by decide)) (by rfl) m_law_needs F_law_needs.kp b_law_needs .nil pass0 (pa_cons (pe_ix (ix_tupK K rfl) (pe_ix (ix_listK K rfl) (pv 4) (pe_un un_neg pe_int) (fun _ _ => rfl)) pe_int (fun _ _ => rfl)) pa_nil)))))))
      (pss_one (ps_ret (pv 4)))))) R1 ?tail1))), ?_⟩
  case tail1 =>
    rintro D' σ' H1 ⟨eD, sl, ss, rfl, hsl, nsl, hlen, hhand, hall, F1, B1⟩
    refine ⟨(by show 0 ≤ sizeLine; decide), fun hh nhh => ?_⟩
    have I0 : HInv f c sl hh ss H (upd H1 hh (.lst [])) 0 [] [] 20 :=
      { fl := F1.new nhh, bt := B1.new nhh, hsl := same_new nhh _ _ hsl, hhh := upd_same, al := .nil, len := rfl, good := (fun _ h => nomatch h), lf := by have := cnt_le (ss.drop 0); rw [List.length_drop] at this; omega, sum := rfl, nz := (fun _ h => nomatch h), one := (fun h => nomatch h), n1 := nsl, n2 := ne_of_none hsl nhh, n3 := F1.ne nhh, n4 := F1.nec nhh, n5 := B1.none nhh (F1.ne nhh) }
    refine ⟨_, rfl, sl, _, rfl, SqL.of I0.hsl, for_it (n := ss.length) (fun i σ H2 => ∃ (vs : List V) (hs : List HR) (left : Int) (v5 v6 v7 v8 v9 : Option V), σ = [some (.ref f), some (.int m), some (.ref sl), some (.int left), some (.ref hh), v5, v6, v7, v8, v9] ∧ HInv f c sl hh ss H H2 i vs hs left)
      ⟨[], [], 20, none, none, none, none, none, rfl, I0⟩ ?_ ?_ ?_ ?_⟩
    · rintro i σ H2 hi ⟨vs, hs, left, v5, v6, v7, v8, v9, rfl, I⟩
      exact ⟨_, _, SqL.of I.hsl, by rw [List.getElem?_map, List.getElem?_eq_getElem hi]; rfl⟩
    · rintro σ H2 ⟨vs, hs, left, v5, v6, v7, v8, v9, rfl, I⟩
      exact ⟨_, SqL.of I.hsl, by rw [List.length_map]; exact Nat.le_refl _⟩
    · rintro i x σ H2 H3 hi ⟨vs, hs, left, v5, v6, v7, v8, v9, rfl, I⟩ ⟨t, y, rfl, nt, rfl, fy⟩
      have ei : ss[i]? = some ss[i] := List.getElem?_eq_getElem hi
      obtain ⟨sd, hsd⟩ : ∃ sd, sd = ss[i] := ⟨_, rfl⟩
      rw [← hsd] at ei
      have ey : y = V.str sd := by
        have := fy _ (SqL.of I.hsl)
        rw [List.getElem?_map, ei] at this
        exact (Option.some.inj this).symm
      subst ey
      have I1 := I.new (o := .tup [V.int ((i : Nat) : Int), V.str sd]) nt
      have hc1 := cnt_cons ei
      have hl := I.lf
      have sz : vs.length < sizeLine := small1000 (by rw [I.al.length, I.len]; omega)
      refine ⟨t, _, rfl, SqT.of upd_same, rfl, _, _, rfl, _, _, rfl, rfl, ?_⟩
      refine ⟨_, rfl, rfl, _, rfl, if_str (fun e => ?_) (fun e => ?_)⟩
      · -- a hand
        refine ⟨_, rfl, _, rfl, _, _, rfl, rfl, _, rfl, sl, _, rfl, SqL.of I1.hsl, fun cp ncp => ?_⟩
        have I2 := I1.new (o := .lst (cutV (ss.map V.str) (some (((i : Nat) : Int) + 1)) none)) ncp
        have ecut : cutV (ss.map V.str) (some (((i : Nat) : Int) + 1)) none = (ss.drop (i + 1)).map V.str := by
          rw [show ((i : Nat) : Int) + 1 = ((i + 1 : Nat) : Int) by omega, cut_drop, List.map_drop]
        refine ⟨cp, rfl, ⟨_, SqL.of upd_same⟩, fun D nD => lc_list (K := K) (a := cp) (xs := cutV (ss.map V.str) (some (((i : Nat) : Int) + 1)) none) (fun j H5 => ∃ acc : List V, H5 D = some (.lst acc) ∧ acc.length = cnt ((ss.drop (i + 1)).take j) ∧ H5 cp = some (.lst (cutV (ss.map V.str) (some (((i : Nat) : Int) + 1)) none)) ∧ HInv f c sl hh ss H H5 i vs hs left ∧ D ≠ cp ∧ D ≠ f ∧ D ≠ c ∧ D ≠ sl ∧ D ≠ hh ∧ H D = Option.none)
          ⟨[], upd_same, rfl, same_new nD _ _ upd_same, I2.new nD, (ne_of_none upd_same nD).symm, I2.fl.ne nD, I2.fl.nec nD, (ne_of_none I2.hsl nD).symm, (ne_of_none I2.hhh nD).symm, I2.bt.none nD (I2.fl.ne nD)⟩ (fun j H5 _ ⟨_, _, _, h, _⟩ => SqL.of h) ?_ ?_⟩
        · rintro j z H5 hz ⟨acc, hD, hacc, hcp, I5, d1, d2, d3, d4, d5, d6⟩
          rw [ecut, List.getElem?_map] at hz
          cases ez : (ss.drop (i + 1))[j]? with
          | none => rw [ez] at hz; cases hz
          | some so =>
            rw [ez] at hz
            obtain rfl : V.str so = z := Option.some.inj hz
            refine ⟨rfl, _, rfl, rfl, _, rfl, if_bl (fun k => ?_) (fun k => ?_)⟩
            · have k2 : ¬ so = "in" := fun y => by
                rw [y] at k
                exact absurd k (by decide +kernel)
              refine ⟨_, rfl, acc, hD, ?_, acc ++ [V.str so], upd_same, ?_, by rw [upd_ne d1.symm]; exact hcp, ?_, d1, d2, d3, d4, d5, d6⟩
              · rw [hacc]
                have := cnt_le ((ss.drop (i + 1)).take j)
                rw [List.length_take, List.length_drop] at this
                exact small1000 (by omega)
              · rw [List.length_append, hacc, List.take_add_one, ez]
                unfold cnt
                rw [List.filter_append, List.length_append]
                simp [k2]
              · exact { I5 with fl := I5.fl.lst d2 d3, bt := I5.bt.own d6, hsl := by rw [upd_ne d4.symm]; exact I5.hsl, hhh := by rw [upd_ne d5.symm]; exact I5.hhh, al := I5.al.imp fun _ _ y => y.keep (TK.lst hD) }
            · have k2 : so = "in" := by
                by_cases y : so = "in"
                · exact y
                · have k3 : (!decide (V.str so = V.str "in")) = false := k
                  rw [decide_eq_false (fun y2 => y (V.str.inj y2))] at k3
                  cases k3
              refine ⟨acc, hD, ?_, hcp, I5, d1, d2, d3, d4, d5, d6⟩
              rw [hacc, List.take_add_one, ez]
              unfold cnt
              rw [List.filter_append, List.length_append]
              simp [k2]
        · rintro H5 ⟨acc, hD, hacc, hcp, I5, d1, d2, d3, d4, d5, d6⟩
          have hacc2 : acc.length = cnt (ss.drop (i + 1)) := by
            rw [hacc, List.take_of_length_le]
            rw [ecut, List.length_map]
            exact Nat.le_refl _
          have hm0 : 0 ≤ left - ((acc.length : Nat) : Int) := by
            have hne : ¬ sd = "in" := by rw [e]; decide +kernel
            rw [hacc2]
            rw [hc1, if_neg hne] at hl
            omega
          refine ⟨D, _, rfl, .inl (SqL.of hD), ?_⟩
          refine ⟨_, rfl, _, rfl, _, rfl, _, _, rfl, rfl, f, c, _, rfl, hm0, I5.fl, fun r hR H6 hr6 gR n1 n0 mo F6 B6 => ?_⟩
          have I6 := I5.but F6 B6
          refine ⟨_, rfl, .inl ⟨rfl, _, SqL.of I6.hhh⟩, _, rfl, _, rfl, (by show 3 ≤ sizeLine; decide), fun ml nml => ?_⟩
          have I7 := I6.new (o := .lst [V.int 5, V.int 5, V.int 31]) nml
          refine ⟨_, rfl, f, c, 3, rfl, by decide, by decide +kernel, I7.fl, fun z H8 z0 z3 F8 B8 => ?_⟩
          have I8 := I7.but F8 B8
          have hml := B8 _ _ upd_same (I6.fl.ne nml)
          obtain ⟨mm, hmm, mk⟩ : ∃ mm : Int, atI [V.int 5, V.int 5, V.int 31] z = some (.int mm) ∧ (mm = 5 ∨ mm = 31) := by
            have : z = 0 ∨ z = 1 ∨ z = 2 := by omega
            rcases this with rfl | rfl | rfl
            · exact ⟨5, rfl, .inl rfl⟩
            · exact ⟨5, rfl, .inl rfl⟩
            · exact ⟨31, rfl, .inr rfl⟩
          refine ⟨ml, _, _, _, rfl, rfl, SqL.of hml, hmm, f, c, mm, rfl, by omega, (by rcases mk with rfl | rfl <;> decide +kernel), I8.fl, fun mo2 H9 o0 o1 F9 B9 => ?_⟩
          have I9 := I8.but F9 B9
          refine ⟨(by show 2 ≤ sizeLine; decide), fun t2 nt2 => ?_⟩
          have I10 := I9.new (o := .tup [V.ref r, V.int mo2]) nt2
          have sz10 : vs.length < sizeLine := sz
          refine ⟨hh, _, _, rfl, rfl, I10.hhh, sz10, ?_⟩
          have k9 : TK H6 H9 := ((TK.new nml).trans (TK.but I7.fl B8)).trans (TK.but I8.fl B9)
          have hx : HandAt (upd H9 t2 (.tup [V.ref r, V.int mo2])) (V.ref t2) ⟨hR.wd, hR.no, mo2⟩ := ⟨t2, r, rfl, upd_same, TK.new nt2 _ _ (k9 _ _ hr6)⟩
          have gd : GoodHand ⟨hR.wd, hR.no, mo2⟩ := ⟨.inl ⟨gR.wd, gR.no, gR.big⟩, o0, (show mo2 ≤ 30 by omega)⟩
          have nout : hR.wd ≠ "out" := fun y => by
            have := gR.wd
            rw [y] at this
            exact absurd this (by decide +kernel)
          have I11 := I10.step (h := ⟨hR.wd, hR.no, mo2⟩) hx gd n0 (by show needs hR.wd + _ ≤ left; rw [hacc2] at n1; omega) ei (fun _ => nout)
          refine ⟨_, rfl, _, rfl, 1, rfl, hh, _, -1, _, rfl, rfl, SqL.of I11.hhh, atI_last _ _, t2, _, _, _, rfl, rfl, SqT.of (TK.lst I10.hhh _ _ upd_same), atI_nat (j := 0) rfl, r, hR.wd, _, rfl, SqT.of (TK.lst I10.hhh _ _ (TK.new nt2 _ _ (k9 _ _ hr6))), fun H12 s12 => ⟨_, _, rfl, rfl, ?_⟩⟩
          exact ⟨_, _, _, _, _, _, _, _, rfl, I11.same s12⟩
      · -- a door
        refine ⟨_, rfl, .inl ⟨rfl, _, SqL.of I1.hhh⟩, _, rfl, (by show 1 ≤ sizeLine; decide), fun r nr => ⟨(by show 2 ≤ sizeLine; decide), fun t2 nt2 => ?_⟩⟩
        have I2 := (I1.new (o := .tup [V.str sd]) nr).new (o := .tup [V.ref r, V.int 0]) nt2
        refine ⟨hh, _, _, rfl, rfl, I2.hhh, sz, ?_⟩
        have hsd2 : sd = "in" ∨ sd = "out" := by
          rcases hall sd (List.mem_of_getElem? ei) with y | y | y
          · exact .inl y
          · exact .inr y
          · exact absurd y e
        have hn : needs sd = (if sd = "in" then 0 else 1) := by
          rcases hsd2 with y | y <;> rw [y] <;> decide +kernel
        have hx : HandAt (upd (upd (upd H2 t (.tup [V.int ((i : Nat) : Int), V.str sd])) r (.tup [V.str sd])) t2 (.tup [V.ref r, V.int 0])) (V.ref t2) ⟨sd, none, 0⟩ := ⟨t2, r, rfl, upd_same, same_new nt2 _ _ upd_same⟩
        have I3 := I2.step (h := ⟨sd, none, 0⟩) hx ⟨.inr ⟨hsd2, rfl⟩, (show (0 : Int) ≤ 0 by decide), (show (0 : Int) ≤ 30 by decide)⟩ (by show 0 ≤ needs sd; rw [hn]; split <;> decide) (by
          show needs sd + _ ≤ left
          rw [hn]
          rw [hc1] at hl
          by_cases y : sd = "in"
          · rw [if_pos y] at hl ⊢; omega
          · rw [if_neg y] at hl ⊢; omega) ei (fun y => absurd y e)
        refine ⟨_, rfl, _, rfl, 1, rfl, hh, _, -1, _, rfl, rfl, SqL.of I3.hhh, atI_last _ _, t2, _, _, _, rfl, rfl, SqT.of (TK.lst I2.hhh _ _ upd_same), atI_nat (j := 0) rfl, r, sd, _, rfl, SqT.of (TK.lst I2.hhh _ _ (same_new nt2 _ _ upd_same)), fun H12 s12 => ⟨_, _, rfl, rfl, ?_⟩⟩
        exact ⟨_, _, _, _, _, _, _, _, rfl, I3.same s12⟩
    · rintro σ H2 ⟨vs, hs, left, v5, v6, v7, v8, v9, rfl, I⟩
      refine ⟨_, rfl, ?_⟩
      rw [eD]
      refine q hh vs hs H2 I.n5 I.hhh I.al ⟨by rw [I.len]; exact hlen, I.good, ?_, I.nz, I.one (by rw [List.take_length]; exact hhand)⟩ I.fl I.bt
      have := I.sum
      have := I.lf
      omega
  refine ⟨(by show 1 ≤ sizeLine; decide), fun l1 nl1 => ?_⟩
  refine ⟨_, rfl, f, c, 3, rfl, by decide, by decide +kernel, hF.new nl1, fun v1 H1 a1 b1 F1 B1 => ?_⟩
  have g1 := B1 _ _ upd_same (hF.ne nl1)
  have small : ∀ v : Int, 0 ≤ v → v ≤ 8 → [V.str "in"].length * v.toNat ≤ sizeLine := fun v v0 v8 => little (by show 1 * v.toNat ≤ 1000; omega)
  refine ⟨l1, v1, _, rfl, rfl, g1, by omega, by omega, small v1 a1 (by omega), fun p1 np1 => ?_⟩
  rw [flat_rep]
  have F2 := F1.new (o := .lst (List.replicate v1.toNat (V.str "in"))) np1
  refine ⟨(by show 1 ≤ sizeLine; decide), fun l2 nl2 => ?_⟩
  refine ⟨_, rfl, f, c, 3, rfl, by decide, by decide +kernel, F2.new nl2, fun v2 H3 a2 b2 F3 B3 => ?_⟩
  have g2 := B3 _ _ upd_same (F2.ne nl2)
  have h1 := B3 _ _ (same_new nl2 _ _ upd_same) (F1.ne np1)
  refine ⟨l2, v2, _, rfl, rfl, g2, by omega, by omega, small v2 a2 (by omega), fun p2 np2 => ?_⟩
  rw [flat_rep]
  have F4 := F3.new (o := .lst (List.replicate v2.toNat (V.str "out"))) np2
  refine ⟨p1, p2, _, _, rfl, rfl, same_new np2 _ _ h1, upd_same, ?_, fun p3 np3 => ?_⟩
  · rw [List.length_replicate, List.length_replicate]; exact little (by omega)
  have F5 := F4.new (o := .lst (List.replicate v1.toNat (V.str "in") ++ List.replicate v2.toNat (V.str "out"))) np3
  refine ⟨(by show 1 ≤ sizeLine; decide), fun l4 nl4 => ⟨_, rfl, l4, m, _, rfl, rfl, upd_same, by omega, by omega, small m (by omega) m8, fun p5 np5 => ?_⟩⟩
  rw [flat_rep]
  have F6 := F5.new (o := .lst [V.str "hand"]) nl4
  have F7 := F6.new (o := .lst (List.replicate m.toNat (V.str "hand"))) np5
  refine ⟨p3, p5, _, _, rfl, rfl, same_new np5 _ _ (same_new nl4 _ _ upd_same), upd_same, ?_, fun p6 np6 => ?_⟩
  · rw [List.length_append, List.length_replicate, List.length_replicate, List.length_replicate]; exact little (by omega)
  refine ⟨_, rfl, _, rfl, f, c, p6, _, rfl, SqL.of upd_same, F7.ne np6, ?_, F7.new np6, fun p ys H8 hp np hy F8 B8 => ?_⟩
  · rw [List.length_append, List.length_append, List.length_replicate, List.length_replicate, List.length_replicate]; omega
  have ez : (List.replicate v1.toNat (V.str "in") ++ List.replicate v2.toNat (V.str "out")) ++ List.replicate m.toNat (V.str "hand") = ((List.replicate v1.toNat ("in" : Str) ++ List.replicate v2.toNat ("out" : Str)) ++ List.replicate m.toNat ("hand" : Str)).map V.str := by
    rw [List.map_append, List.map_append, List.map_replicate, List.map_replicate, List.map_replicate]
  rw [ez] at hp
  obtain ⟨ss, rfl, hss⟩ := perm_strs hp
  have pf : p ≠ f := fun y => by
    rw [y] at np
    obtain ⟨_, _, _, _, _, e1, _⟩ := F7.new (o := .lst ((List.replicate v1.toNat (V.str "in") ++ List.replicate v2.toNat (V.str "out")) ++ List.replicate m.toNat (V.str "hand"))) np6
    rw [e1] at np
    cases np
  refine ⟨rfl, p, ss, rfl, hy, pf, ?_, ?_, ?_, F8, But.trans ((((((((((But.refl.new nl1).trans B1).new np1).new nl2).trans B3).new np2).new np3).new nl4).new np5).new np6) B8⟩
  · rw [hss.length_eq, List.length_append, List.length_append, List.length_replicate, List.length_replicate, List.length_replicate]; omega
  · refine hss.mem_iff.mpr (List.mem_append_right _ (List.mem_replicate.mpr ⟨by omega, rfl⟩))
  · intro s hs
    rcases List.mem_append.mp (hss.mem_iff.mp hs) with hs | hs
    · rcases List.mem_append.mp hs with hs | hs
      · exact .inl (List.mem_replicate.mp hs).2
      · exact .inr (.inl (List.mem_replicate.mp hs).2)
    · exact .inr (.inr (List.mem_replicate.mp hs).2)
end
/-! ### rules as data -/
abbrev ruleD (h : HR) : List PyData := .str h.wd :: (match h.no with | none => [] | some n => [.int n])
theorem rule_dp {K : PySem.W.Frag} {H : Hp} {r : Addr} {h : HR} (e : H r = some (.tup (ruleL h))) : Dp K H (.ref r) (.tuple (ruleD h)) := by
  obtain ⟨wd, no, mom⟩ := h
  cases no with
  | none => exact .tup (SqT.of e) (.cons (.str _) .nil)
  | some n => exact .tup (SqT.of e) (.cons (.str _) (.cons (.int _) .nil))
theorem rule_shaped {h : HR} (k : PyData.canLay0 (.str h.wd) = true) : SeqAt.shaped (.tuple (ruleD h)) = true := by
  obtain ⟨wd, no, mom⟩ := h
  have k : PyData.canLay0 (.str wd) = true := k
  cases no <;> simp [SeqAt.shaped, PyData.canLay0, PyData.canLayAll0, PyData.depth, PyData.depthAll] <;> simpa [PyData.canLay0] using k
theorem GoodHand.lay {h : HR} (g : GoodHand h) : PyData.canLay0 (.str h.wd) = true := by
  have : h.wd ∈ nine ∨ h.wd = "in" ∨ h.wd = "out" := g.1.elim (fun k => .inl k.wd) (fun k => .inr k.1)
  rcases this with k | k | k
  · unfold nine at k
    simp only [List.mem_cons, List.not_mem_nil, or_false] at k
    rcases k with k | k | k | k | k | k | k | k | k <;> rw [k] <;> decide +kernel
  · rw [k]; decide +kernel
  · rw [k]; decide +kernel
theorem one_shaped {z : Str} (k : PyData.canLay0 (.str z) = true) : SeqAt.shaped (.tuple [.str z]) = true := rule_shaped (h := ⟨z, none, 0⟩) k
theorem at0 {xs : List V} {i : Nat} {v : V} (h : xs[i]? = some v) : atI xs (0 + ((i : Nat) : Int)) = some v := by
  rw [Int.zero_add]
  exact atI_nat h
theorem rule_eqv (h : HR) (z : Str) : PyData.eqv (.tuple (ruleD h)) (.tuple [.str z]) = (decide (h.wd = z) && h.no.isNone) := by
  obtain ⟨wd, no, mom⟩ := h
  have e : (wd == z) = decide (wd = z) := by
    by_cases k : wd = z
    · rw [k, decide_eq_true rfl]; exact beq_self_eq_true z
    · rw [decide_eq_false k]; exact beq_eq_false_iff_ne.mpr k
  cases no with
  | none =>
    show (wd == z && true) = (decide (wd = z) && true)
    rw [e]
  | some n =>
    show (wd == z && false) = (decide (wd = z) && false)
    rw [Bool.and_false, Bool.and_false]
theorem GoodHand.door {h : HR} (g : GoodHand h) (z : Str) (hz : z = "in" ∨ z = "out") : (decide (h.wd = z) && h.no.isNone) = decide (h.wd = z) := by
  by_cases k : h.wd = z
  · rw [decide_eq_true k, Bool.true_and]
    rcases g.1 with g | g
    · have := g.wd
      rw [k] at this
      rcases hz with rfl | rfl <;> exact absurd this (by decide +kernel)
    · rw [g.2]; rfl
  · rw [decide_eq_false k]; rfl
/-! ### numbers in lists -/
abbrev nV (n : Nat) : V := .int (n : Nat)
def unN : V → Nat
  | .int i => i.toNat
  | _ => 0
def unI : V → Int
  | .int i => i
  | _ => 0
theorem perm_inv {α : Type} {f : α → V} {g : V → α} (k : ∀ a, g (f a) = a) {ys : List V} {zs : List α} (h : ys.Perm (zs.map f)) : ∃ ss : List α, ys = ss.map f ∧ ss.Perm zs := by
  refine ⟨ys.map g, ?_, ?_⟩
  · rw [List.map_map]
    symm
    refine (List.map_congr_left (g := id) fun y hy => ?_).trans (List.map_id _)
    obtain ⟨z, _, e⟩ := List.mem_map.mp (h.mem_iff.mp hy)
    subst e
    show f (g (f z)) = f z
    rw [k]
  · have q := h.map g
    rw [List.map_map] at q
    have e : zs.map (g ∘ f) = zs := (List.map_congr_left (g := id) fun z _ => k z).trans (List.map_id _)
    rw [e] at q
    exact q
def nd (hs : List HR) (j : Nat) : Nat := match hs[j]? with | some h => (needs h.wd).toNat | none => 0
def tkTo (hs : List HR) : Nat → List Nat
  | 0 => []
  | n + 1 => tkTo hs n ++ List.replicate (nd hs n) n
theorem tk_count (hs : List HR) (k : Nat) : ∀ n, (tkTo hs n).count k = if k < n then nd hs k else 0
  | 0 => by simp [tkTo]
  | n + 1 => by
    unfold tkTo
    rw [List.count_append, tk_count hs k n, List.count_replicate]
    by_cases h1 : k < n
    · have h2 : ¬ (n == k) = true := by simp; omega
      rw [if_pos h1, if_neg h2, if_pos (show k < n + 1 by omega), Nat.add_zero]
    · by_cases h2 : n = k
      · subst h2
        rw [if_neg h1, if_pos (beq_self_eq_true n), if_pos (show n < n + 1 by omega), Nat.zero_add]
      · have h3 : ¬ (n == k) = true := by simpa using h2
        rw [if_neg h1, if_neg h3, if_neg (show ¬ k < n + 1 by omega)]
theorem tk_mem (hs : List HR) : ∀ n k, k ∈ tkTo hs n → k < n
  | 0, k, h => nomatch h
  | n + 1, k, h => by
    rcases List.mem_append.mp h with h | h
    · exact Nat.lt_succ_of_lt (tk_mem hs n k h)
    · rw [(List.mem_replicate.mp h).2]; exact Nat.lt_succ_self n
theorem tk_len (hs : List HR) (z : ∀ h ∈ hs, 0 ≤ needs h.wd) : ∀ n, n ≤ hs.length → ((tkTo hs n).length : Int) = ((hs.take n).map fun h => needs h.wd).sum
  | 0, _ => rfl
  | n + 1, hn => by
    have e : hs[n]? = some hs[n] := List.getElem?_eq_getElem (by omega)
    unfold tkTo
    rw [List.length_append, List.length_replicate, List.take_add_one, e, List.map_append, List.sum_append, Int.natCast_add, tk_len hs z n (by omega)]
    unfold nd
    rw [e]
    have := z hs[n] (List.getElem_mem _)
    simp only [Option.toList, List.map_cons, List.map_nil, List.sum_cons, List.sum_nil]
    omega
structure RoomOk (hs : List HR) (bs : List BR) : Prop where
  hands : hs.length ≤ 12
  good : ∀ h ∈ hs, GoodHand h
  ends : ∀ b ∈ bs, b.one < hs.length ∧ b.to < hs.length
  out : ∀ b ∈ bs, ∀ h, hs[b.one]? = some h → h.wd ≠ "out"
  th : ∀ b ∈ bs, b.th.length ≤ 6 ∧ ∀ x ∈ b.th, Small x
  rank : ∃ rk : Nat → Int, ∀ b ∈ bs, b.th = [] → rk b.one < rk b.to
  count : ∀ k h, hs[k]? = some h → (((bs.map BR.to).count k : Nat) : Int) = needs h.wd
  many : bs.length ≤ 20
structure RoomAt (H : Hp) (r : Addr) (hs : List HR) (bs : List BR) : Prop where
  ex : ∃ (ha ba : Addr) (hv bv : List V), H r = some (.tup [.ref ha, .ref ba]) ∧ H ha = some (.tup hv) ∧ H ba = some (.tup bv) ∧ All2 (HandAt H) hv hs ∧ All2 (BeltAt H) bv bs
theorem RoomAt.keep {H H' : Hp} {r : Addr} {hs : List HR} {bs : List BR} (a : RoomAt H r hs bs) (k : TK H H') : RoomAt H' r hs bs := by
  obtain ⟨ha, ba, hv, bv, e1, e2, e3, a1, a2⟩ := a.ex
  exact ⟨ha, ba, hv, bv, k _ _ e1, k _ _ e2, k _ _ e3, a1.imp fun _ _ z => z.keep k, a2.imp fun _ _ z => z.keep k⟩
section
variable {P : Program} {w : World} {K : PySem.W.Frag} {mg : Str → Option Value} {base : Heap}
def sp_law_room (K : PySem.W.Frag) : Sp := fun vs H Q _ => ∃ (f c : Addr) (m : Int), vs = [.ref f, .int m] ∧ 1 ≤ m ∧ m ≤ 8 ∧ Flow H f c ∧
  ∀ (r : Addr) (hs : List HR) (bs : List BR) (H' : Hp), RoomAt H' r hs bs → RoomOk hs bs → 0 < hs.length → Flow H' f c → But f H H' → Q (.ref r) H'
/-- what stands while a room is drawn: the draws, the list of its hands -/
structure RI (f c hh : Addr) (H0 H : Hp) (xs : List V) (hs : List HR) : Prop where
  fl : Flow H f c
  bt : But f H0 H
  lh : H hh = some (.lst xs)
  al : All2 (HandAt H) xs hs
  n1 : hh ≠ f
  n2 : H0 hh = none
section
variable {f c hh : Addr} {H0 H H' : Hp} {xs : List V} {hs : List HR}
theorem RI.but (s : RI f c hh H0 H xs hs) (F : Flow H' f c) (b : But f H H') : RI f c hh H0 H' xs hs :=
  { s with fl := F, bt := s.bt.trans b, lh := b _ _ s.lh s.n1, al := s.al.imp fun _ _ k => k.keep (TK.but s.fl b) }
theorem RI.new {p : Addr} {o : HO} (s : RI f c hh H0 H xs hs) (n : H p = none) : RI f c hh H0 (upd H p o) xs hs :=
  { s with fl := s.fl.new n, bt := s.bt.new n, lh := same_new n _ _ s.lh, al := s.al.imp fun _ _ k => k.keep (TK.new n) }
theorem RI.same (s : RI f c hh H0 H xs hs) (k : Same H H') : RI f c hh H0 H' xs hs :=
  { s with fl := s.fl.same k, bt := s.bt.same k, lh := k _ _ s.lh, al := s.al.imp fun _ _ z => z.keep (TK.same k) }
theorem RI.lst {D : Addr} {as bs : List V} (s : RI f c hh H0 H xs hs) (h : H D = some (.lst as)) (d1 : D ≠ f) (d2 : D ≠ c) (d3 : D ≠ hh) (d4 : H0 D = none) : RI f c hh H0 (upd H D (.lst bs)) xs hs :=
  { s with fl := s.fl.lst d1 d2, bt := s.bt.own d4, lh := by rw [upd_ne d3.symm]; exact s.lh, al := s.al.imp fun _ _ z => z.keep (TK.lst h) }
end
theorem ok_law_room {f : Addr} {fd : FuncData} (F : Fun K "_law_room" "_law_room" s_law_room f fd) (T : Top K mg) : FnOk P w K mg base CX0 5 f fd ["_law_flow_here", "_law_most"] (sp_law_room K) := by
  obtain ⟨f_law_hands, fd_law_hands, F_law_hands, b_law_hands, m_law_hands⟩ := T.d_law_hands
  have G_law_hands := ok_law_hands (P := P) (w := w) (base := base) F_law_hands T
  obtain ⟨f_law_shuffled, fd_law_shuffled, F_law_shuffled, b_law_shuffled, m_law_shuffled⟩ := T.d_law_shuffled
  have G_law_shuffled := ok_law_shuffled (P := P) (w := w) (base := base) F_law_shuffled T
  obtain ⟨f_law_pick, fd_law_pick, F_law_pick, b_law_pick, m_law_pick⟩ := T.d_law_pick
  have G_law_pick := ok_law_pick (P := P) (w := w) (base := base) F_law_pick T
  obtain ⟨f_law_needs, fd_law_needs, F_law_needs, b_law_needs, m_law_needs⟩ := T.d_law_needs
  have G_law_needs := ok_law_needs (P := P) (w := w) (base := base) F_law_needs T
  obtain ⟨f_law_thing, fd_law_thing, F_law_thing, b_law_thing, m_law_thing⟩ := T.d_law_thing
  have G_law_thing := ok_law_thing (P := P) (w := w) (base := base) F_law_thing T
  refine F.ok sc_law_room (fun vs H Q E h => ?_) (fun cdv A outer s H vs Q E hr h => ?_)
  · obtain ⟨f, c, m, rfl, _⟩ := h
    rfl
  obtain ⟨f, c, m, rfl, m1, m8, hF, q⟩ := h
  have hm9 : m.natAbs.log2 < 9000 := by
    obtain ⟨j, rfl⟩ : ∃ j : Nat, m = (j : Int) := ⟨m.toNat, by omega⟩
    exact log_small (by omega)
  let R1 : TS := fun D' σ' H' => D'.rt = Q ∧ ∃ (hh rk gv : Addr) (xs : List V) (hs : List HR) (is : List Int) (gs : List Nat), σ' = [some (.ref f), some (.int m), some (.ref hh), some (.ref rk), some (.ref gv), none, none, none, none, none, none] ∧ RI f c hh H H' xs hs ∧ HandsOk hs ∧ H' rk = some (.lst (is.map V.int)) ∧ is.length = hs.length ∧ H' gv = some (.lst (gs.map nV)) ∧ gs ≠ [] ∧ gs.length ≤ 12 ∧ (∀ k ∈ gs, ∃ h, hs[k]? = some h ∧ h.wd ≠ "out") ∧ rk ≠ f ∧ gv ≠ f
  let R2 : TS := fun D' σ' H' => D'.rt = Q ∧ ∃ (hh rk gv tk : Addr) (xs : List V) (hs : List HR) (is : List Int) (gs ts : List Nat) (v5 : Option V), σ' = [some (.ref f), some (.int m), some (.ref hh), some (.ref rk), some (.ref gv), v5, some (.ref tk), none, none, none, none] ∧ RI f c hh H H' xs hs ∧ HandsOk hs ∧ H' rk = some (.lst (is.map V.int)) ∧ is.length = hs.length ∧ H' gv = some (.lst (gs.map nV)) ∧ gs ≠ [] ∧ gs.length ≤ 12 ∧ (∀ k ∈ gs, ∃ h, hs[k]? = some h ∧ h.wd ≠ "out") ∧ rk ≠ f ∧ gv ≠ f ∧ tk ≠ f ∧ H' tk = some (.lst (ts.map nV)) ∧ ts = tkTo hs hs.length
  refine ⟨_, (pss_cons (ps_set (i := 2) sc_law_room.nd rfl (Or.inr rfl) (pe_call G_law_hands (hr.mono (by decide)) (by rfl) m_law_hands F_law_hands.kp b_law_hands .nil pass0 (pa_cons (pv 0) (pa_cons (pe_op op_add pe_int (pe_call G_law_pick (hr.mono (by decide)) (by rfl) m_law_pick F_law_pick.kp b_law_pick .nil pass0 (pa_cons (pv 0) (pa_cons (pv 1) pa_nil)))) pa_nil))))
      (pss_cons (ps_set (i := 3) sc_law_room.nd rfl (Or.inl rfl) (pe_call G_law_shuffled (hr.mono (by decide)) (by rfl) m_law_shuffled F_law_shuffled.kp b_law_shuffled .nil pass0 (pa_cons (pv 0) (pa_cons (pe_listRg rfl (by rfl) T.m_list (prg_1 (by rfl) T.m_range (pe_callB (call_len_seqK K rfl) (by rfl) T.m_len (by decide +kernel) (pa_cons (pv 2) pa_nil)))) pa_nil))))
      (pss_cons (ps_setLc (i := 4) (own := [("_law_k", 5)]) (g := gName 5) (by rfl) sc_law_room.nd rfl rfl (sw_true rfl rfl rfl (by decide +kernel)) (pi_range1 (by rfl) T.m_range (pa_cons (pe_callB (call_len_seqK K rfl) (by rfl) T.m_len (by decide +kernel) (pa_cons (pv 2) pa_nil)) pa_nil)) (blkOk_by (own := [("_law_k", 5)]) (N := N_law_room) (sc := defScope s_law_room) (by decide +kernel)) (fun _ _ _ _ _ => (pg_name (i := 5) sc_law_room.nd rfl (Or.inl rfl))) (fun _ _ _ _ _ => pts_one (pt_cmpR (op_neDK K rfl hr.units) (pe_ix (ix_tupK K rfl) (pe_ix (ix_listK K rfl) (pv 2) (pv 5) (fun _ _ => rfl)) pe_int (fun _ _ => rfl)) (pe_tup (pa_cons pe_str pa_nil)) (nomark _))) (fun _ _ _ _ _ => (pv 5)))
      (PSs.to (pss_cons (ps_set (i := 6) sc_law_room.nd rfl (Or.inl rfl) (pe_lst pa_nil))
      (pss_cons (ps_for PassesOwn.never rfl (pi_range1 (by rfl) T.m_range (pa_cons (pe_callB (call_len_seqK K rfl) (by rfl) T.m_len (by decide +kernel) (pa_cons (pv 2) pa_nil)) pa_nil)) (pg_name (i := 5) sc_law_room.nd rfl (Or.inl rfl))
        (pss_one (ps_set (i := 6) sc_law_room.nd rfl (Or.inl rfl) (pe_op op_cat (pv 6) (pe_op op_rep (pe_lst (pa_cons (pv 5) pa_nil)) (pe_call G_law_needs (hr.mono (by decide)) (by rfl) m_law_needs F_law_needs.kp b_law_needs .nil pass0 (pa_cons (pe_ix (ix_tupK K rfl) (pe_ix (ix_listK K rfl) (pv 2) (pv 5) (fun _ _ => rfl)) pe_int (fun _ _ => rfl)) pa_nil)))))))
      (PSs.to (pss_cons (ps_set (i := 7) sc_law_room.nd rfl (Or.inl rfl) (pe_lst pa_nil))
      (pss_cons (ps_for PassesOwn.never rfl (pi_listK K rfl (pe_call G_law_shuffled (hr.mono (by decide)) (by rfl) m_law_shuffled F_law_shuffled.kp b_law_shuffled .nil pass0 (pa_cons (pv 0) (pa_cons (pv 6) pa_nil)))) (pg_name (i := 8) sc_law_room.nd rfl (Or.inl rfl))
        (pss_cons (ps_set (i := 9) sc_law_room.nd rfl (Or.inl rfl) (pe_ix (ix_listK K rfl) (pv 4) (pe_call G_law_pick (hr.mono (by decide)) (by rfl) m_law_pick F_law_pick.kp b_law_pick .nil pass0 (pa_cons (pv 0) (pa_cons (pe_callB (call_len_seqK K rfl) (by rfl) T.m_len (by decide +kernel) (pa_cons (pv 4) pa_nil)) pa_nil))) (fun _ _ => rfl)))
      (pss_cons (ps_set (i := 10) sc_law_room.nd rfl (Or.inl rfl) (pe_ix (ix_listK K rfl) (pe_lst (pa_cons pe_int (pa_cons pe_int (pa_cons pe_int (pa_cons pe_int (pa_cons pe_int (pa_cons pe_int (pa_cons pe_int (pa_cons pe_int pa_nil))))))))) (pe_call G_law_pick (hr.mono (by decide)) (by rfl) m_law_pick F_law_pick.kp b_law_pick .nil pass0 (pa_cons (pv 0) (pa_cons pe_int pa_nil))) (fun _ _ => rfl)))
      (pss_cons (ps_if (pt_cmpR op_ge (pe_ix (ix_listK K rfl) (pv 3) (pv 9) (fun _ _ => rfl)) (pe_ix (ix_listK K rfl) (pv 3) (pv 8) (fun _ _ => rfl)) (nomark _)) (pss_one (ps_set (i := 10) sc_law_room.nd rfl (Or.inl rfl) (pe_callB (call_max2 rfl) (by rfl) T.m_max (by decide +kernel) (pa_cons pe_int (pa_cons (pv 10) pa_nil))))) pss_nil)
      (pss_one (ps_expr (pe_bmK K rfl PySem.F.plainAttrs_list PySem.F.slot_list_append PySem.F.type_list_append mt_append (pv 7) (pa_cons (pe_tup (pa_cons (pv 9) (pa_cons (pv 8) (pa_cons (pe_callTy (call_tuple_ofK K rfl) (by rfl) T.m_tuple (by decide +kernel) (pa_cons (pe_lc (own := [("_law_k", 5)]) (g := gName 5) (tt := tYes) (by rfl) sc_law_room.nd (pi_range1 (by rfl) T.m_range (pa_cons (pv 10) pa_nil)) (blkOk_by (own := [("_law_k", 5)]) (N := N_law_room) (sc := defScope s_law_room) (by decide +kernel)) (fun _ _ _ _ _ => (pg_name (i := 5) sc_law_room.nd rfl (Or.inl rfl))) (fun _ _ _ _ _ => pts_nil) (fun _ _ _ _ _ => (pe_call G_law_thing (hr.mono (by decide)) (by rfl) m_law_thing F_law_thing.kp b_law_thing .nil pass0 (pa_cons (pv 0) pa_nil)))) pa_nil)) pa_nil)))) pa_nil))))))))
      (pss_one (ps_ret (pe_tup (pa_cons (pe_callTy (call_tuple_ofK K rfl) (by rfl) T.m_tuple (by decide +kernel) (pa_cons (pv 2) pa_nil)) (pa_cons (pe_callTy (call_tuple_ofK K rfl) (by rfl) T.m_tuple (by decide +kernel) (pa_cons (pv 7) pa_nil)) pa_nil))))))) R2 ?tail2))) R1 ?tail1)))), ?_⟩
  case tail2 =>
    rintro D' σ' H1 ⟨eD, hh, rk, gv, tk, xs, hs, is, gs, ts, v5, rfl, I1, ok, hrk, lis, hgv, gne, glen, gok, nrk, ngv, ntk, htk, ets⟩
    have hx : xs.length = hs.length := I1.al.length
    have len12 := ok.len
    have lts : ts.length ≤ 20 := by
      have a := tk_len hs ok.nz hs.length (Nat.le_refl _)
      rw [List.take_length, ← ets] at a
      have := ok.sum
      omega
    refine ⟨(by show 0 ≤ sizeLine; decide), fun bl nbl => ?_⟩
    have I2 := I1.new (o := .lst []) nbl
    refine ⟨_, rfl, _, rfl, f, c, tk, _, rfl, SqL.of (same_new nbl _ _ htk), ntk, by rw [List.length_map]; omega, I2.fl, fun sh ys H3 hp nsh hsh F3 B3 => ?_⟩
    obtain ⟨tt, rfl, htt⟩ := perm_inv (f := nV) (g := unN) (fun n => by show ((n : Nat) : Int).toNat = n; omega) hp
    have I3 := I2.but F3 B3
    have bf : bl ≠ f := I1.fl.ne nbl
    have bc : bl ≠ c := I1.fl.nec nbl
    have hbl3 := B3 _ _ upd_same bf
    have bsh : bl ≠ sh := fun e => by rw [← e, upd_same] at nsh; cases nsh
    have bnone : H bl = Option.none := I1.bt.none nbl bf
    have rank : Nat → Int := fun k => is.getD k 0
    refine ⟨sh, rfl, ⟨_, SqL.of hsh⟩, for_list (K := K) (a := sh) (xs := tt.map nV) (fun i σ H4 => ∃ (bv : List V) (bs : List BR) (v5 v8 v9 v10 : Option V), σ = [some (.ref f), some (.int m), some (.ref hh), some (.ref rk), some (.ref gv), v5, some (.ref tk), some (.ref bl), v8, v9, v10] ∧ RI f c hh H H4 xs hs ∧ H4 rk = some (.lst (is.map V.int)) ∧ H4 gv = some (.lst (gs.map nV)) ∧ H4 sh = some (.lst (tt.map nV)) ∧ H4 bl = some (.lst bv) ∧ All2 (BeltAt H4) bv bs ∧ bs.map BR.to = tt.take i ∧
        (∀ b ∈ bs, b.one < hs.length ∧ (∀ h, hs[b.one]? = some h → h.wd ≠ "out") ∧ b.th.length ≤ 6 ∧ (∀ x ∈ b.th, Small x) ∧ (b.th = [] → is.getD b.one 0 < is.getD b.to 0)))
      ⟨[], [], v5, none, none, none, rfl, I3, B3 _ _ (same_new nbl _ _ hrk) nrk, B3 _ _ (same_new nbl _ _ hgv) ngv, hsh, hbl3, .nil, rfl, (fun _ h => nomatch h)⟩ (fun i σ H4 _ ⟨_, _, _, _, _, _, _, _, _, _, h, _⟩ => SqL.of h) ?_ ?_⟩
    · rintro i y σ H4 hi ⟨bv, bs, v5, v8, v9, v10, rfl, I4, hrk4, hgv4, hsh4, hbl4, al, em, hb⟩
      rw [List.getElem?_map] at hi
      cases et : tt[i]? with
      | none => rw [et] at hi; cases hi
      | some to =>
      rw [et] at hi
      obtain rfl : nV to = y := Option.some.inj hi
      have toL : to < hs.length := tk_mem hs _ _ (by rw [← ets]; exact htt.mem_iff.mp (List.mem_of_getElem? et))
      have il : i < 20 := by have := (List.getElem?_eq_some_iff.mp et).1; rw [htt.length_eq] at this; omega
      have lb : bs.length = i := by
        have := congrArg List.length em
        rw [List.length_map, List.length_take, Nat.min_eq_left (Nat.le_of_lt (List.getElem?_eq_some_iff.mp et).1)] at this
        exact this
      have g0 : 0 < gs.length := List.length_pos_iff.mpr gne
      refine ⟨_, rfl, _, rfl, _, rfl, gv, _, rfl, .inl (SqL.of hgv4), f, c, _, rfl, (by rw [List.length_map]; omega), (by rw [List.length_map]; exact log_small (by omega)), I4.fl, fun z H5 z0 z1 F5 B5 => ?_⟩
      rw [List.length_map] at z1
      have I5 := I4.but F5 B5
      have hgv5 := B5 _ _ hgv4 ngv
      obtain ⟨one, eo, ho⟩ : ∃ one, atI (gs.map nV) z = some (nV one) ∧ one ∈ gs := by
        have hk : z.toNat < gs.length := by omega
        have ek : z = ((z.toNat : Nat) : Int) := by omega
        refine ⟨gs[z.toNat], ?_, List.getElem_mem _⟩
        have q2 : atI (gs.map nV) ((z.toNat : Nat) : Int) = some (nV gs[z.toNat]) := atI_nat (by rw [List.getElem?_map, List.getElem?_eq_getElem hk]; rfl)
        rw [← ek] at q2
        exact q2
      obtain ⟨ho1, eh1, hout⟩ := gok one ho
      have oneL : one < hs.length := (List.getElem?_eq_some_iff.mp eh1).1
      refine ⟨gv, _, _, _, rfl, rfl, SqL.of hgv5, eo, ?_⟩
      refine ⟨(by show 8 ≤ sizeLine; decide), fun tl ntl => ?_⟩
      have I6 := I5.new (o := .lst [V.int 0, V.int 0, V.int 0, V.int 1, V.int 1, V.int 2, V.int 3, V.int 6]) ntl
      refine ⟨_, rfl, f, c, 8, rfl, by decide, by decide +kernel, I6.fl, fun y2 H7 y0 y8 F7 B7 => ?_⟩
      have I7 := I6.but F7 B7
      have htl := B7 _ _ upd_same (I5.fl.ne ntl)
      obtain ⟨tr, htr, tr0, tr6⟩ : ∃ tr : Int, atI [V.int 0, V.int 0, V.int 0, V.int 1, V.int 1, V.int 2, V.int 3, V.int 6] y2 = some (.int tr) ∧ 0 ≤ tr ∧ tr ≤ 6 := by
        have : y2 = 0 ∨ y2 = 1 ∨ y2 = 2 ∨ y2 = 3 ∨ y2 = 4 ∨ y2 = 5 ∨ y2 = 6 ∨ y2 = 7 := by omega
        rcases this with rfl | rfl | rfl | rfl | rfl | rfl | rfl | rfl
        · exact ⟨0, rfl, by decide, by decide⟩
        · exact ⟨0, rfl, by decide, by decide⟩
        · exact ⟨0, rfl, by decide, by decide⟩
        · exact ⟨1, rfl, by decide, by decide⟩
        · exact ⟨1, rfl, by decide, by decide⟩
        · exact ⟨2, rfl, by decide, by decide⟩
        · exact ⟨3, rfl, by decide, by decide⟩
        · exact ⟨6, rfl, by decide, by decide⟩
      refine ⟨tl, _, _, _, rfl, rfl, SqL.of htl, htr, ?_⟩
      have k7 : But f H4 H7 := (B5.new ntl).trans B7
      have hrk7 := k7 _ _ hrk4 nrk
      have hgv7 := k7 _ _ hgv4 ngv
      have shf : sh ≠ f := fun e => by rw [e] at nsh; obtain ⟨_, _, _, _, _, e1, _⟩ := I2.fl; rw [e1] at nsh; cases nsh
      have hsh7 := k7 _ _ hsh4 shf
      have hbl7 := k7 _ _ hbl4 bf
      have tk7 : TK H4 H7 := (TK.but I4.fl B5).trans ((TK.new ntl).trans (TK.but I6.fl B7))
      have al7 : All2 (BeltAt H7) bv bs := al.imp fun _ _ z => z.keep tk7
      have r1 : (is.map V.int)[one]? = some (.int (is.getD one 0)) := by
        rw [List.getElem?_map, List.getD_eq_getElem?_getD, List.getElem?_eq_getElem (by omega)]; rfl
      have r2 : (is.map V.int)[to]? = some (.int (is.getD to 0)) := by
        rw [List.getElem?_map, List.getD_eq_getElem?_getD, List.getElem?_eq_getElem (by omega)]; rfl
      have bvl : bv.length = i := by rw [al.length, lb]
      -- the end of a turn, with so many trays
      refine ⟨_, rfl, _, rfl, rk, _, _, _, rfl, rfl, SqL.of hrk7, atI_nat r1, _, rfl, _, rfl, rk, _, _, _, rfl, rfl, SqL.of hrk7, atI_nat r2, _, _, rfl, rfl, _, rfl, if_bl (fun kk => ?_) (fun kk => ?_)⟩
      · refine ⟨_, rfl, _, _, rfl, ?_⟩
        generalize ht : (if tr > 1 then tr else 1) = tn
        have tn0 : 0 ≤ tn := by rw [← ht]; split <;> omega
        have tn6 : tn ≤ 6 := by rw [← ht]; split <;> omega
        have ttt : tn.toNat = 0 → is.getD one 0 < is.getD to 0 := fun e => by
          exfalso
          have : 1 ≤ tn := by rw [← ht]; split <;> omega
          omega
        refine ⟨_, rfl, .inl ⟨rfl, _, SqL.of hbl7⟩, _, rfl, _, rfl, _, rfl, _, rfl, by omega, by omega, fun D nD => lc_range (lo := 0) (n := tn.toNat) (fun j H8 => ∃ vs : List Int, vs.length = j ∧ H8 D = some (.lst (vs.map V.int)) ∧ (∀ x ∈ vs, Small x) ∧ RI f c hh H H8 xs hs ∧ But f H7 H8 ∧ TK H7 H8 ∧ D ≠ f ∧ D ≠ c ∧ D ≠ hh ∧ H D = Option.none ∧ H7 D = Option.none)
          ⟨[], rfl, upd_same, (fun _ h => nomatch h), I7.new nD, But.refl.new nD, TK.new nD, I7.fl.ne nD, I7.fl.nec nD, (ne_of_none I7.lh nD).symm, I7.bt.none nD (I7.fl.ne nD), nD⟩ ?_ ?_⟩
        · rintro j H8 hj ⟨vs, lv, hD, sm, I8, b8, t8, d1, d2, d3, d4, d5⟩
          refine ⟨rfl, yes_in ⟨_, rfl, f, c, rfl, I8.fl, fun x H9 sx F9 B9 => ⟨_, B9 _ _ hD d1, ?_, vs ++ [x], by rw [List.length_append, lv]; rfl, ?_, ?_, (I8.but F9 B9).lst (B9 _ _ hD d1) d1 d2 d3 d4, (b8.trans B9).own d5, (t8.trans (TK.but I8.fl B9)).trans (TK.lst (B9 _ _ hD d1)), d1, d2, d3, d4, d5⟩⟩⟩
          · rw [List.length_map, lv]; exact small1000 (by omega)
          · rw [upd_same, List.map_append]; rfl
          · intro y hy
            rcases List.mem_append.mp hy with hy | hy
            · exact sm y hy
            · obtain rfl : y = x := by simpa using hy
              exact sx
        · rintro H8 ⟨vs, lv, hD, sm, I8, b8, t8, d1, d2, d3, d4, d5⟩
          refine ⟨D, _, rfl, .inl ⟨SqL.of hD, fun g ng => ⟨(by show 3 ≤ sizeLine; decide), fun t nt => ?_⟩⟩⟩
          have I9 := (I8.new (o := .tup (vs.map V.int)) ng).new (o := .tup [nV one, nV to, V.ref g]) nt
          have hbl8 := same_new (o := .tup [nV one, nV to, V.ref g]) nt _ _ (same_new (o := .tup (vs.map V.int)) ng _ _ (b8 _ _ hbl7 bf))
          have t9 : TK H7 (upd (upd H8 g (.tup (vs.map V.int))) t (.tup [nV one, nV to, V.ref g])) := (t8.trans (TK.new ng)).trans (TK.new nt)
          have s9 : ∀ b o, H7 b = some o → b ≠ f → (upd (upd H8 g (.tup (vs.map V.int))) t (.tup [nV one, nV to, V.ref g])) b = some o := fun b o e n => same_new nt _ _ (same_new ng _ _ (b8 _ _ e n))
          have bh : bl ≠ hh := fun e => by
            have h1 := I1.lh
            rw [← e, nbl] at h1
            cases h1
          have brk : bl ≠ rk := fun e => by
            have h1 := hrk
            rw [← e, nbl] at h1
            cases h1
          have bgv : bl ≠ gv := fun e => by
            have h1 := hgv
            rw [← e, nbl] at h1
            cases h1
          refine ⟨bl, _, _, rfl, rfl, hbl8, small1000 (by rw [bvl]; omega), ?_⟩
          refine ⟨bv ++ [V.ref t], bs ++ [⟨one, to, vs⟩], _, _, _, _, rfl, I9.lst hbl8 bf bc bh bnone, ?_, ?_, ?_, upd_same, ?_, ?_, ?_⟩
          · rw [upd_ne brk.symm]; exact s9 _ _ hrk7 nrk
          · rw [upd_ne bgv.symm]; exact s9 _ _ hgv7 ngv
          · rw [upd_ne bsh.symm]; exact s9 _ _ hsh7 shf
          · exact ((al7.imp fun _ _ z => z.keep t9).snoc ⟨t, g, rfl, upd_same, same_new nt _ _ upd_same⟩).imp fun _ _ z => z.keep (TK.lst hbl8)
          · rw [List.map_append, em, List.take_add_one, et]; rfl
          · intro b hb2
            rcases List.mem_append.mp hb2 with hb2 | hb2
            · exact hb b hb2
            · obtain rfl : b = ⟨one, to, vs⟩ := by simpa using hb2
              refine ⟨oneL, fun h e => ?_, by show vs.length ≤ 6; omega, sm, fun e => ?_⟩
              · have e : hs[one]? = some h := e
                rw [eh1] at e
                cases e
                exact hout
              · have e : vs = [] := e
                rw [e] at lv
                exact ttt (by simpa using lv.symm)
      · obtain ⟨tn, ht⟩ : ∃ tn, tn = tr := ⟨_, rfl⟩
        rw [← ht]
        have tn0 : 0 ≤ tn := by omega
        have tn6 : tn ≤ 6 := by omega
        have ttt : tn.toNat = 0 → is.getD one 0 < is.getD to 0 := fun _ => by
          have : ¬ is.getD to 0 ≤ is.getD one 0 := of_decide_eq_false kk
          omega
        refine ⟨_, rfl, .inl ⟨rfl, _, SqL.of hbl7⟩, _, rfl, _, rfl, _, rfl, _, rfl, by omega, by omega, fun D nD => lc_range (lo := 0) (n := tn.toNat) (fun j H8 => ∃ vs : List Int, vs.length = j ∧ H8 D = some (.lst (vs.map V.int)) ∧ (∀ x ∈ vs, Small x) ∧ RI f c hh H H8 xs hs ∧ But f H7 H8 ∧ TK H7 H8 ∧ D ≠ f ∧ D ≠ c ∧ D ≠ hh ∧ H D = Option.none ∧ H7 D = Option.none)
          ⟨[], rfl, upd_same, (fun _ h => nomatch h), I7.new nD, But.refl.new nD, TK.new nD, I7.fl.ne nD, I7.fl.nec nD, (ne_of_none I7.lh nD).symm, I7.bt.none nD (I7.fl.ne nD), nD⟩ ?_ ?_⟩
        · rintro j H8 hj ⟨vs, lv, hD, sm, I8, b8, t8, d1, d2, d3, d4, d5⟩
          refine ⟨rfl, yes_in ⟨_, rfl, f, c, rfl, I8.fl, fun x H9 sx F9 B9 => ⟨_, B9 _ _ hD d1, ?_, vs ++ [x], by rw [List.length_append, lv]; rfl, ?_, ?_, (I8.but F9 B9).lst (B9 _ _ hD d1) d1 d2 d3 d4, (b8.trans B9).own d5, (t8.trans (TK.but I8.fl B9)).trans (TK.lst (B9 _ _ hD d1)), d1, d2, d3, d4, d5⟩⟩⟩
          · rw [List.length_map, lv]; exact small1000 (by omega)
          · rw [upd_same, List.map_append]; rfl
          · intro y hy
            rcases List.mem_append.mp hy with hy | hy
            · exact sm y hy
            · obtain rfl : y = x := by simpa using hy
              exact sx
        · rintro H8 ⟨vs, lv, hD, sm, I8, b8, t8, d1, d2, d3, d4, d5⟩
          refine ⟨D, _, rfl, .inl ⟨SqL.of hD, fun g ng => ⟨(by show 3 ≤ sizeLine; decide), fun t nt => ?_⟩⟩⟩
          have I9 := (I8.new (o := .tup (vs.map V.int)) ng).new (o := .tup [nV one, nV to, V.ref g]) nt
          have hbl8 := same_new (o := .tup [nV one, nV to, V.ref g]) nt _ _ (same_new (o := .tup (vs.map V.int)) ng _ _ (b8 _ _ hbl7 bf))
          have t9 : TK H7 (upd (upd H8 g (.tup (vs.map V.int))) t (.tup [nV one, nV to, V.ref g])) := (t8.trans (TK.new ng)).trans (TK.new nt)
          have s9 : ∀ b o, H7 b = some o → b ≠ f → (upd (upd H8 g (.tup (vs.map V.int))) t (.tup [nV one, nV to, V.ref g])) b = some o := fun b o e n => same_new nt _ _ (same_new ng _ _ (b8 _ _ e n))
          have bh : bl ≠ hh := fun e => by
            have h1 := I1.lh
            rw [← e, nbl] at h1
            cases h1
          have brk : bl ≠ rk := fun e => by
            have h1 := hrk
            rw [← e, nbl] at h1
            cases h1
          have bgv : bl ≠ gv := fun e => by
            have h1 := hgv
            rw [← e, nbl] at h1
            cases h1
          refine ⟨bl, _, _, rfl, rfl, hbl8, small1000 (by rw [bvl]; omega), ?_⟩
          refine ⟨bv ++ [V.ref t], bs ++ [⟨one, to, vs⟩], _, _, _, _, rfl, I9.lst hbl8 bf bc bh bnone, ?_, ?_, ?_, upd_same, ?_, ?_, ?_⟩
          · rw [upd_ne brk.symm]; exact s9 _ _ hrk7 nrk
          · rw [upd_ne bgv.symm]; exact s9 _ _ hgv7 ngv
          · rw [upd_ne bsh.symm]; exact s9 _ _ hsh7 shf
          · exact ((al7.imp fun _ _ z => z.keep t9).snoc ⟨t, g, rfl, upd_same, same_new nt _ _ upd_same⟩).imp fun _ _ z => z.keep (TK.lst hbl8)
          · rw [List.map_append, em, List.take_add_one, et]; rfl
          · intro b hb2
            rcases List.mem_append.mp hb2 with hb2 | hb2
            · exact hb b hb2
            · obtain rfl : b = ⟨one, to, vs⟩ := by simpa using hb2
              refine ⟨oneL, fun h e => ?_, by show vs.length ≤ 6; omega, sm, fun e => ?_⟩
              · have e : hs[one]? = some h := e
                rw [eh1] at e
                cases e
                exact hout
              · have e : vs = [] := e
                rw [e] at lv
                exact ttt (by simpa using lv.symm)
    · rintro σ H4 ⟨bv, bs, v5, v8, v9, v10, rfl, I4, hrk4, hgv4, hsh4, hbl4, al, em, hb⟩
      rw [List.length_map, List.take_length] at em
      have lb : bs.length = ts.length := by
        have := congrArg List.length em
        rw [List.length_map] at this
        rw [this, htt.length_eq]
      refine ⟨_, rfl, hh, _, rfl, .inl ⟨SqL.of I4.lh, fun a1 na1 => ⟨_, rfl, bl, _, rfl, .inl ⟨SqL.of (same_new na1 _ _ hbl4), fun a2 na2 => ⟨(by show 2 ≤ sizeLine; decide), fun a3 na3 => ?_⟩⟩⟩⟩⟩
      rw [eD]
      have k1 : TK H4 (upd (upd (upd H4 a1 (.tup xs)) a2 (.tup bv)) a3 (.tup [V.ref a1, V.ref a2])) := ((TK.new na1).trans (TK.new na2)).trans (TK.new na3)
      refine q a3 hs bs _ ⟨a1, a2, xs, bv, upd_same, same_new na3 _ _ (same_new na2 _ _ upd_same), same_new na3 _ _ upd_same, I4.al.imp fun _ _ z => z.keep k1, al.imp fun _ _ z => z.keep k1⟩ ⟨ok.len, ok.good, fun b hb2 => ⟨(hb b hb2).1, ?_⟩, fun b hb2 => (hb b hb2).2.1, fun b hb2 => ⟨(hb b hb2).2.2.1, (hb b hb2).2.2.2.1⟩, ⟨fun k => is.getD k 0, fun b hb2 => (hb b hb2).2.2.2.2⟩, fun k h hk => ?_, by omega⟩ (by obtain ⟨h1, hm1, _⟩ := ok.one; exact List.length_pos_of_mem hm1) (((I4.fl.new na1).new na2).new na3) (((I4.bt.new na1).new na2).new na3)
      · have : b.to ∈ bs.map BR.to := List.mem_map.mpr ⟨b, hb2, rfl⟩
        rw [em] at this
        exact tk_mem hs _ _ (by rw [← ets]; exact htt.mem_iff.mp this)
      · rw [em, htt.count_eq, ets, tk_count, if_pos (List.getElem?_eq_some_iff.mp hk).1]
        unfold nd
        rw [hk]
        have := ok.nz h (List.mem_of_getElem? hk)
        show (((needs h.wd).toNat : Nat) : Int) = needs h.wd
        omega
  case tail1 =>
    rintro D' σ' H1 ⟨eD, hh, rk, gv, xs, hs, is, gs, rfl, I1, ok, hrk, lis, hgv, gne, glen, gok, nrk, ngv⟩
    refine ⟨(by show 0 ≤ sizeLine; decide), fun tk ntk => ?_⟩
    have I2 := I1.new (o := .lst []) ntk
    have hx : xs.length = hs.length := I1.al.length
    refine ⟨_, rfl, hh, _, rfl, .inl (SqL.of I2.lh), _, rfl, by omega, (by rw [hx]; have := ok.len; omega), for_range (lo := 0) (n := xs.length) (fun i σ H2 => ∃ (tk : Addr) (v5 : Option V), σ = [some (.ref f), some (.int m), some (.ref hh), some (.ref rk), some (.ref gv), v5, some (.ref tk), none, none, none, none] ∧ RI f c hh H H2 xs hs ∧ H2 rk = some (.lst (is.map V.int)) ∧ H2 gv = some (.lst (gs.map nV)) ∧ tk ≠ f ∧ H2 tk = some (.lst ((tkTo hs i).map nV)))
      ⟨tk, none, rfl, I2, same_new ntk _ _ hrk, same_new ntk _ _ hgv, I1.fl.ne ntk, upd_same⟩ ?_ ?_⟩
    · rintro i σ H2 hi ⟨tk, v5, rfl, I3, hrk3, hgv3, tf, htk⟩
      have eh : hs[i]? = some hs[i] := List.getElem?_eq_getElem (by omega)
      obtain ⟨x, ex, ⟨t, r, rfl, e1, e2⟩⟩ := I3.al.get eh
      have z0 := ok.nz _ (List.mem_of_getElem? eh)
      have zs : needs hs[i].wd ≤ 3 := by
        unfold needs
        split
        · decide
        · split
          · decide
          · split <;> decide
      have sz : (tkTo hs i).length ≤ 20 := by
        have a := tk_len hs ok.nz i (by omega)
        have b : ((hs.take i).map fun h => needs h.wd).sum ≤ (hs.map fun h => needs h.wd).sum := by
          have e : hs.map (fun h => needs h.wd) = (hs.take i).map (fun h => needs h.wd) ++ (hs.drop i).map (fun h => needs h.wd) := by rw [← List.map_append, List.take_append_drop]
          rw [e, List.sum_append]
          have : 0 ≤ ((hs.drop i).map fun h => needs h.wd).sum := by
            have hz : ∀ h ∈ hs.drop i, 0 ≤ needs h.wd := fun h hh => ok.nz h (List.mem_of_mem_drop hh)
            revert hz
            generalize hs.drop i = l
            intro hz
            induction l with
            | nil => decide
            | cons a l ih =>
              have := hz a (List.mem_cons_self ..)
              have := ih fun h hh => hz h (List.mem_cons_of_mem _ hh)
              rw [List.map_cons, List.sum_cons]
              omega
          omega
        have := ok.sum
        omega
      refine ⟨_, rfl, _, rfl, (by show 1 ≤ sizeLine; decide), fun l1 nl1 => ?_⟩
      have I4 := I3.new (o := .lst [V.int (0 + ((i : Nat) : Int))]) nl1
      refine ⟨_, rfl, _, rfl, hh, _, _, _, rfl, rfl, SqL.of I4.lh, at0 ex, t, _, _, _, rfl, rfl, SqT.of (same_new nl1 _ _ e1), atI_nat (j := 0) rfl, r, hs[i].wd, _, rfl, SqT.of (same_new nl1 _ _ e2), fun H5 s5 => ?_⟩
      have I5 := I4.same s5
      have g1 := s5 _ _ upd_same
      have g2 := s5 _ _ (same_new nl1 _ _ htk)
      refine ⟨l1, _, _, rfl, rfl, g1, by omega, by omega, little (by show 1 * (needs hs[i].wd).toNat ≤ 1000; omega), fun l2 nl2 => ?_⟩
      rw [flat_rep]
      have I6 := I5.new (o := .lst (List.replicate (needs hs[i].wd).toNat (V.int (0 + ((i : Nat) : Int))))) nl2
      refine ⟨tk, l2, _, _, rfl, rfl, same_new nl2 _ _ g2, upd_same, ?_, fun l3 nl3 => ?_⟩
      · rw [List.length_map, List.length_replicate]; exact little (by omega)
      refine ⟨l3, _, rfl, I6.new nl3, same_new nl3 _ _ (same_new nl2 _ _ (s5 _ _ (same_new nl1 _ _ hrk3))), same_new nl3 _ _ (same_new nl2 _ _ (s5 _ _ (same_new nl1 _ _ hgv3))), I6.fl.ne nl3, ?_⟩
      rw [upd_same]
      have e : nd hs i = (needs hs[i].wd).toNat := by unfold nd; rw [eh]
      rw [show tkTo hs (i + 1) = tkTo hs i ++ List.replicate (nd hs i) i from rfl, List.map_append, List.map_replicate, e, Int.zero_add]
    · rintro σ H2 ⟨tk, v5, rfl, I3, hrk3, hgv3, tf, htk⟩
      exact ⟨eD, hh, rk, gv, tk, xs, hs, is, gs, _, v5, rfl, I3, ok, hrk3, lis, hgv3, gne, glen, gok, nrk, ngv, tf, htk, by rw [hx]⟩
  refine ⟨_, rfl, _, rfl, _, rfl, f, c, m, rfl, by omega, hm9, hF, fun v1 H1 a1 b1 F1 B1 => ?_⟩
  refine ⟨_, _, rfl, rfl, f, c, _, rfl, by omega, by omega, F1, fun hh xs hs H2 nhh hhh al ok F2 B2 => ?_⟩
  have hx : xs.length = hs.length := al.length
  have len12 := ok.len
  have nf : hh ≠ f := F1.ne nhh
  have I2 : RI f c hh H H2 xs hs := ⟨F2, B1.trans B2, hhh, al, nf, B1.none nhh nf⟩
  -- ranks
  refine ⟨_, rfl, _, rfl, hh, _, rfl, .inl (SqL.of I2.lh), _, rfl, ⟨by omega, by omega, by omega, by omega, by omega⟩, fun rg nrg => ?_⟩
  have I3 := I2.new (o := .lst (rgV 0 ((xs.length : Nat) : Int))) nrg
  refine ⟨f, c, rg, _, rfl, SqL.of upd_same, I2.fl.ne nrg, ?_, I3.fl, fun rk ys H4 hp nrk hrk F4 B4 => ?_⟩
  · rw [rgV_length]; omega
  have erg : rgV 0 ((xs.length : Nat) : Int) = ((List.range xs.length).map fun i => ((i : Nat) : Int)).map V.int := by
    unfold rgV
    rw [List.map_map, show (((xs.length : Nat) : Int) - 0).toNat = xs.length by omega]
    refine List.map_congr_left fun i _ => ?_
    show V.int (0 + ((i : Nat) : Int)) = V.int ((i : Nat) : Int)
    rw [Int.zero_add]
  rw [erg] at hp
  obtain ⟨is, rfl, his⟩ := perm_inv (f := V.int) (g := unI) (fun _ => rfl) hp
  have lis : is.length = hs.length := by rw [his.length_eq, List.length_map, List.length_range, hx]
  have I4 := I3.but F4 B4
  have rkf : rk ≠ f := I3.fl.ne nrk
  -- givers
  refine ⟨_, rfl, hh, _, rfl, .inl (SqL.of I4.lh), _, rfl, by omega, by omega, fun D nD => lc_range (lo := 0) (n := xs.length) (fun i H5 => ∃ gs : List Nat, H5 D = some (.lst (gs.map nV)) ∧ gs.length ≤ i ∧ RI f c hh H H5 xs hs ∧ H5 rk = some (.lst (is.map V.int)) ∧ (∀ k ∈ gs, ∃ h, hs[k]? = some h ∧ h.wd ≠ "out") ∧ (∀ k h, k < i → hs[k]? = some h → h.wd ≠ "out" → gs ≠ []) ∧ D ≠ f ∧ D ≠ c ∧ D ≠ hh ∧ D ≠ rk ∧ H D = Option.none)
    ⟨[], upd_same, Nat.le_refl _, I4.new nD, same_new nD _ _ hrk, (fun _ h => nomatch h), (fun k h hk => absurd hk (Nat.not_lt_zero _)), I4.fl.ne nD, I4.fl.nec nD, (ne_of_none I4.lh nD).symm, (ne_of_none hrk nD).symm, I4.bt.none nD (I4.fl.ne nD)⟩ ?_ ?_⟩
  · rintro i H5 hi ⟨gs, hD, lg, I5, hrk5, g1, g2, d1, d2, d3, d4, d5⟩
    have eh : hs[i]? = some hs[i] := List.getElem?_eq_getElem (by omega)
    obtain ⟨x, ex, ⟨t, r, rfl, e1, e2⟩⟩ := I5.al.get eh
    have gh := ok.good _ (List.mem_of_getElem? eh)
    refine ⟨rfl, _, rfl, _, rfl, hh, _, _, _, rfl, rfl, SqL.of I5.lh, at0 ex, t, _, _, _, rfl, rfl, SqT.of e1, atI_nat (j := 0) rfl, (by show 1 ≤ sizeLine; decide), fun o1 no1 => ?_⟩
    have I6 := I5.new (o := .tup [V.str "out"]) no1
    have hD6 : (upd H5 o1 (.tup [V.str "out"])) D = some (.lst (gs.map nV)) := same_new no1 _ _ hD
    refine ⟨_, _, rule_dp (same_new no1 _ _ e2), .tup (SqT.of upd_same) (.cons (.str _) .nil), rule_shaped gh.lay, one_shaped (by decide +kernel), _, rfl, ?_⟩
    rw [rule_eqv, gh.door "out" (.inr rfl)]
    by_cases k : hs[i].wd = "out"
    · rw [decide_eq_true k]
      refine if_bl (fun z => absurd z (by decide)) (fun _ => ⟨gs, hD6, by omega, I6, same_new no1 _ _ hrk5, g1, fun k' h' hk hk2 hk3 => ?_, d1, d2, d3, d4, d5⟩)
      by_cases y : k' = i
      · subst y
        rw [eh] at hk2
        cases hk2
        exact absurd k hk3
      · exact g2 k' h' (by omega) hk2 hk3
    · rw [decide_eq_false k]
      refine if_bl (fun _ => ⟨_, rfl, _, hD6, ?_, gs ++ [i], ?_, ?_, I6.lst hD6 d1 d2 d3 d5, ?_, ?_, fun _ _ _ _ _ z => by simp at z, d1, d2, d3, d4, d5⟩) (fun z => absurd z (by decide))
      · rw [List.length_map]; exact small1000 (by omega)
      · rw [upd_same, List.map_append, Int.zero_add]; rfl
      · rw [List.length_append]; show gs.length + 1 ≤ i + 1; omega
      · rw [upd_ne d4.symm]; exact same_new no1 _ _ hrk5
      · intro k' hk
        rcases List.mem_append.mp hk with hk | hk
        · exact g1 k' hk
        · obtain rfl : k' = i := by simpa using hk
          exact ⟨_, eh, k⟩
  · rintro H5 ⟨gs, hD, lg, I5, hrk5, g1, g2, d1, d2, d3, d4, d5⟩
    obtain ⟨h1, hm1, hm2⟩ := ok.one
    obtain ⟨k1, hk1⟩ := List.getElem?_of_mem hm1
    have k1l := (List.getElem?_eq_some_iff.mp hk1).1
    exact ⟨rfl, hh, rk, D, xs, hs, is, gs, rfl, I5, ok, hrk5, lis, hD, g2 k1 h1 (by omega) hk1 hm2, by omega, g1, rkf, d1⟩
end
/-! ### data of known size -/
structure Neat (d : PyData) (dp wt : Nat) : Prop where
  lay : d.canLay0 = true
  dep : d.depth ≤ dp
  wei : d.weight ≤ wt
  sho : d.intsShort 13 = true
  say : d.showable = true
  nod : d.hasDict = false
structure NeatAll (ds : List PyData) (dp wt : Nat) : Prop where
  lay : PyData.canLayAll0 ds = true
  dep : PyData.depthAll ds ≤ dp
  wei : PyData.weightAll ds ≤ wt
  sho : PyData.intsShortAll 13 ds = true
  say : PyData.showableAll ds = true
  nod : PyData.hasDictAll ds = false
theorem Neat.non {dp : Nat} : Neat .none dp 0 := ⟨rfl, Nat.zero_le _, Nat.le_refl _, by simp [PyData.intsShort], by simp [PyData.showable], by simp [PyData.hasDict]⟩
theorem Neat.bool {b : Bool} {dp : Nat} : Neat (.bool b) dp 0 := ⟨rfl, Nat.zero_le _, Nat.le_refl _, by simp [PyData.intsShort], by simp [PyData.showable], by simp [PyData.hasDict]⟩
theorem Neat.int {i : Int} {dp : Nat} (h : i.natAbs < 10 ^ 12) : Neat (.int i) dp 41 := by
  have l : i.natAbs.log2 < 40 := by
    by_cases z : i.natAbs = 0
    · rw [z]; decide
    · exact (Nat.log2_lt z).mpr (Nat.lt_trans h (by decide))
  refine ⟨rfl, Nat.zero_le _, ?_, ?_, ?_, by simp [PyData.hasDict]⟩
  · simp only [PyData.weight]
    split <;> omega
  · simp only [PyData.intsShort, decide_eq_true_eq]
    exact PyData.shown_int_le h
  · simp only [PyData.showable, decide_eq_true_eq]
    omega
theorem Neat.str {x : Str} {n dp : Nat} (h : PyData.canLay0 (.str x) = true) (hn : x.cps.size ≤ n) : Neat (.str x) dp n := ⟨h, Nat.zero_le _, hn, by simp [PyData.intsShort], by simp [PyData.showable], by simp [PyData.hasDict]⟩
theorem NeatAll.nil {dp : Nat} : NeatAll [] dp 0 := ⟨rfl, Nat.zero_le _, Nat.le_refl _, by simp [PyData.intsShortAll], by simp [PyData.showableAll], by simp [PyData.hasDictAll]⟩
theorem NeatAll.cons {d : PyData} {ds : List PyData} {dp a b : Nat} (h : Neat d dp a) (t : NeatAll ds dp b) : NeatAll (d :: ds) dp (a + 1 + b) := by
  refine ⟨?_, ?_, ?_, ?_, ?_, ?_⟩
  · simp only [PyData.canLayAll0, h.lay, t.lay, Bool.and_self]
  · simp only [PyData.depthAll]
    exact Nat.max_le.mpr ⟨h.dep, t.dep⟩
  · simp only [PyData.weightAll]
    have := h.wei
    have := t.wei
    omega
  · simp only [PyData.intsShortAll, h.sho, t.sho, Bool.and_self]
  · simp only [PyData.showableAll, h.say, t.say, Bool.and_self]
  · simp only [PyData.hasDictAll, h.nod, t.nod, Bool.or_self]
theorem Neat.mono {d : PyData} {a b c e : Nat} (h : Neat d a b) (x : a ≤ c) (y : b ≤ e) : Neat d c e := ⟨h.lay, Nat.le_trans h.dep x, Nat.le_trans h.wei y, h.sho, h.say, h.nod⟩
theorem NeatAll.mono {d : List PyData} {a b c e : Nat} (h : NeatAll d a b) (x : a ≤ c) (y : b ≤ e) : NeatAll d c e := ⟨h.lay, Nat.le_trans h.dep x, Nat.le_trans h.wei y, h.sho, h.say, h.nod⟩
theorem Neat.tup {ds : List PyData} {dp n : Nat} (h : NeatAll ds dp n) : Neat (.tuple ds) (dp + 1) n := by
  refine ⟨?_, ?_, ?_, ?_, ?_, ?_⟩
  · simp only [PyData.canLay0, h.lay]
  · simp only [PyData.depth]
    have := h.dep
    omega
  · simp only [PyData.weight]
    exact h.wei
  · simp only [PyData.intsShort, h.sho]
  · simp only [PyData.showable, h.say]
  · simp only [PyData.hasDict, h.nod]
theorem Neat.lst {ds : List PyData} {dp n : Nat} (h : NeatAll ds dp n) : Neat (.list ds) (dp + 1) n := by
  refine ⟨?_, ?_, ?_, ?_, ?_, ?_⟩
  · simp only [PyData.canLay0, h.lay]
  · simp only [PyData.depth]
    have := h.dep
    omega
  · simp only [PyData.weight]
    exact h.wei
  · simp only [PyData.intsShort, h.sho]
  · simp only [PyData.showable, h.say]
  · simp only [PyData.hasDict, h.nod]
theorem NeatAll.map {α : Type} {f : α → PyData} {dp n : Nat} : ∀ {l : List α}, (∀ x ∈ l, Neat (f x) dp n) → NeatAll (l.map f) dp (l.length * (n + 1))
  | [], _ => by rw [List.length_nil, Nat.zero_mul]; exact .nil
  | x :: l, h => by
    have t : NeatAll (l.map f) dp (l.length * (n + 1)) := NeatAll.map fun y hy => h y (List.mem_cons_of_mem _ hy)
    have := NeatAll.cons (h x (List.mem_cons_self ..)) t
    refine NeatAll.mono this (Nat.le_refl _) ?_
    rw [List.length_cons, Nat.add_mul]
    omega
theorem Neat.shaped {d : PyData} {dp n : Nat} (h : Neat d dp n) (k : dp ≤ 60) : SeqAt.shaped d = true := by
  unfold SeqAt.shaped
  rw [h.lay, Bool.true_and]
  exact decide_eq_true (by have := h.dep; omega)
theorem Neat.fits {d : PyData} {dp n : Nat} (h : Neat d dp n) (k : dp ≤ 60) (m : n ≤ 1000000) : d.shown.length ≤ sizeLine := by
  refine PyData.shown_fits_of_layable0 (B := 13) (by decide) (by decide) ?_ h.sho
  have a : d.canLay0 = true := h.lay
  have b : decide (d.depth ≤ 64) = true := decide_eq_true (by have := h.dep; omega)
  have c : decide (d.weight ≤ 2 ^ 20) = true := decide_eq_true (by have := h.wei; omega)
  unfold PyData.layable0
  rw [a, b, c]
  rfl
theorem dp_ints {K : PySem.W.Frag} {H : Hp} : ∀ ns : List Int, DpAll K H (ns.map V.int) (ns.map PyData.int)
  | [] => .nil
  | n :: ns => .cons (.int n) (dp_ints ns)
theorem dp_nats {K : PySem.W.Frag} {H : Hp} : ∀ ns : List Nat, DpAll K H (ns.map nV) (ns.map fun n => PyData.int ((n : Nat) : Int))
  | [] => .nil
  | n :: ns => .cons (.int _) (dp_nats ns)
theorem eqv_nil {ds : List PyData} : PyData.eqvAll ds [] = ds.isEmpty := by cases ds <;> rfl
/-! ### a room as data -/
abbrev handD (h : HR) : PyData := .tuple [.tuple (ruleD h), .int h.mom]
abbrev beltD (b : BR) : PyData := .tuple [.int ((b.one : Nat) : Int), .int ((b.to : Nat) : Int), .tuple (b.th.map PyData.int)]
abbrev roomD (hs : List HR) (bs : List BR) : PyData := .tuple [.tuple (hs.map handD), .tuple (bs.map beltD)]
theorem hands_dp {K : PySem.W.Frag} {H : Hp} {vs : List V} {hs : List HR} (a : All2 (HandAt H) vs hs) : DpAll K H vs (hs.map handD) := by
  induction a with
  | nil => exact .nil
  | cons h t ih =>
    obtain ⟨t, r, rfl, e1, e2⟩ := h
    exact .cons (.tup (SqT.of e1) (.cons (rule_dp e2) (.cons (.int _) .nil))) ih
theorem belts_dp {K : PySem.W.Frag} {H : Hp} {vs : List V} {bs : List BR} (a : All2 (BeltAt H) vs bs) : DpAll K H vs (bs.map beltD) := by
  induction a with
  | nil => exact .nil
  | cons h t ih =>
    obtain ⟨t, r, rfl, e1, e2⟩ := h
    exact .cons (.tup (SqT.of e1) (.cons (.int _) (.cons (.int _) (.cons (.tup (SqT.of e2) (dp_ints _)) .nil)))) ih
theorem RoomAt.dp {K : PySem.W.Frag} {H : Hp} {r : Addr} {hs : List HR} {bs : List BR} (a : RoomAt H r hs bs) : Dp K H (.ref r) (roomD hs bs) := by
  obtain ⟨ha, ba, hv, bv, e1, e2, e3, a1, a2⟩ := a.ex
  exact .tup (SqT.of e1) (.cons (.tup (SqT.of e2) (hands_dp a1)) (.cons (.tup (SqT.of e3) (belts_dp a2)) .nil))
theorem GoodHand.size {h : HR} (g : GoodHand h) : h.wd.cps.size ≤ 10 := by
  have : h.wd ∈ nine ∨ h.wd = "in" ∨ h.wd = "out" := g.1.elim (fun k => .inl k.wd) (fun k => .inr k.1)
  rcases this with k | k | k
  · unfold nine at k
    simp only [List.mem_cons, List.not_mem_nil, or_false] at k
    rcases k with k | k | k | k | k | k | k | k | k <;> rw [k] <;> decide +kernel
  · rw [k]; decide +kernel
  · rw [k]; decide +kernel
theorem GoodHand.neat {h : HR} (g : GoodHand h) : Neat (handD h) 2 200 := by
  obtain ⟨wd, no, mom⟩ := h
  have r : NeatAll (ruleD ⟨wd, no, mom⟩) 0 60 := by
    cases no with
    | none => exact (NeatAll.cons (Neat.str g.lay g.size) .nil).mono (Nat.le_refl _) (by decide)
    | some n =>
      have : -1000000 ≤ n ∧ n ≤ 1000000 := by
        rcases g.1 with k | k
        · exact k.big n rfl
        · exact nomatch k.2
      exact (NeatAll.cons (Neat.str g.lay g.size) (.cons (Neat.int (by omega)) .nil)).mono (Nat.le_refl _) (by decide)
  have m : Neat (.int mom) 1 41 := Neat.int (by have := g.2.1; have := g.2.2; simp only at *; omega)
  exact (Neat.tup (.cons (Neat.tup r) (.cons m .nil))).mono (Nat.le_refl _) (by decide)
theorem one_eqv (h : HR) (z : Str) : PyData.eqv (.tuple [.str z]) (.tuple (ruleD h)) = (decide (h.wd = z) && h.no.isNone) := by
  obtain ⟨wd, no, mom⟩ := h
  have e : (z == wd) = decide (wd = z) := by
    by_cases k : wd = z
    · rw [k, decide_eq_true rfl]; exact beq_self_eq_true z
    · rw [decide_eq_false k]; exact beq_eq_false_iff_ne.mpr fun y => k y.symm
  cases no with
  | none => show (z == wd && true) = (decide (wd = z) && true); rw [e]
  | some n => show (z == wd && false) = (decide (wd = z) && false); rw [Bool.and_false, Bool.and_false]
/-! ### numbers as they come up -/
theorem snoc_ind {α : Type} {Pr : List α → Prop} (h0 : Pr []) (h1 : ∀ l x, Pr l → Pr (l ++ [x])) : ∀ l, Pr l := by
  have : ∀ r : List α, Pr r.reverse := by
    intro r
    induction r with
    | nil => exact h0
    | cons x r ih => rw [List.reverse_cons]; exact h1 _ _ ih
  intro l
  have := this l.reverse
  rwa [List.reverse_reverse] at this
section
variable {α β : Type} [DecidableEq α] [DecidableEq β]
def uqF (acc : List α) (x : α) : List α := if x ∈ acc then acc else acc ++ [x]
/-- the different ones, as they come up -/
def uniq (l : List α) : List α := l.foldl uqF []
theorem uniq_snoc (l : List α) (x : α) : uniq (l ++ [x]) = if x ∈ uniq l then uniq l else uniq l ++ [x] := by
  unfold uniq
  rw [List.foldl_append]
  rfl
theorem mem_uniq : ∀ (l : List α) (x : α), x ∈ uniq l ↔ x ∈ l := by
  intro l
  induction l using snoc_ind with
  | h0 => intro x; exact Iff.rfl
  | h1 l y ih =>
    intro x
    rw [uniq_snoc]
    by_cases h : y ∈ uniq l
    · rw [if_pos h, ih x, List.mem_append, List.mem_singleton]
      constructor
      · exact .inl
      · rintro (z | rfl)
        · exact z
        · exact (ih _).mp h
    · rw [if_neg h, List.mem_append, List.mem_append, ih x]
theorem uniq_nodup : ∀ l : List α, (uniq l).Nodup := by
  intro l
  induction l using snoc_ind with
  | h0 => exact List.nodup_nil
  | h1 l y ih =>
    rw [uniq_snoc]
    by_cases h : y ∈ uniq l
    · rw [if_pos h]; exact ih
    · rw [if_neg h, List.nodup_append]
      refine ⟨ih, by simp, fun a ha b hb => ?_⟩
      rw [List.mem_singleton.mp hb]
      exact fun e => h (e ▸ ha)
theorem uniq_map {f : α → β} : ∀ l : List α, (∀ x ∈ l, ∀ y ∈ l, f x = f y → x = y) → uniq (l.map f) = (uniq l).map f := by
  intro l
  induction l using snoc_ind with
  | h0 => intro _; rfl
  | h1 l y ih =>
    intro inj
    have ih := ih fun a ha b hb => inj a (List.mem_append.mpr (.inl ha)) b (List.mem_append.mpr (.inl hb))
    rw [List.map_append, List.map_cons, List.map_nil, uniq_snoc, uniq_snoc, ih]
    by_cases h : y ∈ uniq l
    · rw [if_pos h, if_pos (List.mem_map.mpr ⟨y, h, rfl⟩)]
    · rw [if_neg h, if_neg, List.map_append]
      · rfl
      · intro z
        obtain ⟨x, hx, e⟩ := List.mem_map.mp z
        have xl := (mem_uniq l x).mp hx
        have := inj x (List.mem_append.mpr (.inl xl)) y (List.mem_append.mpr (.inr (List.mem_singleton.mpr rfl))) e
        exact h (this ▸ hx)
theorem uniq_pre (l : List α) : ∀ m : List α, ∃ t, uniq (l ++ m) = uniq l ++ t := by
  intro m
  induction m using snoc_ind with
  | h0 => exact ⟨[], by rw [List.append_nil, List.append_nil]⟩
  | h1 m y ih =>
    obtain ⟨t, e⟩ := ih
    rw [← List.append_assoc, uniq_snoc]
    by_cases h : y ∈ uniq (l ++ m)
    · rw [if_pos h]; exact ⟨t, e⟩
    · rw [if_neg h, e]; exact ⟨t ++ [y], by rw [List.append_assoc]⟩
theorem uniq_len (l : List α) : (uniq l).length ≤ l.length := by
  induction l using snoc_ind with
  | h0 => exact Nat.le_refl _
  | h1 l y ih =>
    rw [uniq_snoc]
    split
    · rw [List.length_append]; omega
    · rw [List.length_append, List.length_append]; show _ + 1 ≤ _ + 1; omega
/-- each is one of those ahead, or the number of different ones ahead -/
def Canon (l : List Nat) : Prop := ∀ i x, l[i]? = some x → x ∈ l.take i ∨ x = (uniq (l.take i)).length
/-- numbers for the marks ks -/
structure NumOf (ks : List α) (l : List Nat) : Prop where
  len : l.length = ks.length
  canon : Canon l
  same : ∀ i j, i < ks.length → j < ks.length → (l[i]? = l[j]? ↔ ks[i]? = ks[j]?)
theorem idx_inj2 {l : List α} {a b : α} (ha : a ∈ l) (hb : b ∈ l) (h : l.idxOf a = l.idxOf b) : a = b := by
  have e1 := List.getElem_idxOf (List.idxOf_lt_length_of_mem ha)
  have e2 := List.getElem_idxOf (List.idxOf_lt_length_of_mem hb)
  rw [← e1, ← e2]
  congr 1
theorem idx_app {l : List α} {x : α} (m : List α) (h : x ∉ l) : (l ++ m).idxOf x = l.length + m.idxOf x := by
  induction l with
  | nil => rw [List.nil_append]; exact (Nat.zero_add _).symm
  | cons y l ih =>
    have h1 : y ≠ x := fun e => h (e ▸ List.mem_cons_self ..)
    have h2 : x ∉ l := fun e => h (List.mem_cons_of_mem _ e)
    rw [List.cons_append, List.idxOf_cons, List.length_cons, ih h2]
    rw [show (y == x) = false from beq_eq_false_iff_ne.mpr h1]
    show _ + 1 = _
    omega
theorem num_of (ks : List α) : NumOf ks (ks.map fun k => (uniq ks).idxOf k) := by
  have inj : ∀ x ∈ ks, ∀ y ∈ ks, (uniq ks).idxOf x = (uniq ks).idxOf y → x = y := fun x hx y hy e => idx_inj2 ((mem_uniq ks x).mpr hx) ((mem_uniq ks y).mpr hy) e
  refine ⟨List.length_map .., fun i x hx => ?_, fun i j hi hj => ?_⟩
  · rw [List.getElem?_map] at hx
    cases hk : ks[i]? with
    | none => rw [hk] at hx; cases hx
    | some k =>
      rw [hk] at hx
      obtain rfl : (uniq ks).idxOf k = x := Option.some.inj hx
      rw [← List.map_take]
      by_cases m : k ∈ ks.take i
      · exact .inl (List.mem_map.mpr ⟨k, m, rfl⟩)
      · right
        have il := (List.getElem?_eq_some_iff.mp hk).1
        rw [uniq_map _ fun a ha b hb => inj a (List.mem_of_mem_take ha) b (List.mem_of_mem_take hb), List.length_map]
        have e1 : ks.take (i + 1) = ks.take i ++ [k] := by rw [List.take_add_one, hk]; rfl
        obtain ⟨t, e2⟩ := uniq_pre (ks.take (i + 1)) (ks.drop (i + 1))
        rw [List.take_append_drop, e1, uniq_snoc, if_neg (fun z => m ((mem_uniq _ _).mp z))] at e2
        rw [e2, List.append_assoc, idx_app _ (fun z => m ((mem_uniq _ _).mp z)), List.singleton_append, List.idxOf_cons_self, Nat.add_zero]
  · rw [List.getElem?_map, List.getElem?_map, List.getElem?_eq_getElem hi, List.getElem?_eq_getElem hj]
    constructor
    · intro e
      exact congrArg some (inj _ (List.getElem_mem hi) _ (List.getElem_mem hj) (Option.some.inj e))
    · intro e
      rw [Option.some.inj e]
/-- lists of such numbers that part alike are the same -/
theorem canon_eq {l m : List Nat} (len : l.length = m.length) (cl : Canon l) (cm : Canon m) (same : ∀ i j, i < l.length → j < l.length → (l[i]? = l[j]? ↔ m[i]? = m[j]?)) : l = m := by
  have : ∀ i, i ≤ l.length → l.take i = m.take i := by
    intro i
    induction i with
    | zero => intro _; rw [List.take_zero, List.take_zero]
    | succ i ih =>
      intro hi
      have ih := ih (by omega)
      have hl : l[i]? = some l[i] := List.getElem?_eq_getElem (by omega)
      have hm : m[i]? = some (m[i]'(by omega)) := List.getElem?_eq_getElem (by omega)
      have mem : ∀ {t : List Nat} {x : Nat}, x ∈ t.take i → i ≤ t.length → ∃ j, j < i ∧ t[j]? = some x := fun {t x} h ht => by
        obtain ⟨j, hj, e⟩ := List.getElem_of_mem h
        rw [List.length_take] at hj
        rw [List.getElem_take] at e
        exact ⟨j, by omega, by rw [← e]; exact List.getElem?_eq_getElem (by omega)⟩
      have atp : ∀ {j}, j < i → l[j]? = m[j]? := fun {j} hj => by
        have e := congrArg (fun t : List Nat => t[j]?) ih
        simp only [List.getElem?_take, if_pos hj] at e
        exact e
      have e : l[i] = m[i]'(by omega) := by
        rcases cl i _ hl with a | a
        · obtain ⟨j, hj, ej⟩ := mem a (by omega)
          have q := (same i j (by omega) (by omega)).mp (by rw [hl, ej])
          rw [hm, ← atp hj, ej] at q
          exact (Option.some.inj q).symm
        · rcases cm i _ hm with b | b
          · obtain ⟨j, hj, ej⟩ := mem b (by omega)
            have q := (same i j (by omega) (by omega)).mpr (by rw [hm, ej])
            rw [hl, atp hj, ej] at q
            exact Option.some.inj q
          · rw [a, b, ih]
      rw [List.take_add_one, List.take_add_one, ih, hl, hm, e]
  have h := this l.length (Nat.le_refl _)
  rw [List.take_length, len, List.take_length] at h
  exact h
end
/-! ### hands alike -/
def comingN (bs : List BR) (k : Nat) : List Nat := (List.range bs.length).filter fun i => decide (bs[i]?.map BR.to = some k)
def comeB (bs : List BR) (k : Nat) : List BR := bs.filter fun b => decide (b.to = k)
def isDoor (h : HR) : Bool := decide (h.wd = "in") || decide (h.wd = "out")
/-- what a door is alike: itself; any other hand: one with the same rule -/
def SameFirst (hs : List HR) (i j : Nat) : Prop := i = j ∨ ∃ g h, hs[i]? = some g ∧ hs[j]? = some h ∧ g.wd = h.wd ∧ g.no = h.no ∧ isDoor g = false
/-- those who could be one -/
structure Bis (hs : List HR) (bs : List BR) (R : Nat → Nat → Prop) : Prop where
  first : ∀ i j, R i j → i < hs.length → j < hs.length → SameFirst hs i j
  come : ∀ i j, R i j → i < hs.length → j < hs.length → All2 (fun b c : BR => b.th = c.th ∧ R b.one c.one) (comeB bs i) (comeB bs j)
def AlikeH (hs : List HR) (bs : List BR) (i j : Nat) : Prop := ∃ R, Bis hs bs R ∧ R i j
/-- the kinds of a room -/
structure KindsOf (hs : List HR) (bs : List BR) (t : List Nat) : Prop where
  len : t.length = hs.length
  canon : Canon t
  same : ∀ i j, i < hs.length → j < hs.length → (t[i]? = t[j]? ↔ AlikeH hs bs i j)
theorem KindsOf.one {hs : List HR} {bs : List BR} {t u : List Nat} (a : KindsOf hs bs t) (b : KindsOf hs bs u) : t = u :=
  canon_eq (by rw [a.len, b.len]) a.canon b.canon fun i j hi hj => (a.same i j (by rw [← a.len]; exact hi) (by rw [← a.len]; exact hj)).trans (b.same i j (by rw [← a.len]; exact hi) (by rw [← a.len]; exact hj)).symm
section
variable {P : Program} {w : World} {K : PySem.W.Frag} {mg : Str → Option Value} {base : Heap}
theorem filt_succ {p : Nat → Bool} (i : Nat) : (List.range (i + 1)).filter p = (List.range i).filter p ++ (if p i = true then [i] else []) := by
  rw [List.range_succ, List.filter_append]
  cases h : p i <;> simp [h]
theorem filt_len {p : Nat → Bool} (i : Nat) : ((List.range i).filter p).length ≤ i := by
  refine Nat.le_trans (List.length_filter_le ..) ?_
  rw [List.length_range]
  exact Nat.le_refl _
def sp_comings (K : PySem.W.Frag) : Sp := fun vs H Q _ => ∃ (r : Addr) (hs : List HR) (bs : List BR) (k : Nat), vs = [.ref r, nV k] ∧ RoomAt H r hs bs ∧ bs.length ≤ 400 ∧ ∀ (p : Addr) (H' : Hp), H p = none → H' p = some (.lst ((comingN bs k).map nV)) → Same H H' → Q (.ref p) H'
theorem ok_comings {f : Addr} {fd : FuncData} (F : Fun K "comings" "comings" s_comings f fd) (T : Top K mg) : FnOk P w K mg base CX0 1 f fd ["room", "hand"] (sp_comings K) := by
  refine F.ok sc_comings (fun vs H Q E h => ?_) (fun cdv A outer s H vs Q E hr h => ?_)
  · obtain ⟨r, hs, bs, k, rfl, _⟩ := h
    rfl
  obtain ⟨r, hs, bs, k, rfl, hR, lb, q⟩ := h
  obtain ⟨ha, ba, hv, bv, er, eh, eb, alh, alb⟩ := hR.ex
  have lbv := alb.length
  refine ⟨_, (pss_one (ps_ret (pe_lc (own := [("number", 2), ("belt", 3)]) (g := gTup K 2 (gCons (gName 2) (gCons (gName 3) gNil))) (by rfl) sc_comings.nd (pi_enumT K rfl (by rfl) T.m_enumerate (pa_cons (pe_ix (ix_tupK K rfl) (pv 0) pe_int (fun _ _ => rfl)) pa_nil)) (blkOk_by (own := [("number", 2), ("belt", 3)]) (N := N_comings) (sc := defScope s_comings) (by decide +kernel)) (fun _ _ _ _ _ => (pg_tupK K rfl rfl (pgs_cons (pg_name (i := 2) sc_comings.nd rfl (Or.inl rfl)) (pgs_cons (pg_name (i := 3) sc_comings.nd rfl (Or.inl rfl)) pgs_nil)))) (fun _ _ _ _ _ => pts_one (pt_cmpR op_eq (pe_ix (ix_tupK K rfl) (pv 3) pe_int (fun _ _ => rfl)) (pv 1) (nomark _))) (fun _ _ _ _ _ => (pv 2))))), ?_⟩
  refine ⟨_, rfl, r, _, _, _, rfl, rfl, SqT.of er, atI_nat (j := 1) rfl, ba, bv, rfl, SqT.of eb, fun D nD => lc_it (J := IteT K ba bv) (n := bv.length) (fun i H5 => H5 D = some (.lst (((List.range i).filter fun j => decide (bs[j]?.map BR.to = some k)).map nV)) ∧ Same H H5) ⟨upd_same, same_new nD⟩ ?_ ?_ ?_ ?_⟩
  · rintro i H5 hi ⟨hD, s5⟩
    exact ⟨SqT.of (s5 _ _ eb), hi⟩
  · rintro H5 ⟨hD, s5⟩
    exact ⟨SqT.of (s5 _ _ eb), rfl⟩
  · rintro i x H5 H6 hi ⟨hD, s5⟩ ⟨t, y, rfl, nt, rfl, ey⟩
    obtain ⟨b, eb2, ⟨t2, g, rfl, e1, e2⟩⟩ := alb.getL ey
    have s6 := s5.trans (same_new (o := .tup [V.int ((i : Nat) : Int), V.ref t2]) nt)
    have hD6 := same_new (o := .tup [V.int ((i : Nat) : Int), V.ref t2]) nt _ _ hD
    have few := filt_len (p := fun j => decide (bs[j]?.map BR.to = some k)) i
    refine ⟨t, _, rfl, SqT.of upd_same, rfl, _, _, rfl, _, _, rfl, rfl, rfl, _, rfl, t2, _, _, _, rfl, rfl, SqT.of (s6 _ _ e1), atI_nat (j := 1) rfl, _, rfl, rfl, _, rfl, if_bl (fun c => ?_) (fun c => ?_)⟩
    · have c : b.to = k := by have := V.int.inj (of_decide_eq_true c); omega
      refine ⟨_, rfl, _, hD6, by rw [List.length_map]; exact small1000 (by omega), ?_, Same.own s6 nD⟩
      rw [upd_same, filt_succ, if_pos (decide_eq_true (by rw [eb2, ← c]; rfl)), List.map_append]
      rfl
    · have c : ¬ b.to = k := fun z => of_decide_eq_false c (by rw [z])
      refine ⟨?_, s6⟩
      rw [filt_succ, if_neg fun z => c (by have := of_decide_eq_true z; rw [eb2] at this; exact Option.some.inj this), List.append_nil]
      exact hD6
  · rintro H5 ⟨hD, s5⟩
    refine q D H5 nD ?_ s5
    rw [hD, lbv]
    rfl
end
/-- a tuple known to its object, which has no names of its own -/
theorem SqT.fz {K : PySem.W.Frag} {H : Hp} {a : Addr} {o : Obj} {xs : List V} (h : H a = some (.frz o (.tup xs))) : SqT K H a xs := .inl (.inr ⟨o, h⟩)
def rTupOfF (K : PySem.W.Frag) : List V → Hp → VK → Prop := fun xs H Q => ∃ p ys, xs = [.ref p] ∧ SqL K H p ys ∧ ∀ l ob, ob.dict = none → H l = none → Q (.ref l) (upd H l (.frz ob (.tup ys)))
theorem call_tuple_ofF {X : Cx} (K : PySem.W.Frag) (same : X.K = K) : CallR X (.type "tuple") (rTupOfF K) := by
  subst same
  intro pins s σ H xs us Q I r h
  obtain ⟨p, ys, ex, sq, q⟩ := h
  subst ex
  obtain ⟨_, rfl, rx⟩ := vals1 r
  cases rx
  obtain ⟨its, rv, pl, few⟩ := I.list sq
  have len := rv.length
  refine call_tuple_list pl.isList (fun h' kp => ?_) (by simp only [List.size_toArray] <;> omega)
  have J : Inv X pins σ H { s with heap := h' } := I.kept (t' := s.toks) kp
  have at_ : (h'.push { cls := .type "tuple", data := .seq its.toArray }).get? h'.objs.size = some { cls := .type "tuple", data := .seq its.toArray } := Heap.get?_push_size _ rfl
  refine ⟨.ref h'.objs.size, _, J.laid (o := .frz { cls := .type "tuple", data := .seq its.toArray } (.tup ys)) (t' := s.toks) (fun b o e => Heap.get?_push_of_some _ e) (Nat.le_refl _) ⟨at_, few, its, rv, IsTup.new _ _⟩, rfl, q _ _ rfl (J.hok.fresh (Nat.le_refl _))⟩
/-! ### numbered -/
section
variable {P : Program} {w : World} {K : PySem.W.Frag} {mg : Str → Option Value} {base : Heap}
theorem nk_idx : ∀ {kas : List (NestedKey × Addr × Int)} {c : Nat} {k : NestedKey}, (∀ (q : Nat) e, kas[q]? = some e → e.2.2 = (((c + q : Nat) : Nat) : Int)) → k ∈ kas.map (·.1) → nkAt kas k = some (((c + (kas.map (·.1)).idxOf k : Nat) : Nat) : Int) := by
  intro kas
  induction kas with
  | nil => intro c k _ h; cases h
  | cons e r ih =>
    intro c k num h
    unfold nkAt
    rw [List.find?_cons, List.map_cons, List.idxOf_cons]
    by_cases z : e.1 = k
    · rw [decide_eq_true z, show (e.1 == k) = true from beq_iff_eq.mpr z]
      have := num 0 e rfl
      show some e.2.2 = some (((c + 0 : Nat) : Nat) : Int)
      rw [this]
    · rw [decide_eq_false z, show (e.1 == k) = false from beq_eq_false_iff_ne.mpr z]
      rw [List.map_cons] at h
      have h2 : k ∈ r.map (·.1) := by
        rcases List.mem_cons.mp h with q | q
        · exact absurd q.symm z
        · exact q
      have := ih (c := c + 1) (k := k) (fun q e' hq => by rw [num (q + 1) e' hq]; congr 1; omega) h2
      unfold nkAt at this
      show (r.find? fun q => decide (q.1 = k)).map (fun q => q.2.2) = some (((c + ((r.map (·.1)).idxOf k + 1) : Nat) : Nat) : Int)
      rw [this]
      congr 2
      omega
theorem nk_no {kas : List (NestedKey × Addr × Int)} {k : NestedKey} (h : k ∉ kas.map (·.1)) : nkAt kas k = none := by
  unfold nkAt
  rw [List.find?_eq_none.mpr]
  · rfl
  · intro e he z
    exact h (List.mem_map.mpr ⟨e, he, of_decide_eq_true z⟩)
/-- the marks of a list -/
def MarkAt (H : Hp) (v : V) (k : NestedKey) : Prop := ∃ a : Addr, v = .ref a ∧ NkV H k (.ref a) ∧ k.depth ≤ 8
theorem MarkAt.keep {H H' : Hp} {v : V} {k : NestedKey} (m : MarkAt H v k) (kp : TK H H') : MarkAt H' v k := by
  obtain ⟨a, e, n, d⟩ := m
  exact ⟨a, e, n.keep kp, d⟩
def sp_numbered (K : PySem.W.Frag) : Sp := fun vs H Q _ => ∃ (ml : Addr) (mv : List V) (ks : List NestedKey), vs = [.ref ml] ∧ H ml = some (.lst mv) ∧ All2 (MarkAt H) mv ks ∧ ks.length ≤ 1000 ∧
  ∀ (p : Addr) (ob : Obj) (l : List Nat) (H' : Hp), ob.dict = none → NumOf ks l → H p = none → H' p = some (.frz ob (.tup (l.map nV))) → Same H H' → Q (.ref p) H'
theorem ok_numbered {f : Addr} {fd : FuncData} (F : Fun K "numbered" "numbered" s_numbered f fd) (T : Top K mg) : FnOk P w K mg base CX0 1 f fd ["marks"] (sp_numbered K) := by
  refine F.ok sc_numbered (fun vs H Q E h => ?_) (fun cdv A outer s H vs Q E hr h => ?_)
  · obtain ⟨ml, mv, ks, rfl, _⟩ := h
    rfl
  obtain ⟨ml, mv, ks, rfl, hml, al, lk, q⟩ := h
  have lmv := al.length
  refine ⟨_, (pss_cons (ps_set (i := 1) sc_numbered.nd rfl (Or.inr rfl) (pe_nknew P w rfl rfl))
      (pss_cons (ps_for PassesOwn.never rfl (pi_listK K rfl (pv 0)) (pg_name (i := 2) sc_numbered.nd rfl (Or.inl rfl))
        (pss_one (ps_if (pt_cmp (pc_nkout P w rfl rfl (hu65 hr) (pv 2) (pv 1)) (by with_unfolding_all rfl)) (pss_one (ps_nkput P w rfl rfl (hu65 hr) (pv 1) (pv 2) (pe_callB (call_lenNk P w rfl rfl) (by rfl) T.m_len (by decide +kernel) (pa_cons (pv 1) pa_nil)) (by rfl))) pss_nil)))
      (pss_one (ps_ret (pe_callTy (call_tuple_ofF K rfl) (by rfl) T.m_tuple (by decide +kernel) (pa_cons (pe_lc (own := [("mark", 2)]) (g := gName 2) (tt := tYes) (by rfl) sc_numbered.nd (pi_listK K rfl (pv 0)) (blkOk_by (own := [("mark", 2)]) (N := N_numbered) (sc := defScope s_numbered) (by decide +kernel)) (fun _ _ _ _ _ => (pg_name (i := 2) sc_numbered.nd rfl (Or.inl rfl))) (fun _ _ _ _ _ => pts_nil) (fun _ _ _ _ _ => (pe_nkget P w rfl rfl (hu65 hr) (pv 1) (pv 2) (fun _ _ => rfl)))) pa_nil)))))), ?_⟩
  refine fun d nd D0 => ?_
  refine ⟨_, rfl, ml, rfl, ⟨_, SqL.of (same_new nd _ _ hml)⟩, for_list (K := K) (a := ml) (xs := mv) (fun i σ H5 => ∃ (x : Option V) (kas : List (NestedKey × Addr × Int)), σ = [some (.ref ml), some (.ref d), x] ∧ NkD P w H5 d kas ∧ kas.map (·.1) = uniq (ks.take i) ∧ (∀ (q : Nat) e, kas[q]? = some e → e.2.2 = (((0 + q : Nat) : Nat) : Int)) ∧ Same H H5) ⟨_, [], rfl, D0, rfl, (fun _ _ z => by cases z), same_new nd⟩ (fun i σ H5 _ ⟨_, _, _, _, _, _, s⟩ => SqL.of (s _ _ hml)) ?_ ?_⟩
  · rintro i v σ H5 hx ⟨x, kas, rfl, D5, ek, num, s5⟩
    obtain ⟨k, hk, a, rfl, kv, dp⟩ := al.getL hx
    have kv5 := kv.keep (TK.same s5)
    have e1 : ks.take (i + 1) = ks.take i ++ [k] := by rw [List.take_add_one, hk]; rfl
    have lkas : kas.length ≤ 1000 := by
      have h1 := congrArg List.length ek
      rw [List.length_map] at h1
      have h2 := uniq_len (ks.take i)
      rw [List.length_take] at h2
      omega
    refine ⟨_, rfl, _, rfl, d, a, kas, k, rfl, rfl, D5, kv5, dp, _, rfl, if_bl (fun c => ?_) (fun c => ?_)⟩
    · have nk : k ∉ kas.map (·.1) := fun z => by
        rw [nk_idx num z] at c
        cases c
      have nk0 := nk_no nk
      refine ⟨_, rfl, d, kas, rfl, D5, _, rfl, _, rfl, d, a, kas, k, _, rfl, rfl, rfl, D5, kv5, dp, nk0, small1000 (by omega), fun D6 => ?_⟩
      refine ⟨_, kas ++ [(k, a, ((kas.length : Nat) : Int))], rfl, D6, ?_, fun q e he => ?_, Same.own s5 nd⟩
      · rw [List.map_append, e1, uniq_snoc, if_neg (by rw [← ek]; exact nk), ek]
        rfl
      · by_cases hq : q < kas.length
        · rw [List.getElem?_append_left hq] at he
          exact num q e he
        · rw [List.getElem?_append_right (by omega)] at he
          have : q - kas.length = 0 := by
            cases hz : q - kas.length with
            | zero => rfl
            | succ z => rw [hz] at he; cases he
          rw [this] at he
          have he : (k, a, ((kas.length : Nat) : Int)) = e := Option.some.inj he
          rw [← he]
          show ((kas.length : Nat) : Int) = _
          congr 1
          omega
    · have yk : k ∈ kas.map (·.1) := Classical.byContradiction fun z => by
        rw [nk_no z] at c
        cases c
      exact ⟨_, kas, rfl, D5, by rw [e1, uniq_snoc, if_pos (by rw [← ek]; exact yk), ek], num, s5⟩
  · rintro σ H5 ⟨x, kas, rfl, D5, ek, num, s5⟩
    rw [lmv, List.take_length] at ek
    have no := num_of ks
    have lp : (ks.map fun k => (uniq ks).idxOf k).length = ks.length := List.length_map ..
    refine ⟨_, rfl, ml, rfl, ⟨_, SqL.of (s5 _ _ hml)⟩, fun D nD => lc_list (K := K) (a := ml) (xs := mv) (fun i H6 => H6 D = some (.lst (((ks.take i).map fun k => (uniq ks).idxOf k).map nV)) ∧ Same H5 H6) ⟨upd_same, same_new nD⟩ (fun i H6 _ ⟨_, s6⟩ => SqL.of (s6 _ _ (s5 _ _ hml))) ?_ ?_⟩
    · rintro i v H6 hx ⟨hD, s6⟩
      obtain ⟨k, hk, a, rfl, kv, dp⟩ := al.getL hx
      have kv6 := (kv.keep (TK.same s5)).keep (TK.same s6)
      have yk : k ∈ kas.map (·.1) := by rw [ek]; exact (mem_uniq ks k).mpr (List.mem_of_getElem? hk)
      have at_ := nk_idx num yk
      rw [Nat.zero_add, ek] at at_
      refine ⟨rfl, yes_in ⟨_, rfl, _, rfl, d, a, kas, k, _, rfl, rfl, D5.same s6, kv6, dp, at_, _, hD, ?_, ?_, Same.own s6 nD⟩⟩
      · rw [List.length_map, List.length_map, List.length_take]; exact small1000 (by omega)
      · rw [upd_same, List.take_add_one, hk, List.map_append, List.map_append]
        rfl
    · rintro H6 ⟨hD, s6⟩
      rw [lmv, List.take_length] at hD
      refine ⟨D, _, rfl, SqL.of hD, fun p ob od np => ?_⟩
      exact q p ob _ _ od no (same_none s5 (same_none s6 np)) upd_same fun b o e => same_new np _ _ (s6 _ _ (s5 _ _ e))
end
/-! ### marks -/
def ruleK (h : HR) : NestedKey := .tup (.text h.wd :: (match h.no with | none => [] | some n => [.num n]))
def mark1 (k : Nat) (h : HR) : NestedKey := if isDoor h then .tup [ruleK h, .num (k : Nat)] else .tup [ruleK h]
def thK (b : BR) : NestedKey := .tup (b.th.map .num)
def mark2 (t : List Nat) (bs : List BR) (k : Nat) : NestedKey := .tup [.num ((t.getD k 0 : Nat) : Int), .tup ((comeB bs k).map fun b => .tup [.num ((t.getD b.one 0 : Nat) : Int), thK b])]
theorem ruleK_at {H : Hp} {r : Addr} {h : HR} (e : H r = some (.tup (ruleL h))) : NkV H (ruleK h) (.ref r) := by
  obtain ⟨wd, no, mom⟩ := h
  cases no with
  | none => exact .tup e (.cons (.text _) .nil)
  | some n => exact .tup e (.cons (.text _) (.cons (.num _) .nil))
theorem nums_at {H : Hp} : ∀ l : List Int, NkL H (l.map .num) (l.map V.int)
  | [] => .nil
  | _ :: r => .cons (.num _) (nums_at r)
theorem ruleK_depth (h : HR) : (ruleK h).depth ≤ 1 := by
  obtain ⟨wd, no, mom⟩ := h
  cases no <;> simp [ruleK, NestedKey.depth, NestedKey.depthAll]
theorem depth_nums : ∀ l : List Int, NestedKey.depthAll (l.map .num) = 0
  | [] => rfl
  | _ :: r => by rw [List.map_cons, NestedKey.depthAll, depth_nums r]; rfl
theorem mark1_depth (k : Nat) (h : HR) : (mark1 k h).depth ≤ 8 := by
  have := ruleK_depth h
  unfold mark1
  split
  · simp only [NestedKey.depth, NestedKey.depthAll]; omega
  · simp only [NestedKey.depth, NestedKey.depthAll]; omega
theorem mark2_depth (t : List Nat) (bs : List BR) (k : Nat) : (mark2 t bs k).depth ≤ 8 := by
  have : ∀ l : List BR, NestedKey.depthAll (l.map fun b => NestedKey.tup [.num ((t.getD b.one 0 : Nat) : Int), thK b]) ≤ 2 := by
    intro l
    induction l with
    | nil => exact Nat.zero_le _
    | cons b r ih =>
      rw [List.map_cons, NestedKey.depthAll]
      have h1 : (thK b).depth = 1 := by unfold thK; rw [NestedKey.depth, depth_nums]
      simp only [NestedKey.depth, NestedKey.depthAll, h1] at ih ⊢
      omega
  have := this (comeB bs k)
  unfold mark2
  simp only [NestedKey.depth, NestedKey.depthAll] at this ⊢
  omega
theorem ruleK_inj {g h : HR} : ruleK g = ruleK h ↔ g.wd = h.wd ∧ g.no = h.no := by
  obtain ⟨wd, no, mom⟩ := g
  obtain ⟨wd2, no2, mom2⟩ := h
  cases no <;> cases no2 <;> simp [ruleK]
theorem come_list (bs : List BR) (k : Nat) : All2 (fun i b => bs[i]? = some b) (comingN bs k) (comeB bs k) := by
  induction bs using snoc_ind with
  | h0 => exact .nil
  | h1 l b ih =>
    have e1 : comingN (l ++ [b]) k = comingN l k ++ (if b.to = k then [l.length] else []) := by
      unfold comingN
      rw [List.length_append, show l.length + [b].length = l.length + 1 from rfl, filt_succ]
      congr 1
      · refine List.filter_congr fun i hi => ?_
        rw [List.getElem?_append_left (List.mem_range.mp hi)]
      · rw [List.getElem?_append_right (Nat.le_refl _), Nat.sub_self]
        by_cases h : b.to = k
        · rw [if_pos h, if_pos (decide_eq_true (by rw [← h]; rfl))]
        · rw [if_neg h, if_neg]
          intro z
          exact h (Option.some.inj (of_decide_eq_true z))
    have e2 : comeB (l ++ [b]) k = comeB l k ++ (if b.to = k then [b] else []) := by
      unfold comeB
      rw [List.filter_append]
      congr 1
      by_cases h : b.to = k
      · rw [if_pos h]; simp [h]
      · rw [if_neg h]; simp [h]
    have ih2 : All2 (fun i c => (l ++ [b])[i]? = some c) (comingN l k) (comeB l k) := ih.imp fun i c e => by
      rw [List.getElem?_append_left (List.getElem?_eq_some_iff.mp e).1]; exact e
    rw [e1, e2]
    by_cases h : b.to = k
    · rw [if_pos h, if_pos h]
      refine ih2.snoc ?_
      rw [List.getElem?_append_right (Nat.le_refl _), Nat.sub_self]
      rfl
    · rw [if_neg h, if_neg h, List.append_nil, List.append_nil]
      exact ih2
theorem NkL.snoc {H : Hp} {k : NestedKey} {x : V} : ∀ {ks : List NestedKey} {xs : List V}, NkL H ks xs → NkV H k x → NkL H (ks ++ [k]) (xs ++ [x])
  | _, _, .nil, h => .cons h .nil
  | _, _, .cons a b, h => .cons a (NkL.snoc b h)
section
variable {P : Program} {w : World} {K : PySem.W.Frag} {mg : Str → Option Value} {base : Heap}
def sp_first_mark (K : PySem.W.Frag) : Sp := fun vs H Q _ => ∃ (r : Addr) (h : HR) (k : Nat), vs = [.ref r, nV k] ∧ H r = some (.tup (ruleL h)) ∧ GoodHand h ∧ ∀ (p : Addr) (H' : Hp), NkV H' (mark1 k h) (.ref p) → Same H H' → Q (.ref p) H'
theorem ok_first_mark {f : Addr} {fd : FuncData} (F : Fun K "first_mark" "first_mark" s_first_mark f fd) (T : Top K mg) : FnOk P w K mg base CX0 1 f fd ["rule", "hand"] (sp_first_mark K) := by
  refine F.ok sc_first_mark (fun vs H Q E h => ?_) (fun cdv A outer s H vs Q E hr h => ?_)
  · obtain ⟨r, h, k, rfl, _⟩ := h
    rfl
  obtain ⟨r, h, k, rfl, hr0, gh, q⟩ := h
  obtain ⟨aI, mI, hI⟩ := T.x_in
  obtain ⟨aO, mO, hO⟩ := T.x_out
  refine ⟨_, (pss_one (ps_ret (pe_ifExp (pt_cmpR (op_inDTK K rfl (hu65 hr)) (pv 0) (pe_tup (pa_cons (pe_glob (v := .ref aI) (by rfl) mI rfl) (pa_cons (pe_glob (v := .ref aO) (by rfl) mO rfl) pa_nil))) (by with_unfolding_all rfl)) (pe_tup (pa_cons (pv 0) (pa_cons (pv 1) pa_nil))) (pe_tup (pa_cons (pv 0) pa_nil))))), ?_⟩
  refine ⟨_, rfl, (by show 2 ≤ sizeLine; decide), fun t nt => ?_⟩
  have s1 := same_new (o := .tup [V.ref aI, V.ref aO]) nt
  refine ⟨.tuple (ruleD h), [.tuple [.str "in"], .tuple [.str "out"]], rule_dp (s1 _ _ hr0), .tup (SqT.of upd_same) (.cons (.tup (hI _) (.cons (.str _) .nil)) (.cons (.tup (hO _) (.cons (.str _) .nil)) .nil)), rule_shaped gh.lay, by decide +kernel, _, rfl, ?_⟩
  have val : ([PyData.tuple [.str "in"], .tuple [.str "out"]].any fun z => PyData.eqv z (.tuple (ruleD h))) = isDoor h := by
    rw [List.any_cons, List.any_cons, List.any_nil, Bool.or_false, one_eqv, one_eqv, gh.door "in" (.inl rfl), gh.door "out" (.inr rfl)]
    rfl
  rw [val]
  unfold mark1 at q
  refine if_bl (fun c => ?_) (fun c => ?_)
  · rw [if_pos c] at q
    refine ⟨_, rfl, _, rfl, (by show 2 ≤ sizeLine; decide), fun p np => ?_⟩
    have s2 := same_new (o := .tup [V.ref r, nV k]) np
    exact q p _ (.tup upd_same (.cons (ruleK_at (s2 _ _ (s1 _ _ hr0))) (.cons (.num _) .nil))) (fun b o e => s2 _ _ (s1 _ _ e))
  · rw [if_neg (by rw [c]; exact Bool.false_ne_true)] at q
    refine ⟨_, rfl, (by show 1 ≤ sizeLine; decide), fun p np => ?_⟩
    have s2 := same_new (o := .tup [V.ref r]) np
    exact q p _ (.tup upd_same (.cons (ruleK_at (s2 _ _ (s1 _ _ hr0))) .nil)) (fun b o e => s2 _ _ (s1 _ _ e))
def sp_mark_by (K : PySem.W.Frag) : Sp := fun vs H Q _ => ∃ (r tl : Addr) (hs : List HR) (bs : List BR) (t : List Nat) (k : Nat), vs = [.ref r, .ref tl, nV k] ∧ RoomAt H r hs bs ∧ (∀ b ∈ bs, b.one < t.length) ∧ bs.length ≤ 400 ∧ (∃ ob, H tl = some (.frz ob (.tup (t.map nV)))) ∧ k < t.length ∧
  ∀ (p : Addr) (H' : Hp), NkV H' (mark2 t bs k) (.ref p) → Same H H' → Q (.ref p) H'
theorem ok_mark_by {f : Addr} {fd : FuncData} (F : Fun K "mark_by" "mark_by" s_mark_by f fd) (T : Top K mg) : FnOk P w K mg base CX0 2 f fd ["room", "told", "hand"] (sp_mark_by K) := by
  obtain ⟨f_comings, fd_comings, F_comings, b_comings, m_comings⟩ := T.d_comings
  have G_comings := ok_comings (P := P) (w := w) (base := base) F_comings T
  refine F.ok sc_mark_by (fun vs H Q E h => ?_) (fun cdv A outer s H vs Q E hr h => ?_)
  · obtain ⟨r, tl, hs, bs, t, k, rfl, _⟩ := h
    rfl
  obtain ⟨r, tl, hs, bs, t, k, rfl, hR, ends, lb, ⟨ob, htl⟩, hk, q⟩ := h
  obtain ⟨ha, ba, hv, bv, er, eh, eb, alh, alb⟩ := hR.ex
  have lbv := alb.length
  refine ⟨_, (pss_cons (ps_setLc (i := 3) (own := [("number", 4)]) (g := gName 4) (tt := tYes) (by rfl) sc_mark_by.nd rfl rfl (sw_true rfl rfl rfl (by decide +kernel)) (pi_listK K rfl (pe_call G_comings (hr.mono (by decide)) (by rfl) m_comings F_comings.kp b_comings .nil pass0 (pa_cons (pv 0) (pa_cons (pv 2) pa_nil)))) (blkOk_by (own := [("number", 4)]) (N := N_mark_by) (sc := defScope s_mark_by) (by decide +kernel)) (fun _ _ _ _ _ => (pg_name (i := 4) sc_mark_by.nd rfl (Or.inl rfl))) (fun _ _ _ _ _ => pts_nil) (fun _ _ _ _ _ => (pe_ix (ix_tupK K rfl) (pe_ix (ix_tupK K rfl) (pv 0) pe_int (fun _ _ => rfl)) (pv 4) (fun _ _ => rfl))))
      (pss_one (ps_ret (pe_tup (pa_cons (pe_ix (ix_tupK K rfl) (pv 1) (pv 2) (fun _ _ => rfl)) (pa_cons (pe_callTy (call_tuple_ofK K rfl) (by rfl) T.m_tuple (by decide +kernel) (pa_cons (pe_lc (own := [("giver", 5), ("taker", 6), ("things", 7)]) (g := gTup K 3 (gCons (gName 5) (gCons (gName 6) (gCons (gName 7) gNil)))) (tt := tYes) (by rfl) sc_mark_by.nd (pi_listK K rfl (pv 3)) (blkOk_by (own := [("giver", 5), ("taker", 6), ("things", 7)]) (N := N_mark_by) (sc := defScope s_mark_by) (by decide +kernel)) (fun _ _ _ _ _ => (pg_tupK K rfl rfl (pgs_cons (pg_name (i := 5) sc_mark_by.nd rfl (Or.inl rfl)) (pgs_cons (pg_name (i := 6) sc_mark_by.nd rfl (Or.inl rfl)) (pgs_cons (pg_name (i := 7) sc_mark_by.nd rfl (Or.inl rfl)) pgs_nil))))) (fun _ _ _ _ _ => pts_nil) (fun _ _ _ _ _ => (pe_tup (pa_cons (pe_ix (ix_tupK K rfl) (pv 1) (pv 5) (fun _ _ => rfl)) (pa_cons (pv 7) pa_nil))))) pa_nil)) pa_nil)))))), ?_⟩
  refine ⟨_, rfl, _, rfl, r, hs, bs, k, rfl, hR, lb, fun c H1 nc hc s1 => ?_⟩
  have cl := come_list bs k
  have lc := cl.length
  have lc2 : (comeB bs k).length ≤ 400 := by unfold comeB; exact Nat.le_trans (List.length_filter_le ..) lb
  refine ⟨c, rfl, ⟨_, SqL.of hc⟩, fun D nD => lc_list (K := K) (a := c) (xs := (comingN bs k).map nV) (fun i H5 => ∃ vs : List V, H5 D = some (.lst vs) ∧ All2 (BeltAt H5) vs ((comeB bs k).take i) ∧ Same H1 H5) ⟨[], upd_same, .nil, same_new nD⟩ (fun i H5 _ ⟨_, _, _, s5⟩ => SqL.of (s5 _ _ hc)) ?_ ?_⟩
  · rintro i v H5 hx ⟨vs, hD, alv, s5⟩
    rw [List.getElem?_map] at hx
    cases hj : (comingN bs k)[i]? with
    | none => rw [hj] at hx; cases hx
    | some j =>
      rw [hj] at hx
      obtain rfl : nV j = v := Option.some.inj hx
      obtain ⟨b, eb1, eb2⟩ := cl.getL hj
      obtain ⟨x, ex, bx⟩ := alb.get eb2
      have s15 : Same H H5 := fun a o e => s5 _ _ (s1 _ _ e)
      have lv := alv.length
      rw [List.length_take] at lv
      refine ⟨rfl, yes_in ⟨_, rfl, r, _, _, _, rfl, rfl, SqT.of (s15 _ _ er), atI_nat (j := 1) rfl, _, rfl, ba, _, _, _, rfl, rfl, SqT.of (s15 _ _ eb), atI_nat ex, _, hD, small1000 (by omega), vs ++ [x], upd_same, ?_, Same.own s5 nD⟩⟩
      rw [List.take_add_one, eb1]
      exact ((alv.imp fun _ _ z => z.keep (TK.lst hD)).snoc ((bx.keep (TK.same s15)).keep (TK.lst hD)))
  rintro H5 ⟨vs, hD, alv, s5⟩
  rw [List.length_map, lc, List.take_length] at alv
  have s15 : Same H H5 := fun a o e => s5 _ _ (s1 _ _ e)
  have lv := alv.length
  have nat_at : ∀ {j : Nat}, j < t.length → (t.map nV)[j]? = some (nV (t.getD j 0)) := fun {j} h => by
    rw [List.getElem?_map, List.getElem?_eq_getElem h, List.getD_eq_getElem?_getD, List.getElem?_eq_getElem h]; rfl
  refine ⟨_, rfl, _, rfl, tl, _, _, _, rfl, rfl, SqT.fz (s15 _ _ htl), atI_nat (nat_at hk), ?_⟩
  refine ⟨_, rfl, D, rfl, ⟨_, SqL.of hD⟩, fun E nE => lc_list (K := K) (a := D) (xs := vs) (fun i H6 => ∃ us : List V, H6 E = some (.lst us) ∧ us.length = i ∧ NkL H6 (((comeB bs k).take i).map fun b => NestedKey.tup [.num ((t.getD b.one 0 : Nat) : Int), thK b]) us ∧ Same H5 H6) ⟨[], upd_same, rfl, .nil, same_new nE⟩ (fun i H6 _ ⟨_, _, _, _, s6⟩ => SqL.of (s6 _ _ hD)) ?_ ?_⟩
  · rintro i v H6 hx ⟨us, hE, lu, nk, s6⟩
    obtain ⟨b, eb1, tb, g, rfl, e1, e2⟩ := alv.getL hx
    have bm : b ∈ bs := (List.mem_filter.mp (List.mem_of_getElem? eb1)).1
    have s16 : Same H H6 := fun a o e => s6 _ _ (s15 _ _ e)
    have il := (List.getElem?_eq_some_iff.mp eb1).1
    refine ⟨tb, _, rfl, SqT.of (s6 _ _ e1), rfl, _, _, rfl, _, _, rfl, _, _, rfl, rfl, rfl, yes_in ⟨_, rfl, _, rfl, tl, _, _, _, rfl, rfl, SqT.fz (s16 _ _ htl), atI_nat (nat_at (ends b bm)), _, rfl, (by show 2 ≤ sizeLine; decide), fun p2 np2 => ?_⟩⟩
    have s7 := same_new (o := .tup [nV (t.getD b.one 0), V.ref g]) np2
    have hE7 := s7 _ _ hE
    refine ⟨_, hE7, small1000 (by omega), us ++ [.ref p2], upd_same, by rw [List.length_append, lu]; rfl, ?_, Same.own (fun a o e => s7 _ _ (s6 _ _ e)) nE⟩
    rw [List.take_add_one, eb1, List.map_append]
    refine NkL.snoc (NkL.keep ((TK.same s7).trans (TK.lst hE7)) nk) (.tup (TK.lst hE7 _ _ upd_same) (.cons (.num _) (.cons (.tup (TK.lst hE7 _ _ (s7 _ _ (s6 _ _ e2))) (nums_at _)) .nil)))
  · rintro H6 ⟨us, hE, lu, nk, s6⟩
    rw [lv, List.take_length] at nk
    refine ⟨E, _, rfl, .inl ⟨SqL.of hE, fun p3 np3 => ⟨(by show 2 ≤ sizeLine; decide), fun p np => ?_⟩⟩⟩
    have s7 := same_new (o := .tup us) np3
    have s8 := same_new (o := .tup [nV (t.getD k 0), V.ref p3]) np
    refine q p _ (.tup upd_same (.cons (.num _) (.cons (.tup (s8 _ _ upd_same) (NkL.keep ((TK.same s7).trans (TK.same s8)) nk)) .nil))) fun a o e => s8 _ _ (s7 _ _ (s6 _ _ (s15 _ _ e)))
end
/-! ### kinds -/
def m1 (hs : List HR) (k : Nat) : NestedKey := (hs[k]?.map (mark1 k)).getD .none
theorem getD_eq {t : List Nat} {i j : Nat} (hi : i < t.length) (hj : j < t.length) : t[i]? = t[j]? ↔ t.getD i 0 = t.getD j 0 := by
  rw [List.getD_eq_getElem?_getD, List.getD_eq_getElem?_getD, List.getElem?_eq_getElem hi, List.getElem?_eq_getElem hj]
  exact ⟨fun e => congrArg (Option.getD · 0) e, fun e => congrArg some e⟩
theorem m1_eq {hs : List HR} {i j : Nat} (hi : i < hs.length) (hj : j < hs.length) : m1 hs i = m1 hs j ↔ SameFirst hs i j := by
  unfold m1
  rw [List.getElem?_eq_getElem hi, List.getElem?_eq_getElem hj]
  show mark1 i hs[i] = mark1 j hs[j] ↔ _
  unfold mark1
  constructor
  · intro e
    by_cases d1 : isDoor hs[i] = true
    · rw [if_pos d1] at e
      by_cases d2 : isDoor hs[j] = true
      · rw [if_pos d2] at e
        left
        have z : ruleK hs[i] = ruleK hs[j] ∧ ((i : Nat) : Int) = (j : Nat) := by simpa using NestedKey.tup.inj e
        have := z.2
        omega
      · rw [if_neg d2] at e
        simp at e
    · rw [if_neg d1] at e
      by_cases d2 : isDoor hs[j] = true
      · rw [if_pos d2] at e
        simp at e
      · rw [if_neg d2] at e
        have e : ruleK hs[i] = ruleK hs[j] := by simpa using NestedKey.tup.inj e
        obtain ⟨e1, e2⟩ := ruleK_inj.mp e
        exact .inr ⟨_, _, List.getElem?_eq_getElem hi, List.getElem?_eq_getElem hj, e1, e2, by simpa using d1⟩
  · rintro (rfl | ⟨g, h, eg, eh, e1, e2, d⟩)
    · rfl
    · rw [List.getElem?_eq_getElem hi] at eg
      rw [List.getElem?_eq_getElem hj] at eh
      rw [Option.some.inj eg, Option.some.inj eh]
      have d2 : isDoor h = false := by unfold isDoor at d ⊢; rw [← e1]; exact d
      rw [d, d2, ruleK_inj.mpr ⟨e1, e2⟩]
      rfl
theorem ths_inj {b c : BR} : thK b = thK c ↔ b.th = c.th := by
  unfold thK
  constructor
  · intro e
    have e := NestedKey.tup.inj e
    have : ∀ l m : List Int, l.map NestedKey.num = m.map NestedKey.num → l = m := by
      intro l
      induction l with
      | nil => intro m h; cases m with
        | nil => rfl
        | cons y r => cases h
      | cons x r ih => intro m h; cases m with
        | nil => cases h
        | cons y s =>
          rw [List.map_cons, List.map_cons] at h
          obtain ⟨h1, h2⟩ := List.cons.inj h
          rw [NestedKey.num.inj h1, ih s h2]
    exact this _ _ e
  · intro e; rw [e]
theorem comes_eq (t : List Nat) : ∀ {l m : List BR}, (l.map fun b => NestedKey.tup [.num ((t.getD b.one 0 : Nat) : Int), thK b]) = (m.map fun b => NestedKey.tup [.num ((t.getD b.one 0 : Nat) : Int), thK b]) ↔ All2 (fun b c : BR => b.th = c.th ∧ t.getD b.one 0 = t.getD c.one 0) l m
  | [], [] => ⟨fun _ => .nil, fun _ => rfl⟩
  | [], _ :: _ => ⟨fun z => (by cases z), fun z => (by cases z)⟩
  | _ :: _, [] => ⟨fun z => (by cases z), fun z => (by cases z)⟩
  | b :: l, c :: m => by
    rw [List.map_cons, List.map_cons]
    constructor
    · intro z
      obtain ⟨z1, z2⟩ := List.cons.inj z
      have z1 := NestedKey.tup.inj z1
      obtain ⟨z3, z4⟩ := List.cons.inj z1
      have z5 := ths_inj.mp (List.cons.inj z4).1
      have z6 := NestedKey.num.inj z3
      exact .cons ⟨z5, by omega⟩ ((comes_eq t).mp z2)
    · intro z
      cases z with
      | cons r rest => rw [(comes_eq t).mpr rest, r.2, ths_inj.mpr r.1]
theorem mark2_eq (t : List Nat) (bs : List BR) (i j : Nat) : mark2 t bs i = mark2 t bs j ↔ t.getD i 0 = t.getD j 0 ∧ All2 (fun b c : BR => b.th = c.th ∧ t.getD b.one 0 = t.getD c.one 0) (comeB bs i) (comeB bs j) := by
  unfold mark2
  constructor
  · intro z
    have z := NestedKey.tup.inj z
    obtain ⟨z1, z2⟩ := List.cons.inj z
    have z3 := NestedKey.num.inj z1
    have z4 := NestedKey.tup.inj (List.cons.inj z2).1
    exact ⟨by omega, (comes_eq t).mp z4⟩
  · rintro ⟨a, b⟩
    rw [a, (comes_eq t).mpr b]
/-- a parting on the way: as coarse as can be, doors apart -/
structure Stage (hs : List HR) (bs : List BR) (t : List Nat) : Prop where
  len : t.length = hs.length
  canon : Canon t
  coarse : ∀ i j, i < hs.length → j < hs.length → AlikeH hs bs i j → t.getD i 0 = t.getD j 0
  first : ∀ i j, i < hs.length → j < hs.length → t.getD i 0 = t.getD j 0 → SameFirst hs i j
theorem All2.imp_mem {α β : Type} {R S : α → β → Prop} : ∀ {as : List α} {bs : List β}, All2 R as bs → (∀ a ∈ as, ∀ b ∈ bs, R a b → S a b) → All2 S as bs
  | _, _, .nil, _ => .nil
  | _, _, .cons r t, f => .cons (f _ (List.mem_cons_self ..) _ (List.mem_cons_self ..) r) (All2.imp_mem t fun a ha b hb => f a (List.mem_cons_of_mem _ ha) b (List.mem_cons_of_mem _ hb))
theorem AlikeH.come {hs : List HR} {bs : List BR} {i j : Nat} (h : AlikeH hs bs i j) (hi : i < hs.length) (hj : j < hs.length) : All2 (fun b c : BR => b.th = c.th ∧ AlikeH hs bs b.one c.one) (comeB bs i) (comeB bs j) := by
  obtain ⟨R, B, r⟩ := h
  exact (B.come i j r hi hj).imp fun _ _ ⟨a, b⟩ => ⟨a, R, B, b⟩
theorem AlikeH.first {hs : List HR} {bs : List BR} {i j : Nat} (h : AlikeH hs bs i j) (hi : i < hs.length) (hj : j < hs.length) : SameFirst hs i j := by
  obtain ⟨R, B, r⟩ := h
  exact B.first i j r hi hj
theorem come_mem {bs : List BR} {k : Nat} {b : BR} (h : b ∈ comeB bs k) : b ∈ bs := (List.mem_filter.mp h).1
theorem stage0 {hs : List HR} {bs : List BR} {l : List Nat} (no : NumOf ((List.range hs.length).map (m1 hs)) l) : Stage hs bs l := by
  have ln : l.length = hs.length := by rw [no.len, List.length_map, List.length_range]
  have at_ : ∀ {i}, i < hs.length → ((List.range hs.length).map (m1 hs))[i]? = some (m1 hs i) := fun {i} h => by rw [List.getElem?_map, List.getElem?_range h]; rfl
  have kl : ((List.range hs.length).map (m1 hs)).length = hs.length := by rw [List.length_map, List.length_range]
  have sm : ∀ i j, i < hs.length → j < hs.length → (l.getD i 0 = l.getD j 0 ↔ SameFirst hs i j) := fun i j hi hj => by
    rw [← getD_eq (by omega) (by omega), no.same i j (by omega) (by omega), at_ hi, at_ hj, ← m1_eq hi hj]
    exact ⟨fun z => Option.some.inj z, fun z => congrArg some z⟩
  exact ⟨ln, no.canon, fun i j hi hj a => (sm i j hi hj).mpr (a.first hi hj), fun i j hi hj e => (sm i j hi hj).mp e⟩
theorem next_same {hs : List HR} {bs : List BR} {t l : List Nat} (lt : t.length = hs.length) (no : NumOf ((List.range t.length).map (mark2 t bs)) l) {i j : Nat} (hi : i < hs.length) (hj : j < hs.length) :
    l.getD i 0 = l.getD j 0 ↔ t.getD i 0 = t.getD j 0 ∧ All2 (fun b c : BR => b.th = c.th ∧ t.getD b.one 0 = t.getD c.one 0) (comeB bs i) (comeB bs j) := by
  have kl : ((List.range t.length).map (mark2 t bs)).length = t.length := by rw [List.length_map, List.length_range]
  have ln : l.length = t.length := by rw [no.len, kl]
  have at_ : ∀ {i}, i < t.length → ((List.range t.length).map (mark2 t bs))[i]? = some (mark2 t bs i) := fun {i} h => by rw [List.getElem?_map, List.getElem?_range h]; rfl
  rw [← getD_eq (by omega) (by omega), no.same i j (by omega) (by omega), at_ (by omega), at_ (by omega), ← mark2_eq]
  exact ⟨fun z => Option.some.inj z, fun z => congrArg some z⟩
theorem Stage.next {hs : List HR} {bs : List BR} {t l : List Nat} (st : Stage hs bs t) (ends : ∀ b ∈ bs, b.one < hs.length) (no : NumOf ((List.range t.length).map (mark2 t bs)) l) : Stage hs bs l := by
  have ln : l.length = hs.length := by rw [no.len, List.length_map, List.length_range, st.len]
  refine ⟨ln, no.canon, fun i j hi hj a => ?_, fun i j hi hj e => ?_⟩
  · refine (next_same st.len no hi hj).mpr ⟨st.coarse i j hi hj a, ?_⟩
    exact (a.come hi hj).imp_mem fun b hb c hc ⟨z1, z2⟩ => ⟨z1, st.coarse _ _ (ends b (come_mem hb)) (ends c (come_mem hc)) z2⟩
  · exact st.first i j hi hj ((next_same st.len no hi hj).mp e).1
theorem Stage.done {hs : List HR} {bs : List BR} {t : List Nat} (st : Stage hs bs t) (no : NumOf ((List.range t.length).map (mark2 t bs)) t) : KindsOf hs bs t := by
  refine ⟨st.len, st.canon, fun i j hi hj => ?_⟩
  rw [getD_eq (by rw [st.len]; exact hi) (by rw [st.len]; exact hj)]
  refine ⟨fun e => ⟨fun i j => t.getD i 0 = t.getD j 0, ⟨fun i j r hi hj => st.first i j hi hj r, fun i j r hi hj => ((next_same st.len no hi hj).mp r).2⟩, e⟩, st.coarse i j hi hj⟩
/-- how many pairs are alike -/
def prs (n : Nat) : List (Nat × Nat) := (List.range n).flatMap fun i => (List.range n).map fun j => (i, j)
def cnt2 (n : Nat) (t : List Nat) : Nat := (prs n).countP fun p => decide (t.getD p.1 0 = t.getD p.2 0)
theorem mem_prs {n i j : Nat} (hi : i < n) (hj : j < n) : (i, j) ∈ prs n := List.mem_flatMap.mpr ⟨i, List.mem_range.mpr hi, List.mem_map.mpr ⟨j, List.mem_range.mpr hj, rfl⟩⟩
theorem of_prs {n : Nat} {p : Nat × Nat} (h : p ∈ prs n) : p.1 < n ∧ p.2 < n := by
  obtain ⟨i, hi, h⟩ := List.mem_flatMap.mp h
  obtain ⟨j, hj, rfl⟩ := List.mem_map.mp h
  exact ⟨List.mem_range.mp hi, List.mem_range.mp hj⟩
theorem count_less {α : Type} {p q : α → Bool} : ∀ {l : List α}, (∀ x ∈ l, p x = true → q x = true) → (∃ x ∈ l, q x = true ∧ p x = false) → l.countP p < l.countP q
  | [], _, h => by obtain ⟨x, hx, _⟩ := h; cases hx
  | y :: l, sub, h => by
    have le : l.countP p ≤ l.countP q := List.countP_mono_left fun x hx => sub x (List.mem_cons_of_mem _ hx)
    rw [List.countP_cons, List.countP_cons]
    obtain ⟨x, hx, h1, h2⟩ := h
    rcases List.mem_cons.mp hx with rfl | hx
    · rw [if_neg (by rw [h2]; exact Bool.false_ne_true), if_pos h1]
      omega
    · have lt := count_less (fun z hz => sub z (List.mem_cons_of_mem _ hz)) ⟨x, hx, h1, h2⟩
      have := sub y (List.mem_cons_self ..)
      by_cases py : p y = true
      · rw [if_pos py, if_pos (this py)]; omega
      · rw [if_neg py]; split <;> omega
theorem Stage.less {hs : List HR} {bs : List BR} {t l : List Nat} (st : Stage hs bs t) (no : NumOf ((List.range t.length).map (mark2 t bs)) l) (ne : l ≠ t) : cnt2 hs.length l < cnt2 hs.length t := by
  have kl : ((List.range t.length).map (mark2 t bs)).length = t.length := by rw [List.length_map, List.length_range]
  have ln : l.length = t.length := by rw [no.len, kl]
  refine count_less (fun p hp h => ?_) (Classical.byContradiction fun no2 => ne (canon_eq ln no.canon st.canon fun i j hi hj => ?_))
  · obtain ⟨h1, h2⟩ := of_prs hp
    exact decide_eq_true ((next_same st.len no h1 h2).mp (of_decide_eq_true h)).1
  · have hi2 : i < hs.length := by rw [← st.len, ← ln]; exact hi
    have hj2 : j < hs.length := by rw [← st.len, ← ln]; exact hj
    rw [getD_eq hi hj, getD_eq (by omega) (by omega)]
    constructor
    · intro e
      exact ((next_same st.len no hi2 hj2).mp e).1
    · intro e
      refine Classical.byContradiction fun z => no2 ⟨(i, j), mem_prs hi2 hj2, decide_eq_true e, decide_eq_false z⟩
theorem kinds_eqv (l m : List Nat) : PyData.eqvAll (l.map fun n => PyData.int ((n : Nat) : Int)) (m.map fun n => PyData.int ((n : Nat) : Int)) = decide (l = m) := by
  induction l generalizing m with
  | nil => cases m with
    | nil => rfl
    | cons y s => rfl
  | cons x r ih => cases m with
    | nil => rfl
    | cons y s =>
      rw [List.map_cons, List.map_cons, PyData.eqvAll, ih]
      show (decide (((x : Nat) : Int) = ((y : Nat) : Int)) && decide (r = s)) = decide (x :: r = y :: s)
      by_cases h : x = y
      · subst h
        rw [decide_eq_true rfl, Bool.true_and]
        by_cases h2 : r = s
        · rw [h2, decide_eq_true rfl, decide_eq_true rfl]
        · rw [decide_eq_false h2, decide_eq_false (fun z => h2 (List.cons.inj z).2)]
      · rw [decide_eq_false (by omega : ¬ ((x : Nat) : Int) = ((y : Nat) : Int)), Bool.false_and, decide_eq_false (fun z => h (List.cons.inj z).1)]
theorem lay_nats : ∀ m : List Nat, PyData.canLayAll0 (m.map fun n => PyData.int ((n : Nat) : Int)) = true
  | [] => rfl
  | x :: m => by
    rw [List.map_cons]
    simp only [PyData.canLayAll0, PyData.canLay0, lay_nats m, Bool.and_self]
theorem dep_nats : ∀ m : List Nat, PyData.depthAll (m.map fun n => PyData.int ((n : Nat) : Int)) ≤ 0
  | [] => Nat.le_refl _
  | x :: m => by
    rw [List.map_cons]
    simp only [PyData.depthAll, PyData.depth]
    have := dep_nats m
    omega
theorem nats_shaped (m : List Nat) : SeqAt.shaped (.tuple (m.map fun n => PyData.int ((n : Nat) : Int))) = true := by
  unfold SeqAt.shaped
  simp only [PyData.canLay0, lay_nats, Bool.true_and, PyData.depth]
  have := dep_nats m
  exact decide_eq_true (by omega)
section
variable {P : Program} {w : World} {K : PySem.W.Frag} {mg : Str → Option Value} {base : Heap}
def sp_kinds (K : PySem.W.Frag) : Sp := fun vs H Q _ => ∃ (r : Addr) (hs : List HR) (bs : List BR), vs = [.ref r] ∧ RoomAt H r hs bs ∧ (∀ h ∈ hs, GoodHand h) ∧ hs.length ≤ 400 ∧ (∀ b ∈ bs, b.one < hs.length) ∧ bs.length ≤ 400 ∧
  ∀ (p : Addr) (ob : Obj) (t : List Nat) (H' : Hp), ob.dict = none → KindsOf hs bs t → H p = none → H' p = some (.frz ob (.tup (t.map nV))) → Same H H' → Q (.ref p) H'
theorem ok_kinds {f : Addr} {fd : FuncData} (F : Fun K "kinds" "kinds" s_kinds f fd) (T : Top K mg) : FnOk P w K mg base CX0 3 f fd ["room"] (sp_kinds K) := by
  obtain ⟨f_numbered, fd_numbered, F_numbered, b_numbered, m_numbered⟩ := T.d_numbered
  have G_numbered := ok_numbered (P := P) (w := w) (base := base) F_numbered T
  obtain ⟨f_first_mark, fd_first_mark, F_first_mark, b_first_mark, m_first_mark⟩ := T.d_first_mark
  have G_first_mark := ok_first_mark (P := P) (w := w) (base := base) F_first_mark T
  obtain ⟨f_mark_by, fd_mark_by, F_mark_by, b_mark_by, m_mark_by⟩ := T.d_mark_by
  have G_mark_by := ok_mark_by (P := P) (w := w) (base := base) F_mark_by T
  refine F.ok sc_kinds (fun vs H Q E h => ?_) (fun cdv A outer s H vs Q E hr h => ?_)
  · obtain ⟨r, hs, bs, rfl, _⟩ := h
    rfl
  obtain ⟨r, hs, bs, rfl, hR, gd, lh, ends, lb, q⟩ := h
  obtain ⟨ha, ba, hv, bv, er, eh, eb, alh, alb⟩ := hR.ex
  have lhv := alh.length
  refine ⟨_, (pss_cons (ps_set (i := 1) sc_kinds.nd rfl (Or.inl rfl) (pe_call G_numbered (hr.mono (by decide)) (by rfl) m_numbered F_numbered.kp b_numbered .nil pass0 (pa_cons (pe_lc (own := [("hand", 2), ("rule", 3), ("moments", 4)]) (g := gTup K 2 (gCons (gName 2) (gCons (gTup K 2 (gCons (gName 3) (gCons (gName 4) gNil))) gNil))) (tt := tYes) (by rfl) sc_kinds.nd (pi_enumT K rfl (by rfl) T.m_enumerate (pa_cons (pe_ix (ix_tupK K rfl) (pv 0) pe_int (fun _ _ => rfl)) pa_nil)) (blkOk_by (own := [("hand", 2), ("rule", 3), ("moments", 4)]) (N := N_kinds) (sc := defScope s_kinds) (by decide +kernel)) (fun _ _ _ _ _ => (pg_tupK K rfl rfl (pgs_cons (pg_name (i := 2) sc_kinds.nd rfl (Or.inl rfl)) (pgs_cons (pg_tupK K rfl rfl (pgs_cons (pg_name (i := 3) sc_kinds.nd rfl (Or.inl rfl)) (pgs_cons (pg_name (i := 4) sc_kinds.nd rfl (Or.inl rfl)) pgs_nil))) pgs_nil)))) (fun _ _ _ _ _ => pts_nil) (fun _ _ _ _ _ => (pe_call G_first_mark (hr.mono (by decide)) (by rfl) m_first_mark F_first_mark.kp b_first_mark .nil pass0 (pa_cons (pv 3) (pa_cons (pv 2) pa_nil))))) pa_nil)))
      (pss_cons (ps_set (i := 5) sc_kinds.nd rfl (Or.inr rfl) pe_non)
      (pss_cons (ps_while PassesOwn.never (pt_cmpR (op_neDK K rfl hr.units) (pv 1) (pv 5) (nomark _))
        (pss_cons (ps_set (i := 5) sc_kinds.nd rfl (Or.inr rfl) (pv 1))
      (pss_one (ps_set (i := 1) sc_kinds.nd rfl (Or.inl rfl) (pe_call G_numbered (hr.mono (by decide)) (by rfl) m_numbered F_numbered.kp b_numbered .nil pass0 (pa_cons (pe_lc (own := [("hand", 2)]) (g := gName 2) (tt := tYes) (by rfl) sc_kinds.nd (pi_range1 (by rfl) T.m_range (pa_cons (pe_callB (call_len_seqK K rfl) (by rfl) T.m_len (by decide +kernel) (pa_cons (pv 5) pa_nil)) pa_nil)) (blkOk_by (own := [("hand", 2)]) (N := N_kinds) (sc := defScope s_kinds) (by decide +kernel)) (fun _ _ _ _ _ => (pg_name (i := 2) sc_kinds.nd rfl (Or.inl rfl))) (fun _ _ _ _ _ => pts_nil) (fun _ _ _ _ _ => (pe_call G_mark_by (hr.mono (by decide)) (by rfl) m_mark_by F_mark_by.kp b_mark_by .nil pass0 (pa_cons (pv 0) (pa_cons (pv 5) (pa_cons (pv 2) pa_nil)))))) pa_nil))))))
      (pss_one (ps_ret (pv 1)))))), ?_⟩
  refine ⟨_, rfl, r, _, _, _, rfl, rfl, SqT.of er, atI_nat (j := 0) rfl, ha, hv, rfl, SqT.of eh, fun D nD => lc_it (J := IteT K ha hv) (n := hv.length) (fun i H5 => ∃ mv : List V, H5 D = some (.lst mv) ∧ All2 (MarkAt H5) mv ((List.range i).map (m1 hs)) ∧ Same H H5) ⟨[], upd_same, .nil, same_new nD⟩ ?_ ?_ ?_ ?_⟩
  · rintro i H5 hi ⟨mv, hD, al, s5⟩
    exact ⟨SqT.of (s5 _ _ eh), hi⟩
  · rintro H5 ⟨mv, hD, al, s5⟩
    exact ⟨SqT.of (s5 _ _ eh), rfl⟩
  · rintro i x H5 H6 hi ⟨mv, hD, al, s5⟩ ⟨t, y, rfl, nt, rfl, ey⟩
    obtain ⟨h, eh2, t2, rr, rfl, e1, e2⟩ := alh.getL ey
    have s6 := s5.trans (same_new (o := .tup [V.int ((i : Nat) : Int), V.ref t2]) nt)
    have hD6 := same_new (o := .tup [V.int ((i : Nat) : Int), V.ref t2]) nt _ _ hD
    have lm := al.length
    rw [List.length_map, List.length_range] at lm
    refine ⟨t, _, rfl, SqT.of upd_same, rfl, _, _, rfl, _, _, rfl, t2, _, rfl, SqT.of (s6 _ _ e1), rfl, _, _, rfl, _, _, rfl, rfl, rfl, rfl, yes_in ?_⟩
    refine ⟨_, rfl, _, rfl, rr, h, i, rfl, s6 _ _ e2, gd h (List.mem_of_getElem? eh2), fun p H7 kv s7 => ⟨_, s7 _ _ hD6, small1000 (by omega), mv ++ [.ref p], upd_same, ?_, Same.own (fun a o e => s7 _ _ (s6 _ _ e)) nD⟩⟩
    have k7 := (TK.new (o := .tup [V.int ((i : Nat) : Int), V.ref t2]) nt).trans ((TK.same s7).trans (TK.lst (ys := mv ++ [V.ref p]) (s7 _ _ hD6)))
    rw [List.range_succ, List.map_append]
    refine (al.imp fun _ _ z => z.keep k7).snoc ⟨p, rfl, ?_, ?_⟩
    · show NkV _ (m1 hs i) _
      unfold m1
      rw [eh2]
      exact kv.keep (TK.lst (s7 _ _ hD6))
    · show (m1 hs i).depth ≤ 8
      unfold m1
      rw [eh2]
      exact mark1_depth i h
  rintro H5 ⟨mv, hD, al, s5⟩
  rw [lhv] at al
  refine ⟨D, mv, _, rfl, hD, al, by rw [List.length_map, List.length_range]; omega, fun p ob l H6 od no np hp s6 => ?_⟩
  have s16 := s5.trans s6
  have st := stage0 (bs := bs) no
  have pn : H p = none := same_none s5 np
  have ln : l.length = hs.length := st.len
  let W : Nat → L2.St → Hp → Prop := fun m σ H' => ∃ (p : Addr) (ob : Obj) (l : List Nat) (bv : V), ob.dict = none ∧ σ = [some (.ref r), some (.ref p), none, none, none, some bv] ∧ H p = none ∧ H' p = some (.frz ob (.tup (l.map nV))) ∧ Same H H' ∧ Stage hs bs l ∧
    ((bv = .non ∧ m = 2 * cnt2 hs.length l + 1) ∨ ∃ (b : Addr) (ob : Obj) (t : List Nat), bv = .ref b ∧ H' b = some (.frz ob (.tup (t.map nV))) ∧ Stage hs bs t ∧ NumOf ((List.range t.length).map (mark2 t bs)) l ∧ m = 2 * cnt2 hs.length l + if l = t then 0 else 1)
  refine ⟨W, ⟨_, p, ob, l, .non, od, rfl, pn, hp, s16, st, .inl ⟨rfl, rfl⟩⟩, ?_⟩
  clear np hp s6 no st pn s16 ln hD al s5 od ob
  rintro m σ H1 ⟨p, ob, l, bv, od, rfl, pn, hp, s1, st, hb⟩
  have hb2 : ∃ e, Dp K H1 bv e ∧ SeqAt.shaped e = true ∧ ((PyData.eqv (.tuple (l.map fun n => PyData.int ((n : Nat) : Int))) e = true ∧ KindsOf hs bs l) ∨ (PyData.eqv (.tuple (l.map fun n => PyData.int ((n : Nat) : Int))) e = false ∧ 2 * cnt2 hs.length l + 1 ≤ m)) := by
    rcases hb with ⟨rfl, rfl⟩ | ⟨b, ob2, t, rfl, hbt, stt, no, rfl⟩
    · exact ⟨.none, .non, rfl, .inr ⟨rfl, Nat.le_refl _⟩⟩
    · refine ⟨.tuple (t.map fun n => PyData.int ((n : Nat) : Int)), .tup (SqT.fz hbt) (dp_nats t), nats_shaped t, ?_⟩
      have ev : PyData.eqv (.tuple (l.map fun n => PyData.int ((n : Nat) : Int))) (.tuple (t.map fun n => PyData.int ((n : Nat) : Int))) = decide (l = t) := kinds_eqv l t
      rw [ev]
      by_cases h : l = t
      · subst h
        exact .inl ⟨decide_eq_true rfl, stt.done no⟩
      · exact .inr ⟨decide_eq_false h, by rw [if_neg h]; exact Nat.le_refl _⟩
  obtain ⟨e, d1, d2, alt⟩ := hb2
  refine ⟨_, rfl, _, rfl, _, e, .tup (SqT.fz hp) (dp_nats l), d1, nats_shaped l, d2, _, rfl, ?_⟩
  rcases alt with ⟨z, kd⟩ | ⟨z, hm⟩ <;> rw [z]
  · exact if_bl (fun z => nomatch z) (fun _ => ⟨_, rfl, q p ob l H1 od kd pn hp s1⟩)
  · refine if_bl (fun _ => ⟨fun σ' H' => ∃ m', m' < m ∧ W m' σ' H', fun _ _ z => z, ?_⟩) (fun z => nomatch z)
    have ll : (l.map nV).length = l.length := List.length_map ..
    have lh2 := st.len
    refine ⟨_, rfl, _, rfl, p, _, rfl, .inr (SqT.fz hp), _, rfl, by omega, by omega, fun D nD => lc_range (lo := 0) (n := (l.map nV).length) (fun i H5 => ∃ mv : List V, H5 D = some (.lst mv) ∧ All2 (MarkAt H5) mv ((List.range i).map (mark2 l bs)) ∧ Same H1 H5) ⟨[], upd_same, .nil, same_new nD⟩ ?_ ?_⟩
    · rintro i H5 hi ⟨mv, hD, al, s5⟩
      have lm := al.length
      rw [List.length_map, List.length_range] at lm
      have s15 : Same H H5 := fun a o e => s5 _ _ (s1 _ _ e)
      refine ⟨rfl, yes_in ⟨_, rfl, _, rfl, _, rfl, r, p, hs, bs, l, i, congrArg (fun z => [V.ref r, V.ref p, V.int z]) (Int.zero_add _), hR.keep (TK.same s15), fun b hb => by rw [lh2]; exact ends b hb, lb, ⟨_, s5 _ _ hp⟩, by omega, fun p2 H6 kv s6 => ?_⟩⟩
      refine ⟨_, s6 _ _ hD, small1000 (by omega), mv ++ [.ref p2], upd_same, ?_, Same.own (fun a o e => s6 _ _ (s5 _ _ e)) nD⟩
      have k7 := (TK.same s6).trans (TK.lst (ys := mv ++ [V.ref p2]) (s6 _ _ hD))
      rw [List.range_succ, List.map_append]
      exact (al.imp fun _ _ z => z.keep k7).snoc ⟨p2, rfl, kv.keep (TK.lst (s6 _ _ hD)), mark2_depth l bs i⟩
    · rintro H5 ⟨mv, hD, al, s5⟩
      rw [ll] at al
      refine ⟨D, mv, _, rfl, hD, al, by rw [List.length_map, List.length_range]; omega, fun p2 ob2 l2 H6 od2 no np hp2 s6 => ?_⟩
      have s56 : Same H1 H6 := fun a o e => s6 _ _ (s5 _ _ e)
      refine ⟨_, ?_, p2, ob2, l2, .ref p, od2, rfl, same_none s1 (same_none s5 np), hp2, fun a o e => s56 _ _ (s1 _ _ e), st.next ends no, .inr ⟨p, ob, l, rfl, s56 _ _ hp, st, no, rfl⟩⟩
      by_cases h : l2 = l
      · rw [if_pos h, h]; omega
      · rw [if_neg h]
        have := st.less no h
        omega
end
theorem idx_at {l : List Nat} (nd : l.Nodup) {j k : Nat} (h : l[j]? = some k) : l.idxOf k = j := by
  have jl := (List.getElem?_eq_some_iff.mp h).1
  have m := List.mem_of_getElem? h
  have il := List.idxOf_lt_length_of_mem m
  exact (List.getElem_inj nd (h₀ := il) (h₁ := jl)).mp ((List.getElem_idxOf il).trans (List.getElem?_eq_some_iff.mp h).2.symm)
/-! ### standing on, going on -/
theorem mt_indexK {X : Cx} (K : PySem.W.Frag) (h : X.K = K) : MtR X "list.index" (rIndex K) := by subst h; exact mt_index
/-! ### a room turned: its hands in another order -/
def ren (ord : List Nat) (b : BR) : BR := ⟨ord.idxOf b.one, ord.idxOf b.to, b.th⟩
structure Turned (hs : List HR) (bs : List BR) (ord : List Nat) (hs' : List HR) (bs' : List BR) : Prop where
  perm : ord.Perm (List.range hs.length)
  hlen : hs'.length = ord.length
  hand : ∀ j k : Nat, ord[j]? = some k → hs'[j]? = hs[k]?
  len : bs'.length = bs.length
  of : ∀ b' ∈ bs', ∃ b ∈ bs, b' = ren ord b
  at_ : ∀ k, k < hs.length → bs'.filter (fun b => decide (b.to = ord.idxOf k)) = (bs.filter fun b => decide (b.to = k)).map (ren ord)
theorem rest_pop {p : BR → Bool} {x : BR} {t : List BR} : ∀ {rest : List BR}, rest.filter p = x :: t → ∃ rest' : List BR, rest'.length + 1 = rest.length ∧ rest'.filter p = t ∧ (∀ q : BR → Bool, q x = false → rest'.filter q = rest.filter q) ∧ (∀ b ∈ rest', b ∈ rest)
  | [], h => nomatch h
  | a :: l, h => by
    cases e : p a with
    | true =>
      rw [List.filter_cons_of_pos e] at h
      injection h with h1 h2
      refine ⟨l, rfl, h2, fun q hq => ?_, fun b hb => List.mem_cons_of_mem _ hb⟩
      rw [List.filter_cons_of_neg (by rw [h1, hq]; exact Bool.false_ne_true)]
    | false =>
      rw [List.filter_cons_of_neg (by rw [e]; exact Bool.false_ne_true)] at h
      obtain ⟨r, h1, h2, h3, h4⟩ := rest_pop h
      refine ⟨a :: r, congrArg (· + 1) h1, ?_, fun q hq => ?_, fun b hb => ?_⟩
      · rw [List.filter_cons_of_neg (by rw [e]; exact Bool.false_ne_true), h2]
      · rw [List.filter_cons, List.filter_cons, h3 q hq]
      · rcases List.mem_cons.mp hb with z | z
        · rw [z]; exact List.mem_cons_self ..
        · exact List.mem_cons_of_mem _ (h4 b z)
structure Mid (n : Nat) (bs : List BR) (ord : List Nat) (found rest : List BR) : Prop where
  len : found.length + rest.length = bs.length
  of : ∀ b' ∈ found, ∃ b ∈ bs, b' = ren ord b
  sub : ∀ b ∈ rest, b ∈ bs
  at_ : ∀ k, k < n → found.filter (fun b => decide (b.to = ord.idxOf k)) ++ (rest.filter fun b => decide (b.to = k)).map (ren ord) = (bs.filter fun b => decide (b.to = k)).map (ren ord)
theorem Mid.zero {n : Nat} {bs : List BR} {ord : List Nat} : Mid n bs ord [] bs := ⟨Nat.zero_add _, (fun _ z => nomatch z), (fun _ z => z), fun _ _ => rfl⟩
theorem idx_inj {l : List Nat} {a b : Nat} (ha : a ∈ l) (h : l.idxOf a = l.idxOf b) (hb : b ∈ l) : a = b := by
  have i1 := List.idxOf_lt_length_of_mem ha
  have i2 := List.idxOf_lt_length_of_mem hb
  have e1 := List.getElem_idxOf i1
  have e2 := List.getElem_idxOf i2
  rw [← e1, ← e2]
  simp only [h]
theorem Mid.step {n : Nat} {bs : List BR} {ord : List Nat} {found rest t : List BR} {x : BR} {k0 : Nat} (h : Mid n bs ord found rest) (pm : ∀ k, k < n → k ∈ ord) (k0n : k0 < n) (e : rest.filter (fun b => decide (b.to = k0)) = x :: t) :
    ∃ rest' : List BR, Mid n bs ord (found ++ [ren ord x]) rest' ∧ rest'.length + 1 = rest.length ∧ rest'.filter (fun b => decide (b.to = k0)) = t ∧ ∀ k, k ≠ k0 → rest'.filter (fun b => decide (b.to = k)) = rest.filter fun b => decide (b.to = k) := by
  have hx : x ∈ rest.filter (fun b => decide (b.to = k0)) := by rw [e]; exact List.mem_cons_self ..
  have xr := (List.mem_filter.mp hx).1
  have xt : x.to = k0 := of_decide_eq_true (List.mem_filter.mp hx).2
  obtain ⟨r, h1, h2, h3, h4⟩ := rest_pop e
  have h3' : ∀ k, k ≠ k0 → r.filter (fun b => decide (b.to = k)) = rest.filter fun b => decide (b.to = k) := fun k hk => h3 _ (decide_eq_false fun z => hk (z.symm.trans xt))
  refine ⟨r, ⟨?_, fun b hb => ?_, fun b hb => h.sub b (h4 b hb), fun k hk => ?_⟩, h1, h2, h3'⟩
  · have := h.len
    rw [List.length_append]
    show found.length + 1 + r.length = _
    omega
  · rcases List.mem_append.mp hb with z | z
    · exact h.of b z
    · rw [List.mem_singleton.mp z]; exact ⟨x, h.sub x xr, rfl⟩
  · rw [List.filter_append]
    have q := h.at_ k hk
    by_cases ek : k = k0
    · subst ek
      rw [e, List.map_cons] at q
      rw [h2, List.filter_cons_of_pos (by rw [show (ren ord x).to = ord.idxOf x.to from rfl, xt]; exact decide_eq_true rfl), List.filter_nil, List.append_assoc]
      exact q
    · rw [h3' k ek, List.filter_cons_of_neg, List.filter_nil, List.append_nil]
      · exact q
      · rw [decide_eq_true_eq, show (ren ord x).to = ord.idxOf x.to from rfl, xt]
        exact fun z => ek (idx_inj (pm k0 k0n) z (pm k hk)).symm
theorem Mid.some {n : Nat} {bs : List BR} {ord : List Nat} {found rest : List BR} (h : Mid n bs ord found rest) (ends : ∀ b ∈ bs, b.to < n) (l : found.length < bs.length) : ∃ k, k < n ∧ rest.filter (fun b => decide (b.to = k)) ≠ [] := by
  have hl := h.len
  cases er : rest with
  | nil => rw [er] at hl; simp at hl; omega
  | cons b r =>
    have hb : b ∈ rest := by rw [er]; exact List.mem_cons_self ..
    refine ⟨b.to, ends b (h.sub b hb), fun z => ?_⟩
    have y : b ∈ (b :: r).filter (fun a => decide (a.to = b.to)) := List.mem_filter.mpr ⟨List.mem_cons_self .., decide_eq_true rfl⟩
    rw [z] at y
    cases y
/-! #### what a turned room keeps -/
theorem Turned.mem {hs : List HR} {bs : List BR} {ord : List Nat} {hs' : List HR} {bs' : List BR} (t : Turned hs bs ord hs' bs') {k : Nat} : k ∈ ord ↔ k < hs.length := by
  rw [t.perm.mem_iff, List.mem_range]
theorem Turned.nd {hs : List HR} {bs : List BR} {ord : List Nat} {hs' : List HR} {bs' : List BR} (t : Turned hs bs ord hs' bs') : ord.Nodup := t.perm.nodup_iff.mpr List.nodup_range
theorem Turned.olen {hs : List HR} {bs : List BR} {ord : List Nat} {hs' : List HR} {bs' : List BR} (t : Turned hs bs ord hs' bs') : ord.length = hs.length := by
  rw [t.perm.length_eq, List.length_range]
theorem Turned.back {hs : List HR} {bs : List BR} {ord : List Nat} {hs' : List HR} {bs' : List BR} (t : Turned hs bs ord hs' bs') {k : Nat} (h : k < hs.length) : ord[ord.idxOf k]? = some k := by
  have il := List.idxOf_lt_length_of_mem (t.mem.mpr h)
  rw [List.getElem?_eq_getElem il, List.getElem_idxOf]
theorem Turned.lt {hs : List HR} {bs : List BR} {ord : List Nat} {hs' : List HR} {bs' : List BR} (t : Turned hs bs ord hs' bs') {k : Nat} (h : k < hs.length) : ord.idxOf k < hs'.length := by
  rw [t.hlen]; exact List.idxOf_lt_length_of_mem (t.mem.mpr h)
theorem Turned.pre {hs : List HR} {bs : List BR} {ord : List Nat} {hs' : List HR} {bs' : List BR} (t : Turned hs bs ord hs' bs') {j : Nat} {h : HR} (e : hs'[j]? = some h) : ∃ k, ord[j]? = some k ∧ hs[k]? = some h ∧ k < hs.length ∧ ord.idxOf k = j := by
  have jl := (List.getElem?_eq_some_iff.mp e).1
  have jo : j < ord.length := by rw [← t.hlen]; exact jl
  have ek : ord[j]? = some ord[j] := List.getElem?_eq_getElem jo
  exact ⟨_, ek, (t.hand _ _ ek).symm.trans e, t.mem.mp (List.mem_of_getElem? ek), idx_at t.nd ek⟩
theorem count_filter (bs : List BR) (k : Nat) : (bs.map BR.to).count k = (bs.filter fun b => decide (b.to = k)).length := by
  induction bs with
  | nil => rfl
  | cons b bs ih =>
    rw [List.map_cons, List.count_cons, List.filter_cons, ih]
    by_cases e : b.to = k
    · rw [if_pos (by simp [e]), if_pos (by simp [e])]; rfl
    · rw [if_neg (by simp [e]), if_neg (by simp [e])]; rfl
theorem Turned.ok {hs : List HR} {bs : List BR} {ord : List Nat} {hs' : List HR} {bs' : List BR} (t : Turned hs bs ord hs' bs') (ok : RoomOk hs bs) : RoomOk hs' bs' := by
  obtain ⟨rk, hrk⟩ := ok.rank
  have lh := ok.hands
  have lo := t.olen
  have hl := t.hlen
  refine ⟨by omega, fun h hh => ?_, fun b' hb => ?_, fun b' hb h e => ?_, fun b' hb => ?_, ⟨fun j => rk (ord.getD j 0), fun b' hb e => ?_⟩, fun j h e => ?_, by rw [t.len]; exact ok.many⟩
  · obtain ⟨j, ej⟩ := List.getElem?_of_mem hh
    obtain ⟨k, _, e2, _⟩ := t.pre ej
    exact ok.good h (List.mem_of_getElem? e2)
  · obtain ⟨b, hbm, rfl⟩ := t.of b' hb
    exact ⟨t.lt (ok.ends b hbm).1, t.lt (ok.ends b hbm).2⟩
  · obtain ⟨b, hbm, rfl⟩ := t.of b' hb
    obtain ⟨k, e1, e2, e3, e4⟩ := t.pre e
    have : ord[ord.idxOf b.one]? = some b.one := t.back (ok.ends b hbm).1
    rw [show (ren ord b).one = ord.idxOf b.one from rfl, this] at e1
    cases e1
    exact ok.out b hbm h e2
  · obtain ⟨b, hbm, rfl⟩ := t.of b' hb
    exact ok.th b hbm
  · obtain ⟨b, hbm, rfl⟩ := t.of b' hb
    show rk (ord.getD (ord.idxOf b.one) 0) < rk (ord.getD (ord.idxOf b.to) 0)
    rw [List.getD_eq_getElem?_getD, List.getD_eq_getElem?_getD, t.back (ok.ends b hbm).1, t.back (ok.ends b hbm).2]
    exact hrk b hbm e
  · obtain ⟨k, e1, e2, e3, e4⟩ := t.pre e
    have q := ok.count k h e2
    rw [count_filter] at q ⊢
    have z := t.at_ k e3
    rw [e4] at z
    rw [z, List.length_map]
    exact q
/-! ### the queues of a turned room -/
structure QsAt (H0 H : Hp) (od ql : Addr) (qa : Nat → Addr) (n : Nat) (rest : List BR) : Prop where
  hq : H ql = some (.lst ((List.range n).map fun k => V.ref (qa k)))
  at_ : ∀ k, k < n → ∃ vs : List V, H (qa k) = some (.lst vs) ∧ All2 (BeltAt H) vs (rest.filter fun b => decide (b.to = k))
  inj : ∀ k m, k < n → m < n → qa k = qa m → k = m
  old : ∀ k, k < n → H0 (qa k) = none
  nod : ∀ k, k < n → qa k ≠ od ∧ qa k ≠ ql
  ql0 : H0 ql = none ∧ ql ≠ od
theorem QsAt.get {H0 H : Hp} {od ql : Addr} {qa : Nat → Addr} {n : Nat} {rest : List BR} {k : Nat} (h : k < n) : ((List.range n).map fun k => V.ref (qa k))[k]? = some (V.ref (qa k)) := by
  rw [List.getElem?_map, List.getElem?_range h]; rfl
theorem QsAt.go {H0 H H' : Hp} {od ql : Addr} {qa : Nat → Addr} {n : Nat} {rest : List BR} (t : QsAt H0 H od ql qa n rest) (e1 : H' ql = H ql) (e2 : ∀ k, k < n → H' (qa k) = H (qa k)) (kk : TK H H') : QsAt H0 H' od ql qa n rest := by
  refine ⟨e1.trans t.hq, fun k hk => ?_, t.inj, t.old, t.nod, t.ql0⟩
  obtain ⟨vs, h1, h2⟩ := t.at_ k hk
  exact ⟨vs, (e2 k hk).trans h1, h2.imp fun _ _ z => z.keep kk⟩
theorem QsAt.same {H0 H H' : Hp} {od ql : Addr} {qa : Nat → Addr} {n : Nat} {rest : List BR} (t : QsAt H0 H od ql qa n rest) (s : Same H H') : QsAt H0 H' od ql qa n rest := by
  refine t.go ((s _ _ t.hq).trans t.hq.symm) (fun k hk => ?_) (TK.same s)
  obtain ⟨vs, h1, _⟩ := t.at_ k hk
  exact (s _ _ h1).trans h1.symm
theorem QsAt.more {H0 H H' : Hp} {od ql D2 : Addr} {qa : Nat → Addr} {j : Nat} {rest : List BR} {vs : List V} (t : QsAt H0 H od ql qa j rest) (n2 : H D2 = none) (s : Same H H') (h2 : H' D2 = some (.lst vs)) (al : All2 (BeltAt H') vs (rest.filter fun b => decide (b.to = j))) (z0 : H0 D2 = none) (nod : D2 ≠ od) :
    QsAt H0 (upd H' ql (.lst (((List.range j).map fun k => V.ref (qa k)) ++ [.ref D2]))) od ql (fun k => if k = j then D2 else qa k) (j + 1) rest := by
  have hq' := s _ _ t.hq
  have kk : TK H' (upd H' ql (.lst (((List.range j).map fun k => V.ref (qa k)) ++ [.ref D2]))) := TK.lst hq'
  have dq : D2 ≠ ql := (ne_of_none t.hq n2).symm
  have q2 : ∀ k, k < j → qa k ≠ D2 := fun k hk => by
    obtain ⟨vs, h1, _⟩ := t.at_ k hk
    exact ne_of_none h1 n2
  refine ⟨?_, fun k hk => ?_, fun k m hk hm e => ?_, fun k hk => ?_, fun k hk => ?_, t.ql0⟩
  · rw [upd_same, List.range_succ, List.map_append]
    refine congrArg (fun l => some (HO.lst l)) ?_
    refine congr (congrArg _ (List.map_congr_left fun k hk => ?_)) ?_
    · show V.ref (qa k) = V.ref (if k = j then D2 else qa k)
      rw [if_neg (by have := List.mem_range.mp hk; omega)]
    · show [V.ref D2] = [V.ref (if j = j then D2 else qa j)]
      rw [if_pos rfl]
  · by_cases e : k = j
    · refine ⟨vs, ?_, ?_⟩
      · show upd H' ql _ (if k = j then D2 else qa k) = _
        rw [if_pos e, upd_ne dq]; exact h2
      · rw [e]; exact al.imp fun _ _ z => z.keep kk
    · obtain ⟨us, h1, h3⟩ := t.at_ k (by omega)
      refine ⟨us, ?_, h3.imp fun _ _ z => z.keep ((TK.same s).trans kk)⟩
      show upd H' ql _ (if k = j then D2 else qa k) = _
      rw [if_neg e, upd_ne (t.nod k (by omega)).2]; exact s _ _ h1
  · by_cases e1 : k = j
    · by_cases e2 : m = j
      · omega
      · rw [if_pos e1, if_neg e2] at e
        exact absurd e.symm (q2 m (by omega))
    · by_cases e2 : m = j
      · rw [if_neg e1, if_pos e2] at e
        exact absurd e (q2 k (by omega))
      · rw [if_neg e1, if_neg e2] at e
        exact t.inj k m (by omega) (by omega) e
  · by_cases e : k = j
    · rw [if_pos e]; exact z0
    · rw [if_neg e]; exact t.old k (by omega)
  · by_cases e : k = j
    · rw [if_pos e]; exact ⟨nod, dq⟩
    · rw [if_neg e]; exact t.nod k (by omega)
theorem QsAt.pop {H0 H : Hp} {od ql : Addr} {qa : Nat → Addr} {n k0 : Nat} {rest rest' t' : List BR} {v : V} {vs : List V} {x : BR} (t : QsAt H0 H od ql qa n rest) (hk : k0 < n) (h : H (qa k0) = some (.lst (v :: vs))) (al : All2 (BeltAt H) (v :: vs) (x :: t'))
    (e1 : rest'.filter (fun b => decide (b.to = k0)) = t') (e2 : ∀ k, k ≠ k0 → rest'.filter (fun b => decide (b.to = k)) = rest.filter fun b => decide (b.to = k)) : QsAt H0 (upd H (qa k0) (.lst vs)) od ql qa n rest' := by
  have kk : TK H (upd H (qa k0) (.lst vs)) := TK.lst h
  refine ⟨by rw [upd_ne (t.nod k0 hk).2.symm]; exact t.hq, fun k hk' => ?_, t.inj, t.old, t.nod, t.ql0⟩
  by_cases e : k = k0
  · subst e
    cases al with
    | cons a b => exact ⟨vs, upd_same, by rw [e1]; exact b.imp fun _ _ z => z.keep kk⟩
  · obtain ⟨us, h1, h3⟩ := t.at_ k hk'
    exact ⟨us, by rw [upd_ne fun z => e (t.inj k k0 hk' hk z)]; exact h1, by rw [e2 k e]; exact h3.imp fun _ _ z => z.keep kk⟩
theorem index_nat {K : PySem.W.Frag} {H : Hp} {od : Addr} {ord : List Nat} {k : Nat} {Q : VK} (h : H od = some (.lst (ord.map nV))) (m : k ∈ ord) (q : Q (nV (ord.idxOf k)) H) : rIndex K (.ref od) [nV k] H Q := by
  have il := List.idxOf_lt_length_of_mem m
  refine ⟨od, _, nV k, ord.idxOf k, nV k, rfl, rfl, SqL.of h, rfl, ?_, ?_, ?_, fun i z hi hz => ?_, q⟩
  · rw [List.all_map]
    exact List.all_eq_true.mpr fun _ _ => rfl
  · rw [List.getElem?_map, List.getElem?_eq_getElem il, List.getElem_idxOf]; rfl
  · show (((k : Nat) : Int) == ((k : Nat) : Int)) = true
    exact beq_self_eq_true _
  · have il' : i < ord.length := by omega
    rw [List.getElem?_map, List.getElem?_eq_getElem il'] at hz
    obtain rfl : nV ord[i] = z := Option.some.inj hz
    show (((ord[i] : Nat) : Int) == ((k : Nat) : Int)) = false
    have ne : ord[i] ≠ k := by
      have := List.not_of_lt_findIdx (p := (· == k)) (xs := ord) (i := i) hi
      simpa using this
    exact beq_eq_false_iff_ne.mpr (by omega)
section
variable {P : Program} {w : World} {K : PySem.W.Frag} {mg : Str → Option Value} {base : Heap}
def sp_law_turned_room (K : PySem.W.Frag) : Sp := fun vs H Q _ => ∃ (f c r : Addr) (hs : List HR) (bs : List BR), vs = [.ref f, .ref r] ∧ Flow H f c ∧ RoomAt H r hs bs ∧ RoomOk hs bs ∧
  ∀ (t r' od : Addr) (ord : List Nat) (hs' : List HR) (bs' : List BR) (H' : Hp), H' t = some (.tup [.ref r', .ref od]) → RoomAt H' r' hs' bs' → H' od = some (.lst (ord.map nV)) → H od = none → Turned hs bs ord hs' bs' → Flow H' f c → But f H H' → Q (.ref t) H'
theorem ok_law_turned_room {f : Addr} {fd : FuncData} (F : Fun K "_law_turned_room" "_law_turned_room" s_law_turned_room f fd) (T : Top K mg) : FnOk P w K mg base CX0 3 f fd ["_law_flow_here", "_law_room_here"] (sp_law_turned_room K) := by
  obtain ⟨f_law_shuffled, fd_law_shuffled, F_law_shuffled, b_law_shuffled, m_law_shuffled⟩ := T.d_law_shuffled
  have G_law_shuffled := ok_law_shuffled (P := P) (w := w) (base := base) F_law_shuffled T
  obtain ⟨f_law_pick, fd_law_pick, F_law_pick, b_law_pick, m_law_pick⟩ := T.d_law_pick
  have G_law_pick := ok_law_pick (P := P) (w := w) (base := base) F_law_pick T
  refine F.ok sc_law_turned_room (fun vs H Q E h => ?_) (fun cdv A outer s H vs Q E hr h => ?_)
  · obtain ⟨f, c, r, hs, bs, rfl, _⟩ := h
    rfl
  obtain ⟨f, c, r, hs, bs, rfl, hF, hR, ok, q⟩ := h
  obtain ⟨ha, ba, hv, bv, er, eh, eb, alh, alb⟩ := hR.ex
  have lhv := alh.length
  have lbv := alb.length
  have lh := ok.hands
  have lb := ok.many
  have hF' := hF
  obtain ⟨_, _, _, _, _, efl, efc, _⟩ := hF'
  let R1 : TS := fun D' σ' H' => D'.rt = Q ∧ ∃ (od : Addr) (ord : List Nat), σ' = [some (.ref f), some (.ref r), some (.ref ha), some (.ref ba), some (.ref od), none, none, none, none, none, none, none, none, none] ∧ H' od = some (.lst (ord.map nV)) ∧ ord.Perm (List.range hs.length) ∧ H od = none ∧ Flow H' f c ∧ But f H H'
  let R2 : TS := fun D' σ' H' => D'.rt = Q ∧ ∃ (od ql : Addr) (qa : Nat → Addr) (ord : List Nat), σ' = [some (.ref f), some (.ref r), some (.ref ha), some (.ref ba), some (.ref od), some (.ref ql), none, none, none, none, none, none, none, none] ∧ QsAt H H' od ql qa hs.length bs ∧ H' od = some (.lst (ord.map nV)) ∧ ord.Perm (List.range hs.length) ∧ H od = none ∧ Flow H' f c ∧ But f H H'
  let R3 : TS := fun D' σ' H' => D'.rt = Q ∧ ∃ (od fd : Addr) (ord : List Nat) (found : List BR) (fv : List V) (v5 v9 v10 v11 v12 v13 : Option V), σ' = [some (.ref f), some (.ref r), some (.ref ha), some (.ref ba), some (.ref od), v5, none, none, some (.ref fd), v9, v10, v11, v12, v13] ∧ H' fd = some (.lst fv) ∧ All2 (BeltAt H') fv found ∧ Mid hs.length bs ord found [] ∧ H' od = some (.lst (ord.map nV)) ∧ ord.Perm (List.range hs.length) ∧ H od = none ∧ Flow H' f c ∧ But f H H'
  refine ⟨_, (pss_cons (ps_asg (pv 1) (pg_tupK K rfl rfl (pgs_cons (pg_name (i := 2) sc_law_turned_room.nd rfl (Or.inr rfl)) (pgs_cons (pg_name (i := 3) sc_law_turned_room.nd rfl (Or.inr rfl)) pgs_nil))))
      (pss_cons (ps_set (i := 4) sc_law_turned_room.nd rfl (Or.inl rfl) (pe_call G_law_shuffled (hr.mono (by decide)) (by rfl) m_law_shuffled F_law_shuffled.kp b_law_shuffled .nil pass0 (pa_cons (pv 0) (pa_cons (pe_listRg rfl (by rfl) T.m_list (prg_1 (by rfl) T.m_range (pe_callB (call_len_seqK K rfl) (by rfl) T.m_len (by decide +kernel) (pa_cons (pv 2) pa_nil)))) pa_nil))))
      (PSs.to (pss_cons (ps_set (i := 5) sc_law_turned_room.nd rfl (Or.inr rfl) (pe_lc (own := [("_law_k", 7)]) (g := gName 7) (tt := tYes) (by rfl) sc_law_turned_room.nd (pi_range1 (by rfl) T.m_range (pa_cons (pe_callB (call_len_seqK K rfl) (by rfl) T.m_len (by decide +kernel) (pa_cons (pv 2) pa_nil)) pa_nil)) (blkOk_by (own := [("_law_k", 7)]) (N := N_law_turned_room) (sc := defScope s_law_turned_room) (by decide +kernel)) (fun _ _ _ _ _ => (pg_name (i := 7) sc_law_turned_room.nd rfl (Or.inr rfl))) (fun _ _ _ _ _ => pts_nil) (fun _ _ _ _ _ => (pe_lc (own := [("_law_belt", 6)]) (g := gName 6) (by rfl) sc_law_turned_room.nd (pi_tupK K rfl (pv 3)) (blkOk_by (own := [("_law_belt", 6)]) (N := N_law_turned_room) (sc := { kind := .function, names := [(".0", .local), ("_law_k", .cell), ("_law_belts", .cell)], isGenerator := false, isCoroutine := false }) (by decide +kernel)) (fun _ _ _ _ _ => (pg_name (i := 6) sc_law_turned_room.nd rfl (Or.inl rfl))) (fun _ _ _ _ _ => pts_one (pt_cmpR op_eq (pe_ix (ix_tupK K rfl) (pv 6) pe_int (fun _ _ => rfl)) (pv 7) (nomark _))) (fun _ _ _ _ _ => (pv 6))))))
      (PSs.to (pss_cons (ps_set (i := 8) sc_law_turned_room.nd rfl (Or.inl rfl) (pe_lst pa_nil))
      (pss_cons (ps_for PassesOwn.never rfl (pi_range1 (by rfl) T.m_range (pa_cons (pe_callB (call_len_seqK K rfl) (by rfl) T.m_len (by decide +kernel) (pa_cons (pv 3) pa_nil)) pa_nil)) (pg_name (i := 9) sc_law_turned_room.nd rfl (Or.inl rfl))
        (pss_cons (ps_setLc (i := 10) (own := [("_law_k", 7)]) (g := gName 7) (by rfl) sc_law_turned_room.nd rfl rfl (sw_true rfl rfl rfl (by decide +kernel)) (pi_range1 (by rfl) T.m_range (pa_cons (pe_callB (call_len_seqK K rfl) (by rfl) T.m_len (by decide +kernel) (pa_cons (pv 2) pa_nil)) pa_nil)) (blkOk_by (own := [("_law_k", 7)]) (N := N_law_turned_room) (sc := defScope s_law_turned_room) (by decide +kernel)) (fun _ _ _ _ _ => (pg_name (i := 7) sc_law_turned_room.nd rfl (Or.inl rfl))) (fun _ _ _ _ _ => pts_one (pt_cmpR op_gt (pe_callB (call_len_seqK K rfl) (by rfl) T.m_len (by decide +kernel) (pa_cons (pe_ix (ix_listK K rfl) (pv 5) (pv 7) (fun _ _ => rfl)) pa_nil)) pe_int (nomark _))) (fun _ _ _ _ _ => (pv 7)))
      (pss_cons (ps_asg (pe_bmK K rfl PySem.F.plainAttrs_list PySem.F.slot_list_pop PySem.F.type_list_pop mt_popAt (pe_ix (ix_listK K rfl) (pv 5) (pe_ix (ix_listK K rfl) (pv 10) (pe_call G_law_pick (hr.mono (by decide)) (by rfl) m_law_pick F_law_pick.kp b_law_pick .nil pass0 (pa_cons (pv 0) (pa_cons (pe_callB (call_len_seqK K rfl) (by rfl) T.m_len (by decide +kernel) (pa_cons (pv 10) pa_nil)) pa_nil))) (fun _ _ => rfl)) (fun _ _ => rfl)) (pa_cons pe_int pa_nil)) (pg_tupK K rfl rfl (pgs_cons (pg_name (i := 11) sc_law_turned_room.nd rfl (Or.inl rfl)) (pgs_cons (pg_name (i := 12) sc_law_turned_room.nd rfl (Or.inl rfl)) (pgs_cons (pg_name (i := 13) sc_law_turned_room.nd rfl (Or.inl rfl)) pgs_nil)))))
      (pss_one (ps_expr (pe_bmK K rfl PySem.F.plainAttrs_list PySem.F.slot_list_append PySem.F.type_list_append mt_append (pv 8) (pa_cons (pe_tup (pa_cons (pe_bmK K rfl PySem.F.plainAttrs_list PySem.F.slot_list_index PySem.F.type_list_index (mt_indexK K rfl) (pv 4) (pa_cons (pv 11) pa_nil)) (pa_cons (pe_bmK K rfl PySem.F.plainAttrs_list PySem.F.slot_list_index PySem.F.type_list_index (mt_indexK K rfl) (pv 4) (pa_cons (pv 12) pa_nil)) (pa_cons (pv 13) pa_nil)))) pa_nil)))))))
      (PSs.to (pss_one (ps_ret (pe_tup (pa_cons (pe_tup (pa_cons (pe_callTy (call_tuple_ofK K rfl) (by rfl) T.m_tuple (by decide +kernel) (pa_cons (pe_lc (own := [("_law_k", 7)]) (g := gName 7) (tt := tYes) (by rfl) sc_law_turned_room.nd (pi_listK K rfl (pv 4)) (blkOk_by (own := [("_law_k", 7)]) (N := N_law_turned_room) (sc := defScope s_law_turned_room) (by decide +kernel)) (fun _ _ _ _ _ => (pg_name (i := 7) sc_law_turned_room.nd rfl (Or.inl rfl))) (fun _ _ _ _ _ => pts_nil) (fun _ _ _ _ _ => (pe_ix (ix_tupK K rfl) (pv 2) (pv 7) (fun _ _ => rfl)))) pa_nil)) (pa_cons (pe_callTy (call_tuple_ofK K rfl) (by rfl) T.m_tuple (by decide +kernel) (pa_cons (pv 8) pa_nil)) pa_nil))) (pa_cons (pv 4) pa_nil))))) R3 ?tail3))) R2 ?tail2)) R1 ?tail1))), ?_⟩
  case tail3 =>
    rintro D' σ' H1 ⟨eD, od, fd, ord, found, fv, v5, v9, v10, v11, v12, v13, rfl, hfd, alf, mid, hod, pm, od0, F1, B1⟩
    have k1 : TK H H1 := TK.but hF B1
    have lo : ord.length = hs.length := by rw [pm.length_eq, List.length_range]
    have olt : ∀ k ∈ ord, k < hs.length := fun k hk => List.mem_range.mp (pm.mem_iff.mp hk)
    let gh : Nat → HR := fun k => hs.getD k ⟨"in", none, 0⟩
    refine ⟨_, rfl, od, rfl, ⟨_, SqL.of hod⟩, fun D nD => lc_list (K := K) (a := od) (xs := ord.map nV) (fun i H5 => ∃ ov : List V, H5 D = some (.lst ov) ∧ All2 (HandAt H5) ov ((ord.take i).map gh) ∧ Same H1 H5 ∧ ov.length ≤ i) ⟨[], upd_same, .nil, same_new nD, Nat.le_refl _⟩ (fun i H5 _ ⟨_, _, _, s5, _⟩ => SqL.of (s5 _ _ hod)) ?_ ?_⟩
    · rintro i x H5 hx ⟨ov, hD, al, s5, lv⟩
      rw [List.getElem?_map] at hx
      cases ek : ord[i]? with
      | none => rw [ek] at hx; cases hx
      | some k =>
      rw [ek] at hx
      obtain rfl : nV k = x := Option.some.inj hx
      have il := (List.getElem?_eq_some_iff.mp ek).1
      have kl := olt k (List.mem_of_getElem? ek)
      have ehk : hs[k]? = some (gh k) := by
        show _ = some (hs.getD k _)
        rw [List.getD_eq_getElem?_getD, List.getElem?_eq_getElem kl]; rfl
      obtain ⟨v, ev, hv'⟩ := alh.get ehk
      refine ⟨rfl, yes_in ⟨_, rfl, _, rfl, ha, _, _, _, rfl, rfl, SqT.of (s5 _ _ (k1 _ _ eh)), atI_nat ev, ov, hD, small1000 (by omega), ov ++ [v], upd_same, ?_, Same.own s5 nD, by rw [List.length_append]; show ov.length + 1 ≤ i + 1; omega⟩⟩
      rw [List.take_add_one, ek, List.map_append]
      exact (al.snoc (hv'.keep (k1.trans (TK.same s5)))).imp fun _ _ z => z.keep (TK.lst hD)
    · rintro H5 ⟨ov, hD, al, s5, lv⟩
      rw [List.length_map, List.take_length] at al
      refine ⟨D, _, rfl, .inl ⟨SqL.of hD, fun tq ntq => ?_⟩⟩
      have s6 := s5.trans (same_new (o := .tup ov) ntq)
      refine ⟨_, rfl, fd, _, rfl, .inl ⟨SqL.of (s6 _ _ hfd), fun tb ntb => ?_⟩⟩
      have s7 := s6.trans (same_new (o := .tup fv) ntb)
      refine ⟨(by show 2 ≤ sizeLine; decide), fun r' nr' => ?_⟩
      have s8 := s7.trans (same_new (o := .tup [V.ref tq, V.ref tb]) nr')
      refine ⟨_, rfl, (by show 2 ≤ sizeLine; decide), fun t nt => ?_⟩
      have s9 := s8.trans (same_new (o := .tup [V.ref r', V.ref od]) nt)
      rw [eD]
      have sx : Same H5 (upd (upd (upd (upd H5 tq (.tup ov)) tb (.tup fv)) r' (.tup [V.ref tq, V.ref tb])) t (.tup [V.ref r', V.ref od])) := (((same_new ntq).trans (same_new ntb)).trans (same_new nr')).trans (same_new nt)
      refine q t r' od ord (ord.map gh) found _ upd_same ⟨tq, tb, ov, fv, same_new nt _ _ upd_same, same_new nt _ _ (same_new nr' _ _ (same_new ntb _ _ upd_same)), same_new nt _ _ (same_new nr' _ _ upd_same), al.imp fun _ _ z => z.keep (TK.same sx), alf.imp fun _ _ z => z.keep (TK.same s9)⟩ (s9 _ _ hod) od0 ⟨pm, by rw [List.length_map], fun j k e => ?_, ?_, mid.of, fun k hk => ?_⟩ (F1.same s9) (B1.same s9)
      · have kl := olt k (List.mem_of_getElem? e)
        rw [List.getElem?_map, e, List.getElem?_eq_getElem kl]
        show some (hs.getD k _) = _
        rw [List.getD_eq_getElem?_getD, List.getElem?_eq_getElem kl]; rfl
      · have := mid.len
        simpa using this
      · have := mid.at_ k hk
        simpa using this
  case tail2 =>
    rintro D' σ' H1 ⟨eD, od, ql, qa, ord, rfl, qs, hod, pm, od0, F1, B1⟩
    have omem : ∀ k, k < hs.length → k ∈ ord := fun k hk => pm.mem_iff.mpr (List.mem_range.mpr hk)
    refine ⟨(by show 0 ≤ sizeLine; decide), fun fd nfd => ?_⟩
    have fd0 : H fd = none := B1.none nfd (F1.ne nfd)
    have fdf : fd ≠ f := hF.ne fd0
    have fdc : fd ≠ c := hF.nec fd0
    have fdq : fd ≠ ql := (ne_of_none qs.hq nfd).symm
    have fdo : fd ≠ od := (ne_of_none hod nfd).symm
    have fdk : ∀ k, k < hs.length → qa k ≠ fd := fun k hk => by
      obtain ⟨vs, h1, _⟩ := qs.at_ k hk
      exact ne_of_none h1 nfd
    have k1 : TK H H1 := TK.but hF B1
    refine ⟨_, rfl, ba, _, rfl, .inr (SqT.of (same_new nfd _ _ (k1 _ _ eb))), _, rfl, by omega, by omega, for_range (lo := 0) (n := bv.length) (fun i σ H2 => ∃ (found rest : List BR) (fv : List V) (v9 v10 v11 v12 v13 : Option V), σ = [some (.ref f), some (.ref r), some (.ref ha), some (.ref ba), some (.ref od), some (.ref ql), none, none, some (.ref fd), v9, v10, v11, v12, v13] ∧ QsAt H H2 od ql qa hs.length rest ∧ H2 fd = some (.lst fv) ∧ All2 (BeltAt H2) fv found ∧ Mid hs.length bs ord found rest ∧ found.length = i ∧ H2 od = some (.lst (ord.map nV)) ∧ Flow H2 f c ∧ But f H H2)
      ⟨[], bs, [], none, none, none, none, none, rfl, qs.same (same_new nfd), upd_same, .nil, Mid.zero, rfl, same_new nfd _ _ hod, F1.new nfd, B1.new nfd⟩ ?_ ?_⟩
    · rintro i σ H2 hi ⟨found, rest, fv, v9, v10, v11, v12, v13, rfl, qs2, hfd2, alf, mid, lf, hod2, F2, B2⟩
      have k2 : TK H H2 := TK.but hF B2
      refine ⟨_, rfl, ha, _, rfl, .inr (SqT.of (k2 _ _ eh)), _, rfl, by omega, by omega, fun sm nsm => lc_range (lo := 0) (n := hv.length) (fun j H5 => ∃ ks : List Nat, H5 sm = some (.lst (ks.map nV)) ∧ Same H2 H5 ∧ ks.length ≤ j ∧ ∀ k, k ∈ ks ↔ k < j ∧ rest.filter (fun b => decide (b.to = k)) ≠ []) ⟨[], upd_same, same_new nsm, Nat.le_refl _, fun k => ⟨(fun z => nomatch z), (fun z => absurd z.1 (Nat.not_lt_zero _))⟩⟩ ?_ ?_⟩
      · rintro j H5 hj ⟨ks, hsm, s5, lk, mem⟩
        obtain ⟨vs, hq, al⟩ := qs2.at_ j (by omega)
        have lal := al.length
        refine ⟨rfl, _, rfl, _, rfl, ql, _, _, _, rfl, rfl, SqL.of (s5 _ _ qs2.hq), at0 (QsAt.get (H0 := H) (H := H) (od := od) (ql := ql) (rest := rest) (by omega)), qa j, _, rfl, .inl (SqL.of (s5 _ _ hq)), _, _, rfl, rfl, _, rfl, if_bl (fun kk => ?_) (fun kk => ?_)⟩
        · have pos := of_decide_eq_true kk
          have ne : rest.filter (fun b => decide (b.to = j)) ≠ [] := fun z => by rw [z] at lal; simp at lal; simp [lal] at pos
          refine ⟨_, rfl, _, hsm, by rw [List.length_map]; exact small1000 (by omega), ks ++ [j], by rw [upd_same, List.map_append, Int.zero_add]; rfl, Same.own s5 nsm, by rw [List.length_append]; show ks.length + 1 ≤ j + 1; omega, fun k => ?_⟩
          rw [List.mem_append, mem, List.mem_singleton]
          constructor
          · rintro (z | z)
            · exact ⟨by omega, z.2⟩
            · rw [z]; exact ⟨by omega, ne⟩
          · rintro ⟨z1, z2⟩
            by_cases e : k = j
            · exact .inr e
            · exact .inl ⟨by omega, z2⟩
        · have neg := of_decide_eq_false kk
          have em : rest.filter (fun b => decide (b.to = j)) = [] := List.length_eq_zero_iff.mp (by omega)
          refine ⟨ks, hsm, s5, by omega, fun k => ?_⟩
          rw [mem]
          constructor
          · rintro ⟨z1, z2⟩
            exact ⟨by omega, z2⟩
          · rintro ⟨z1, z2⟩
            refine ⟨?_, z2⟩
            by_cases e : k = j
            · exact absurd (by rw [e]; exact em) z2
            · omega
      · rintro H5 ⟨ks, hsm, s5, lk, mem⟩
        rw [lhv] at mem
        obtain ⟨k1', k1n, hk1⟩ := mid.some (fun b hb => (ok.ends b hb).2) (by omega)
        have kpos : 0 < ks.length := List.length_pos_iff.mpr fun z => by
          have := (mem k1').mpr ⟨k1n, hk1⟩
          rw [z] at this
          cases this
        have F5 := F2.same s5
        have smf : sm ≠ f := F2.ne nsm
        refine ⟨_, rfl, _, rfl, _, rfl, _, rfl, sm, _, rfl, .inl (SqL.of hsm), f, c, _, rfl, by rw [List.length_map]; omega, by rw [List.length_map]; exact log_small (by omega), F5, fun v H6 v0 v1 F6 B6 => ?_⟩
        rw [List.length_map] at v1
        obtain ⟨u, rfl⟩ : ∃ u : Nat, v = ((u : Nat) : Int) := ⟨v.toNat, by omega⟩
        have ul : u < ks.length := by omega
        obtain ⟨k0, ek0⟩ : ∃ k0, ks[u]? = some k0 := ⟨_, List.getElem?_eq_getElem ul⟩
        obtain ⟨k0n, hk0⟩ := (mem k0).mp (List.mem_of_getElem? ek0)
        have k26 : TK H2 H6 := (TK.same s5).trans (TK.but F5 B6)
        have b26 : ∀ b o, H2 b = some o → b ≠ f → H6 b = some o := fun b o e n => B6 _ _ (s5 _ _ e) n
        have qf : ∀ k, k < hs.length → qa k ≠ f := fun k hk => hF.ne (qs2.old k hk)
        have qs6 : QsAt H H6 od ql qa hs.length rest := qs2.go ((b26 _ _ qs2.hq (hF.ne qs2.ql0.1)).trans qs2.hq.symm) (fun k hk => by
          obtain ⟨vs, h1, _⟩ := qs2.at_ k hk
          exact (b26 _ _ h1 (qf k hk)).trans h1.symm) k26
        obtain ⟨vs0, hq0, al0⟩ := qs6.at_ k0 k0n
        obtain ⟨x, t', ef⟩ : ∃ x t', rest.filter (fun b => decide (b.to = k0)) = x :: t' := by
          cases e : rest.filter (fun b => decide (b.to = k0)) with
          | nil => exact absurd e hk0
          | cons x t' => exact ⟨x, t', rfl⟩
        rw [ef] at al0
        have xin : x ∈ rest := (List.mem_filter.mp (by rw [ef]; exact List.mem_cons_self .. : x ∈ rest.filter (fun b => decide (b.to = k0)))).1
        have xe := ok.ends x (mid.sub x xin)
        cases al0 with
        | @cons w0 _ vs' _ hb alt =>
        have al0' : All2 (BeltAt H6) (w0 :: vs') (x :: t') := .cons hb alt
        obtain ⟨t, g, rfl, e1, e2⟩ := id hb
        obtain ⟨rest', mid', lr', f1, f2⟩ := mid.step omem k0n ef
        have qs7 := qs6.pop k0n hq0 al0' f1 f2
        have k67 : TK H6 (upd H6 (qa k0) (.lst vs')) := TK.lst hq0
        refine ⟨sm, _, _, _, rfl, rfl, SqL.of (B6 _ _ hsm smf), atI_nat (by rw [List.getElem?_map, ek0]; rfl), ql, _, _, _, rfl, rfl, SqL.of qs6.hq, atI_nat (QsAt.get (H0 := H) (H := H) (od := od) (ql := ql) (rest := rest) k0n), .inl ⟨rfl, _, SqL.of hq0⟩, qa k0, _, 0, 0, _, rfl, rfl, hq0, by decide, by decide, seqIndex_of (Int.le_refl 0) (by rw [List.length_cons]; omega), rfl, ?_⟩
        have hfd7 : upd H6 (qa k0) (.lst vs') fd = some (.lst fv) := by rw [upd_ne (fdk k0 k0n).symm]; exact b26 _ _ hfd2 fdf
        have hod7 : upd H6 (qa k0) (.lst vs') od = some (.lst (ord.map nV)) := by rw [upd_ne (qs6.nod k0 k0n).1.symm]; exact b26 _ _ hod2 (hF.ne od0)
        refine ⟨t, _, rfl, SqT.of (k67 _ _ e1), rfl, _, _, rfl, _, _, rfl, _, _, rfl, rfl, ?_⟩
        refine ⟨_, rfl, .inl ⟨rfl, _, SqL.of hfd7⟩, _, rfl, .inl ⟨rfl, _, SqL.of hod7⟩, _, rfl, ?_⟩
        dsimp only [tNil]
        refine index_nat hod7 (omem _ xe.1) ?_
        refine ⟨_, rfl, .inl ⟨rfl, _, SqL.of hod7⟩, _, rfl, ?_⟩
        dsimp only [tNil]
        refine index_nat hod7 (omem _ xe.2) ?_
        refine ⟨_, rfl, (by show 3 ≤ sizeLine; decide), fun tp ntp => ?_⟩
        have s78 : Same (upd H6 (qa k0) (.lst vs')) (upd (upd H6 (qa k0) (.lst vs')) tp (.tup [nV (ord.idxOf x.one), nV (ord.idxOf x.to), V.ref g])) := same_new ntp
        have hfd8 := s78 _ _ hfd7
        have lfv := alf.length
        refine ⟨fd, _, _, rfl, rfl, hfd8, small1000 (by omega), ?_⟩
        have k79 := (TK.same s78).trans (TK.lst (ys := fv ++ [V.ref tp]) hfd8)
        have F7 : Flow (upd H6 (qa k0) (.lst vs')) f c := F6.lst (qf k0 k0n) (hF.nec (qs2.old k0 k0n))
        have B7 : But f H (upd H6 (qa k0) (.lst vs')) := ((B2.same s5).trans B6).own (qs2.old k0 k0n)
        refine ⟨found ++ [ren ord x], rest', fv ++ [V.ref tp], _, _, _, _, _, rfl, (qs7.same s78).go (upd_ne fdq.symm) (fun k hk => upd_ne (fdk k hk)) (TK.lst hfd8), upd_same, ?_, mid', by rw [List.length_append, lf]; rfl, by rw [upd_ne fdo.symm]; exact s78 _ _ hod7, (F7.same s78).lst fdf fdc, (B7.same s78).own fd0⟩
        exact ((alf.imp fun _ _ z => z.keep (k26.trans (k67.trans (TK.same s78)))).snoc (⟨tp, g, rfl, upd_same, s78 _ _ (k67 _ _ e2)⟩ : BeltAt _ (V.ref tp) (ren ord x))).imp fun _ _ z => z.keep (TK.lst hfd8)
    · rintro σ H2 ⟨found, rest, fv, v9, v10, v11, v12, v13, rfl, qs2, hfd2, alf, mid, lf, hod2, F2, B2⟩
      have er : rest = [] := by
        have := mid.len
        exact List.length_eq_zero_iff.mp (by omega)
      subst er
      exact ⟨eD, od, fd, ord, found, fv, _, v9, v10, v11, v12, v13, rfl, hfd2, alf, mid, hod2, pm, od0, F2, B2⟩
  case tail1 =>
    rintro D' σ' H1 ⟨eD, od, ord, rfl, hod, pm, od0, F1, B1⟩
    have k1 : TK H H1 := TK.but hF B1
    refine ⟨_, rfl, ha, _, rfl, .inr (SqT.of (k1 _ _ eh)), _, rfl, by omega, by omega, fun ql nql => lc_range (lo := 0) (n := hv.length) (fun j H5 => ∃ qa : Nat → Addr, QsAt H H5 od ql qa j bs ∧ Same H1 H5) ?_ ?_ ?_⟩
    · refine ⟨fun _ => 0, ⟨upd_same, (fun _ z => absurd z (Nat.not_lt_zero _)), (fun _ _ z => absurd z (Nat.not_lt_zero _)), (fun _ z => absurd z (Nat.not_lt_zero _)), (fun _ z => absurd z (Nat.not_lt_zero _)), B1.none nql (F1.ne nql), (ne_of_none hod nql).symm⟩, same_new nql⟩
    · rintro j H5 hj ⟨qa, qs, s5⟩
      have k5 := k1.trans (TK.same s5)
      refine ⟨rfl, yes_in ⟨_, rfl, ba, rfl, ⟨_, SqT.of (k5 _ _ eb)⟩, fun D2 nD2 => lc_tup (K := K) (a := ba) (xs := bv) (fun i H6 => ∃ vs : List V, H6 D2 = some (.lst vs) ∧ All2 (BeltAt H6) vs ((bs.take i).filter fun b => decide (b.to = j)) ∧ Same H5 H6 ∧ vs.length ≤ i) ⟨[], upd_same, .nil, same_new nD2, Nat.le_refl _⟩ (fun i H6 _ ⟨_, _, _, s6, _⟩ => SqT.of (s6 _ _ (k5 _ _ eb))) ?_ ?_⟩⟩
      · rintro i x H6 hx ⟨vs, hD2, al, s6, lv⟩
        have il := (List.getElem?_eq_some_iff.mp hx).1
        obtain ⟨b, eb', hB⟩ := alb.getL hx
        obtain ⟨t, g, rfl, e1, e2⟩ := hB.keep (k5.trans (TK.same s6))
        refine ⟨rfl, _, rfl, t, _, _, _, rfl, rfl, SqT.of e1, atI_nat (j := 1) rfl, _, rfl, rfl, _, rfl, if_bl (fun kk => ?_) (fun kk => ?_)⟩
        · have ek : b.to = j := by
            have := V.int.inj (of_decide_eq_true kk)
            omega
          refine ⟨_, rfl, vs, hD2, small1000 (by omega), vs ++ [V.ref t], upd_same, ?_, Same.own s6 nD2, by rw [List.length_append]; show vs.length + 1 ≤ i + 1; omega⟩
          rw [List.take_add_one, eb', List.filter_append, Option.toList, List.filter_cons_of_pos (by rw [ek]; exact decide_eq_true rfl), List.filter_nil]
          exact (al.snoc (⟨t, g, rfl, e1, e2⟩ : BeltAt H6 (V.ref t) b)).imp fun _ _ z => z.keep (TK.lst hD2)
        · have ek : b.to ≠ j := fun z => of_decide_eq_false kk (by rw [z, Int.zero_add])
          refine ⟨vs, hD2, ?_, s6, by omega⟩
          rw [List.take_add_one, eb', List.filter_append, Option.toList, List.filter_cons_of_neg (by rw [decide_eq_true_eq]; exact ek), List.filter_nil, List.append_nil]
          exact al
      · rintro H6 ⟨vs, hD2, al, s6, lv⟩
        rw [lbv, List.take_length] at al
        have n1 := same_none s5 nD2
        exact ⟨_, s6 _ _ qs.hq, by rw [List.length_map, List.length_range]; exact small1000 (by omega), _, qs.more nD2 s6 hD2 al (B1.none n1 (F1.ne n1)) (ne_of_none (s5 _ _ hod) nD2).symm, Same.own (s5.trans s6) nql⟩
    · rintro H5 ⟨qa, qs, s5⟩
      rw [lhv] at qs
      exact ⟨eD, od, ql, qa, ord, rfl, qs, s5 _ _ hod, pm, od0, F1.same s5, B1.same s5⟩
  refine ⟨_, rfl, r, _, rfl, SqT.of er, rfl, _, _, rfl, _, _, rfl, rfl, ?_⟩
  refine ⟨_, rfl, _, rfl, ha, _, rfl, .inr (SqT.of eh), _, rfl, ⟨by omega, by omega, by omega, by omega, by omega⟩, fun lf nlf => ?_⟩
  have erg : rgV 0 ((hv.length : Nat) : Int) = (List.range hs.length).map nV := by
    unfold rgV
    rw [show (((hv.length : Nat) : Int) - 0).toNat = hs.length by omega]
    refine List.map_congr_left fun i _ => ?_
    show V.int (0 + ((i : Nat) : Int)) = V.int ((i : Nat) : Int)
    rw [Int.zero_add]
  rw [erg]
  refine ⟨f, c, lf, _, rfl, SqL.of upd_same, hF.ne nlf, by rw [List.length_map, List.length_range]; omega, hF.new nlf, fun od ys H1 pm nod hod F1 B1 => ?_⟩
  obtain ⟨ord, rfl, pm'⟩ := perm_inv (f := nV) (g := unN) (fun _ => rfl) pm
  exact ⟨rfl, od, ord, rfl, hod, pm', same_none (same_new nlf) nod, F1, (But.refl.new nlf).trans B1⟩
end
theorem All2.perm {α β : Type} {R : α → β → Prop} : ∀ {as as' : List α} {bs : List β}, as'.Perm as → All2 R as bs → ∃ bs' : List β, bs'.Perm bs ∧ All2 R as' bs' := by
  intro as as' bs p
  induction p generalizing bs with
  | nil => intro a; exact ⟨bs, .refl _, a⟩
  | cons x _ ih =>
    intro a
    cases a with
    | cons h t => obtain ⟨b', p', a'⟩ := ih t; exact ⟨_ :: b', p'.cons _, .cons h a'⟩
  | swap x y l =>
    intro a
    cases a with
    | cons h t => cases t with
      | cons h2 t2 => exact ⟨_ :: _ :: _, .swap .., .cons h2 (.cons h t2)⟩
  | trans _ _ ih1 ih2 =>
    intro a
    obtain ⟨b1, p1, a1⟩ := ih2 a
    obtain ⟨b2, p2, a2⟩ := ih1 a1
    exact ⟨b2, p2.trans p1, a2⟩
/-! ### rooms copied: some hands of a room several times -/
def cT (bs : List BR) (k : Nat) : Nat := (bs.map BR.to).count k
def sumC (bs : List BR) (ms : List (Nat × Int)) : Nat := (ms.map fun m => cT bs m.1).sum
def MdAt (H : Hp) (v : V) (m : Nat × Int) : Prop := ∃ a : Addr, v = .ref a ∧ H a = some (.tup [nV m.1, .int m.2])
theorem MdAt.keep {H H' : Hp} {v : V} {m : Nat × Int} (h : MdAt H v m) (k : TK H H') : MdAt H' v m := by
  obtain ⟨a, e, e1⟩ := h
  exact ⟨a, e, k _ _ e1⟩
theorem cT_snoc (bs : List BR) (b : BR) (k : Nat) : cT (bs ++ [b]) k = cT bs k + if b.to = k then 1 else 0 := by
  unfold cT
  rw [List.map_append, List.count_append]
  congr 1
  show [b.to].count k = _
  rw [List.count_singleton]
  by_cases h : b.to = k
  · rw [if_pos h]; simp [h]
  · rw [if_neg h]; simp [h]
theorem ind_sum {n k : Nat} (h : k < n) : ((List.range n).map fun j => if k = j then 1 else 0).sum = 1 := by
  induction n with
  | zero => omega
  | succ n ih =>
    rw [List.range_succ, List.map_append, List.sum_append]
    by_cases e : k = n
    · have z : ((List.range n).map fun j => if k = j then 1 else 0).sum = 0 := by
        have : ∀ m, m ≤ k → ((List.range m).map fun j => if k = j then 1 else 0).sum = 0 := by
          intro m
          induction m with
          | zero => intro _; rfl
          | succ m ih2 =>
            intro hm
            rw [List.range_succ, List.map_append, List.sum_append, ih2 (by omega)]
            show 0 + ((if k = m then 1 else 0) + 0) = 0
            rw [if_neg (by omega : ¬ k = m)]
            exact Nat.zero_add _
        exact this n (by omega)
      rw [z]
      show 0 + ((if k = n then 1 else 0) + 0) = 1
      rw [if_pos e]
      exact Nat.zero_add _
    · rw [ih (by omega)]
      show 1 + ((if k = n then 1 else 0) + 0) = 1
      rw [if_neg e]
      exact Nat.add_zero _
theorem sum_add {f g : Nat → Nat} (l : List Nat) : (l.map fun j => f j + g j).sum = (l.map f).sum + (l.map g).sum := by
  induction l with
  | nil => rfl
  | cons x r ih => rw [List.map_cons, List.map_cons, List.map_cons, List.sum_cons, List.sum_cons, List.sum_cons, ih]; omega
theorem cT_sum {n : Nat} : ∀ bs : List BR, (∀ b ∈ bs, b.to < n) → ((List.range n).map (cT bs)).sum = bs.length := by
  intro bs
  induction bs using snoc_ind with
  | h0 =>
    intro _
    have : ∀ l : List Nat, (l.map (cT [])).sum = 0 := by
      intro l
      induction l with
      | nil => rfl
      | cons x r ih => rw [List.map_cons, List.sum_cons, ih]; rfl
    exact this _
  | h1 l b ih =>
    intro h
    have e : (fun j => cT (l ++ [b]) j) = fun j => cT l j + if b.to = j then 1 else 0 := funext fun j => cT_snoc l b j
    show ((List.range n).map fun j => cT (l ++ [b]) j).sum = _
    rw [e, sum_add, ind_sum (h b (List.mem_append.mpr (.inr (List.mem_singleton.mpr rfl)))), List.length_append]
    rw [show ((List.range n).map fun j => cT l j).sum = l.length from ih fun c hc => h c (List.mem_append.mpr (.inl hc))]
    rfl
/-- the hands' numbers and moments of a room copied -/
structure Made (hs : List HR) (bs : List BR) (ms : List (Nat × Int)) : Prop where
  few : ms.length ≤ 12
  ok : ∀ m ∈ ms, m.1 < hs.length ∧ 0 ≤ m.2 ∧ m.2 ≤ 30
  all : ∀ k, k < hs.length → ∃ m ∈ ms, m.1 = k
  sum : sumC bs ms ≤ 20
theorem Made.perm {hs : List HR} {bs : List BR} {ms ns : List (Nat × Int)} (h : Made hs bs ms) (p : ns.Perm ms) : Made hs bs ns := by
  refine ⟨by rw [p.length_eq]; exact h.few, fun m hm => h.ok m (p.mem_iff.mp hm), fun k hk => ?_, ?_⟩
  · obtain ⟨m, hm, e⟩ := h.all k hk
    exact ⟨m, p.mem_iff.mpr hm, e⟩
  · have : sumC bs ns = sumC bs ms := List.Perm.sum_nat (List.Perm.map (fun m : Nat × Int => cT bs m.1) p)
    rw [this]; exact h.sum
def kOf (ms : List (Nat × Int)) (j : Nat) : Nat := (ms.getD j (0, 0)).1
theorem kOf_at {ms : List (Nat × Int)} {j : Nat} {m : Nat × Int} (h : ms[j]? = some m) : kOf ms j = m.1 := by
  unfold kOf
  rw [List.getD_eq_getElem?_getD, h]; rfl
def handN (hs : List HR) (m : Nat × Int) : HR := match hs[m.1]? with
  | some h => ⟨h.wd, h.no, m.2⟩
  | none => ⟨"", none, 0⟩
/-- the belts found till now: all of the first j hands, of the next one those among i -/
structure Fd (bs : List BR) (ms : List (Nat × Int)) (j i : Nat) (fs : List BR) : Prop where
  of : ∀ f ∈ fs, ∃ b ∈ bs, f.th = b.th ∧ f.one < ms.length ∧ kOf ms f.one = b.one ∧ f.to < ms.length ∧ kOf ms f.to = b.to
  at_ : ∀ j', cT fs j' = if j' < j then cT bs (kOf ms j') else if j' = j then cT (bs.take i) (kOf ms j) else 0
  len : fs.length ≤ 20 * j + i
theorem Fd.zero {bs : List BR} {ms : List (Nat × Int)} : Fd bs ms 0 0 [] := ⟨(fun _ z => nomatch z), fun j' => by
  rw [if_neg (by omega)]
  split <;> rfl, Nat.zero_le _⟩
theorem Fd.skip {bs : List BR} {ms : List (Nat × Int)} {j i : Nat} {fs : List BR} {b : BR} (h : Fd bs ms j i fs) (eb : bs[i]? = some b) (ne : b.to ≠ kOf ms j) : Fd bs ms j (i + 1) fs := by
  refine ⟨h.of, fun j' => ?_, by have := h.len; omega⟩
  rw [h.at_ j', List.take_add_one, eb]
  show _ = if j' < j then _ else if j' = j then cT (bs.take i ++ [b]) (kOf ms j) else 0
  rw [cT_snoc, if_neg ne, Nat.add_zero]
theorem Fd.more {bs : List BR} {ms : List (Nat × Int)} {j i o : Nat} {fs : List BR} {b : BR} (h : Fd bs ms j i fs) (eb : bs[i]? = some b) (e : b.to = kOf ms j) (jl : j < ms.length) (ol : o < ms.length) (eo : kOf ms o = b.one) : Fd bs ms j (i + 1) (fs ++ [⟨o, j, b.th⟩]) := by
  refine ⟨fun f hf => ?_, fun j' => ?_, by have := h.len; rw [List.length_append]; show _ + 1 ≤ _; omega⟩
  · rcases List.mem_append.mp hf with hf | hf
    · exact h.of f hf
    · rw [List.mem_singleton.mp hf]
      exact ⟨b, List.mem_of_getElem? eb, rfl, ol, eo, jl, e.symm⟩
  · rw [cT_snoc, h.at_ j', List.take_add_one, eb]
    show (if j' < j then _ else if j' = j then cT (bs.take i) (kOf ms j) else 0) + (if j = j' then 1 else 0) = if j' < j then _ else if j' = j then cT (bs.take i ++ [b]) (kOf ms j) else 0
    rw [cT_snoc, if_pos e]
    by_cases h1 : j' < j
    · rw [if_pos h1, if_pos h1, if_neg (by omega)]
      exact Nat.add_zero _
    · rw [if_neg h1, if_neg h1]
      by_cases h2 : j' = j
      · rw [if_pos h2, if_pos h2, if_pos h2.symm]
      · rw [if_neg h2, if_neg h2, if_neg (fun z => h2 z.symm)]
theorem Fd.up {bs : List BR} {ms : List (Nat × Int)} {j : Nat} {fs : List BR} (h : Fd bs ms j bs.length fs) (l : bs.length ≤ 20) : Fd bs ms (j + 1) 0 fs := by
  refine ⟨h.of, fun j' => ?_, by have := h.len; omega⟩
  rw [h.at_ j', List.take_length]
  by_cases h1 : j' < j
  · rw [if_pos h1, if_pos (by omega)]
  · rw [if_neg h1]
    by_cases h2 : j' = j
    · rw [if_pos h2, if_pos (by omega), h2]
    · rw [if_neg h2, if_neg (by omega)]
      split <;> rfl
theorem copied_ok {hs : List HR} {bs fs : List BR} {ms : List (Nat × Int)} (ok : RoomOk hs bs) (md : Made hs bs ms) (fd : Fd bs ms ms.length 0 fs) : RoomOk (ms.map (handN hs)) fs := by
  have hk : ∀ {m : Nat × Int}, m ∈ ms → ∃ h, hs[m.1]? = some h ∧ handN hs m = ⟨h.wd, h.no, m.2⟩ := fun {m} hm => by
    have e := List.getElem?_eq_getElem (md.ok m hm).1
    exact ⟨_, e, by unfold handN; rw [e]⟩
  have at_ : ∀ {j}, j < ms.length → ∃ m h, ms[j]? = some m ∧ m ∈ ms ∧ kOf ms j = m.1 ∧ hs[m.1]? = some h ∧ (ms.map (handN hs))[j]? = some ⟨h.wd, h.no, m.2⟩ := fun {j} hj => by
    have e := List.getElem?_eq_getElem hj
    obtain ⟨h, e1, e2⟩ := hk (List.getElem_mem hj)
    exact ⟨_, h, e, List.getElem_mem hj, kOf_at e, e1, by rw [List.getElem?_map, e]; exact congrArg some e2⟩
  have lm : (ms.map (handN hs)).length = ms.length := List.length_map ..
  have cnt : ∀ j, j < ms.length → cT fs j = cT bs (kOf ms j) := fun j hj => by rw [fd.at_ j, if_pos hj]
  obtain ⟨rk, hrk⟩ := ok.rank
  refine ⟨by rw [lm]; exact md.few, fun h hh => ?_, fun f hf => ?_, fun f hf h eh => ?_, fun f hf => ?_, ⟨fun j => rk (kOf ms j), fun f hf e => ?_⟩, fun j h eh => ?_, ?_⟩
  · obtain ⟨m, hm, rfl⟩ := List.mem_map.mp hh
    obtain ⟨h0, e1, e2⟩ := hk hm
    rw [e2]
    obtain ⟨g1, g2, g3⟩ := ok.good h0 (List.mem_of_getElem? e1)
    obtain ⟨_, m0, m1⟩ := md.ok m hm
    refine ⟨?_, m0, m1⟩
    rcases g1 with g | g
    · exact .inl ⟨g.wd, g.no, g.big⟩
    · exact .inr g
  · obtain ⟨b, hb, _, a1, _, a2, _⟩ := fd.of f hf
    rw [lm]
    exact ⟨a1, a2⟩
  · obtain ⟨b, hb, _, a1, a2, _⟩ := fd.of f hf
    obtain ⟨m, h0, e1, e2, e3, e4, e5⟩ := at_ a1
    rw [e5] at eh
    rw [← Option.some.inj eh]
    exact ok.out b hb h0 (by rw [← a2, e3]; exact e4)
  · obtain ⟨b, hb, e, _⟩ := fd.of f hf
    rw [e]
    exact ok.th b hb
  · obtain ⟨b, hb, e0, a1, a2, a3, a4⟩ := fd.of f hf
    show rk (kOf ms f.one) < rk (kOf ms f.to)
    rw [a2, a4]
    exact hrk b hb (by rw [← e0]; exact e)
  · have jl : j < ms.length := by rw [← lm]; exact (List.getElem?_eq_some_iff.mp eh).1
    obtain ⟨m, h0, e1, e2, e3, e4, e5⟩ := at_ jl
    rw [e5] at eh
    rw [← Option.some.inj eh]
    have c := cnt j jl
    have d := ok.count m.1 h0 e4
    show ((cT fs j : Nat) : Int) = needs h0.wd
    rw [c, e3]
    exact d
  · have e := cT_sum fs fun f hf => by obtain ⟨b, hb, _, _, _, a, _⟩ := fd.of f hf; exact a
    have : ((List.range ms.length).map (cT fs)).sum = sumC bs ms := by
      unfold sumC
      congr 1
      refine List.ext_getElem? fun i => ?_
      rw [List.getElem?_map, List.getElem?_map]
      by_cases hi : i < ms.length
      · rw [List.getElem?_range hi, List.getElem?_eq_getElem hi]
        show some (cT fs i) = some (cT bs ms[i].1)
        rw [cnt i hi, kOf_at (List.getElem?_eq_getElem hi)]
      · rw [List.getElem?_eq_none (by rw [List.length_range]; omega), List.getElem?_eq_none (by omega)]
        rfl
    rw [this] at e
    rw [← e]
    exact md.sum
/-- while hands are copied -/
structure Mding (hs : List HR) (bs : List BR) (i : Nat) (ms : List (Nat × Int)) (left : Int) : Prop where
  few : ms.length + (hs.length - i) ≤ 12
  ok : ∀ m ∈ ms, m.1 < hs.length ∧ 0 ≤ m.2 ∧ m.2 ≤ 30
  all : ∀ k, k < i → ∃ m ∈ ms, m.1 = k
  sum : ((sumC bs ms : Nat) : Int) + left + bs.length = 20 + ((((List.range i).map (cT bs)).sum : Nat) : Int)
  left : 0 ≤ left
theorem sumC_snoc (bs : List BR) (ms : List (Nat × Int)) (m : Nat × Int) : sumC bs (ms ++ [m]) = sumC bs ms + cT bs m.1 := by
  unfold sumC
  rw [List.map_append, List.sum_append]
  show _ + (cT bs m.1 + 0) = _
  omega
theorem Mding.own {hs : List HR} {bs : List BR} {i : Nat} {ms : List (Nat × Int)} {left : Int} {h : HR} (q : Mding hs bs i ms left) (e : hs[i]? = some h) (g : GoodHand h) : Mding hs bs (i + 1) (ms ++ [(i, h.mom)]) left := by
  have il := (List.getElem?_eq_some_iff.mp e).1
  refine ⟨by have := q.few; rw [List.length_append]; show _ + 1 + _ ≤ _; omega, fun m hm => ?_, fun k hk => ?_, ?_, q.left⟩
  · rcases List.mem_append.mp hm with hm | hm
    · exact q.ok m hm
    · rw [List.mem_singleton.mp hm]; exact ⟨il, g.2.1, g.2.2⟩
  · by_cases hk2 : k < i
    · obtain ⟨m, hm, e⟩ := q.all k hk2
      exact ⟨m, List.mem_append.mpr (.inl hm), e⟩
    · exact ⟨(i, h.mom), List.mem_append.mpr (.inr (List.mem_singleton.mpr rfl)), by show i = k; omega⟩
  · rw [sumC_snoc, List.range_succ, List.map_append, List.sum_append]
    have := q.sum
    show _ = 20 + (((_ + (cT bs i + 0)) : Nat) : Int)
    push_cast
    omega
theorem Mding.more {hs : List HR} {bs : List BR} {i : Nat} {ms : List (Nat × Int)} {left v : Int} {h : HR} (q : Mding hs bs (i + 1) ms left) (e : hs[i]? = some h) (cn : ((cT bs i : Nat) : Int) = needs h.wd) (few : ms.length + 1 + (hs.length - (i + 1)) ≤ 12) (v0 : 0 ≤ v) (v1 : v < 31) (lf : needs h.wd ≤ left) : Mding hs bs (i + 1) (ms ++ [(i, v)]) (left - needs h.wd) := by
  have il := (List.getElem?_eq_some_iff.mp e).1
  refine ⟨by rw [List.length_append]; exact few, fun m hm => ?_, fun k hk => ?_, ?_, by omega⟩
  · rcases List.mem_append.mp hm with hm | hm
    · exact q.ok m hm
    · rw [List.mem_singleton.mp hm]; exact ⟨il, v0, by show v ≤ 30; omega⟩
  · obtain ⟨m, hm, e⟩ := q.all k hk
    exact ⟨m, List.mem_append.mpr (.inl hm), e⟩
  · have := q.sum
    rw [sumC_snoc]
    push_cast
    show ((sumC bs ms : Nat) : Int) + ((cT bs i : Nat) : Int) + (left - needs h.wd) + _ = _
    omega
theorem Mding.done {hs : List HR} {bs : List BR} {ms : List (Nat × Int)} {left : Int} (q : Mding hs bs hs.length ms left) (ok : RoomOk hs bs) : Made hs bs ms := by
  refine ⟨by have := q.few; omega, q.ok, q.all, ?_⟩
  have := q.sum
  have e := cT_sum (n := hs.length) bs fun b hb => (ok.ends b hb).2
  rw [e] at this
  have := q.left
  omega
theorem small_mul {v : Int} {b : Bool} (h0 : 0 ≤ v) (h1 : v < 3) : 0 ≤ v * (if b = true then 1 else 0) ∧ v * (if b = true then 1 else 0) ≤ 2 := by
  cases b
  · rw [if_neg Bool.false_ne_true]; omega
  · rw [if_pos rfl]; omega
section
variable {P : Program} {w : World} {K : PySem.W.Frag} {mg : Str → Option Value} {base : Heap}
def sp_law_copied (K : PySem.W.Frag) : Sp := fun vs H Q _ => ∃ f c : Addr, vs = [.ref f] ∧ Flow H f c ∧ ∀ (r : Addr) (hs : List HR) (bs : List BR) (H' : Hp), RoomAt H' r hs bs → RoomOk hs bs → 0 < hs.length → Flow H' f c → But f H H' → Q (.ref r) H'
theorem ok_law_copied {f : Addr} {fd : FuncData} (F : Fun K "_law_copied" "_law_copied" s_law_copied f fd) (T : Top K mg) : FnOk P w K mg base CX0 6 f fd ["_law_flow_here"] (sp_law_copied K) := by
  obtain ⟨f_law_room, fd_law_room, F_law_room, b_law_room, m_law_room⟩ := T.d_law_room
  have G_law_room := ok_law_room (P := P) (w := w) (base := base) F_law_room T
  obtain ⟨f_law_shuffled, fd_law_shuffled, F_law_shuffled, b_law_shuffled, m_law_shuffled⟩ := T.d_law_shuffled
  have G_law_shuffled := ok_law_shuffled (P := P) (w := w) (base := base) F_law_shuffled T
  obtain ⟨f_law_pick, fd_law_pick, F_law_pick, b_law_pick, m_law_pick⟩ := T.d_law_pick
  have G_law_pick := ok_law_pick (P := P) (w := w) (base := base) F_law_pick T
  obtain ⟨f_law_needs, fd_law_needs, F_law_needs, b_law_needs, m_law_needs⟩ := T.d_law_needs
  have G_law_needs := ok_law_needs (P := P) (w := w) (base := base) F_law_needs T
  refine F.ok sc_law_copied (fun vs H Q E h => ?_) (fun cdv A outer s H vs Q E hr h => ?_)
  · obtain ⟨f, c, rfl, _⟩ := h
    rfl
  obtain ⟨f, c, rfl, hF, q⟩ := h
  let R1 : TS := fun D' σ' H' => D'.rt = Q ∧ ∃ (ha ba ml : Addr) (hv bv mv : List V) (hs : List HR) (bs : List BR) (ms : List (Nat × Int)) (x4 x5 x6 x7 x8 : Option V), σ' = [some (.ref f), some (.ref ha), some (.ref ba), some (.ref ml), x4, x5, x6, x7, x8, none, none, none, none, none, none, none] ∧
    H' ha = some (.tup hv) ∧ H' ba = some (.tup bv) ∧ All2 (HandAt H') hv hs ∧ All2 (BeltAt H') bv bs ∧ RoomOk hs bs ∧ 0 < hs.length ∧ H' ml = some (.lst mv) ∧ All2 (MdAt H') mv ms ∧ Made hs bs ms ∧ ml ≠ f ∧ Flow H' f c ∧ But f H H'
  let R2 : TS := fun D' σ' H' => D'.rt = Q ∧ ∃ (ha ml fl : Addr) (hv mv fv : List V) (hs : List HR) (bs fs : List BR) (ms : List (Nat × Int)) (x2 x4 x5 x6 x7 x8 x10 x11 x12 x13 x14 : Option V), σ' = [some (.ref f), some (.ref ha), x2, some (.ref ml), x4, x5, x6, x7, x8, some (.ref fl), x10, x11, x12, x13, x14, none] ∧
    H' ha = some (.tup hv) ∧ All2 (HandAt H') hv hs ∧ RoomOk hs bs ∧ 0 < hs.length ∧ H' ml = some (.lst mv) ∧ All2 (MdAt H') mv ms ∧ Made hs bs ms ∧ H' fl = some (.lst fv) ∧ All2 (BeltAt H') fv fs ∧ Fd bs ms ms.length 0 fs ∧ Flow H' f c ∧ But f H H'
  refine ⟨_, (pss_cons (ps_asg (pe_call G_law_room (hr.mono (by decide)) (by rfl) m_law_room F_law_room.kp b_law_room .nil pass0 (pa_cons (pv 0) (pa_cons pe_int pa_nil))) (pg_tupK K rfl rfl (pgs_cons (pg_name (i := 1) sc_law_copied.nd rfl (Or.inr rfl)) (pgs_cons (pg_name (i := 2) sc_law_copied.nd rfl (Or.inl rfl)) pgs_nil))))
      (pss_cons (ps_set (i := 3) sc_law_copied.nd rfl (Or.inr rfl) (pe_lst pa_nil))
      (pss_cons (ps_set (i := 4) sc_law_copied.nd rfl (Or.inl rfl) (pe_op op_sub pe_int (pe_callB (call_len_seqK K rfl) (by rfl) T.m_len (by decide +kernel) (pa_cons (pv 2) pa_nil))))
      (pss_cons (ps_for PassesOwn.never rfl (pi_enumT K rfl (by rfl) T.m_enumerate (pa_cons (pv 1) pa_nil)) (pg_tupK K rfl rfl (pgs_cons (pg_name (i := 5) sc_law_copied.nd rfl (Or.inl rfl)) (pgs_cons (pg_tupK K rfl rfl (pgs_cons (pg_name (i := 6) sc_law_copied.nd rfl (Or.inl rfl)) (pgs_cons (pg_name (i := 7) sc_law_copied.nd rfl (Or.inl rfl)) pgs_nil))) pgs_nil)))
        (pss_cons (ps_expr (pe_bmK K rfl PySem.F.plainAttrs_list PySem.F.slot_list_append PySem.F.type_list_append mt_append (pv 3) (pa_cons (pe_tup (pa_cons (pv 5) (pa_cons (pv 7) pa_nil))) pa_nil)))
      (pss_one (ps_for PassesOwn.never rfl (pi_range1 (by rfl) T.m_range (pa_cons (pe_op op_mul (pe_call G_law_pick (hr.mono (by decide)) (by rfl) m_law_pick F_law_pick.kp b_law_pick .nil pass0 (pa_cons (pv 0) (pa_cons pe_int pa_nil))) (pe_callTy call_int1 (by rfl) T.m_int (by decide +kernel) (pa_cons (pe_cmpR (op_notIn_seqK K rfl) (pe_ix (ix_tupK K rfl) (pv 6) pe_int (fun _ _ => rfl)) (pe_tup (pa_cons pe_str (pa_cons pe_str pa_nil))) (by with_unfolding_all rfl)) pa_nil))) pa_nil)) (pg_name (i := 8) sc_law_copied.nd rfl (Or.inl rfl))
        (pss_one (ps_if (PW.pt (pw_and (pt_cmpR op_lt (pe_op op_sub (pe_op op_add (pe_callB (call_len_seqK K rfl) (by rfl) T.m_len (by decide +kernel) (pa_cons (pv 1) pa_nil)) (pe_callB (call_len_seqK K rfl) (by rfl) T.m_len (by decide +kernel) (pa_cons (pv 3) pa_nil))) (pv 5)) pe_int (nomark _)) (pw_and1 (pt_cmpR op_ge (pv 4) (pe_call G_law_needs (hr.mono (by decide)) (by rfl) m_law_needs F_law_needs.kp b_law_needs .nil pass0 (pa_cons (pv 6) pa_nil)) (nomark _))))) (pss_cons (ps_expr (pe_bmK K rfl PySem.F.plainAttrs_list PySem.F.slot_list_append PySem.F.type_list_append mt_append (pv 3) (pa_cons (pe_tup (pa_cons (pv 5) (pa_cons (pe_call G_law_pick (hr.mono (by decide)) (by rfl) m_law_pick F_law_pick.kp b_law_pick .nil pass0 (pa_cons (pv 0) (pa_cons pe_int pa_nil))) pa_nil))) pa_nil)))
      (pss_one (ps_set (i := 4) sc_law_copied.nd rfl (Or.inl rfl) (pe_op op_sub (pv 4) (pe_call G_law_needs (hr.mono (by decide)) (by rfl) m_law_needs F_law_needs.kp b_law_needs .nil pass0 (pa_cons (pv 6) pa_nil)))))) pss_nil))))))
      (PSs.to (pss_cons (ps_set (i := 3) sc_law_copied.nd rfl (Or.inr rfl) (pe_call G_law_shuffled (hr.mono (by decide)) (by rfl) m_law_shuffled F_law_shuffled.kp b_law_shuffled .nil pass0 (pa_cons (pv 0) (pa_cons (pv 3) pa_nil))))
      (pss_cons (ps_set (i := 9) sc_law_copied.nd rfl (Or.inl rfl) (pe_lst pa_nil))
      (pss_cons (ps_for PassesOwn.never rfl (pi_enumK K rfl (by rfl) T.m_enumerate (pa_cons (pv 3) pa_nil)) (pg_tupK K rfl rfl (pgs_cons (pg_name (i := 10) sc_law_copied.nd rfl (Or.inl rfl)) (pgs_cons (pg_tupK K rfl rfl (pgs_cons (pg_name (i := 5) sc_law_copied.nd rfl (Or.inl rfl)) (pgs_cons (pg_name (i := 7) sc_law_copied.nd rfl (Or.inl rfl)) pgs_nil))) pgs_nil)))
        (pss_one (ps_for PassesOwn.never rfl (pi_tupK K rfl (pv 2)) (pg_tupK K rfl rfl (pgs_cons (pg_name (i := 11) sc_law_copied.nd rfl (Or.inr rfl)) (pgs_cons (pg_name (i := 12) sc_law_copied.nd rfl (Or.inl rfl)) (pgs_cons (pg_name (i := 13) sc_law_copied.nd rfl (Or.inl rfl)) pgs_nil))))
        (pss_one (ps_if (pt_cmpR op_eq (pv 12) (pv 5) (nomark _)) (pss_cons (ps_setLc (i := 14) (own := [("_law_j", 15)]) (g := gName 15) (by rfl) sc_law_copied.nd rfl rfl (sw_true rfl rfl rfl (by decide +kernel)) (pi_range1 (by rfl) T.m_range (pa_cons (pe_callB (call_len_seqK K rfl) (by rfl) T.m_len (by decide +kernel) (pa_cons (pv 3) pa_nil)) pa_nil)) (blkOk_by (own := [("_law_j", 15)]) (N := N_law_copied) (sc := defScope s_law_copied) (by decide +kernel)) (fun _ _ _ _ _ => (pg_name (i := 15) sc_law_copied.nd rfl (Or.inl rfl))) (fun _ _ _ _ _ => pts_one (pt_cmpR op_eq (pe_ix (ix_tupK K rfl) (pe_ix (ix_listK K rfl) (pv 3) (pv 15) (fun _ _ => rfl)) pe_int (fun _ _ => rfl)) (pv 11) (nomark _))) (fun _ _ _ _ _ => (pv 15)))
      (pss_one (ps_expr (pe_bmK K rfl PySem.F.plainAttrs_list PySem.F.slot_list_append PySem.F.type_list_append mt_append (pv 9) (pa_cons (pe_tup (pa_cons (pe_ix (ix_listK K rfl) (pv 14) (pe_call G_law_pick (hr.mono (by decide)) (by rfl) m_law_pick F_law_pick.kp b_law_pick .nil pass0 (pa_cons (pv 0) (pa_cons (pe_callB (call_len_seqK K rfl) (by rfl) T.m_len (by decide +kernel) (pa_cons (pv 14) pa_nil)) pa_nil))) (fun _ _ => rfl)) (pa_cons (pv 10) (pa_cons (pv 13) pa_nil)))) pa_nil))))) pss_nil)))))
      (PSs.to (pss_one (ps_ret (pe_tup (pa_cons (pe_callTy (call_tuple_ofK K rfl) (by rfl) T.m_tuple (by decide +kernel) (pa_cons (pe_lc (own := [("_law_k", 5), ("_law_moments", 7)]) (g := gTup K 2 (gCons (gName 5) (gCons (gName 7) gNil))) (tt := tYes) (by rfl) sc_law_copied.nd (pi_listK K rfl (pv 3)) (blkOk_by (own := [("_law_k", 5), ("_law_moments", 7)]) (N := N_law_copied) (sc := defScope s_law_copied) (by decide +kernel)) (fun _ _ _ _ _ => (pg_tupK K rfl rfl (pgs_cons (pg_name (i := 5) sc_law_copied.nd rfl (Or.inl rfl)) (pgs_cons (pg_name (i := 7) sc_law_copied.nd rfl (Or.inl rfl)) pgs_nil)))) (fun _ _ _ _ _ => pts_nil) (fun _ _ _ _ _ => (pe_tup (pa_cons (pe_ix (ix_tupK K rfl) (pe_ix (ix_tupK K rfl) (pv 1) (pv 5) (fun _ _ => rfl)) pe_int (fun _ _ => rfl)) (pa_cons (pv 7) pa_nil))))) pa_nil)) (pa_cons (pe_callTy (call_tuple_ofK K rfl) (by rfl) T.m_tuple (by decide +kernel) (pa_cons (pv 9) pa_nil)) pa_nil))))) R2 ?tail2)))) R1 ?tail1))))), ?_⟩
  case tail1 =>
    rintro D' σ' H1 ⟨eD, ha, ba, ml, hv, bv, mv, hs, bs, ms, x4, x5, x6, x7, x8, rfl, hha, hba, alh, alb, ok, n0, hml, alm, md, mf, F1, B1⟩
    have few := md.few
    have lmv := alm.length
    have l20 := ok.many
    have lbv := alb.length
    refine ⟨_, rfl, _, rfl, f, c, ml, mv, rfl, SqL.of hml, mf, by omega, F1, fun p ys H2 pm np hp F2 B2 => ?_⟩
    obtain ⟨ns, pn, aln⟩ := alm.perm pm
    have md2 := md.perm pn
    have few2 := md2.few
    have lys := aln.length
    have k2 := TK.but F1 B2
    refine ⟨(by show 0 ≤ sizeLine; decide), fun fl nfl => ?_⟩
    have ff : fl ≠ f := F2.ne nfl
    have fc : fl ≠ c := F2.nec nfl
    have B12 := B1.trans B2
    have fl0 : H fl = none := B12.none nfl ff
    have k3 := TK.new (o := .lst []) nfl
    have hp3 := same_new (o := .lst []) nfl _ _ hp
    have pf : fl ≠ p := fun z => by rw [z, hp] at nfl; cases nfl
    refine ⟨_, rfl, p, ys, rfl, SqL.of hp3, for_it (J := Ite K p) (n := ys.length) (fun j σ H5 => ∃ (fv : List V) (fs : List BR) (x5 x7 x10 x11 x12 x13 x14 : Option V), σ = [some (.ref f), some (.ref ha), some (.ref ba), some (.ref p), x4, x5, x6, x7, x8, some (.ref fl), x10, x11, x12, x13, x14, none] ∧
      TK H2 H5 ∧ H5 p = some (.lst ys) ∧ H5 fl = some (.lst fv) ∧ All2 (BeltAt H5) fv fs ∧ Fd bs ns j 0 fs ∧ Flow H5 f c ∧ But f H H5) ⟨[], [], _, _, _, _, _, _, _, rfl, k3, hp3, upd_same, .nil, Fd.zero, F2.new nfl, B12.new nfl⟩ ?_ ?_ ?_ ?_⟩
    · rintro i σ H5 hi ⟨fv, fs, _, _, _, _, _, _, _, rfl, k5, hp5, _⟩
      exact ⟨ys, _, SqL.of hp5, List.getElem?_eq_getElem hi⟩
    · rintro σ H5 ⟨fv, fs, _, _, _, _, _, _, _, rfl, k5, hp5, _⟩
      exact ⟨ys, SqL.of hp5, Nat.le_refl _⟩
    · rintro j x σ H5 H6 hj ⟨fv, fs, x5, x7, x10, x11, x12, x13, x14, rfl, k5, hp5, hfl5, alf5, fd5, F5, B5⟩ ⟨t, y, rfl, nt, rfl, ey⟩
      obtain ⟨m, em, am, rfl, e1⟩ := aln.getL (ey ys (SqL.of hp5))
      have km : kOf ns j = m.1 := kOf_at em
      have kt := TK.new (o := .tup [V.int ((j : Nat) : Int), V.ref am]) nt
      have k6 := k5.trans kt
      have hm6 := k6 _ _ (k2 _ _ e1)
      refine ⟨t, _, rfl, SqT.of upd_same, rfl, _, _, rfl, _, _, rfl, am, _, rfl, SqT.of hm6, rfl, _, _, rfl, _, _, rfl, rfl, rfl, ?_⟩
      have k26 : TK H1 _ := k2.trans k6
      refine ⟨_, rfl, ba, rfl, ⟨_, SqT.of (k26 _ _ hba)⟩, for_tup (K := K) (a := ba) (xs := bv) (fun i σ H7 => ∃ (fv : List V) (fs : List BR) (x11 x12 x13 x14 : Option V), σ = [some (.ref f), some (.ref ha), some (.ref ba), some (.ref p), x4, some (nV m.1), x6, some (.int m.2), x8, some (.ref fl), some (nV j), x11, x12, x13, x14, none] ∧
        TK H2 H7 ∧ H7 p = some (.lst ys) ∧ H7 fl = some (.lst fv) ∧ All2 (BeltAt H7) fv fs ∧ Fd bs ns j i fs ∧ Flow H7 f c ∧ But f H H7) ⟨fv, fs, _, _, _, _, rfl, k6, same_new nt _ _ hp5, same_new nt _ _ hfl5, alf5.imp fun _ _ z => z.keep kt, fd5, F5.new nt, B5.new nt⟩ (fun i σ H7 _ ⟨_, _, _, _, _, _, _, k7, _⟩ => SqT.of (k7 _ _ (k2 _ _ hba))) ?_ ?_⟩
      · rintro i v σ H7 hx ⟨fv, fs, x11, x12, x13, x14, rfl, k7, hp7, hfl7, alf7, fd7, F7, B7⟩
        obtain ⟨b, eb1, tb, g, rfl, e2, e3⟩ := alb.getL hx
        have bm := List.mem_of_getElem? eb1
        have il := (List.getElem?_eq_some_iff.mp eb1).1
        have k17 := k2.trans k7
        have lfv := alf7.length
        have lfs := fd7.len
        refine ⟨tb, _, rfl, SqT.of (k17 _ _ e2), rfl, _, _, rfl, _, _, rfl, _, _, rfl, rfl, ?_⟩
        refine ⟨_, rfl, _, rfl, rfl, _, rfl, if_bl (fun c1 => ?_) (fun c1 => ?_)⟩
        · have c1 : b.to = m.1 := by have := V.int.inj (of_decide_eq_true c1); omega
          refine ⟨_, rfl, p, _, rfl, .inl (SqL.of hp7), _, rfl, by omega, by omega, fun D nD => lc_range (lo := 0) (n := ys.length) (fun q H8 => H8 D = some (.lst (((List.range q).filter fun z => decide (kOf ns z = b.one)).map nV)) ∧ Same H7 H8) ⟨upd_same, same_new nD⟩ ?_ ?_⟩
          · rintro q H8 hq ⟨hD, s8⟩
            obtain ⟨z, ez⟩ : ∃ z, ys[q]? = some z := ⟨_, List.getElem?_eq_getElem hq⟩
            obtain ⟨n, en, an, rfl, e4⟩ := aln.getL ez
            have kn : kOf ns q = n.1 := kOf_at en
            have fewq := filt_len (p := fun z => decide (kOf ns z = b.one)) q
            refine ⟨rfl, _, rfl, _, rfl, p, _, _, _, rfl, rfl, SqL.of (s8 _ _ hp7), at0 ez, an, _, _, _, rfl, rfl, SqT.of (s8 _ _ (k7 _ _ (k2 _ _ e4))), atI_nat (j := 0) rfl, _, rfl, rfl, _, rfl, if_bl (fun c2 => ?_) (fun c2 => ?_)⟩
            · have c2 : n.1 = b.one := by have := V.int.inj (of_decide_eq_true c2); omega
              refine ⟨_, rfl, _, hD, by rw [List.length_map]; exact small1000 (by omega), ?_, Same.own s8 nD⟩
              rw [upd_same, filt_succ, if_pos (decide_eq_true (by rw [kn]; exact c2)), List.map_append, Int.zero_add]
              rfl
            · have c2 : n.1 ≠ b.one := fun z => of_decide_eq_false c2 (by rw [z])
              refine ⟨?_, s8⟩
              rw [filt_succ, if_neg (fun z => c2 (by have := of_decide_eq_true z; rw [kn] at this; exact this)), List.append_nil]
              exact hD
          · rintro H8 ⟨hD, s8⟩
            obtain ⟨n0', hn0, en0⟩ := md2.all b.one (ok.ends b bm).1
            obtain ⟨z0, hz0, ez0⟩ := List.getElem_of_mem hn0
            have pos : 0 < ((List.range ys.length).filter fun z => decide (kOf ns z = b.one)).length := by
              refine List.length_pos_of_mem (a := z0) (List.mem_filter.mpr ⟨List.mem_range.mpr (by omega), decide_eq_true ?_⟩)
              rw [kOf_at (by rw [List.getElem?_eq_getElem hz0, ez0]), en0]
            have fewq := filt_len (p := fun z => decide (kOf ns z = b.one)) ys.length
            have Df : D ≠ f := F7.ne nD
            refine ⟨_, rfl, .inl ⟨rfl, _, SqL.of (s8 _ _ hfl7)⟩, _, rfl, _, rfl, _, rfl, D, _, rfl, .inl (SqL.of hD), f, c, _, rfl, by rw [List.length_map]; omega, Nat.lt_of_le_of_lt (Nat.log2_le_self _) (by rw [List.length_map]; omega), F7.same s8, fun u H9 u0 u1 F9 B9 => ?_⟩
            rw [List.length_map] at u1
            obtain ⟨o, eo⟩ : ∃ o, ((List.range ys.length).filter fun z => decide (kOf ns z = b.one))[u.toNat]? = some o := ⟨_, List.getElem?_eq_getElem (by omega)⟩
            obtain ⟨o1, o2⟩ := List.mem_filter.mp (List.mem_of_getElem? eo)
            have o1 := List.mem_range.mp o1
            have o2 : kOf ns o = b.one := of_decide_eq_true o2
            have uo : atI (((List.range ys.length).filter fun z => decide (kOf ns z = b.one)).map nV) u = some (nV o) := by
              have := atI_nat (xs := ((List.range ys.length).filter fun z => decide (kOf ns z = b.one)).map nV) (j := u.toNat) (v := nV o) (by rw [List.getElem?_map, eo]; rfl)
              rw [show ((u.toNat : Nat) : Int) = u by omega] at this
              exact this
            refine ⟨D, _, u, _, rfl, rfl, SqL.of (B9 _ _ hD Df), uo, _, rfl, _, rfl, (by show 3 ≤ sizeLine; decide), fun a na => ?_⟩
            have hfl9 := B9 _ _ (s8 _ _ hfl7) ff
            have hfl10 := same_new (o := .tup [nV o, nV j, V.ref g]) na _ _ hfl9
            have kk : TK H7 (upd (upd H9 a (.tup [nV o, nV j, V.ref g])) fl (.lst (fv ++ [V.ref a]))) := (((TK.same s8).trans (TK.but (F7.same s8) B9)).trans (TK.new (o := .tup [nV o, nV j, V.ref g]) na)).trans (TK.lst hfl10)
            refine ⟨fl, _, _, rfl, rfl, hfl10, small1000 (by omega), fv ++ [.ref a], fs ++ [⟨o, j, b.th⟩], _, _, _, _, rfl, k7.trans kk, ?_, upd_same, ?_, ?_, (F9.new na).lst ff fc, (((B7.same s8).trans B9).new na).own fl0⟩
            · rw [upd_ne pf.symm]
              exact same_new na _ _ (B9 _ _ (s8 _ _ hp7) (F1.ne np))
            · exact (alf7.imp fun _ _ z => z.keep kk).snoc ⟨a, g, rfl, TK.lst hfl10 _ _ upd_same, kk _ _ (k17 _ _ e3)⟩
            · exact fd7.more eb1 (by rw [km]; exact c1) (by omega) (by omega) o2
        · have c1 : b.to ≠ m.1 := fun z => of_decide_eq_false c1 (by rw [z])
          exact ⟨fv, fs, _, _, _, _, rfl, k7, hp7, hfl7, alf7, fd7.skip eb1 (by rw [km]; exact c1), F7, B7⟩
      · rintro σ H7 ⟨fv, fs, x11, x12, x13, x14, rfl, k7, hp7, hfl7, alf7, fd7, F7, B7⟩
        rw [lbv] at fd7
        exact ⟨fv, fs, _, _, _, _, _, _, _, rfl, k7, hp7, hfl7, alf7, fd7.up l20, F7, B7⟩
    · rintro σ H5 ⟨fv, fs, x5, x7, x10, x11, x12, x13, x14, rfl, k5, hp5, hfl5, alf5, fd5, F5, B5⟩
      have k15 := k2.trans k5
      rw [lys] at fd5
      exact ⟨eD, ha, p, fl, hv, ys, fv, hs, bs, fs, ns, _, _, _, _, _, _, _, _, _, _, _, rfl, k15 _ _ hha, alh.imp fun _ _ z => z.keep k15, ok, n0, hp5, aln.imp fun _ _ z => z.keep k15, md2, hfl5, alf5, fd5, F5, B5⟩
  case tail2 =>
    rintro D' σ' H1 ⟨eD, ha, ml, fl, hv, mv, fv, hs, bs, fs, ms, x2, x4, x5, x6, x7, x8, x10, x11, x12, x13, x14, rfl, hha, alh, ok, n0, hml, alm, md, hfl, alf, fd, F1, B1⟩
    have lmv := alm.length
    have lfv := alf.length
    have few := md.few
    have f20 : fs.length ≤ 300 := by have := fd.len; omega
    refine ⟨_, rfl, ml, rfl, ⟨_, SqL.of hml⟩, fun D nD => lc_list (K := K) (a := ml) (xs := mv) (fun i H5 => ∃ us : List V, H5 D = some (.lst us) ∧ us.length = i ∧ All2 (HandAt H5) us ((ms.take i).map (handN hs)) ∧ Same H1 H5) ⟨[], upd_same, rfl, .nil, same_new nD⟩ (fun i H5 _ ⟨_, _, _, _, s5⟩ => SqL.of (s5 _ _ hml)) ?_ ?_⟩
    · rintro i v H5 hx ⟨us, hD, lu, alu, s5⟩
      obtain ⟨m, em, am, rfl, e1⟩ := alm.getL hx
      have il := (List.getElem?_eq_some_iff.mp em).1
      obtain ⟨h0, eh0⟩ : ∃ h0, hs[m.1]? = some h0 := ⟨_, List.getElem?_eq_getElem (md.ok m (List.mem_of_getElem? em)).1⟩
      obtain ⟨x, ex, th, rr, rfl, e2, e3⟩ := alh.get eh0
      refine ⟨am, _, rfl, SqT.of (s5 _ _ e1), rfl, _, _, rfl, _, _, rfl, rfl, rfl, yes_in ⟨_, rfl, _, rfl, ha, _, _, _, rfl, rfl, SqT.of (s5 _ _ hha), atI_nat ex, th, _, _, _, rfl, rfl, SqT.of (s5 _ _ e2), atI_nat (j := 0) rfl, _, rfl, (by show 2 ≤ sizeLine; decide), fun p2 np2 => ?_⟩⟩
      have s7 := same_new (o := .tup [V.ref rr, V.int m.2]) np2
      have hD7 := s7 _ _ hD
      refine ⟨_, hD7, small1000 (by omega), us ++ [.ref p2], upd_same, by rw [List.length_append, lu]; rfl, ?_, Same.own (fun a o e => s7 _ _ (s5 _ _ e)) nD⟩
      rw [List.take_add_one, em, List.map_append]
      refine (alu.imp fun _ _ z => z.keep ((TK.same s7).trans (TK.lst hD7))).snoc ?_
      show HandAt _ _ (handN hs m)
      unfold handN
      rw [eh0]
      exact ⟨p2, rr, rfl, TK.lst hD7 _ _ upd_same, TK.lst hD7 _ _ (s7 _ _ (s5 _ _ e3))⟩
    · rintro H5 ⟨us, hD, lu, alu, s5⟩
      rw [lmv, List.take_length] at alu
      refine ⟨D, _, rfl, .inl ⟨SqL.of hD, fun p3 np3 => ?_⟩⟩
      have s6 := same_new (o := .tup us) np3
      refine ⟨_, rfl, fl, _, rfl, .inl ⟨SqL.of (s6 _ _ (s5 _ _ hfl)), fun p4 np4 => ⟨(by show 2 ≤ sizeLine; decide), fun r nr => ?_⟩⟩⟩
      have s7 := same_new (o := .tup fv) np4
      have s8 := same_new (o := .tup [V.ref p3, V.ref p4]) nr
      have s58 : Same H5 _ := fun a o e => s8 _ _ (s7 _ _ (s6 _ _ e))
      have s18 : Same H1 _ := fun a o e => s58 _ _ (s5 _ _ e)
      show D'.rt (.ref r) _
      rw [eD]
      exact q r _ fs _ ⟨p3, p4, us, fv, upd_same, s8 _ _ (s7 _ _ upd_same), s8 _ _ upd_same, alu.imp fun _ _ z => z.keep (TK.same s58), alf.imp fun _ _ z => z.keep (TK.same s18)⟩ (copied_ok ok md fd) (by obtain ⟨m, hm, _⟩ := md.all 0 n0; rw [List.length_map]; exact List.length_pos_of_mem hm) (F1.same s18) (B1.same s18)
  refine ⟨_, rfl, f, c, 3, rfl, by decide, by decide, hF, fun r hs bs H1 hR ok n0 F1 B1 => ?_⟩
  obtain ⟨ha, ba, hv, bv, er, eh, eb, alh, alb⟩ := hR.ex
  have lhv := alh.length
  have lbv := alb.length
  have l12 := ok.hands
  have l20 := ok.many
  refine ⟨r, _, rfl, SqT.of er, rfl, _, _, rfl, _, _, rfl, rfl, (by show 0 ≤ sizeLine; decide), fun ml nml => ?_⟩
  have mf : ml ≠ f := F1.ne nml
  have mc : ml ≠ c := F1.nec nml
  have k1 := TK.new (o := .lst []) nml
  have ml0 : H ml = none := B1.none nml mf
  refine ⟨_, rfl, ba, _, rfl, .inr (SqT.of (k1 _ _ eb)), _, _, rfl, rfl, ?_⟩
  refine ⟨_, rfl, ha, hv, rfl, SqT.of (k1 _ _ eh), for_it (J := IteT K ha hv) (n := hv.length) (fun i σ H5 => ∃ (mv : List V) (ms : List (Nat × Int)) (left : Int) (x5 x6 x7 x8 : Option V), σ = [some (.ref f), some (.ref ha), some (.ref ba), some (.ref ml), some (.int left), x5, x6, x7, x8, none, none, none, none, none, none, none] ∧
    TK H1 H5 ∧ H5 ml = some (.lst mv) ∧ All2 (MdAt H5) mv ms ∧ Mding hs bs i ms left ∧ Flow H5 f c ∧ But f H H5) ?_ ?_ ?_ ?_ ?_⟩
  · refine ⟨[], [], _, _, _, _, _, rfl, k1, upd_same, .nil, ⟨by show 0 + (hs.length - 0) ≤ 12; omega, (fun _ z => nomatch z), (fun _ z => absurd z (Nat.not_lt_zero _)), ?_, by omega⟩, F1.new nml, B1.new nml⟩
    show ((0 : Nat) : Int) + _ + _ = 20 + ((0 : Nat) : Int)
    omega
  · rintro i σ H5 hi ⟨mv, ms, left, x5, x6, x7, x8, rfl, k5, _⟩
    exact ⟨SqT.of (k5 _ _ eh), hi⟩
  · rintro σ H5 ⟨mv, ms, left, x5, x6, x7, x8, rfl, k5, _⟩
    exact ⟨SqT.of (k5 _ _ eh), rfl⟩
  · rintro i x σ H5 H6 hi ⟨mv, ms, left, x5, x6, x7, x8, rfl, k5, hml, alm, mi, F5, B5⟩ ⟨t, y, rfl, nt, rfl, ey⟩
    obtain ⟨h, eh2, t2, rr, rfl, e1, e2⟩ := alh.getL ey
    have gh := ok.good h (List.mem_of_getElem? eh2)
    have k6 := k5.trans (TK.new (o := .tup [V.int ((i : Nat) : Int), V.ref t2]) nt)
    have hml6 := same_new (o := .tup [V.int ((i : Nat) : Int), V.ref t2]) nt _ _ hml
    have F6 := F5.new (o := .tup [V.int ((i : Nat) : Int), V.ref t2]) nt
    have B6 := B5.new (o := .tup [V.int ((i : Nat) : Int), V.ref t2]) nt
    have lmv := alm.length
    have few := mi.few
    refine ⟨t, _, rfl, SqT.of upd_same, rfl, _, _, rfl, _, _, rfl, t2, _, rfl, SqT.of (k6 _ _ e1), rfl, _, _, rfl, _, _, rfl, rfl, rfl, ?_⟩
    refine ⟨_, rfl, .inl ⟨rfl, _, SqL.of hml6⟩, _, rfl, _, rfl, (by show 2 ≤ sizeLine; decide), fun a na => ⟨ml, _, _, rfl, rfl, same_new na _ _ hml6, small1000 (by omega), ?_⟩⟩
    have hml7 := same_new (o := .tup [nV i, V.int h.mom]) na _ _ hml6
    have kk : TK _ (upd (upd (upd H5 t (.tup [V.int ((i : Nat) : Int), V.ref t2])) a (.tup [nV i, V.int h.mom])) ml (.lst (mv ++ [V.ref a]))) := (TK.new (o := .tup [nV i, V.int h.mom]) na).trans (TK.lst hml7)
    have k7 := k6.trans kk
    have alm7 := (alm.imp fun _ _ z => z.keep ((TK.new (o := .tup [V.int ((i : Nat) : Int), V.ref t2]) nt).trans kk)).snoc (show MdAt (upd (upd (upd H5 t (.tup [V.int ((i : Nat) : Int), V.ref t2])) a (.tup [nV i, V.int h.mom])) ml (.lst (mv ++ [V.ref a]))) (V.ref a) (i, h.mom) from ⟨a, rfl, TK.lst hml7 _ _ upd_same⟩)
    have mi7 := mi.own eh2 gh
    have F7 := (F6.new (o := .tup [nV i, V.int h.mom]) na).lst (o := .lst (mv ++ [V.ref a])) mf mc
    have B7 : But f H (upd (upd (upd H5 t (.tup [V.int ((i : Nat) : Int), V.ref t2])) a (.tup [nV i, V.int h.mom])) ml (.lst (mv ++ [V.ref a]))) := (B6.new (o := .tup [nV i, V.int h.mom]) na).own ml0
    have il := (List.getElem?_eq_some_iff.mp eh2).1
    have h7 : (upd (upd (upd H5 t (.tup [V.int ((i : Nat) : Int), V.ref t2])) a (.tup [nV i, V.int h.mom])) ml (.lst (mv ++ [V.ref a]))) ml = some (.lst (mv ++ [V.ref a])) := upd_same
    generalize (upd (upd (upd H5 t (.tup [V.int ((i : Nat) : Int), V.ref t2])) a (.tup [nV i, V.int h.mom])) ml (.lst (mv ++ [V.ref a]))) = H7 at h7 k7 alm7 F7 B7 ⊢
    refine ⟨_, rfl, f, c, 3, rfl, by decide, by decide +kernel, F7, fun v H8 v0 v1 F8 B8 => ?_⟩
    have k8 := k7.trans (TK.but F7 B8)
    have sm := fun b => small_mul (v := v) (b := b) v0 (by omega)
    refine ⟨_, rfl, rr, _, _, _, rfl, rfl, SqT.of (k8 _ _ e2), atI_nat (j := 0) rfl, (by show 2 ≤ sizeLine; decide), fun u nu => ⟨u, _, rfl, .inr (SqT.of upd_same), rfl, rfl, .inr ⟨_, rfl, _, _, rfl, rfl, .inl ⟨by omega, by omega⟩, _, rfl, Int.le_trans (by decide) (sm _).1, Int.lt_of_le_of_lt (sm _).2 (by decide), for_range (lo := 0) (n := _) (fun i' σ H9 => ∃ (mv : List V) (ms : List (Nat × Int)) (left : Int) (x8 : Option V), σ = [some (.ref f), some (.ref ha), some (.ref ba), some (.ref ml), some (.int left), some (nV i), some (.ref rr), some (.int h.mom), x8, none, none, none, none, none, none, none] ∧
      TK H1 H9 ∧ H9 ml = some (.lst mv) ∧ All2 (MdAt H9) mv ms ∧ Mding hs bs (i + 1) ms left ∧ Flow H9 f c ∧ But f H H9) ?_ ?_ ?_⟩⟩⟩
    · have nu1 := TK.new (o := .tup [V.str "in", V.str "out"]) nu
      exact ⟨_, _, left, _, rfl, k8.trans nu1, same_new nu _ _ (B8 _ _ h7 mf), alm7.imp fun _ _ z => z.keep ((TK.but F7 B8).trans nu1), mi7, F8.new nu, (B7.trans B8).new nu⟩
    · rintro i' σ H9 hi' ⟨mv, ms, left, x8, rfl, k9, hml9, alm9, mi9, F9, B9⟩
      have lm9 := alm9.length
      have few9 := mi9.few
      refine ⟨_, rfl, ha, _, rfl, .inr (SqT.of (k9 _ _ eh)), _, rfl, ml, _, rfl, .inl (SqL.of hml9), _, _, rfl, rfl, _, rfl, _, _, rfl, rfl, _, _, rfl, rfl, _, rfl, if_bl (fun c1 => ?_) (fun c1 => ?_)⟩
      · have c1 := of_decide_eq_true c1
        refine ⟨_, rfl, _, rfl, rr, h.wd, _, rfl, SqT.of (k9 _ _ e2), fun H10 s10 => ⟨_, _, rfl, rfl, _, rfl, if_bl (fun c2 => ?_) (fun c2 => ?_)⟩⟩
        · have c2 := of_decide_eq_true c2
          refine ⟨_, rfl, .inl ⟨rfl, _, SqL.of (s10 _ _ hml9)⟩, _, rfl, _, rfl, f, c, 31, rfl, by decide, by decide +kernel, F9.same s10, fun v2 H11 w0 w1 F11 B11 => ⟨(by show 2 ≤ sizeLine; decide), fun a2 na2 => ⟨ml, _, _, rfl, rfl, same_new na2 _ _ (B11 _ _ (s10 _ _ hml9) mf), small1000 (by omega), ?_⟩⟩⟩
          have hml11 := same_new (o := .tup [nV i, V.int v2]) na2 _ _ (B11 _ _ (s10 _ _ hml9) mf)
          have kk : TK H9 (upd (upd H11 a2 (.tup [nV i, V.int v2])) ml (.lst (mv ++ [V.ref a2]))) := (((TK.same s10).trans (TK.but (F9.same s10) B11)).trans (TK.new (o := .tup [nV i, V.int v2]) na2)).trans (TK.lst hml11)
          have F12 := (F11.new (o := .tup [nV i, V.int v2]) na2).lst (o := .lst (mv ++ [V.ref a2])) mf mc
          have B12 : But f H (upd (upd H11 a2 (.tup [nV i, V.int v2])) ml (.lst (mv ++ [V.ref a2]))) := (((B9.same s10).trans B11).new (o := .tup [nV i, V.int v2]) na2).own ml0
          refine ⟨_, rfl, _, rfl, rr, h.wd, _, rfl, SqT.of (kk _ _ (k9 _ _ e2)), fun H12 s12 => ⟨_, _, rfl, rfl, ?_⟩⟩
          exact ⟨_, ms ++ [(i, v2)], left - needs h.wd, _, rfl, (k9.trans kk).trans (TK.same s12), s12 _ _ upd_same, ((alm9.imp fun _ _ z => z.keep kk).snoc (show MdAt _ (V.ref a2) (i, v2) from ⟨a2, rfl, TK.lst hml11 _ _ upd_same⟩)).imp fun _ _ z => z.keep (TK.same s12), mi9.more eh2 (ok.count i h eh2) (by omega) w0 w1 (by omega), F12.same s12, B12.same s12⟩
        · exact ⟨mv, ms, left, _, rfl, k9.trans (TK.same s10), s10 _ _ hml9, alm9.imp fun _ _ z => z.keep (TK.same s10), mi9, F9.same s10, B9.same s10⟩
      · exact ⟨mv, ms, left, _, rfl, k9, hml9, alm9, mi9, F9, B9⟩
    · rintro σ H9 ⟨mv, ms, left, x8, rfl, k9, hml9, alm9, mi9, F9, B9⟩
      exact ⟨mv, ms, left, _, _, _, _, rfl, k9, hml9, alm9, mi9, F9, B9⟩
  · rintro σ H5 ⟨mv, ms, left, x5, x6, x7, x8, rfl, k5, hml, alm, mi, F5, B5⟩
    rw [lhv] at mi
    exact ⟨rfl, ha, ba, ml, hv, bv, mv, hs, bs, ms, _, _, _, _, _, rfl, k5 _ _ eh, k5 _ _ eb, alh.imp fun _ _ z => z.keep k5, alb.imp fun _ _ z => z.keep k5, ok, n0, hml, alm, mi.done ok, mf, F5, B5⟩
end
/-! ### slices and sums of tuples, whatever they are -/
theorem slA_of {K : PySem.W.Frag} {H : Hp} {a : Addr} {xs : List V} {lo hi : Option Int} {Q : VK} (h : H a = some (.tup xs)) (k : ∀ (p : Addr) (H' : Hp), H' p = some (.tup (cutV xs lo hi)) → Same H H' → Q (.ref p) H') : rSlA K (.ref a) lo hi H Q := by
  refine ⟨a, xs, rfl, SqT.of h, fun z => k a H ?_ (Same.refl _), fun _ p np => k p _ upd_same (same_new np)⟩
  unfold cutV
  rw [z.1, z.2, List.drop_zero, Nat.sub_zero, List.take_length]
  exact h
theorem catA_of {K : PySem.W.Frag} {H : Hp} {a b : Addr} {xs ys : List V} {Q : VK} (h : H a = some (.tup xs)) (g : H b = some (.tup ys)) (l : xs.length + ys.length ≤ 1000) (k : ∀ (p : Addr) (H' : Hp), H' p = some (.tup (xs ++ ys)) → Same H H' → Q (.ref p) H') : rCatA K (.ref a) (.ref b) H Q := by
  refine ⟨a, b, xs, ys, rfl, rfl, SqT.of h, SqT.of g, little l, fun e => k b H ?_ (Same.refl _), fun _ e => k a H ?_ (Same.refl _), fun _ _ p np => k p _ upd_same (same_new np)⟩
  · rw [e]; exact g
  · rw [e, List.append_nil]; exact h
theorem cut_take (xs : List V) (k : Nat) : cutV xs none (some ((k : Nat) : Int)) = xs.take k := by
  unfold cutV
  rw [HT.sIx_nat, HT.sIx_none, List.drop_zero, Nat.sub_zero]
  by_cases h : k ≤ xs.length
  · rw [Nat.min_eq_left h]
  · rw [Nat.min_eq_right (by omega), List.take_length, List.take_of_length_le (by omega)]
theorem cut_part {xs : List V} {lo hi : Option Int} : ∀ x ∈ cutV xs lo hi, x ∈ xs := fun x hx => List.mem_of_mem_drop (List.mem_of_mem_take hx)
theorem cut_nats {ns : List Nat} {lo hi : Option Int} : ∃ ms : List Nat, cutV (ns.map nV) lo hi = ms.map nV ∧ ms.length ≤ ns.length ∧ ∀ x ∈ ms, x ∈ ns := by
  refine ⟨(ns.drop (HT.sIx (ns.map nV).length 0 lo)).take (HT.sIx (ns.map nV).length (ns.map nV).length hi - HT.sIx (ns.map nV).length 0 lo), ?_, ?_, fun x hx => List.mem_of_mem_drop (List.mem_of_mem_take hx)⟩
  · unfold cutV
    rw [List.map_take, List.map_drop]
  · rw [List.length_take, List.length_drop]
    omega
/-! ### rooms marred: one thing of a room otherwise -/
theorem All2.tk {α β : Type} {R : α → β → Prop} : ∀ {as : List α} {bs : List β} (k : Nat), All2 R as bs → All2 R (as.take k) (bs.take k)
  | _, _, 0, _ => .nil
  | _, _, _ + 1, .nil => .nil
  | _, _, k + 1, .cons a b => .cons a (All2.tk k b)
theorem All2.dr {α β : Type} {R : α → β → Prop} : ∀ {as : List α} {bs : List β} (k : Nat), All2 R as bs → All2 R (as.drop k) (bs.drop k)
  | _, _, 0, h => h
  | _, _, _ + 1, .nil => .nil
  | _, _, k + 1, .cons _ b => All2.dr k b
theorem All2.ap {α β : Type} {R : α → β → Prop} {cs : List α} {ds : List β} (b : All2 R cs ds) : ∀ {as : List α} {bs : List β}, All2 R as bs → All2 R (as ++ cs) (bs ++ ds)
  | _, _, .nil => b
  | _, _, .cons h t => .cons h (All2.ap b t)
/-- l with x at place k -/
theorem set_cut {α : Type} : ∀ {l : List α} {k : Nat} {x : α}, k < l.length → l.set k x = l.take k ++ [x] ++ l.drop (k + 1)
  | _ :: _, 0, _, _ => rfl
  | y :: l, k + 1, x, h => by
    show y :: l.set k x = y :: (l.take k ++ [x] ++ l.drop (k + 1))
    rw [set_cut (by simpa using h)]
theorem All2.cutIn {α β : Type} {R : α → β → Prop} {as : List α} {bs : List β} {k : Nat} {a : α} {b : β} (h : All2 R as bs) (r : R a b) (hk : k < bs.length) : All2 R (as.take k ++ [a] ++ as.drop (k + 1)) (bs.set k b) := by
  rw [set_cut hk]
  exact All2.ap (h.dr (k + 1)) (All2.ap (.cons r .nil) (h.tk k))
theorem cut_end (xs : List V) (k : Nat) : cutV xs (some (((k : Nat) : Int) + 1)) none = xs.drop (k + 1) := by
  unfold cutV
  have e : ((k : Nat) : Int) + 1 = (((k + 1 : Nat)) : Int) := by omega
  rw [e, HT.sIx_nat, HT.sIx_none]
  by_cases h : k + 1 ≤ xs.length
  · rw [Nat.min_eq_left h, List.take_of_length_le (by rw [List.length_drop]; omega)]
  · rw [Nat.min_eq_right (by omega), Nat.sub_self, List.take_zero, List.drop_eq_nil_of_le (by omega)]
theorem set_map {α β : Type} {f : α → β} {l : List α} {k : Nat} {x y : α} (e : l[k]? = some y) (h : f x = f y) : (l.set k x).map f = l.map f := by
  refine List.ext_getElem? fun i => ?_
  rw [List.getElem?_map, List.getElem?_map, List.getElem?_set]
  by_cases z : k = i
  · subst z
    rw [if_pos rfl, if_pos (List.getElem?_eq_some_iff.mp e).1, e]
    exact congrArg some h
  · rw [if_neg z]
theorem hand_ok {hs : List HR} {bs : List BR} {k : Nat} {g h : HR} (ok : RoomOk hs bs) (e : hs[k]? = some h) (gd : GoodHand g) (no : g.wd ≠ "out") (nd : needs g.wd = needs h.wd) : RoomOk (hs.set k g) bs := by
  have ln : (hs.set k g).length = hs.length := List.length_set ..
  have kl := (List.getElem?_eq_some_iff.mp e).1
  have at_ : ∀ {j h'}, (hs.set k g)[j]? = some h' → (j = k ∧ h' = g) ∨ hs[j]? = some h' := fun {j h'} z => by
    rw [List.getElem?_set] at z
    by_cases q : k = j
    · subst q
      rw [if_pos rfl, if_pos kl] at z
      exact .inl ⟨rfl, (Option.some.inj z).symm⟩
    · rw [if_neg q] at z; exact .inr z
  refine ⟨by rw [ln]; exact ok.hands, fun h' hm => ?_, fun b hb => by rw [ln]; exact ok.ends b hb, fun b hb h' z => ?_, ok.th, ok.rank, fun j h' z => ?_, ok.many⟩
  · rcases List.mem_or_eq_of_mem_set hm with q | q
    · exact ok.good h' q
    · rw [q]; exact gd
  · rcases at_ z with ⟨_, q⟩ | q
    · rw [q]; exact no
    · exact ok.out b hb h' q
  · rcases at_ z with ⟨q1, q2⟩ | q
    · rw [q1, q2, nd]; exact ok.count k h e
    · exact ok.count j h' q
theorem belt_ok {hs : List HR} {bs : List BR} {k : Nat} {b c : BR} (ok : RoomOk hs bs) (e : bs[k]? = some b) (to : c.to = b.to) (one : c.one < hs.length) (out : ∀ h, hs[c.one]? = some h → h.wd ≠ "out") (th : c.th.length ≤ 6 ∧ ∀ x ∈ c.th, Small x) (ne : c.th = [] → c.one = b.one ∧ b.th = []) : RoomOk hs (bs.set k c) := by
  have bm := List.mem_of_getElem? e
  obtain ⟨rk, hrk⟩ := ok.rank
  have mem : ∀ {x}, x ∈ bs.set k c → x ∈ bs ∨ x = c := fun hx => List.mem_or_eq_of_mem_set hx
  refine ⟨ok.hands, ok.good, fun x hx => ?_, fun x hx h z => ?_, fun x hx => ?_, ⟨rk, fun x hx z => ?_⟩, fun j h z => ?_, by rw [List.length_set]; exact ok.many⟩
  · rcases mem hx with q | q
    · exact ok.ends x q
    · rw [q]; exact ⟨one, by rw [to]; exact (ok.ends b bm).2⟩
  · rcases mem hx with q | q
    · exact ok.out x q h z
    · rw [q] at z; exact out h z
  · rcases mem hx with q | q
    · exact ok.th x q
    · rw [q]; exact th
  · rcases mem hx with q | q
    · exact hrk x q z
    · subst q
      obtain ⟨a1, a2⟩ := ne z
      rw [a1, to]
      exact hrk b bm a2
  · rw [set_map e to]; exact ok.count j h z
section
variable {P : Program} {w : World} {K : PySem.W.Frag} {mg : Str → Option Value} {base : Heap}
def sp_law_marred (K : PySem.W.Frag) : Sp := fun vs H Q _ => ∃ (f c r : Addr) (hs : List HR) (bs : List BR), vs = [.ref f, .ref r] ∧ Flow H f c ∧ RoomAt H r hs bs ∧ RoomOk hs bs ∧ 0 < hs.length ∧
  ∀ (r' : Addr) (hs' : List HR) (bs' : List BR) (H' : Hp), RoomAt H' r' hs' bs' → RoomOk hs' bs' → 0 < hs'.length → Flow H' f c → But f H H' → Q (.ref r') H'
theorem ok_law_marred {f : Addr} {fd : FuncData} (F : Fun K "_law_marred" "_law_marred" s_law_marred f fd) (T : Top K mg) : FnOk P w K mg base CX0 2 f fd ["_law_flow_here", "_law_room_here"] (sp_law_marred K) := by
  obtain ⟨f_law_pick, fd_law_pick, F_law_pick, b_law_pick, m_law_pick⟩ := T.d_law_pick
  have G_law_pick := ok_law_pick (P := P) (w := w) (base := base) F_law_pick T
  obtain ⟨f_law_needs, fd_law_needs, F_law_needs, b_law_needs, m_law_needs⟩ := T.d_law_needs
  have G_law_needs := ok_law_needs (P := P) (w := w) (base := base) F_law_needs T
  refine F.ok sc_law_marred (fun vs H Q E h => ?_) (fun cdv A outer s H vs Q E hr h => ?_)
  · obtain ⟨f, c, r, hs, bs, rfl, _⟩ := h
    rfl
  obtain ⟨f, c, r, hs, bs, rfl, hF, hR, ok, n0, q⟩ := h
  obtain ⟨ha, ba, hv, bv, er, eh, eb, alh, alb⟩ := hR.ex
  have lhv := alh.length
  have lbv := alb.length
  have l12 := ok.hands
  have l20 := ok.many
  let R1 : TS := fun D' σ' H' => D'.rt = Q ∧ ∃ (v : Int) (k : Nat) (x6 x7 : Option V), σ' = [some (.ref f), some (.ref r), some (.ref ha), some (.ref ba), some (.int v), some (nV k), x6, x7, none, none, none, none, none, none, none, none] ∧ Flow H' f c ∧ But f H H'
  let Fin : L2.St → Hp → Prop := fun σ' H' => ∃ (at_ : Nat) (b b' : BR) (g : Addr) (x4 x5 x6 x7 x13 x15 : Option V), σ' = [some (.ref f), some (.ref r), some (.ref ha), some (.ref ba), x4, x5, x6, x7, none, some (nV at_), some (nV b'.one), some (nV b'.to), some (.ref g), x13, none, x15] ∧
    bs[at_]? = some b ∧ H' g = some (.tup (b'.th.map V.int)) ∧ RoomOk hs (bs.set at_ b') ∧ Flow H' f c ∧ But f H H'
  let R2 : TS := fun D' σ' H' => (∀ σ H, Fin σ H → D'.nx σ H) ∧ ∃ (at_ : Nat) (b : BR) (g : Addr) (x4 x5 x6 x7 : Option V), σ' = [some (.ref f), some (.ref r), some (.ref ha), some (.ref ba), x4, x5, x6, x7, none, some (nV at_), some (nV b.one), some (nV b.to), some (.ref g), none, none, none] ∧
    bs[at_]? = some b ∧ H' g = some (.tup (b.th.map V.int)) ∧ Flow H' f c ∧ But f H H'
  let R3 : TS := fun D' σ' H' => D'.rt = Q ∧ Fin σ' H'
  have same : ∀ {i : Nat} {b : BR}, bs[i]? = some b → RoomOk hs (bs.set i b) := fun {i b} e => belt_ok ok e rfl (ok.ends b (List.mem_of_getElem? e)).1 (fun h z => ok.out b (List.mem_of_getElem? e) h z) (ok.th b (List.mem_of_getElem? e)) fun z => ⟨rfl, z⟩
  refine ⟨_, (pss_cons (ps_asg (pv 1) (pg_tupK K rfl rfl (pgs_cons (pg_name (i := 2) sc_law_marred.nd rfl (Or.inr rfl)) (pgs_cons (pg_name (i := 3) sc_law_marred.nd rfl (Or.inl rfl)) pgs_nil))))
      (pss_cons (ps_set (i := 4) sc_law_marred.nd rfl (Or.inl rfl) (pe_call G_law_pick (hr.mono (by decide)) (by rfl) m_law_pick F_law_pick.kp b_law_pick .nil pass0 (pa_cons (pv 0) (pa_cons pe_int pa_nil))))
      (pss_cons (ps_set (i := 5) sc_law_marred.nd rfl (Or.inr rfl) (pe_call G_law_pick (hr.mono (by decide)) (by rfl) m_law_pick F_law_pick.kp b_law_pick .nil pass0 (pa_cons (pv 0) (pa_cons (pe_callB (call_len_seqK K rfl) (by rfl) T.m_len (by decide +kernel) (pa_cons (pv 2) pa_nil)) pa_nil))))
      (pss_cons (ps_if (PW.pt (pw_and (pt_cmpR op_eq (pv 4) pe_int (nomark _)) (pw_and1 (pt_cmpR (op_notIn_seqK K rfl) (pe_ix (ix_tupK K rfl) (pe_ix (ix_tupK K rfl) (pe_ix (ix_tupK K rfl) (pv 2) (pv 5) (fun _ _ => rfl)) pe_int (fun _ _ => rfl)) pe_int (fun _ _ => rfl)) (pe_tup (pa_cons pe_str (pa_cons pe_str pa_nil))) (by with_unfolding_all rfl))))) (pss_cons (ps_set (i := 6) sc_law_marred.nd rfl (Or.inl rfl) (pe_lst (pa_cons (pe_tup (pa_cons pe_str pa_nil)) (pa_cons (pe_tup (pa_cons pe_str (pa_cons pe_int pa_nil))) (pa_cons (pe_tup (pa_cons pe_str pa_nil)) (pa_cons (pe_tup (pa_cons pe_str pa_nil)) pa_nil))))))
      (pss_cons (ps_setLc (i := 7) (own := [("_law_rule_here", 8)]) (g := gName 8) (by rfl) sc_law_marred.nd rfl rfl (sw_true rfl rfl rfl (by decide +kernel)) (pi_listK K rfl (pv 6)) (blkOk_by (own := [("_law_rule_here", 8)]) (N := N_law_marred) (sc := defScope s_law_marred) (by decide +kernel)) (fun _ _ _ _ _ => (pg_name (i := 8) sc_law_marred.nd rfl (Or.inl rfl))) (fun _ _ _ _ _ => pts_one (pt_cmpR op_eq (pe_call G_law_needs (hr.mono (by decide)) (by rfl) m_law_needs F_law_needs.kp b_law_needs .nil pass0 (pa_cons (pv 8) pa_nil)) (pe_call G_law_needs (hr.mono (by decide)) (by rfl) m_law_needs F_law_needs.kp b_law_needs .nil pass0 (pa_cons (pe_ix (ix_tupK K rfl) (pe_ix (ix_tupK K rfl) (pv 2) (pv 5) (fun _ _ => rfl)) pe_int (fun _ _ => rfl)) pa_nil)) (nomark _))) (fun _ _ _ _ _ => (pv 8)))
      (pss_one (ps_if (pt_cmpR op_gt (pe_callB (call_len_seqK K rfl) (by rfl) T.m_len (by decide +kernel) (pa_cons (pv 7) pa_nil)) pe_int (nomark _)) (pss_one (ps_ret (pe_tup (pa_cons (pe_op (op_catAK K rfl) (pe_op (op_catAK K rfl) (pe_slice (sl_tupAK K rfl) (pv 2) po_none (po_some (pv 5))) (pe_tup (pa_cons (pe_tup (pa_cons (pe_ix (ix_listK K rfl) (pv 7) (pe_call G_law_pick (hr.mono (by decide)) (by rfl) m_law_pick F_law_pick.kp b_law_pick .nil pass0 (pa_cons (pv 0) (pa_cons (pe_callB (call_len_seqK K rfl) (by rfl) T.m_len (by decide +kernel) (pa_cons (pv 7) pa_nil)) pa_nil))) (fun _ _ => rfl)) (pa_cons (pe_ix (ix_tupK K rfl) (pe_ix (ix_tupK K rfl) (pv 2) (pv 5) (fun _ _ => rfl)) pe_int (fun _ _ => rfl)) pa_nil))) pa_nil))) (pe_slice (sl_tupAK K rfl) (pv 2) (po_some (pe_op op_add (pv 5) pe_int)) po_none)) (pa_cons (pv 3) pa_nil))))) pss_nil)))) pss_nil)
      (PSs.to (pss_cons (ps_if (pt_cmpR op_eq (pe_callB (call_len_seqK K rfl) (by rfl) T.m_len (by decide +kernel) (pa_cons (pv 3) pa_nil)) pe_int (nomark _)) (pss_one (ps_ret (pv 1))) pss_nil)
      (pss_cons (ps_set (i := 9) sc_law_marred.nd rfl (Or.inl rfl) (pe_call G_law_pick (hr.mono (by decide)) (by rfl) m_law_pick F_law_pick.kp b_law_pick .nil pass0 (pa_cons (pv 0) (pa_cons (pe_callB (call_len_seqK K rfl) (by rfl) T.m_len (by decide +kernel) (pa_cons (pv 3) pa_nil)) pa_nil))))
      (pss_cons (ps_asg (pe_ix (ix_tupK K rfl) (pv 3) (pv 9) (fun _ _ => rfl)) (pg_tupK K rfl rfl (pgs_cons (pg_name (i := 10) sc_law_marred.nd rfl (Or.inl rfl)) (pgs_cons (pg_name (i := 11) sc_law_marred.nd rfl (Or.inl rfl)) (pgs_cons (pg_name (i := 12) sc_law_marred.nd rfl (Or.inl rfl)) pgs_nil)))))
      (pss_cons (ps_if (PW.pt (pw_and (pt_cmpR op_eq (pv 4) pe_int (nomark _)) (pw_and1 (pt_cmpR op_lt (pe_callB (call_len_seqK K rfl) (by rfl) T.m_len (by decide +kernel) (pa_cons (pv 12) pa_nil)) pe_int (nomark _))))) (pss_one (ps_set (i := 12) sc_law_marred.nd rfl (Or.inl rfl) (pe_op (op_catAK K rfl) (pv 12) (pe_tup (pa_cons (pe_call G_law_pick (hr.mono (by decide)) (by rfl) m_law_pick F_law_pick.kp b_law_pick .nil pass0 (pa_cons (pv 0) (pa_cons pe_int pa_nil))) pa_nil))))) (pss_one (ps_if (PW.pt (pw_and (pt_cmpR op_eq (pv 4) pe_int (nomark _)) (pw_and1 (pt_cmpR op_gt (pe_callB (call_len_seqK K rfl) (by rfl) T.m_len (by decide +kernel) (pa_cons (pv 12) pa_nil)) pe_int (nomark _))))) (pss_cons (ps_setLc (i := 13) (own := [("_law_j", 14)]) (g := gName 14) (by rfl) sc_law_marred.nd rfl rfl (sw_true rfl rfl rfl (by decide +kernel)) (pi_range1 (by rfl) T.m_range (pa_cons (pe_callB (call_len_seqK K rfl) (by rfl) T.m_len (by decide +kernel) (pa_cons (pv 2) pa_nil)) pa_nil)) (blkOk_by (own := [("_law_j", 14)]) (N := N_law_marred) (sc := defScope s_law_marred) (by decide +kernel)) (fun _ _ _ _ _ => (pg_name (i := 14) sc_law_marred.nd rfl (Or.inl rfl))) (fun _ _ _ _ _ => pts_one (pt_cmpR (op_neDK K rfl hr.units) (pe_ix (ix_tupK K rfl) (pe_ix (ix_tupK K rfl) (pv 2) (pv 14) (fun _ _ => rfl)) pe_int (fun _ _ => rfl)) (pe_tup (pa_cons pe_str pa_nil)) (nomark _))) (fun _ _ _ _ _ => (pv 14)))
      (pss_one (ps_set (i := 10) sc_law_marred.nd rfl (Or.inl rfl) (pe_ix (ix_listK K rfl) (pv 13) (pe_call G_law_pick (hr.mono (by decide)) (by rfl) m_law_pick F_law_pick.kp b_law_pick .nil pass0 (pa_cons (pv 0) (pa_cons (pe_callB (call_len_seqK K rfl) (by rfl) T.m_len (by decide +kernel) (pa_cons (pv 13) pa_nil)) pa_nil))) (fun _ _ => rfl))))) (PSs.to (pss_one (ps_if (pt_cmpR op_gt (pe_callB (call_len_seqK K rfl) (by rfl) T.m_len (by decide +kernel) (pa_cons (pv 12) pa_nil)) pe_int (nomark _)) (pss_cons (ps_set (i := 15) sc_law_marred.nd rfl (Or.inl rfl) (pe_call G_law_pick (hr.mono (by decide)) (by rfl) m_law_pick F_law_pick.kp b_law_pick .nil pass0 (pa_cons (pv 0) (pa_cons (pe_callB (call_len_seqK K rfl) (by rfl) T.m_len (by decide +kernel) (pa_cons (pv 12) pa_nil)) pa_nil))))
      (pss_one (ps_set (i := 12) sc_law_marred.nd rfl (Or.inl rfl) (pe_op (op_catAK K rfl) (pe_op (op_catAK K rfl) (pe_slice (sl_tupAK K rfl) (pv 12) po_none (po_some (pv 15))) (pe_tup (pa_cons (pe_op op_add (pe_ix (ix_tupK K rfl) (pv 12) (pv 15) (fun _ _ => rfl)) (pe_ix (ix_listK K rfl) (pe_lst (pa_cons pe_int (pa_cons (pe_un un_neg pe_int) pa_nil))) (pe_callTy call_int1 (by rfl) T.m_int (by decide +kernel) (pa_cons (pe_cmpR op_gt (pe_ix (ix_tupK K rfl) (pv 12) (pv 15) (fun _ _ => rfl)) pe_int (nomark _)) pa_nil)) (fun _ _ => rfl))) pa_nil))) (pe_slice (sl_tupAK K rfl) (pv 12) (po_some (pe_op op_add (pv 15) pe_int)) po_none))))) pss_nil)) R2 ?tail2))))
      (PSs.to (pss_one (ps_ret (pe_tup (pa_cons (pv 2) (pa_cons (pe_op (op_catAK K rfl) (pe_op (op_catAK K rfl) (pe_slice (sl_tupAK K rfl) (pv 3) po_none (po_some (pv 9))) (pe_tup (pa_cons (pe_tup (pa_cons (pv 10) (pa_cons (pv 11) (pa_cons (pv 12) pa_nil)))) pa_nil))) (pe_slice (sl_tupAK K rfl) (pv 3) (po_some (pe_op op_add (pv 9) pe_int)) po_none)) pa_nil))))) R3 ?tail3))))) R1 ?tail1))))), ?_⟩
  case tail2 =>
    rintro D' σ' H1 ⟨nx, at_, b, g, x4, x5, x6, x7, rfl, ebt, hg, F1, B1⟩
    have bm := List.mem_of_getElem? ebt
    obtain ⟨th6, thS⟩ := ok.th b bm
    have lth : (b.th.map V.int).length = b.th.length := List.length_map ..
    refine ⟨_, rfl, g, _, rfl, .inr (SqT.of hg), _, _, rfl, rfl, _, rfl, if_bl (fun c1 => ?_) (fun c1 => ?_)⟩
    · have c1 : 0 < b.th.length := by have := of_decide_eq_true c1; omega
      refine ⟨_, rfl, _, rfl, g, _, rfl, .inr (SqT.of hg), f, c, _, rfl, by omega, Nat.lt_of_le_of_lt (Nat.log2_le_self _) (by omega), F1, fun tv H2 v0 v1 F2 B2 => ?_⟩
      obtain ⟨j, rfl⟩ := Int.eq_ofNat_of_zero_le v0
      have jl : j < b.th.length := by have : ((j : Nat) : Int) < _ := v1; omega
      obtain ⟨y, ey⟩ : ∃ y, b.th[j]? = some y := ⟨_, List.getElem?_eq_getElem jl⟩
      have hg2 := TK.but F1 B2 _ _ hg
      have ay : (b.th.map V.int)[j]? = some (V.int y) := by rw [List.getElem?_map, ey]; rfl
      refine ⟨_, rfl, _, rfl, _, rfl, slA_of hg2 fun p1 H3 h1 s1 => ?_⟩
      rw [cut_take] at h1
      refine ⟨_, rfl, _, rfl, g, _, _, _, rfl, rfl, SqT.of (s1 _ _ hg2), atI_nat ay, ?_⟩
      obtain ⟨sg, es, sy⟩ : ∃ sg : Int, atI [V.int 1, V.int (-1)] (if decide (0 < y) = true then 1 else 0) = some (V.int sg) ∧ Small (y + sg) := by
        have ys : Small y := thS y (List.mem_of_getElem? ey)
        by_cases h : 0 < y
        · rw [decide_eq_true h, if_pos rfl]
          exact ⟨-1, rfl, by have := ys.2; constructor <;> omega⟩
        · rw [decide_eq_false h, if_neg Bool.false_ne_true]
          exact ⟨1, rfl, by have := ys.1; constructor <;> omega⟩
      refine ⟨_, rfl, (by show 2 ≤ sizeLine; decide), fun l nl => ?_⟩
      have s2 := same_new (o := .lst [V.int 1, V.int (-1)]) nl
      refine ⟨_, rfl, _, rfl, g, _, _, _, rfl, rfl, SqT.of (s2 _ _ (s1 _ _ hg2)), atI_nat ay, _, _, rfl, rfl, .inr ⟨_, rfl, l, _, _, _, rfl, rfl, SqL.of upd_same, es, _, _, rfl, rfl, (by show 1 ≤ sizeLine; decide), fun u nu => ?_⟩⟩
      have s3 := same_new (o := .tup [V.int (y + sg)]) nu
      refine catA_of (s3 _ _ (s2 _ _ h1)) upd_same (by rw [List.length_take]; show _ + 1 ≤ 1000; omega) fun p3 H4 h3 s4 => ?_
      have s24 : Same H2 H4 := fun a o e => s4 _ _ (s3 _ _ (s2 _ _ (s1 _ _ e)))
      refine ⟨_, rfl, _, rfl, _, _, rfl, rfl, _, rfl, ?_⟩
      dsimp only [tNoPart]
      refine slA_of (s24 _ _ hg2) fun p4 H5 h4 s5 => ?_
      rw [cut_end] at h4
      refine catA_of (s5 _ _ h3) h4 (by rw [List.length_append, List.length_take, List.length_drop]; show _ + 1 + _ ≤ 1000; omega) fun p5 H6 h5 s6 => ?_
      have s26 : Same H2 H6 := fun a o e => s6 _ _ (s5 _ _ (s24 _ _ e))
      have ev : (b.th.map V.int).take j ++ [V.int (y + sg)] ++ (b.th.map V.int).drop (j + 1) = (b.th.set j (y + sg)).map V.int := by
        rw [set_cut jl, List.map_append, List.map_append, List.map_take, List.map_drop]
        rfl
      refine nx _ _ ⟨at_, b, ⟨b.one, b.to, b.th.set j (y + sg)⟩, p5, _, _, _, _, _, _, rfl, ebt, h5.trans (congrArg (fun l => some (HO.tup l)) ev), belt_ok ok ebt rfl (ok.ends b bm).1 (fun h z => ok.out b bm h z) ⟨by rw [List.length_set]; exact th6, fun x hx => ?_⟩ (fun z => ?_), F2.same s26, (B1.trans B2).same s26⟩
      · rcases List.mem_or_eq_of_mem_set hx with z | z
        · exact thS x z
        · rw [z]; exact sy
      · have z := congrArg List.length z
        rw [List.length_set] at z
        have z : b.th.length = 0 := z
        omega
    · exact nx _ _ ⟨at_, b, b, g, _, _, _, _, _, _, rfl, ebt, hg, same ebt, F1, B1⟩
  case tail3 =>
    rintro D' σ' H1 ⟨eD, at_, b, b', g, x4, x5, x6, x7, x13, x15, rfl, ebt, hg, ok', F1, B1⟩
    have k1 := TK.but hF B1
    have atl := (List.getElem?_eq_some_iff.mp ebt).1
    refine ⟨_, rfl, _, rfl, _, rfl, _, rfl, slA_of (k1 _ _ eb) fun p1 H2 h1 s1 => ?_⟩
    rw [cut_take] at h1
    refine ⟨_, rfl, _, rfl, _, rfl, (by show 3 ≤ sizeLine; decide), fun t nt => ⟨(by show 1 ≤ sizeLine; decide), fun u nu => ?_⟩⟩
    have st := same_new (o := .tup [nV b'.one, nV b'.to, V.ref g]) nt
    have su := same_new (o := .tup [V.ref t]) nu
    refine catA_of (su _ _ (st _ _ h1)) upd_same (by rw [List.length_take]; show _ + 1 ≤ 1000; omega) fun p3 H4 h3 s4 => ?_
    have s14 : Same H1 H4 := fun a o e => s4 _ _ (su _ _ (st _ _ (s1 _ _ e)))
    refine ⟨_, rfl, _, rfl, _, _, rfl, rfl, _, rfl, ?_⟩
    dsimp only [tNoPart]
    refine slA_of (s14 _ _ (k1 _ _ eb)) fun p4 H5 h4 s5 => ?_
    rw [cut_end] at h4
    refine catA_of (s5 _ _ h3) h4 (by rw [List.length_append, List.length_take, List.length_drop]; show _ + 1 + _ ≤ 1000; omega) fun p5 H6 h5 s6 => ⟨(by show 2 ≤ sizeLine; decide), fun r' nr => ?_⟩
    have s7 := same_new (o := .tup [V.ref ha, V.ref p5]) nr
    have s17 : Same H1 _ := fun a o e => s7 _ _ (s6 _ _ (s5 _ _ (s14 _ _ e)))
    have k17 := k1.trans (TK.same s17)
    have x0 : BeltAt _ (V.ref t) b' := ⟨t, g, rfl, s7 _ _ (s6 _ _ (s5 _ _ (s4 _ _ (su _ _ upd_same)))), s17 _ _ hg⟩
    show D'.rt (.ref r') _
    rw [eD]
    exact q r' hs _ _ ⟨ha, p5, hv, _, upd_same, k17 _ _ eh, s7 _ _ h5, alh.imp fun _ _ z => z.keep k17, (alb.imp fun _ _ z => z.keep k17).cutIn x0 atl⟩ ok' n0 (F1.same s17) (B1.same s17)
  case tail1 =>
    rintro D' σ' H1 ⟨eD, v, k, x6, x7, rfl, F1, B1⟩
    have k1 := TK.but hF B1
    refine ⟨_, rfl, ba, _, rfl, .inr (SqT.of (k1 _ _ eb)), rfl, _, rfl, if_bl (fun c1 => ?_) (fun c1 => ?_)⟩
    · refine ⟨_, rfl, ?_⟩
      show D'.rt (.ref r) _
      rw [eD]
      exact q r hs bs _ (hR.keep k1) ok n0 F1 B1
    have c1 : bv.length ≠ 0 := fun z => of_decide_eq_false c1 (by rw [z]; rfl)
    refine ⟨_, rfl, _, rfl, ba, _, rfl, .inr (SqT.of (k1 _ _ eb)), f, c, _, rfl, by omega, Nat.lt_of_le_of_lt (Nat.log2_le_self _) (by omega), F1, fun ta H2 a0 a1 F2 B2 => ?_⟩
    obtain ⟨at_, rfl⟩ := Int.eq_ofNat_of_zero_le a0
    have k2 := k1.trans (TK.but F1 B2)
    have B12 := B1.trans B2
    obtain ⟨b, ebt⟩ : ∃ b, bs[at_]? = some b := ⟨_, List.getElem?_eq_getElem (by have : ((at_ : Nat) : Int) < _ := a1; omega)⟩
    have bm := List.mem_of_getElem? ebt
    obtain ⟨x, ex, tb, g, rfl, e1, e2⟩ := alb.get ebt
    obtain ⟨th6, thS⟩ := ok.th b bm
    refine ⟨_, rfl, _, rfl, ba, _, _, _, rfl, rfl, SqT.of (k2 _ _ eb), atI_nat ex, tb, _, rfl, SqT.of (k2 _ _ e1), rfl, _, _, rfl, _, _, rfl, _, _, rfl, rfl, ?_⟩
    have nx : ∀ σ H, Fin σ H → R3 D' σ H := fun σ H z => ⟨eD, z⟩
    have lth : (b.th.map V.int).length = b.th.length := List.length_map ..
    refine ⟨_, rfl, rfl, _, rfl, if_bl (fun c2 => ?_) (fun c2 => ?_)⟩
    · refine ⟨_, rfl, g, _, rfl, .inr (SqT.of (k2 _ _ e2)), _, _, rfl, rfl, _, rfl, if_bl (fun c3 => ?_) (fun c3 => ?_)⟩
      · have c3 : b.th.length < 6 := by have := of_decide_eq_true c3; omega
        refine ⟨_, rfl, _, rfl, f, c, 3, rfl, by decide, by decide +kernel, F2, fun y H3 y0 y1 F3 B3 => ⟨(by show 1 ≤ sizeLine; decide), fun u nu => ?_⟩⟩
        have k3 := (TK.but F2 B3).trans (TK.new (o := .tup [V.int y]) nu)
        refine catA_of (k3 _ _ (k2 _ _ e2)) upd_same (by rw [lth]; show _ + 1 ≤ 1000; omega) fun p3 H4 h3 s4 => ?_
        have ev : b.th.map V.int ++ [V.int y] = (b.th ++ [y]).map V.int := by rw [List.map_append]; rfl
        refine nx _ _ ⟨at_, b, ⟨b.one, b.to, b.th ++ [y]⟩, p3, _, _, _, _, _, _, rfl, ebt, h3.trans (congrArg (fun l => some (HO.tup l)) ev), belt_ok ok ebt rfl (ok.ends b bm).1 (fun h z => ok.out b bm h z) ⟨by rw [List.length_append]; show _ + 1 ≤ 6; omega, fun x hx => ?_⟩ (fun z => by simp at z), (F3.new nu).same s4, ((B12.trans B3).new nu).same s4⟩
        rcases List.mem_append.mp hx with z | z
        · exact thS x z
        · rw [List.mem_singleton.mp z]; constructor <;> omega
      · refine ⟨_, rfl, rfl, _, rfl, if_bl (fun c4 => ?_) (fun _ => ?_)⟩
        · have a1 := V.int.inj (of_decide_eq_true c2)
          have a2 := V.int.inj (of_decide_eq_true c4)
          omega
        · exact ⟨nx, at_, b, g, _, _, _, _, rfl, ebt, k2 _ _ e2, F2, B12⟩
    · refine ⟨_, rfl, rfl, _, rfl, if_bl (fun c4 => ?_) (fun _ => ?_)⟩
      · refine ⟨_, rfl, g, _, rfl, .inr (SqT.of (k2 _ _ e2)), _, _, rfl, rfl, _, rfl, if_bl (fun c3 => ?_) (fun c3 => ?_)⟩
        · have c3 : 0 < b.th.length := by have := of_decide_eq_true c3; omega
          refine ⟨_, rfl, ha, _, rfl, .inr (SqT.of (k2 _ _ eh)), _, rfl, by omega, by omega, fun D nD => lc_range (lo := 0) (n := hv.length) (fun i H5 => H5 D = some (.lst (((List.range i).filter fun j => decide (hs[j]?.map HR.wd ≠ some "out")).map nV)) ∧ Same H2 H5) ⟨upd_same, same_new nD⟩ ?_ ?_⟩
          · rintro i H5 hi ⟨hD, s5⟩
            obtain ⟨hx, ehx⟩ : ∃ x, hv[i]? = some x := ⟨_, List.getElem?_eq_getElem hi⟩
            obtain ⟨hh, ehh, t2, rr, rfl, g1, g2⟩ := alh.getL ehx
            have gh := ok.good hh (List.mem_of_getElem? ehh)
            have few := filt_len (p := fun j => decide (hs[j]?.map HR.wd ≠ some "out")) i
            refine ⟨rfl, _, rfl, _, rfl, ha, _, _, _, rfl, rfl, SqT.of (s5 _ _ (k2 _ _ eh)), at0 ehx, t2, _, _, _, rfl, rfl, SqT.of (s5 _ _ (k2 _ _ g1)), atI_nat (j := 0) rfl, (by show 1 ≤ sizeLine; decide), fun o1 no1 => ?_⟩
            have s6 := same_new (o := .tup [V.str "out"]) no1
            refine ⟨_, _, rule_dp (s6 _ _ (s5 _ _ (k2 _ _ g2))), .tup (SqT.of upd_same) (.cons (.str _) .nil), rule_shaped gh.lay, one_shaped (by decide +kernel), _, rfl, ?_⟩
            rw [rule_eqv, gh.door "out" (.inr rfl)]
            by_cases kk : hh.wd = "out"
            · rw [decide_eq_true kk]
              refine if_bl (fun z => absurd z (by decide)) (fun _ => ⟨?_, fun a o e => s6 _ _ (s5 _ _ e)⟩)
              rw [filt_succ, if_neg (fun z => (of_decide_eq_true z) (by rw [ehh]; exact congrArg some kk)), List.append_nil]
              exact s6 _ _ hD
            · rw [decide_eq_false kk]
              refine if_bl (fun _ => ⟨_, rfl, _, s6 _ _ hD, by rw [List.length_map]; exact small1000 (by omega), ?_, Same.own (fun a o e => s6 _ _ (s5 _ _ e)) nD⟩) (fun z => absurd z (by decide))
              rw [upd_same, filt_succ, if_pos (decide_eq_true (by rw [ehh]; exact fun z => kk (Option.some.inj z))), List.map_append, Int.zero_add]
              rfl
          · rintro H5 ⟨hD, s5⟩
            have Df : D ≠ f := F2.ne nD
            obtain ⟨h1, eh1⟩ : ∃ h1, hs[b.one]? = some h1 := ⟨_, List.getElem?_eq_getElem (ok.ends b bm).1⟩
            have pos : 0 < ((List.range hv.length).filter fun j => decide (hs[j]?.map HR.wd ≠ some "out")).length := by
              refine List.length_pos_of_mem (a := b.one) (List.mem_filter.mpr ⟨List.mem_range.mpr (by rw [lhv]; exact (ok.ends b bm).1), decide_eq_true ?_⟩)
              rw [eh1]
              exact fun z => ok.out b bm h1 eh1 (Option.some.inj z)
            have few := filt_len (p := fun j => decide (hs[j]?.map HR.wd ≠ some "out")) hv.length
            refine ⟨_, rfl, _, rfl, _, rfl, D, _, rfl, .inl (SqL.of hD), f, c, _, rfl, by rw [List.length_map]; omega, Nat.lt_of_le_of_lt (Nat.log2_le_self _) (by rw [List.length_map]; omega), F2.same s5, fun u H6 u0 u1 F6 B6 => ?_⟩
            rw [List.length_map] at u1
            obtain ⟨o, eo⟩ : ∃ o, ((List.range hv.length).filter fun j => decide (hs[j]?.map HR.wd ≠ some "out"))[u.toNat]? = some o := ⟨_, List.getElem?_eq_getElem (by omega)⟩
            obtain ⟨o1, o2⟩ := List.mem_filter.mp (List.mem_of_getElem? eo)
            have o1 := List.mem_range.mp o1
            have o2 := of_decide_eq_true o2
            have uo : atI (((List.range hv.length).filter fun j => decide (hs[j]?.map HR.wd ≠ some "out")).map nV) u = some (nV o) := by
              have := atI_nat (xs := ((List.range hv.length).filter fun j => decide (hs[j]?.map HR.wd ≠ some "out")).map nV) (j := u.toNat) (v := nV o) (by rw [List.getElem?_map, eo]; rfl)
              rw [show ((u.toNat : Nat) : Int) = u by omega] at this
              exact this
            refine ⟨D, _, u, _, rfl, rfl, SqL.of (B6 _ _ hD Df), uo, ?_⟩
            refine nx _ _ ⟨at_, b, ⟨o, b.to, b.th⟩, g, _, _, _, _, _, _, rfl, ebt, TK.but (F2.same s5) B6 _ _ (s5 _ _ (k2 _ _ e2)), belt_ok ok ebt rfl (show o < hs.length by omega) (fun h z q => o2 (by rw [z]; exact congrArg some q)) (ok.th b bm) (fun z => ?_), F6, (B12.same s5).trans B6⟩
            have z : b.th = [] := z
            rw [z] at c3
            exact absurd c3 (Nat.not_lt_zero _)
        · exact ⟨nx, at_, b, g, _, _, _, _, rfl, ebt, k2 _ _ e2, F2, B12⟩
      · exact ⟨nx, at_, b, g, _, _, _, _, rfl, ebt, k2 _ _ e2, F2, B12⟩
  have eD0 : ({ nx := fun x H' => Q V.non H', rt := Q } : Ends).rt = Q := rfl
  refine ⟨_, rfl, r, _, rfl, SqT.of er, rfl, _, _, rfl, _, _, rfl, rfl, ?_⟩
  refine ⟨_, rfl, f, c, 4, rfl, by decide, by decide +kernel, hF, fun v H1 v0 v1 F1 B1 => ?_⟩
  have k1 := TK.but hF B1
  refine ⟨_, rfl, _, rfl, ha, _, rfl, .inr (SqT.of (k1 _ _ eh)), f, c, _, rfl, by omega, Nat.lt_of_le_of_lt (Nat.log2_le_self _) (by omega), F1, fun tk H2 t0 t1 F2 B2 => ?_⟩
  obtain ⟨k, rfl⟩ := Int.eq_ofNat_of_zero_le t0
  have kl : k < hs.length := by have : ((k : Nat) : Int) < _ := t1; omega
  have k2 := k1.trans (TK.but F1 B2)
  have B12 := B1.trans B2
  obtain ⟨h, ehk⟩ : ∃ h, hs[k]? = some h := ⟨_, List.getElem?_eq_getElem kl⟩
  obtain ⟨x, ex, t, rr, rfl, e1, e2⟩ := alh.get ehk
  have gh := ok.good h (List.mem_of_getElem? ehk)
  refine ⟨_, rfl, rfl, _, rfl, if_bl (fun c1 => ?_) (fun c1 => ⟨eD0, v, k, _, _, rfl, F2, B12⟩)⟩
  refine ⟨_, rfl, _, rfl, ha, _, _, _, rfl, rfl, SqT.of (k2 _ _ eh), atI_nat ex, t, _, _, _, rfl, rfl, SqT.of (k2 _ _ e1), atI_nat (j := 0) rfl, rr, _, _, _, rfl, rfl, SqT.of (k2 _ _ e2), atI_nat (j := 0) rfl, (by show 2 ≤ sizeLine; decide), fun u nu => ⟨u, _, rfl, .inr (SqT.of upd_same), rfl, rfl, _, rfl, ?_⟩⟩
  rw [if_pos (rfl : true = true)]
  have k3 := k2.trans (TK.new (o := .tup [V.str "in", V.str "out"]) nu)
  have F3 := F2.new (o := .tup [V.str "in", V.str "out"]) nu
  have B3 := B12.new (o := .tup [V.str "in", V.str "out"]) nu
  refine if_bl (fun c2 => ?_) (fun c2 => ⟨eD0, v, k, _, _, rfl, F3, B3⟩)
  have nin : h.wd ∉ (["in", "out"] : List Str) := fun z => by
    have := (inV_strs (x := h.wd) (zs := ["in", "out"])).mpr z
    have c2 : (!inV (V.str h.wd) ((["in", "out"] : List Str).map V.str)) = true := c2
    rw [this] at c2
    cases c2
  let G : List HR := [⟨"same", none, 0⟩, ⟨"times", some 1, 0⟩, ⟨"sum", none, 0⟩, ⟨"gap", none, 0⟩]
  have gG : ∀ g ∈ G, GoodRule g ∧ g.wd ≠ "out" := fun g hg => by
    simp only [G, List.mem_cons, List.not_mem_nil, or_false] at hg
    rcases hg with rfl | rfl | rfl | rfl
    · exact ⟨⟨by decide +kernel, by decide +kernel, (fun n z => nomatch z)⟩, by decide +kernel⟩
    · exact ⟨⟨by decide +kernel, by decide +kernel, (fun n z => by rw [← Option.some.inj z]; exact ⟨by decide, by decide⟩)⟩, by decide +kernel⟩
    · exact ⟨⟨by decide +kernel, by decide +kernel, (fun n z => nomatch z)⟩, by decide +kernel⟩
    · exact ⟨⟨by decide +kernel, by decide +kernel, (fun n z => nomatch z)⟩, by decide +kernel⟩
  refine ⟨(by show 1 ≤ sizeLine; decide), fun a1 n1 => ⟨(by show 2 ≤ sizeLine; decide), fun a2 n2 => ⟨(by show 1 ≤ sizeLine; decide), fun a3 n3 => ⟨(by show 1 ≤ sizeLine; decide), fun a4 n4 => ⟨(by show 4 ≤ sizeLine; decide), fun pl npl => ?_⟩⟩⟩⟩⟩
  have t1 := same_new (o := .tup [V.str "same"]) n1
  have t2 := same_new (o := .tup [V.str "times", V.int 1]) n2
  have t3 := same_new (o := .tup [V.str "sum"]) n3
  have t4 := same_new (o := .tup [V.str "gap"]) n4
  have t5 := same_new (o := .lst [V.ref a1, V.ref a2, V.ref a3, V.ref a4]) npl
  have s5 : Same _ _ := fun a o e => t5 a o (t4 a o (t3 a o (t2 a o (t1 a o e))))
  have k5 := k3.trans (TK.same s5)
  have F5 := F3.same s5
  have B5 := B3.same s5
  have alG : All2 (fun (v : V) (g : HR) => ∃ a : Addr, v = .ref a ∧ (upd (upd (upd (upd (upd (upd H2 u (.tup [V.str "in", V.str "out"])) a1 (.tup [V.str "same"])) a2 (.tup [V.str "times", V.int 1])) a3 (.tup [V.str "sum"])) a4 (.tup [V.str "gap"])) pl (.lst [V.ref a1, V.ref a2, V.ref a3, V.ref a4])) a = some (.tup (ruleL g))) [V.ref a1, V.ref a2, V.ref a3, V.ref a4] G :=
    .cons ⟨a1, rfl, t5 _ _ (t4 _ _ (t3 _ _ (t2 _ _ upd_same)))⟩ (.cons ⟨a2, rfl, t5 _ _ (t4 _ _ (t3 _ _ upd_same))⟩ (.cons ⟨a3, rfl, t5 _ _ (t4 _ _ upd_same)⟩ (.cons ⟨a4, rfl, t5 _ _ upd_same⟩ .nil)))
  have hpl : (upd (upd (upd (upd (upd (upd H2 u (.tup [V.str "in", V.str "out"])) a1 (.tup [V.str "same"])) a2 (.tup [V.str "times", V.int 1])) a3 (.tup [V.str "sum"])) a4 (.tup [V.str "gap"])) pl (.lst [V.ref a1, V.ref a2, V.ref a3, V.ref a4])) pl = some (.lst [V.ref a1, V.ref a2, V.ref a3, V.ref a4]) := upd_same
  clear s5 t1 t2 t3 t4 t5
  generalize (upd (upd (upd (upd (upd (upd H2 u (.tup [V.str "in", V.str "out"])) a1 (.tup [V.str "same"])) a2 (.tup [V.str "times", V.int 1])) a3 (.tup [V.str "sum"])) a4 (.tup [V.str "gap"])) pl (.lst [V.ref a1, V.ref a2, V.ref a3, V.ref a4])) = H5 at k5 F5 B5 alG hpl ⊢
  refine ⟨_, rfl, pl, rfl, ⟨_, SqL.of hpl⟩, fun D nD => lc_list (K := K) (a := pl) (xs := [V.ref a1, V.ref a2, V.ref a3, V.ref a4]) (fun i H6 => ∃ us : List V, H6 D = some (.lst us) ∧ us.length ≤ i ∧ (∀ y ∈ us, ∃ (a : Addr) (g : HR), y = .ref a ∧ H5 a = some (.tup (ruleL g)) ∧ GoodRule g ∧ g.wd ≠ "out" ∧ needs g.wd = needs h.wd) ∧ Same H5 H6) ⟨[], upd_same, Nat.le_refl _, (fun _ z => nomatch z), same_new nD⟩ (fun i H6 _ ⟨_, _, _, _, s6⟩ => SqL.of (s6 _ _ hpl)) ?_ ?_⟩
  · rintro i y H6 hx ⟨us, hD, lu, gu, s6⟩
    obtain ⟨g, eg, ag, rfl, e3⟩ := alG.getL hx
    obtain ⟨g1, g2⟩ := gG g (List.mem_of_getElem? eg)
    have il : i < 4 := (List.getElem?_eq_some_iff.mp hx).1
    refine ⟨rfl, _, rfl, ag, g.wd, _, rfl, SqT.of (s6 _ _ e3), fun H7 s7 => ⟨_, rfl, _, rfl, ha, _, _, _, rfl, rfl, SqT.of (s7 _ _ (s6 _ _ (k5 _ _ eh))), atI_nat ex, t, _, _, _, rfl, rfl, SqT.of (s7 _ _ (s6 _ _ (k5 _ _ e1))), atI_nat (j := 0) rfl, rr, h.wd, _, rfl, SqT.of (s7 _ _ (s6 _ _ (k5 _ _ e2))), fun H8 s8 => ⟨rfl, _, rfl, if_bl (fun c3 => ?_) (fun c3 => ?_)⟩⟩⟩
    · have c3 := V.int.inj (of_decide_eq_true c3)
      have s68 : Same H5 H8 := fun a o e => s8 _ _ (s7 _ _ (s6 _ _ e))
      refine ⟨_, rfl, _, s8 _ _ (s7 _ _ hD), small1000 (by omega), us ++ [.ref ag], upd_same, by rw [List.length_append]; show _ + 1 ≤ i + 1; omega, fun y hy => ?_, Same.own s68 nD⟩
      rcases List.mem_append.mp hy with hy | hy
      · exact gu y hy
      · exact ⟨ag, g, List.mem_singleton.mp hy, e3, g1, g2, c3⟩
    · exact ⟨us, s8 _ _ (s7 _ _ hD), by omega, gu, fun a o e => s8 _ _ (s7 _ _ (s6 _ _ e))⟩
  rintro H6 ⟨us, hD, lu, gu, s6⟩
  have lu : us.length ≤ 4 := lu
  have F6 := F5.same s6
  have B6 := B5.same s6
  have Df : D ≠ f := F5.ne nD
  refine ⟨_, rfl, D, _, rfl, .inl (SqL.of hD), _, _, rfl, rfl, _, rfl, if_bl (fun c3 => ?_) (fun c3 => ⟨eD0, v, k, _, _, rfl, F6, B6⟩)⟩
  have c3 : 0 < us.length := by have := of_decide_eq_true c3; omega
  have k6 := k5.trans (TK.same s6)
  refine ⟨_, rfl, _, rfl, _, rfl, slA_of (k6 _ _ eh) fun p1 H7 h1 s7 => ?_⟩
  rw [cut_take] at h1
  refine ⟨_, rfl, _, rfl, _, rfl, D, _, rfl, .inl (SqL.of (s7 _ _ hD)), f, c, _, rfl, by omega, Nat.lt_of_le_of_lt (Nat.log2_le_self _) (by omega), F6.same s7, fun w H8 w0 w1 F8 B8 => ?_⟩
  have k78 := (TK.same s7).trans (TK.but (F6.same s7) B8)
  have k8 := k6.trans k78
  obtain ⟨y, ey⟩ : ∃ y, us[w.toNat]? = some y := ⟨_, List.getElem?_eq_getElem (by omega)⟩
  obtain ⟨ag, g, rfl, e3, g1, g2, g3⟩ := gu y (List.mem_of_getElem? ey)
  have aw : atI us w = some (V.ref ag) := by
    have := atI_nat ey
    rw [show ((w.toNat : Nat) : Int) = w by omega] at this
    exact this
  refine ⟨D, _, w, _, rfl, rfl, SqL.of (B8 _ _ (s7 _ _ hD) Df), aw, _, rfl, _, rfl, ha, _, _, _, rfl, rfl, SqT.of (k8 _ _ eh), atI_nat ex, t, _, _, _, rfl, rfl, SqT.of (k8 _ _ e1), atI_nat (j := 1) rfl, (by show 2 ≤ sizeLine; decide), fun a na => ⟨(by show 1 ≤ sizeLine; decide), fun b nb => ?_⟩⟩
  have sa := same_new (o := .tup [V.ref ag, V.int h.mom]) na
  have sb := same_new (o := .tup [V.ref a]) nb
  refine catA_of (sb _ _ (sa _ _ (TK.but (F6.same s7) B8 _ _ h1))) upd_same (by rw [List.length_take]; show _ + 1 ≤ 1000; omega) fun p3 H9 h3 s9 => ?_
  have s89 : Same H8 H9 := fun a o e => s9 _ _ (sb _ _ (sa _ _ e))
  refine ⟨_, rfl, _, rfl, _, _, rfl, rfl, _, rfl, ?_⟩
  dsimp only [tNoPart]
  refine slA_of (s89 _ _ (k8 _ _ eh)) fun p4 H10 h4 s10 => ?_
  rw [cut_end] at h4
  refine catA_of (s10 _ _ h3) h4 (by rw [List.length_append, List.length_take, List.length_drop]; show _ + 1 + _ ≤ 1000; omega) fun p5 H11 h5 s11 => ⟨_, rfl, (by show 2 ≤ sizeLine; decide), fun r' nr => ?_⟩
  have s12 := same_new (o := .tup [V.ref p5, V.ref ba]) nr
  have s812 : Same H8 _ := fun a o e => s12 _ _ (s11 _ _ (s10 _ _ (s89 _ _ e)))
  have k12 := k8.trans (TK.same s812)
  have x0 : HandAt _ (V.ref a) ⟨g.wd, g.no, h.mom⟩ := ⟨a, ag, rfl, s12 _ _ (s11 _ _ (s10 _ _ (s9 _ _ (sb _ _ upd_same)))), s812 _ _ (k78 _ _ (s6 _ _ e3))⟩
  refine q r' _ bs _ ⟨p5, ba, _, bv, upd_same, s12 _ _ h5, k12 _ _ eb, (alh.imp fun _ _ z => z.keep k12).cutIn x0 kl, alb.imp fun _ _ z => z.keep k12⟩ (hand_ok ok ehk ⟨.inl ⟨g1.wd, g1.no, g1.big⟩, gh.2⟩ g2 g3) (by rw [List.length_set]; exact n0) (F8.same s812) ((((B6.same s7).trans B8)).same s812)
end
/-! ### a tuple times 0 or 1: nothing, or itself -/
/-- an object of the tuple type, with these items -/
abbrev TupO (its : List Value) (n : Nat) (dd : Option Addr) (sl : Array (Option Value)) : Obj := { cls := .type "tuple", dict := dd, data := .seq its.toArray n, slots := sl }
theorem once_tup (l : Addr) (its : List Value) (n : Nat) (dd : Option Addr) (sl : Array (Option Value)) (u : Tok) :
    PySem.Meets (Builtin.«tuple.__mul__» ⟨[.ref l, .int 1 u], []⟩) (fun _ R z => z.heap.get? l = some (TupO its n dd sl) ∧ R (.ok (.ret (Value.ref l))) z) := by
  refine .of_wp fun prog w A R z hz => ?_
  obtain ⟨zh, zg, zd, zt, zo⟩ := z
  have at_l := hz.1
  have read := AutoSeq1.idx_int
  wp_walk using wpAny_loadPart' at_l
  exact ⟨_, rfl, hz.2⟩
theorem none_tup (l : Addr) (x : Value) (its : List Value) (n : Nat) (dd : Option Addr) (sl : Array (Option Value)) (u : Tok) :
    PySem.Meets (Builtin.«tuple.__mul__» ⟨[.ref l, .int 0 u], []⟩) (fun _ R z => z.heap.get? l = some (TupO (x :: its) n dd sl) ∧ R (.ok (.ret (Value.ref z.heap.objs.size))) { z with heap := z.heap.push { cls := Value.type "tuple", data := Data.seq #[] }, toks := z.toks }) := by
  refine .of_wp fun prog w A R z hz => ?_
  obtain ⟨zh, zg, zd, zt, zo⟩ := z
  have at_l := hz.1
  have read := AutoSeq1.idx_int
  wp_walk using wpAny_loadPart' at_l
  exact ⟨_, rfl, hz.2⟩
def rRep01 (K : PySem.W.Frag) : R2 := fun x y H Q => ∃ l k xs, x = .ref l ∧ y = .int k ∧ SqT K H l xs ∧ xs ≠ [] ∧ (k = 0 ∨ k = 1) ∧ (k = 1 → Q (.ref l) H) ∧ (k = 0 → ∀ p, H p = none → Q (.ref p) (upd H p (.tup [])))
section
variable {X : Cx}
/-- the operator comes to the tuple's own method -/
theorem mul_to_own {z : Shared} {l : Addr} {k : Int} {t : Tok} {its : List Value} {n : Nat} {dd : Option Addr} {sl : Array (Option Value)} {pins : List (Addr × Obj)} {σ : L2.St} {Q : VK} (o : z.heap.get? l = some (TupO its n dd sl))
    (go : wpAny (model X.prog X.w) X.A (PySem.call (.builtin "tuple.__mul__") [.ref l, .int k t]) (EP X pins σ Q) X.xe z) : wpAny (model X.prog X.w) X.A (binaryOp .Mult (.ref l) (.int k t)) (EP X pins σ Q) X.xe z :=
  PySem.wpAny_binaryOp_repeat_ref (T := "tuple") (U := "int") (by decide) ⟨_, o, rfl⟩ (PySem.typeIs_int · k t) noFill_tuple_mul PySem.F.fills_int_mul PySem.F.slot_int_rmul repeat_tuple PySem.F.slot_int_index.lookup
    (PySem.call_meets PySem.F.slot_int_rmul (PySem.typeIs_int z k t) PySem.F.entry_int_rmul (PySem.F.args_int_rmul_2 _ _) (int_rmul_tuple k t l its.toArray n dd sl) ⟨o, rfl, ⟨_, o, rfl⟩, go⟩)
theorem op_rep01 (K : PySem.W.Frag) (hk : X.K = K) : OpR X (binaryOp .Mult) (rRep01 K) := by
  rintro pins z σ H x y v u Q I rx ry ⟨l, k, xs, rfl, rfl, hT, some_, two, one_, none_⟩
  rw [← hk] at hT
  obtain rfl : v = .ref l := by cases rx; rfl
  obtain ⟨t, rfl⟩ := ry
  obtain ⟨its, same, ⟨⟨cls, dd, data, sl⟩, o, ec, n, ed⟩, _⟩ := I.tuple hT
  dsimp only at ec ed
  subst ec ed
  cases its with
  | nil => exact absurd (List.eq_nil_of_length_eq_zero same.length) some_
  | cons i its =>
    refine mul_to_own o ?_
    rcases two with rfl | rfl
    · refine PySem.call_meets PySem.F.slot_tuple_mul ⟨_, o, rfl⟩ PySem.F.entry_tuple_mul (PySem.F.args_tuple_mul_2 _ _) (none_tup l i its n dd sl t) ⟨o, ?_⟩
      exact ⟨.ref z.heap.objs.size, _, I.laid (t' := z.toks) (o := .tup []) (fun b ob e => PySem.Heap.get?_push_of_some _ e) (Nat.le_refl _) ⟨Nat.zero_le _, [], .nil, IsTup.new _ _⟩, rfl, none_ rfl _ (I.hok.fresh (Nat.le_refl _))⟩
    · exact PySem.call_meets PySem.F.slot_tuple_mul ⟨_, o, rfl⟩ PySem.F.entry_tuple_mul (PySem.F.args_tuple_mul_2 _ _) (once_tup l (i :: its) n dd sl t) ⟨o, .ref l, H, I, rfl, one_ rfl⟩
end
/-! ### a tuple times 1 or 2 -/
def rRep12 (K : PySem.W.Frag) : R2 := fun x y H Q => rRep01 K x y H Q ∨ rRepT K x y H Q
theorem op_rep12 {X : Cx} (K : PySem.W.Frag) (hk : X.K = K) : OpR X (binaryOp .Mult) (rRep12 K) := by
  intro pins z σ H x y v u Q I rx ry h
  rcases h with h | h
  · exact op_rep01 K hk pins z σ H x y v u Q I rx ry h
  · rw [← hk] at h
    exact op_repT pins z σ H x y v u Q I rx ry h
/-! ### lines and rings of hands -/
def ThAt (H : Hp) (v : V) (t : List Int) : Prop := ∃ g : Addr, v = .ref g ∧ H g = some (.tup (t.map V.int))
theorem ThAt.keep {H H' : Hp} {v : V} {t : List Int} (h : ThAt H v t) (k : TK H H') : ThAt H' v t := by
  obtain ⟨g, e, e1⟩ := h
  exact ⟨g, e, k _ _ e1⟩
def lineH (first : Int) (ms : List Int) : List HR := ⟨"always", some first, 2⟩ :: ms.map fun m => ⟨"same", none, m⟩
def lineB (p : Nat) (n : Nat) (ths : List (List Int)) : List BR := (List.range n).map fun k => ⟨p + k, p + k + 1, ths.getD k []⟩
theorem up_count (p j : Nat) : ∀ m, ((List.range m).map fun k => p + k + 1).count (p + j) = if 0 < j ∧ j ≤ m then 1 else 0 := by
  intro m
  induction m with
  | zero => rw [if_neg (by omega)]; rfl
  | succ m ih =>
    rw [List.range_succ, List.map_append, List.count_append, ih]
    show _ + [p + m + 1].count (p + j) = _
    rw [List.count_singleton]
    by_cases h : p + m + 1 = p + j
    · rw [show (p + m + 1 == p + j) = true from beq_iff_eq.mpr h, if_pos rfl, if_neg (by omega), if_pos (by omega)]
    · rw [show (p + m + 1 == p + j) = false from beq_eq_false_iff_ne.mpr h, if_neg Bool.false_ne_true]
      by_cases h2 : 0 < j ∧ j ≤ m
      · rw [if_pos h2, if_pos (by omega)]
      · rw [if_neg h2, if_neg (by omega)]
theorem needs_always : needs "always" = 0 := by decide +kernel
theorem needs_same : needs "same" = 1 := by decide +kernel
theorem needs_times : needs "times" = 1 := by decide +kernel
theorem nil_ok : RoomOk [] [] := ⟨by decide, (fun _ z => nomatch z), (fun _ z => nomatch z), (fun _ z => nomatch z), (fun _ z => nomatch z), ⟨fun _ => 0, (fun _ z => nomatch z)⟩, (fun _ _ z => by cases z), by decide⟩
theorem line_ok {hs : List HR} {bs : List BR} {first : Int} {ms : List Int} {ths : List (List Int)} (ok : RoomOk hs bs) (f0 : Small first) (hm : ∀ m ∈ ms, 0 ≤ m ∧ m ≤ 30) (ht : ∀ t ∈ ths, t.length ≤ 6 ∧ ∀ x ∈ t, Small x) (l1 : hs.length + (ms.length + 1) ≤ 12) (l2 : bs.length + ms.length ≤ 20) (lt : ths.length = ms.length) : RoomOk (hs ++ lineH first ms) (bs ++ lineB hs.length ms.length ths) := by
  have ll : (lineH first ms).length = ms.length + 1 := by show (ms.map _).length + 1 = _; rw [List.length_map]
  have lb : (lineB hs.length ms.length ths).length = ms.length := by show ((List.range _).map _).length = _; rw [List.length_map, List.length_range]
  have inB : ∀ {b}, b ∈ lineB hs.length ms.length ths → ∃ k, k < ms.length ∧ b = ⟨hs.length + k, hs.length + k + 1, ths.getD k []⟩ := fun {b} hb => by
    obtain ⟨k, hk, e⟩ := List.mem_map.mp hb
    exact ⟨k, List.mem_range.mp hk, e.symm⟩
  have gd : ∀ {k}, k < ms.length → ths.getD k [] ∈ ths := fun {k} hk => by
    rw [List.getD_eq_getElem?_getD, List.getElem?_eq_getElem (by omega)]
    exact List.getElem_mem _
  have goodL : ∀ h ∈ lineH first ms, GoodHand h ∧ h.wd ≠ "out" := fun h hh => by
    rcases List.mem_cons.mp hh with rfl | hh
    · exact ⟨⟨.inl ⟨(show ("always" : Str) ∈ nine by decide +kernel), ⟨fun _ => .inr rfl, fun _ => rfl⟩, fun n e => by cases e; exact f0⟩, (show (0 : Int) ≤ 2 by decide), (show (2 : Int) ≤ 30 by decide)⟩, (show ("always" : Str) ≠ "out" by decide +kernel)⟩
    · obtain ⟨m, hm2, rfl⟩ := List.mem_map.mp hh
      exact ⟨⟨.inl ⟨(show ("same" : Str) ∈ nine by decide +kernel), (show (none : Option Int).isSome = true ↔ ("same" : Str) = "times" ∨ ("same" : Str) = "always" by decide +kernel), fun n e => by cases e⟩, hm m hm2⟩, (show ("same" : Str) ≠ "out" by decide +kernel)⟩
  obtain ⟨rk, hrk⟩ := ok.rank
  refine ⟨by rw [List.length_append, ll]; exact l1, fun h hh => ?_, fun b hb => ?_, fun b hb h e => ?_, fun b hb => ?_, ⟨fun j => if j < hs.length then rk j else (j : Nat), fun b hb z => ?_⟩, fun k h e => ?_, by rw [List.length_append, lb]; exact l2⟩
  · rcases List.mem_append.mp hh with hh | hh
    · exact ok.good h hh
    · exact (goodL h hh).1
  · rw [List.length_append, ll]
    rcases List.mem_append.mp hb with hb | hb
    · have := ok.ends b hb
      omega
    · obtain ⟨k, hk, rfl⟩ := inB hb
      show hs.length + k < _ ∧ hs.length + k + 1 < _
      omega
  · rcases List.mem_append.mp hb with hb | hb
    · rw [List.getElem?_append_left (ok.ends b hb).1] at e
      exact ok.out b hb h e
    · obtain ⟨k, hk, rfl⟩ := inB hb
      have e : (hs ++ lineH first ms)[hs.length + k]? = some h := e
      rw [List.getElem?_append_right (by omega)] at e
      exact (goodL h (List.mem_of_getElem? e)).2
  · rcases List.mem_append.mp hb with hb | hb
    · exact ok.th b hb
    · obtain ⟨k, hk, rfl⟩ := inB hb
      exact ht _ (gd hk)
  · rcases List.mem_append.mp hb with hb | hb
    · have := ok.ends b hb
      show (if b.one < hs.length then rk b.one else ((b.one : Nat) : Int)) < if b.to < hs.length then rk b.to else ((b.to : Nat) : Int)
      rw [if_pos this.1, if_pos this.2]
      exact hrk b hb z
    · obtain ⟨k, hk, rfl⟩ := inB hb
      show (if hs.length + k < hs.length then rk (hs.length + k) else ((hs.length + k : Nat) : Int)) < if hs.length + k + 1 < hs.length then rk (hs.length + k + 1) else ((hs.length + k + 1 : Nat) : Int)
      rw [if_neg (by omega), if_neg (by omega)]
      omega
  · rw [List.map_append, List.count_append]
    have eB : (lineB hs.length ms.length ths).map BR.to = (List.range ms.length).map fun k => hs.length + k + 1 := by
      show ((List.range _).map _).map _ = _
      rw [List.map_map]
      rfl
    rw [eB]
    by_cases hk : k < hs.length
    · rw [List.getElem?_append_left hk] at e
      have c := ok.count k h e
      have z : ((List.range ms.length).map fun j => hs.length + j + 1).count k = 0 := by
        rw [List.count_eq_zero]
        intro m
        obtain ⟨j, _, e⟩ := List.mem_map.mp m
        omega
      rw [z, Nat.add_zero]
      exact c
    · rw [List.getElem?_append_right (by omega)] at e
      have z : (bs.map BR.to).count k = 0 := by
        rw [List.count_eq_zero]
        intro m
        obtain ⟨b, hb, e⟩ := List.mem_map.mp m
        have := (ok.ends b hb).2
        omega
      obtain ⟨j, rfl⟩ : ∃ j, k = hs.length + j := ⟨k - hs.length, by omega⟩
      rw [z, up_count, Nat.zero_add]
      rw [show hs.length + j - hs.length = j by omega] at e
      cases j with
      | zero =>
        have e : (⟨"always", some first, 2⟩ : HR) = h := Option.some.inj e
        rw [if_neg (by omega), ← e, needs_always]
        rfl
      | succ j =>
        have e : (ms.map fun m => (⟨"same", none, m⟩ : HR))[j]? = some h := e
        have jl : j < ms.length := by
          have := (List.getElem?_eq_some_iff.mp e).1
          rwa [List.length_map] at this
        obtain ⟨m, _, rfl⟩ := List.mem_map.mp (List.mem_of_getElem? e)
        rw [if_pos (by omega), needs_same]
        rfl
theorem All2.st {α β : Type} {R : α → β → Prop} {a : α} {b : β} : ∀ {as : List α} {bs : List β}, All2 R as bs → ∀ k : Nat, R a b → All2 R (as.set k a) (bs.set k b)
  | _, _, .nil, _, _ => .nil
  | _, _, .cons _ t, 0, h => .cons h t
  | _, _, .cons x t, k + 1, h => .cons x (All2.st t k h)
def ringB (n : Nat) : List BR := (List.range n).map fun k => ⟨k, (k + 1) % n, [5]⟩
theorem ring_count {n k : Nat} (n0 : 0 < n) (hk : k < n) : ((ringB n).map BR.to).count k = 1 := by
  obtain ⟨m, rfl⟩ : ∃ m, n = m + 1 := ⟨n - 1, by omega⟩
  have e : (ringB (m + 1)).map BR.to = ((List.range m).map fun k => 0 + k + 1) ++ [0] := by
    unfold ringB
    rw [List.map_map, List.range_succ, List.map_append]
    congr 1
    · refine List.map_congr_left fun j hj => ?_
      have := List.mem_range.mp hj
      show (j + 1) % (m + 1) = 0 + j + 1
      rw [Nat.mod_eq_of_lt (by omega)]
      omega
    · show [(m + 1) % (m + 1)] = [0]
      rw [Nat.mod_self]
  have u := up_count 0 k m
  rw [Nat.zero_add] at u
  rw [e, List.count_append, u, List.count_singleton]
  by_cases h : k = 0
  · subst h
    rfl
  · rw [if_pos (by omega), show ((0 : Nat) == k) = false from beq_eq_false_iff_ne.mpr fun z => h z.symm]
    rfl
theorem ring_ok {n at_ : Nat} {x : Int} {ms : List Int} (n0 : 0 < n) (n12 : n ≤ 12) (hx : Small x) (hm : ∀ m ∈ ms, 0 ≤ m ∧ m ≤ 30) (lm : ms.length = n) (ha : at_ < n) : RoomOk (ms.map fun m => ⟨"times", some 1, m⟩) ((ringB n).set at_ ⟨at_, (at_ + 1) % n, [x]⟩) := by
  have ln : (ms.map fun m => (⟨"times", some 1, m⟩ : HR)).length = n := by rw [List.length_map, lm]
  have lb : (ringB n).length = n := by unfold ringB; rw [List.length_map, List.length_range]
  have wd : ∀ h ∈ ms.map fun m => (⟨"times", some 1, m⟩ : HR), ∃ m ∈ ms, h = ⟨"times", some 1, m⟩ := fun h hh => by
    obtain ⟨m, hm, e⟩ := List.mem_map.mp hh
    exact ⟨m, hm, e.symm⟩
  have base : RoomOk (ms.map fun m => (⟨"times", some 1, m⟩ : HR)) (ringB n) := by
    have inB : ∀ {b}, b ∈ ringB n → ∃ k, k < n ∧ b = ⟨k, (k + 1) % n, [5]⟩ := fun {b} hb => by
      obtain ⟨k, hk, e⟩ := List.mem_map.mp hb
      exact ⟨k, List.mem_range.mp hk, e.symm⟩
    refine ⟨by rw [ln]; exact n12, fun h hh => ?_, fun b hb => ?_, fun b hb h e => ?_, fun b hb => ?_, ⟨fun _ => 0, fun b hb z => ?_⟩, fun k h e => ?_, by rw [lb]; omega⟩
    · obtain ⟨m, hmm, rfl⟩ := wd h hh
      exact ⟨.inl ⟨(show ("times" : Str) ∈ nine by decide +kernel), ⟨fun _ => .inl rfl, fun _ => rfl⟩, fun n e => by cases e; exact ⟨by decide, by decide⟩⟩, hm m hmm⟩
    · obtain ⟨k, hk, rfl⟩ := inB hb
      rw [ln]
      exact ⟨hk, Nat.mod_lt _ n0⟩
    · obtain ⟨m, hmm, rfl⟩ := wd h (List.mem_of_getElem? e)
      exact (show ("times" : Str) ≠ "out" by decide +kernel)
    · obtain ⟨k, hk, rfl⟩ := inB hb
      exact ⟨(show 1 ≤ 6 by decide), fun y hy => by rw [List.mem_singleton.mp hy]; exact ⟨by decide, by decide⟩⟩
    · obtain ⟨k, hk, rfl⟩ := inB hb
      cases z
    · have kl := (List.getElem?_eq_some_iff.mp e).1
      rw [ln] at kl
      obtain ⟨m, hmm, rfl⟩ := wd h (List.mem_of_getElem? e)
      rw [ring_count n0 kl, needs_times]
      rfl
  have e : (ringB n)[at_]? = some ⟨at_, (at_ + 1) % n, [5]⟩ := by unfold ringB; rw [List.getElem?_map, List.getElem?_range ha]; rfl
  exact belt_ok base e rfl (by rw [ln]; exact ha) (fun h z => by obtain ⟨m, hmm, rfl⟩ := wd h (List.mem_of_getElem? z); exact (show ("times" : Str) ≠ "out" by decide +kernel)) ⟨(show 1 ≤ 6 by decide), fun y hy => by rw [List.mem_singleton.mp hy]; exact hx⟩ (fun z => by cases z)
section
variable {P : Program} {w : World} {K : PySem.W.Frag} {mg : Str → Option Value} {base : Heap}
def sp_law_lines (K : PySem.W.Frag) : Sp := fun vs H Q _ => ∃ f c : Addr, vs = [.ref f] ∧ Flow H f c ∧ ∀ (r : Addr) (hs : List HR) (bs : List BR) (H' : Hp), RoomAt H' r hs bs → RoomOk hs bs → 0 < hs.length → Flow H' f c → But f H H' → Q (.ref r) H'
theorem ok_law_lines {f : Addr} {fd : FuncData} (F : Fun K "_law_lines" "_law_lines" s_law_lines f fd) (T : Top K mg) : FnOk P w K mg base CX0 2 f fd ["_law_flow_here"] (sp_law_lines K) := by
  obtain ⟨f_law_pick, fd_law_pick, F_law_pick, b_law_pick, m_law_pick⟩ := T.d_law_pick
  have G_law_pick := ok_law_pick (P := P) (w := w) (base := base) F_law_pick T
  refine F.ok sc_law_lines (fun vs H Q E h => ?_) (fun cdv A outer s H vs Q E hr h => ?_)
  · obtain ⟨f, c, rfl, _⟩ := h
    rfl
  obtain ⟨f, c, rfl, hF, q⟩ := h
  refine ⟨_, (pss_cons (ps_set (i := 1) sc_law_lines.nd rfl (Or.inl rfl) (pe_call G_law_pick (hr.mono (by decide)) (by rfl) m_law_pick F_law_pick.kp b_law_pick .nil pass0 (pa_cons (pv 0) (pa_cons pe_int pa_nil))))
      (pss_cons (ps_if (pt_cmpR op_eq (pe_call G_law_pick (hr.mono (by decide)) (by rfl) m_law_pick F_law_pick.kp b_law_pick .nil pass0 (pa_cons (pv 0) (pa_cons pe_int pa_nil))) pe_int (nomark _)) (pss_cons (ps_set (i := 2) sc_law_lines.nd rfl (Or.inr rfl) (pe_op op_add pe_int (pe_call G_law_pick (hr.mono (by decide)) (by rfl) m_law_pick F_law_pick.kp b_law_pick .nil pass0 (pa_cons (pv 0) (pa_cons pe_int pa_nil)))))
      (pss_cons (ps_set (i := 3) sc_law_lines.nd rfl (Or.inl rfl) (pe_call G_law_pick (hr.mono (by decide)) (by rfl) m_law_pick F_law_pick.kp b_law_pick .nil pass0 (pa_cons (pv 0) (pa_cons pe_int pa_nil))))
      (pss_cons (ps_set (i := 4) sc_law_lines.nd rfl (Or.inr rfl) (pe_lc (own := [("_law_k", 5)]) (g := gName 5) (tt := tYes) (by rfl) sc_law_lines.nd (pi_range1 (by rfl) T.m_range (pa_cons (pe_op op_sub (pv 2) pe_int) pa_nil)) (blkOk_by (own := [("_law_k", 5)]) (N := N_law_lines) (sc := defScope s_law_lines) (by decide +kernel)) (fun _ _ _ _ _ => (pg_name (i := 5) sc_law_lines.nd rfl (Or.inl rfl))) (fun _ _ _ _ _ => pts_nil) (fun _ _ _ _ _ => (pe_op (op_rep12 K rfl) (pe_tup (pa_cons pe_int pa_nil)) (pe_call G_law_pick (hr.mono (by decide)) (by rfl) m_law_pick F_law_pick.kp b_law_pick .nil pass0 (pa_cons (pv 0) (pa_cons pe_int pa_nil)))))))
      (pss_cons (ps_set (i := 6) sc_law_lines.nd rfl (Or.inl rfl) (pe_lst pa_nil))
      (pss_cons (ps_set (i := 7) sc_law_lines.nd rfl (Or.inl rfl) (pe_lst pa_nil))
      (pss_cons (ps_for PassesOwn.never rfl (pi_tupK K rfl (pe_tup (pa_cons (pv 3) (pa_cons (pe_op op_add (pv 3) (pv 1)) pa_nil)))) (pg_name (i := 8) sc_law_lines.nd rfl (Or.inl rfl))
        (pss_cons (ps_set (i := 9) sc_law_lines.nd rfl (Or.inr rfl) (pe_callB (call_len_seqK K rfl) (by rfl) T.m_len (by decide +kernel) (pa_cons (pv 6) pa_nil)))
      (pss_cons (ps_set (i := 6) sc_law_lines.nd rfl (Or.inl rfl) (pe_op op_cat (pe_op op_cat (pv 6) (pe_lst (pa_cons (pe_tup (pa_cons (pe_tup (pa_cons pe_str (pa_cons (pv 8) pa_nil))) (pa_cons pe_int pa_nil))) pa_nil))) (pe_lc (own := [("_law_k", 5)]) (g := gName 5) (tt := tYes) (by rfl) sc_law_lines.nd (pi_range1 (by rfl) T.m_range (pa_cons (pe_op op_sub (pv 2) pe_int) pa_nil)) (blkOk_by (own := [("_law_k", 5)]) (N := N_law_lines) (sc := defScope s_law_lines) (by decide +kernel)) (fun _ _ _ _ _ => (pg_name (i := 5) sc_law_lines.nd rfl (Or.inl rfl))) (fun _ _ _ _ _ => pts_nil) (fun _ _ _ _ _ => (pe_tup (pa_cons (pe_tup (pa_cons pe_str pa_nil)) (pa_cons (pe_call G_law_pick (hr.mono (by decide)) (by rfl) m_law_pick F_law_pick.kp b_law_pick .nil pass0 (pa_cons (pv 0) (pa_cons pe_int pa_nil))) pa_nil)))))))
      (pss_one (ps_expr (pe_bmK K rfl PySem.F.plainAttrs_list PySem.F.slot_list_extend PySem.F.type_list_extend mt_extend (pv 7) (pa_cons (pe_lc (own := [("_law_k", 5)]) (g := gName 5) (tt := tYes) (by rfl) sc_law_lines.nd (pi_range1 (by rfl) T.m_range (pa_cons (pe_op op_sub (pv 2) pe_int) pa_nil)) (blkOk_by (own := [("_law_k", 5)]) (N := N_law_lines) (sc := defScope s_law_lines) (by decide +kernel)) (fun _ _ _ _ _ => (pg_name (i := 5) sc_law_lines.nd rfl (Or.inl rfl))) (fun _ _ _ _ _ => pts_nil) (fun _ _ _ _ _ => (pe_tup (pa_cons (pe_op op_add (pv 9) (pv 5)) (pa_cons (pe_op op_add (pe_op op_add (pv 9) (pv 5)) pe_int) (pa_cons (pe_ix (ix_listK K rfl) (pv 4) (pv 5) (fun _ _ => rfl)) pa_nil)))))) pa_nil)))))))
      (pss_one (ps_ret (pe_tup (pa_cons (pe_callTy (call_tuple_ofK K rfl) (by rfl) T.m_tuple (by decide +kernel) (pa_cons (pv 6) pa_nil)) (pa_cons (pe_callTy (call_tuple_ofK K rfl) (by rfl) T.m_tuple (by decide +kernel) (pa_cons (pv 7) pa_nil)) pa_nil))))))))))) pss_nil)
      (pss_cons (ps_set (i := 2) sc_law_lines.nd rfl (Or.inr rfl) (pe_op op_add pe_int (pe_call G_law_pick (hr.mono (by decide)) (by rfl) m_law_pick F_law_pick.kp b_law_pick .nil pass0 (pa_cons (pv 0) (pa_cons pe_int pa_nil)))))
      (pss_cons (ps_setLc (i := 7) (own := [("_law_k", 5)]) (g := gName 5) (tt := tYes) (by rfl) sc_law_lines.nd rfl rfl (sw_true rfl rfl rfl (by decide +kernel)) (pi_range1 (by rfl) T.m_range (pa_cons (pv 2) pa_nil)) (blkOk_by (own := [("_law_k", 5)]) (N := N_law_lines) (sc := defScope s_law_lines) (by decide +kernel)) (fun _ _ _ _ _ => (pg_name (i := 5) sc_law_lines.nd rfl (Or.inl rfl))) (fun _ _ _ _ _ => pts_nil) (fun _ _ _ _ _ => (pe_tup (pa_cons (pv 5) (pa_cons (pe_op op_mod (pe_op op_add (pv 5) pe_int) (pv 2)) (pa_cons (pe_tup (pa_cons pe_int pa_nil)) pa_nil))))))
      (pss_cons (ps_set (i := 10) sc_law_lines.nd rfl (Or.inl rfl) (pe_call G_law_pick (hr.mono (by decide)) (by rfl) m_law_pick F_law_pick.kp b_law_pick .nil pass0 (pa_cons (pv 0) (pa_cons (pv 2) pa_nil))))
      (pss_cons (ps_asg (pe_tup (pa_cons (pv 10) (pa_cons (pe_op op_mod (pe_op op_add (pv 10) pe_int) (pv 2)) (pa_cons (pe_tup (pa_cons (pe_op op_add pe_int (pv 1)) pa_nil)) pa_nil)))) (pg_sub (pv 7) (pv 10) set_list))
      (pss_one (ps_ret (pe_tup (pa_cons (pe_callTy (call_tuple_ofK K rfl) (by rfl) T.m_tuple (by decide +kernel) (pa_cons (pe_lc (own := [("_law_k", 5)]) (g := gName 5) (tt := tYes) (by rfl) sc_law_lines.nd (pi_range1 (by rfl) T.m_range (pa_cons (pv 2) pa_nil)) (blkOk_by (own := [("_law_k", 5)]) (N := N_law_lines) (sc := defScope s_law_lines) (by decide +kernel)) (fun _ _ _ _ _ => (pg_name (i := 5) sc_law_lines.nd rfl (Or.inl rfl))) (fun _ _ _ _ _ => pts_nil) (fun _ _ _ _ _ => (pe_tup (pa_cons (pe_tup (pa_cons pe_str (pa_cons pe_int pa_nil))) (pa_cons (pe_call G_law_pick (hr.mono (by decide)) (by rfl) m_law_pick F_law_pick.kp b_law_pick .nil pass0 (pa_cons (pv 0) (pa_cons pe_int pa_nil))) pa_nil))))) pa_nil)) (pa_cons (pe_callTy (call_tuple_ofK K rfl) (by rfl) T.m_tuple (by decide +kernel) (pa_cons (pv 7) pa_nil)) pa_nil))))))))))), ?_⟩
  refine ⟨_, rfl, f, c, 2, rfl, by decide, by decide +kernel, hF, fun ot H1 o0 o1 F1 B1 => ?_⟩
  refine ⟨_, rfl, f, c, 2, rfl, by decide, by decide +kernel, F1, fun v H2 v0 v1 F2 B2 => ⟨rfl, _, rfl, if_bl (fun c1 => ?_) (fun c1 => ?_)⟩⟩
  · refine ⟨_, rfl, f, c, 5, rfl, by decide, by decide +kernel, F2, fun m5 H3 m0 m1 F3 B3 => ⟨_, _, rfl, rfl, ?_⟩⟩
    refine ⟨_, rfl, f, c, 9, rfl, by decide, by decide +kernel, F3, fun nu H4 u0 u1 F4 B4 => ?_⟩
    obtain ⟨n, en, n1, n5⟩ : ∃ n : Nat, (2 + m5 - 1) = ((n : Nat) : Int) ∧ 1 ≤ n ∧ n ≤ 5 := ⟨(2 + m5 - 1).toNat, by omega, by omega, by omega⟩
    have B14 := ((B1.trans B2).trans B3).trans B4
    refine ⟨_, rfl, _, _, rfl, rfl, _, rfl, by omega, by omega, fun D nD => ?_⟩
    dsimp only
    rw [en]
    refine lc_range (lo := 0) (n := n) (fun i H5 => ∃ (us : List V) (ths : List (List Int)), H5 D = some (.lst us) ∧ ths.length = i ∧ All2 (ThAt H5) us ths ∧ (∀ t ∈ ths, t.length ≤ 6 ∧ ∀ x ∈ t, Small x) ∧ Flow H5 f c ∧ But f H4 H5) ⟨[], [], upd_same, rfl, .nil, (fun _ z => nomatch z), F4.new nD, But.refl.new nD⟩ ?_ ?_
    · rintro i H5 hi ⟨us, ths, hD, lt, alt, gt, F5, B5⟩
      have Df : D ≠ f := F4.ne nD
      have Dc : D ≠ c := F4.nec nD
      have lus := alt.length
      refine ⟨rfl, yes_in ⟨(by show 1 ≤ sizeLine; decide), fun o1 no1 => ⟨_, rfl, f, c, 3, rfl, by decide, by decide +kernel, F5.new no1, fun w H6 w0 w1 F6 B6 => ?_⟩⟩⟩
      have k56 : TK H5 H6 := (TK.new (o := .tup [V.int 1]) no1).trans (TK.but (F5.new no1) B6)
      have o6 : H6 o1 = some (.tup [V.int 1]) := B6 _ _ upd_same (F5.ne no1)
      have hD6 : H6 D = some (.lst us) := B6 _ _ (same_new no1 _ _ hD) Df
      have B56 : But f H4 H6 := (B5.new no1).trans B6
      have fin : ∀ (g : Addr) (t : List Int) (H7 : Hp), H7 g = some (.tup (t.map V.int)) → (t.length ≤ 6 ∧ ∀ x ∈ t, Small x) → Same H6 H7 → ∃ acc, H7 D = some (.lst acc) ∧ acc.length < sizeLine ∧ ∃ (us : List V) (ths : List (List Int)), upd H7 D (.lst (acc ++ [V.ref g])) D = some (.lst us) ∧ ths.length = i + 1 ∧ All2 (ThAt (upd H7 D (.lst (acc ++ [V.ref g])))) us ths ∧ (∀ t ∈ ths, t.length ≤ 6 ∧ ∀ x ∈ t, Small x) ∧ Flow (upd H7 D (.lst (acc ++ [V.ref g]))) f c ∧ But f H4 (upd H7 D (.lst (acc ++ [V.ref g]))) := fun g t H7 hg ht s7 => by
        have kk : TK H5 (upd H7 D (.lst (us ++ [V.ref g]))) := (k56.trans (TK.same s7)).trans (TK.lst (s7 _ _ hD6))
        refine ⟨us, s7 _ _ hD6, small1000 (by omega), us ++ [.ref g], ths ++ [t], upd_same, by rw [List.length_append, lt]; rfl, (alt.imp fun _ _ z => z.keep kk).snoc ⟨g, rfl, TK.lst (s7 _ _ hD6) _ _ hg⟩, fun t' h' => ?_, (F6.same s7).lst Df Dc, (B56.same s7).own nD⟩
        rcases List.mem_append.mp h' with z | z
        · exact gt t' z
        · rw [List.mem_singleton.mp z]; exact ht
      have one : Small 1 := ⟨by decide, by decide⟩
      have : w = 0 ∨ w = 1 ∨ w = 2 := by omega
      rcases this with rfl | rfl | rfl
      · exact .inl ⟨o1, 0, _, rfl, rfl, SqT.of o6, (fun z => by cases z), .inl rfl, (fun z => absurd z (by decide)), fun _ p np => fin p [] _ upd_same ⟨by decide, (fun _ z => nomatch z)⟩ (same_new np)⟩
      · exact .inl ⟨o1, 1, _, rfl, rfl, SqT.of o6, (fun z => by cases z), .inr rfl, (fun _ => fin o1 [1] H6 o6 ⟨by decide, fun x hx => by rw [List.mem_singleton.mp hx]; exact one⟩ (Same.refl _)), fun z => absurd z (by decide)⟩
      · exact .inr ⟨o1, 2, _, rfl, rfl, SqT.of o6, (fun z => by cases z), by decide, by decide, (by show 1 ≤ 1000; decide), fun p np => fin p [1, 1] _ upd_same ⟨by decide, fun x hx => by
          have : x = 1 := by simpa using hx
          rw [this]; exact one⟩ (same_new np)⟩
    · rintro H5 ⟨us, ths, hD, lt, alt, gt, F5, B5⟩
      have B5' := B14.trans B5
      refine ⟨(by show 0 ≤ sizeLine; decide), fun hl0 nhl0 => ⟨(by show 0 ≤ sizeLine; decide), fun bl nbl => ?_⟩⟩
      have F6 := F5.new (o := .lst []) nhl0
      have F7 := F6.new (o := .lst []) nbl
      have blf : bl ≠ f := F6.ne nbl
      have blc : bl ≠ c := F6.nec nbl
      have B6 := B5'.new (o := .lst []) nhl0
      have bl0 : H bl = none := B6.none nbl blf
      have B7 := B6.new (o := .lst []) nbl
      have k57 : TK H5 _ := (TK.new (o := .lst []) nhl0).trans (TK.new (o := .lst []) nbl)
      have hD7 := same_new (o := .lst []) nbl _ _ (same_new (o := .lst []) nhl0 _ _ hD)
      have Dbl : D ≠ bl := fun z => by
        have := same_new (o := .lst []) nhl0 _ _ hD
        rw [z, nbl] at this
        cases this
      have hh7 : (upd (upd H5 hl0 (.lst [])) bl (.lst [])) hl0 = some (.lst []) := same_new nbl _ _ upd_same
      have hb7 : (upd (upd H5 hl0 (.lst [])) bl (.lst [])) bl = some (.lst []) := upd_same
      have hlbl : hl0 ≠ bl := fun z => by rw [← z, upd_same] at nbl; cases nbl
      generalize (upd (upd H5 hl0 (.lst [])) bl (.lst [])) = H7 at F7 B7 k57 hD7 hh7 hb7 ⊢
      refine ⟨_, rfl, _, rfl, _, rfl, _, _, rfl, rfl, (by show 2 ≤ sizeLine; decide), fun tt ntt => ?_⟩
      have k8 := k57.trans (TK.new (o := .tup [V.int nu, V.int (nu + ot)]) ntt)
      have s8 := same_new (o := .tup [V.int nu, V.int (nu + ot)]) ntt
      refine ⟨tt, rfl, ⟨_, SqT.of upd_same⟩, for_tup (K := K) (a := tt) (xs := [.int nu, .int (nu + ot)]) (fun i σ H8 => ∃ (hl : Addr) (hv bv : List V) (hs : List HR) (bs : List BR) (x8 x9 : Option V), σ = [some (.ref f), some (.int ot), some (.int (2 + m5)), some (.int nu), some (.ref D), none, some (.ref hl), some (.ref bl), x8, x9, none] ∧
        H8 tt = some (.tup [.int nu, .int (nu + ot)]) ∧ H8 D = some (.lst us) ∧ All2 (ThAt H8) us ths ∧ H8 hl = some (.lst hv) ∧ All2 (HandAt H8) hv hs ∧ H8 bl = some (.lst bv) ∧ All2 (BeltAt H8) bv bs ∧ hl ≠ bl ∧ RoomOk hs bs ∧ hs.length = i * (n + 1) ∧ bs.length = i * n ∧ Flow H8 f c ∧ But f H H8)
        ⟨hl0, [], [], [], [], _, _, rfl, upd_same, s8 _ _ hD7, alt.imp fun _ _ z => z.keep k8, s8 _ _ hh7, .nil, s8 _ _ hb7, .nil, hlbl, nil_ok, by rw [Nat.zero_mul]; rfl, by rw [Nat.zero_mul]; rfl, F7.new ntt, B7.new ntt⟩ (fun i σ H8 _ ⟨_, _, _, _, _, _, _, _, h, _⟩ => SqT.of h) ?_ ?_⟩
      · rintro i v9 σ H8 hx ⟨hl, hv, bv, hs, bs, x8, x9, rfl, htt, hD8, alt8, hhl, alh, hbl, alb, hlb, ok, lh, lb, F8, B8⟩
        obtain ⟨first, rfl, fs⟩ : ∃ first : Int, v9 = .int first ∧ Small first := by
          have il : i < 2 := (List.getElem?_eq_some_iff.mp hx).1
          have : i = 0 ∨ i = 1 := by omega
          rcases this with rfl | rfl
          · exact ⟨nu, (Option.some.inj hx).symm, by constructor <;> omega⟩
          · exact ⟨nu + ot, (Option.some.inj hx).symm, by constructor <;> omega⟩
        have il : i < 2 := (List.getElem?_eq_some_iff.mp hx).1
        have lhv := alh.length
        have lbv := alb.length
        have lh10 : hs.length ≤ 6 := by
          have : i * (n + 1) ≤ 1 * (n + 1) := Nat.mul_le_mul_right _ (by omega)
          omega
        have lb10 : bs.length ≤ 5 := by
          have : i * n ≤ 1 * n := Nat.mul_le_mul_right _ (by omega)
          omega
        refine ⟨_, rfl, hl, _, rfl, .inl (SqL.of hhl), ?_⟩
        refine ⟨_, rfl, _, rfl, (by show 2 ≤ sizeLine; decide), fun r1 nr1 => ⟨(by show 2 ≤ sizeLine; decide), fun t1 nt1 => ⟨(by show 1 ≤ sizeLine; decide), fun l1 nl1 => ?_⟩⟩⟩
        have z1 := same_new (o := .tup [V.str "always", V.int first]) nr1
        have z2 := same_new (o := .tup [V.ref r1, V.int 2]) nt1
        have z3 := same_new (o := .lst [V.ref t1]) nl1
        refine ⟨hl, l1, _, _, rfl, rfl, z3 _ _ (z2 _ _ (z1 _ _ hhl)), upd_same, little (by show _ + 1 ≤ 1000; omega), fun l2 nl2 => ?_⟩
        have z4 := same_new (o := .lst (hv ++ [V.ref t1])) nl2
        have z84 : Same H8 _ := fun a o e => z4 _ _ (z3 _ _ (z2 _ _ (z1 _ _ e)))
        have l2f : l2 ≠ f := (((F8.new nr1).new nt1).new nl1).ne nl2
        have hl2 : (upd (upd (upd (upd H8 r1 (.tup [V.str "always", V.int first])) t1 (.tup [V.ref r1, V.int 2])) l1 (.lst [V.ref t1])) l2 (.lst (hv ++ [V.ref t1]))) l2 = some (.lst (hv ++ [V.ref t1])) := upd_same
        have ht1 : (upd (upd (upd (upd H8 r1 (.tup [V.str "always", V.int first])) t1 (.tup [V.ref r1, V.int 2])) l1 (.lst [V.ref t1])) l2 (.lst (hv ++ [V.ref t1]))) t1 = some (.tup [V.ref r1, V.int 2]) := z4 _ _ (z3 _ _ upd_same)
        have hr1 : (upd (upd (upd (upd H8 r1 (.tup [V.str "always", V.int first])) t1 (.tup [V.ref r1, V.int 2])) l1 (.lst [V.ref t1])) l2 (.lst (hv ++ [V.ref t1]))) r1 = some (.tup [V.str "always", V.int first]) := z4 _ _ (z3 _ _ (z2 _ _ upd_same))
        have F9 := F8.same z84
        have B9 := B8.same z84
        clear z1 z2 z3 z4
        generalize (upd (upd (upd (upd H8 r1 (.tup [V.str "always", V.int first])) t1 (.tup [V.ref r1, V.int 2])) l1 (.lst [V.ref t1])) l2 (.lst (hv ++ [V.ref t1]))) = H9 at z84 hl2 ht1 hr1 F9 B9 ⊢
        have x0 : HandAt H9 (V.ref t1) ⟨"always", some first, 2⟩ := ⟨t1, r1, rfl, ht1, hr1⟩
        refine ⟨_, rfl, _, _, rfl, rfl, _, rfl, by omega, by omega, fun E nE => ?_⟩
        dsimp only
        rw [en]
        refine lc_range (lo := 0) (n := n) (fun j H10 => ∃ (ws : List V) (ms : List Int), H10 E = some (.lst ws) ∧ ms.length = j ∧ All2 (HandAt H10) ws (ms.map fun m => ⟨"same", none, m⟩) ∧ (∀ m ∈ ms, 0 ≤ m ∧ m ≤ 30) ∧ Flow H10 f c ∧ But f H9 H10) ⟨[], [], upd_same, rfl, .nil, (fun _ z => nomatch z), F9.new nE, But.refl.new nE⟩ ?_ ?_
        · rintro j H10 hj ⟨ws, ms, hE, lm, alw, gm, F10, B10⟩
          have Ef : E ≠ f := F9.ne nE
          have Ec : E ≠ c := F9.nec nE
          have lw := alw.length
          rw [List.length_map] at lw
          refine ⟨rfl, yes_in ⟨(by show 1 ≤ sizeLine; decide), fun r2 nr2 => ⟨_, rfl, f, c, 9, rfl, by decide, by decide +kernel, F10.new nr2, fun m H11 w0 w1 F11 B11 => ⟨(by show 2 ≤ sizeLine; decide), fun t2 nt2 => ?_⟩⟩⟩⟩
          have hE11 := same_new (o := .tup [V.ref r2, V.int m]) nt2 _ _ (B11 _ _ (same_new nr2 _ _ hE) Ef)
          have kk : TK H10 (upd (upd H11 t2 (.tup [V.ref r2, V.int m])) E (.lst (ws ++ [V.ref t2]))) := (((TK.new (o := .tup [V.str "same"]) nr2).trans (TK.but (F10.new nr2) B11)).trans (TK.new (o := .tup [V.ref r2, V.int m]) nt2)).trans (TK.lst hE11)
          refine ⟨_, hE11, small1000 (by omega), ws ++ [.ref t2], ms ++ [m], upd_same, by rw [List.length_append, lm]; rfl, ?_, fun m' h' => ?_, (F11.new nt2).lst Ef Ec, (((B10.new nr2).trans B11).new nt2).own nE⟩
          · rw [List.map_append]
            exact (alw.imp fun _ _ z => z.keep kk).snoc ⟨t2, r2, rfl, TK.lst hE11 _ _ upd_same, TK.lst hE11 _ _ (TK.new (o := .tup [V.ref r2, V.int m]) nt2 _ _ (TK.but (F10.new nr2) B11 _ _ upd_same))⟩
          · rcases List.mem_append.mp h' with z | z
            · exact gm m' z
            · rw [List.mem_singleton.mp z]; omega
        rintro H10 ⟨ws, ms, hE, lm, alw, gm, F10, B10⟩
        have lw := alw.length
        rw [List.length_map] at lw
        have B910 := B9.trans B10
        have k10 : TK H8 H10 := (TK.same z84).trans (TK.but F9 B10)
        have Df : D ≠ f := F4.ne nD
        have hbl10 := B10 _ _ (z84 _ _ hbl) blf
        have hD10 := B10 _ _ (z84 _ _ hD8) Df
        refine ⟨l2, E, _, _, rfl, rfl, B10 _ _ hl2 l2f, hE, little (by rw [List.length_append]; show _ + 1 + _ ≤ 1000; omega), fun hl' nhl' => ?_⟩
        have y1 := same_new (o := .lst (hv ++ [V.ref t1] ++ ws)) nhl'
        have k11 := k10.trans (TK.same y1)
        have hbl11 := y1 _ _ hbl10
        have hD11 := y1 _ _ hD10
        have F11 := F10.same y1
        have B11 := B910.same y1
        have hlb' : hl' ≠ bl := fun z => by rw [z, hbl10] at nhl'; cases nhl'
        have hh11 : (upd H10 hl' (.lst (hv ++ [V.ref t1] ++ ws))) hl' = some (.lst (hv ++ [V.ref t1] ++ ws)) := upd_same
        have alh11 := (((alh.imp fun _ _ z => z.keep k11).snoc (show HandAt _ (V.ref t1) ⟨"always", some first, 2⟩ from x0.keep ((TK.but F9 B10).trans (TK.same y1)))))
        have alw11 := alw.imp fun _ _ z => z.keep (TK.same y1)
        have alA := All2.ap alw11 alh11
        generalize (upd H10 hl' (.lst (hv ++ [V.ref t1] ++ ws))) = H11 at k11 hbl11 hD11 F11 B11 hh11 alh11 alw11 alA ⊢
        refine ⟨_, rfl, .inl ⟨rfl, _, SqL.of hbl11⟩, _, rfl, _, _, rfl, rfl, _, rfl, by omega, by omega, fun G nG => ?_⟩
        dsimp only
        rw [en]
        refine lc_range (lo := 0) (n := n) (fun j H12 => ∃ gs : List V, H12 G = some (.lst gs) ∧ gs.length = j ∧ All2 (BeltAt H12) gs ((List.range j).map fun k => (⟨hs.length + k, hs.length + k + 1, ths.getD k []⟩ : BR)) ∧ Same H11 H12) ⟨[], upd_same, rfl, .nil, same_new nG⟩ ?_ ?_
        · rintro j H12 hj ⟨gs, hG, lg, alg, s12⟩
          obtain ⟨t, et⟩ : ∃ t, ths[j]? = some t := ⟨_, List.getElem?_eq_getElem (by omega)⟩
          obtain ⟨x, ex, g, rfl, eg⟩ := alt8.get et
          refine ⟨rfl, yes_in ⟨_, rfl, _, rfl, _, _, rfl, rfl, _, rfl, _, rfl, _, _, rfl, rfl, _, _, rfl, rfl, _, rfl, _, rfl, D, _, _, _, rfl, rfl, SqL.of (s12 _ _ hD11), at0 ex, (by show 3 ≤ sizeLine; decide), fun t3 nt3 => ?_⟩⟩
          have q1 := same_new (o := .tup [V.int (((hv.length : Nat) : Int) + (0 + ((j : Nat) : Int))), V.int (((hv.length : Nat) : Int) + (0 + ((j : Nat) : Int)) + 1), V.ref g]) nt3
          have hG1 := q1 _ _ hG
          have kk : TK H12 _ := (TK.same q1).trans (TK.lst (ys := gs ++ [V.ref t3]) hG1)
          refine ⟨_, hG1, small1000 (by omega), gs ++ [.ref t3], upd_same, by rw [List.length_append, lg]; rfl, ?_, Same.own (fun a o e => q1 _ _ (s12 _ _ e)) nG⟩
          rw [List.range_succ, List.map_append]
          refine (alg.imp fun _ _ z => z.keep kk).snoc ⟨t3, g, rfl, ?_, ?_⟩
          · have e1 : ((hv.length : Nat) : Int) + (0 + ((j : Nat) : Int)) = ((hs.length + j : Nat) : Int) := by omega
            have e2 : ((hs.length + j : Nat) : Int) + 1 = ((hs.length + j + 1 : Nat) : Int) := by omega
            refine (TK.lst hG1 t3 _ upd_same).trans (congrArg (fun l => some (HO.tup l)) ?_)
            show [V.int (((hv.length : Nat) : Int) + (0 + ((j : Nat) : Int))), V.int (((hv.length : Nat) : Int) + (0 + ((j : Nat) : Int)) + 1), V.ref g] = [V.int ((hs.length + j : Nat) : Int), V.int ((hs.length + j + 1 : Nat) : Int), V.ref g]
            rw [e1, e2]
          · have e3 : ths.getD j [] = t := by rw [List.getD_eq_getElem?_getD, et]; rfl
            show _ = some (HO.tup ((ths.getD j []).map V.int))
            rw [e3]
            exact kk _ _ (s12 _ _ |> fun z => z (k11 _ _ eg))
        · rintro H12 ⟨gs, hG, lg, alg, s12⟩
          have hbl12 := s12 _ _ hbl11
          have blk : TK H12 (upd H12 bl (.lst (bv ++ gs))) := TK.lst hbl12
          have k13 := (k11.trans (TK.same s12)).trans blk
          refine ⟨bl, G, _, _, rfl, rfl, hbl12, hG, little (by omega), hl', hv ++ [V.ref t1] ++ ws, bv ++ gs, hs ++ lineH first ms, bs ++ lineB hs.length ms.length ths, _, _, rfl, k13 _ _ htt, ?_, alt8.imp fun _ _ z => z.keep k13, ?_, ?_, upd_same, ?_, hlb', line_ok ok fs gm gt (by omega) (by omega) (by omega), ?_, ?_, (F11.same s12).lst blf blc, (B11.same s12).own bl0⟩
          · rw [upd_ne Dbl]; exact s12 _ _ hD11
          · rw [upd_ne hlb']; exact s12 _ _ hh11
          · have e : hs ++ lineH first ms = (hs ++ [⟨"always", some first, 2⟩]) ++ ms.map fun m => ⟨"same", none, m⟩ := by rw [List.append_assoc]; rfl
            rw [e]
            exact alA.imp fun _ _ z => z.keep ((TK.same s12).trans blk)
          · rw [show lineB hs.length ms.length ths = (List.range n).map fun k => (⟨hs.length + k, hs.length + k + 1, ths.getD k []⟩ : BR) by unfold lineB; rw [lm]]
            exact All2.ap (alg.imp fun _ _ z => z.keep blk) (alb.imp fun _ _ z => z.keep k13)
          · have : (lineH first ms).length = n + 1 := by show (ms.map _).length + 1 = _; rw [List.length_map, lm]
            rw [List.length_append, this, lh, Nat.succ_mul]
          · have : (lineB hs.length ms.length ths).length = n := by unfold lineB; rw [List.length_map, List.length_range, lm]
            rw [List.length_append, this, lb, Nat.succ_mul]
      · rintro σ H8 ⟨hl, hv, bv, hs, bs, x8, x9, rfl, htt, hD8, alt8, hhl, alh, hbl, alb, hlb, ok, lh, lb, F8, B8⟩
        refine ⟨_, rfl, hl, _, rfl, .inl ⟨SqL.of hhl, fun p3 np3 => ⟨_, rfl, bl, _, rfl, .inl ⟨SqL.of (same_new np3 _ _ hbl), fun p4 np4 => ⟨(by show 2 ≤ sizeLine; decide), fun r nr => ?_⟩⟩⟩⟩⟩
        have z1 := same_new (o := .tup hv) np3
        have z2 := same_new (o := .tup bv) np4
        have z3 := same_new (o := .tup [V.ref p3, V.ref p4]) nr
        have z13 : Same H8 _ := fun a o e => z3 _ _ (z2 _ _ (z1 _ _ e))
        exact q r hs bs _ ⟨p3, p4, hv, bv, upd_same, z3 _ _ (z2 _ _ upd_same), z3 _ _ upd_same, alh.imp fun _ _ z => z.keep (TK.same z13), alb.imp fun _ _ z => z.keep (TK.same z13)⟩ ok (by rw [lh]; show 0 < 2 * (n + 1); omega) (F8.same z13) (B8.same z13)
  · refine ⟨_, rfl, f, c, 9, rfl, by decide, by decide +kernel, F2, fun m9 H3 m0 m1 F3 B3 => ⟨_, _, rfl, rfl, ?_⟩⟩
    obtain ⟨n, en, n1, n5⟩ : ∃ n : Nat, (2 + m9) = ((n : Nat) : Int) ∧ 2 ≤ n ∧ n ≤ 10 := ⟨(2 + m9).toNat, by omega, by omega, by omega⟩
    dsimp only
    rw [en]
    have B13 := (B1.trans B2).trans B3
    refine ⟨_, rfl, _, rfl, by omega, by omega, fun D nD => ?_⟩
    have atn : ∀ {j : Nat}, j < n → (ringB n)[j]? = some ⟨j, (j + 1) % n, [5]⟩ := fun {j} h => by unfold ringB; rw [List.getElem?_map, List.getElem?_range h]; rfl
    have lr : (ringB n).length = n := by unfold ringB; rw [List.length_map, List.length_range]
    refine lc_range (lo := 0) (n := n) (fun i H5 => ∃ us : List V, H5 D = some (.lst us) ∧ All2 (BeltAt H5) us ((ringB n).take i) ∧ Same H3 H5) ⟨[], upd_same, .nil, same_new nD⟩ ?_ ?_
    · rintro j H5 hj ⟨us, hD, al, s5⟩
      have lu := al.length
      rw [List.length_take] at lu
      refine ⟨rfl, yes_in ⟨_, rfl, _, rfl, _, _, rfl, rfl, _, rfl, _, _, rfl, rfl, (show (0 : Int) < (n : Nat) by omega), (by show 1 ≤ sizeLine; decide), fun g ng => ⟨(by show 3 ≤ sizeLine; decide), fun t nt => ?_⟩⟩⟩
      have z1 := same_new (o := .tup [V.int 5]) ng
      have z2 := same_new (o := .tup [V.int (0 + ((j : Nat) : Int)), V.int ((0 + ((j : Nat) : Int) + 1) % ((n : Nat) : Int)), V.ref g]) nt
      have z12 : Same H5 _ := fun a o e => z2 _ _ (z1 _ _ e)
      have hD2 := z12 _ _ hD
      have kk : TK H5 _ := (TK.same z12).trans (TK.lst (ys := us ++ [V.ref t]) hD2)
      refine ⟨_, hD2, small1000 (by omega), us ++ [.ref t], upd_same, ?_, Same.own (fun a o e => z12 _ _ (s5 _ _ e)) nD⟩
      rw [List.take_add_one, atn hj]
      refine (al.imp fun _ _ z => z.keep kk).snoc ⟨t, g, rfl, ?_, TK.lst hD2 _ _ (z2 _ _ upd_same)⟩
      refine (TK.lst hD2 t _ upd_same).trans (congrArg (fun l => some (HO.tup l)) ?_)
      have e1 : 0 + ((j : Nat) : Int) = ((j : Nat) : Int) := Int.zero_add _
      show [V.int (0 + ((j : Nat) : Int)), V.int ((0 + ((j : Nat) : Int) + 1) % ((n : Nat) : Int)), V.ref g] = [V.int ((j : Nat) : Int), V.int (((j + 1) % n : Nat) : Int), V.ref g]
      rw [e1]
      rfl
    rintro H5 ⟨us, hD, al, s5⟩
    rw [List.take_of_length_le (by omega)] at al
    have lu := al.length
    have Df : D ≠ f := F3.ne nD
    have Dc : D ≠ c := F3.nec nD
    have D0 : H D = none := B13.none nD Df
    refine ⟨_, rfl, _, rfl, f, c, _, rfl, (show (0 : Int) < (n : Nat) by omega), Nat.lt_of_le_of_lt (Nat.log2_le_self _) (by show n < 9000; omega), F3.same s5, fun ta H6 a0 a1 F6 B6 => ?_⟩
    obtain ⟨at_, rfl⟩ := Int.eq_ofNat_of_zero_le a0
    have al_ : at_ < n := by have : ((at_ : Nat) : Int) < (n : Nat) := a1; omega
    have k56 := TK.but (F3.same s5) B6
    refine ⟨_, rfl, _, rfl, _, _, rfl, rfl, _, rfl, _, _, rfl, rfl, (show (0 : Int) < (n : Nat) by omega), _, rfl, _, _, rfl, rfl, (by show 1 ≤ sizeLine; decide), fun g ng => ⟨(by show 3 ≤ sizeLine; decide), fun t nt => ?_⟩⟩
    have z1 := same_new (o := .tup [V.int (5 + ot)]) ng
    have z2 := same_new (o := .tup [V.int ((at_ : Nat) : Int), V.int ((((at_ : Nat) : Int) + 1) % ((n : Nat) : Int)), V.ref g]) nt
    have z12 : Same H6 _ := fun a o e => z2 _ _ (z1 _ _ e)
    have hD7 := z12 _ _ (B6 _ _ hD Df)
    refine ⟨_, rfl, _, rfl, D, us, _, at_, rfl, rfl, hD7, by unfold ixN; rw [if_pos (by omega), if_pos (by omega)]; rfl, ?_⟩
    have k8 : TK H6 _ := (TK.same z12).trans (TK.lst (ys := us.set at_ (V.ref t)) hD7)
    have x0 : BeltAt _ (V.ref t) ⟨at_, (at_ + 1) % n, [5 + ot]⟩ := ⟨t, g, rfl, TK.lst (ys := us.set at_ (V.ref t)) hD7 t _ upd_same, TK.lst (ys := us.set at_ (V.ref t)) hD7 g _ (z2 _ _ upd_same)⟩
    have al8 := (al.imp fun _ _ z => z.keep (k56.trans k8)).st at_ x0
    have F8 := ((F6.same z12)).lst (o := .lst (us.set at_ (V.ref t))) Df Dc
    have B8 := ((((B13.same s5).trans B6).same z12)).own (o := .lst (us.set at_ (V.ref t))) D0
    have hD8 : (upd _ D (.lst (us.set at_ (V.ref t)))) D = some (.lst (us.set at_ (V.ref t))) := upd_same (H := (upd (upd H6 g (.tup [V.int (5 + ot)])) t (.tup [V.int ((at_ : Nat) : Int), V.int ((((at_ : Nat) : Int) + 1) % ((n : Nat) : Int)), V.ref g])))
    refine ⟨_, rfl, _, rfl, by omega, by omega, fun E nE => ?_⟩
    refine lc_range (lo := 0) (n := n) (fun j H10 => ∃ (ws : List V) (ms : List Int), H10 E = some (.lst ws) ∧ ms.length = j ∧ All2 (HandAt H10) ws (ms.map fun m => ⟨"times", some 1, m⟩) ∧ (∀ m ∈ ms, 0 ≤ m ∧ m ≤ 30) ∧ Flow H10 f c ∧ But f _ H10) ⟨[], [], upd_same, rfl, .nil, (fun _ z => nomatch z), F8.new nE, But.refl.new nE⟩ ?_ ?_
    · rintro j H10 hj ⟨ws, ms, hE, lm, alw, gm, F10, B10⟩
      have Ef : E ≠ f := F8.ne nE
      have Ec : E ≠ c := F8.nec nE
      have lw := alw.length
      rw [List.length_map] at lw
      refine ⟨rfl, yes_in ⟨(by show 2 ≤ sizeLine; decide), fun r2 nr2 => ⟨_, rfl, f, c, 9, rfl, by decide, by decide +kernel, F10.new nr2, fun m H11 w0 w1 F11 B11 => ⟨(by show 2 ≤ sizeLine; decide), fun t2 nt2 => ?_⟩⟩⟩⟩
      have hE11 := same_new (o := .tup [V.ref r2, V.int m]) nt2 _ _ (B11 _ _ (same_new nr2 _ _ hE) Ef)
      have kk : TK H10 (upd (upd H11 t2 (.tup [V.ref r2, V.int m])) E (.lst (ws ++ [V.ref t2]))) := (((TK.new (o := .tup [V.str "times", V.int 1]) nr2).trans (TK.but (F10.new nr2) B11)).trans (TK.new (o := .tup [V.ref r2, V.int m]) nt2)).trans (TK.lst hE11)
      refine ⟨_, hE11, small1000 (by omega), ws ++ [.ref t2], ms ++ [m], upd_same, by rw [List.length_append, lm]; rfl, ?_, fun m' h' => ?_, (F11.new nt2).lst Ef Ec, (((B10.new nr2).trans B11).new nt2).own nE⟩
      · rw [List.map_append]
        exact (alw.imp fun _ _ z => z.keep kk).snoc ⟨t2, r2, rfl, TK.lst hE11 _ _ upd_same, TK.lst hE11 _ _ (TK.new (o := .tup [V.ref r2, V.int m]) nt2 _ _ (TK.but (F10.new nr2) B11 _ _ upd_same))⟩
      · rcases List.mem_append.mp h' with z | z
        · exact gm m' z
        · rw [List.mem_singleton.mp z]; omega
    rintro H10 ⟨ws, ms, hE, lm, alw, gm, F10, B10⟩
    refine ⟨E, _, rfl, .inl ⟨SqL.of hE, fun p3 np3 => ⟨_, rfl, D, _, rfl, .inl ⟨SqL.of (same_new np3 _ _ (B10 _ _ hD8 Df)), fun p4 np4 => ⟨(by show 2 ≤ sizeLine; decide), fun r nr => ?_⟩⟩⟩⟩⟩
    have y1 := same_new (o := .tup ws) np3
    have y2 := same_new (o := .tup (us.set at_ (V.ref t))) np4
    have y3 := same_new (o := .tup [V.ref p3, V.ref p4]) nr
    have y13 : Same H10 _ := fun a o e => y3 _ _ (y2 _ _ (y1 _ _ e))
    exact q r _ _ _ ⟨p3, p4, _, _, upd_same, y3 _ _ (y2 _ _ upd_same), y3 _ _ upd_same, alw.imp fun _ _ z => z.keep (TK.same y13), al8.imp fun _ _ z => z.keep ((TK.but F8 B10).trans (TK.same y13))⟩ (ring_ok (by omega) (by omega) (by constructor <;> omega) gm lm al_) (by rw [List.length_map, lm]; omega) (F10.same y13) ((B8.trans B10).same y13)
def sp_law_some_copied (K : PySem.W.Frag) : Sp := fun vs H Q _ => ∃ f c : Addr, vs = [.ref f] ∧ Flow H f c ∧ ∀ (r : Addr) (hs : List HR) (bs : List BR) (H' : Hp), RoomAt H' r hs bs → RoomOk hs bs → 0 < hs.length → Flow H' f c → But f H H' → Q (.ref r) H'
theorem ok_law_some_copied {f : Addr} {fd : FuncData} (F : Fun K "_law_some_copied" "_law_some_copied" s_law_some_copied f fd) (T : Top K mg) : FnOk P w K mg base CX0 7 f fd ["_law_flow_here"] (sp_law_some_copied K) := by
  obtain ⟨f_law_copied, fd_law_copied, F_law_copied, b_law_copied, m_law_copied⟩ := T.d_law_copied
  have G_law_copied := ok_law_copied (P := P) (w := w) (base := base) F_law_copied T
  obtain ⟨f_law_pick, fd_law_pick, F_law_pick, b_law_pick, m_law_pick⟩ := T.d_law_pick
  have G_law_pick := ok_law_pick (P := P) (w := w) (base := base) F_law_pick T
  obtain ⟨f_law_marred, fd_law_marred, F_law_marred, b_law_marred, m_law_marred⟩ := T.d_law_marred
  have G_law_marred := ok_law_marred (P := P) (w := w) (base := base) F_law_marred T
  obtain ⟨f_law_turned_room, fd_law_turned_room, F_law_turned_room, b_law_turned_room, m_law_turned_room⟩ := T.d_law_turned_room
  have G_law_turned_room := ok_law_turned_room (P := P) (w := w) (base := base) F_law_turned_room T
  obtain ⟨f_law_lines, fd_law_lines, F_law_lines, b_law_lines, m_law_lines⟩ := T.d_law_lines
  have G_law_lines := ok_law_lines (P := P) (w := w) (base := base) F_law_lines T
  refine F.ok sc_law_some_copied (fun vs H Q E h => ?_) (fun cdv A outer s H vs Q E hr h => ?_)
  · obtain ⟨f, c, rfl, _⟩ := h
    rfl
  obtain ⟨f, c, rfl, hF, q⟩ := h
  refine ⟨_, (pss_cons (ps_if (pt_cmpR op_eq (pe_call G_law_pick (hr.mono (by decide)) (by rfl) m_law_pick F_law_pick.kp b_law_pick .nil pass0 (pa_cons (pv 0) (pa_cons pe_int pa_nil))) pe_int (nomark _)) (pss_one (ps_ret (pe_ix (ix_tupK K rfl) (pe_call G_law_turned_room (hr.mono (by decide)) (by rfl) m_law_turned_room F_law_turned_room.kp b_law_turned_room .nil pass0 (pa_cons (pv 0) (pa_cons (pe_call G_law_lines (hr.mono (by decide)) (by rfl) m_law_lines F_law_lines.kp b_law_lines .nil pass0 (pa_cons (pv 0) pa_nil)) pa_nil))) pe_int (fun _ _ => rfl)))) pss_nil)
      (pss_cons (ps_set (i := 1) sc_law_some_copied.nd rfl (Or.inl rfl) (pe_call G_law_copied (hr.mono (by decide)) (by rfl) m_law_copied F_law_copied.kp b_law_copied .nil pass0 (pa_cons (pv 0) pa_nil)))
      (pss_cons (ps_if (pt_cmpR op_eq (pe_call G_law_pick (hr.mono (by decide)) (by rfl) m_law_pick F_law_pick.kp b_law_pick .nil pass0 (pa_cons (pv 0) (pa_cons pe_int pa_nil))) pe_int (nomark _)) (pss_one (ps_set (i := 1) sc_law_some_copied.nd rfl (Or.inl rfl) (pe_call G_law_marred (hr.mono (by decide)) (by rfl) m_law_marred F_law_marred.kp b_law_marred .nil pass0 (pa_cons (pv 0) (pa_cons (pv 1) pa_nil))))) pss_nil)
      (pss_one (ps_ret (pe_ix (ix_tupK K rfl) (pe_call G_law_turned_room (hr.mono (by decide)) (by rfl) m_law_turned_room F_law_turned_room.kp b_law_turned_room .nil pass0 (pa_cons (pv 0) (pa_cons (pv 1) pa_nil))) pe_int (fun _ _ => rfl))))))), ?_⟩
  refine ⟨_, rfl, f, c, 4, rfl, by decide, by decide +kernel, hF, fun v H1 v0 v1 F1 B1 => ⟨rfl, _, rfl, if_bl (fun _ => ?_) (fun _ => ?_)⟩⟩
  · refine ⟨_, rfl, _, rfl, f, c, rfl, F1, fun r hs bs H2 hR ok n0 F2 B2 => ?_⟩
    refine ⟨f, c, r, hs, bs, rfl, F2, hR, ok, fun t r' od ord hs' bs' H3 ht hR' hod nod tu F3 B3 => ?_⟩
    exact ⟨t, _, _, _, rfl, rfl, SqT.of ht, atI_nat (j := 0) rfl, q r' hs' bs' H3 hR' (tu.ok ok) (by rw [tu.hlen, tu.olen]; exact n0) F3 ((B1.trans B2).trans B3)⟩
  · refine ⟨_, rfl, f, c, rfl, F1, fun r hs bs H2 hR ok n0 F2 B2 => ?_⟩
    refine ⟨_, rfl, f, c, 2, rfl, by decide, by decide +kernel, F2, fun v2 H3 u0 u1 F3 B3 => ⟨rfl, _, rfl, if_bl (fun _ => ?_) (fun _ => ?_)⟩⟩
    · refine ⟨_, rfl, _, rfl, f, c, r, hs, bs, rfl, F3, hR.keep (TK.but F2 B3), ok, n0, fun r2 hs2 bs2 H4 hR2 ok2 n2 F4 B4 => ?_⟩
      refine ⟨_, rfl, _, rfl, f, c, r2, hs2, bs2, rfl, F4, hR2, ok2, fun t r' od ord hs' bs' H5 ht hR' hod nod tu F5 B5 => ?_⟩
      exact ⟨t, _, _, _, rfl, rfl, SqT.of ht, atI_nat (j := 0) rfl, q r' hs' bs' H5 hR' (tu.ok ok2) (by rw [tu.hlen, tu.olen]; exact n2) F5 ((((B1.trans B2).trans B3).trans B4).trans B5)⟩
    · refine ⟨_, rfl, _, rfl, f, c, r, hs, bs, rfl, F3, hR.keep (TK.but F2 B3), ok, fun t r' od ord hs' bs' H5 ht hR' hod nod tu F5 B5 => ?_⟩
      exact ⟨t, _, _, _, rfl, rfl, SqT.of ht, atI_nat (j := 0) rfl, q r' hs' bs' H5 hR' (tu.ok ok) (by rw [tu.hlen, tu.olen]; exact n0) F5 (((B1.trans B2).trans B3).trans B5)⟩
end
/-! ### list(zip(a, b)): a zip whose pairs are kept -/
section
set_option maxHeartbeats 1000000
section
open PySem PySem.Spec
abbrev IsZM (h : Heap) (z TI TO T : Addr) (b : Bool) : Prop :=
  h.get? z = some { cls := .type "zip", dict := none, data := .fields #[rawInt T, .bool b, .bool false, .ref TI, .ref TO], slots := #[] }
section
variable {prog : Program} {w : World} {A : Around} {E : Value → Shared → Prop} {s : Shared}
theorem wpAny_loadAlive {a : Addr} {Q : Option Obj → Shared → Prop} (h : Q (s.heap.get? a) s) : wpAny (model prog w) A (loadIfAlive a) Q E s := fun _ _ _ => h
theorem ownedM {z TI TO T : Addr} {fl : Bool} {o : Obj} {Q : Bool → Shared → Prop} (hz : IsZM s.heap z TI TO T fl) (hTo : s.heap.get? T = some o)
    (h : ∀ h', IsZM h' z TI TO T true → Heap.SameBut z s.heap h' → Q false { s with heap := h' }) : wpAny (model prog w) A (Builtin.SmallTypes.ownedTupleIsFree (.ref z)) Q E s := by
  unfold Builtin.SmallTypes.ownedTupleIsFree
  refine wpAny_bind (wpAny_field hz rfl (x := rawInt T) rfl ?_)
  simp only [rawInt]
  refine wpAny_bind (wpAny_loadAlive ?_)
  rw [Int.toNat_natCast, hTo]
  show wpAny _ _ (field (.ref z) 1 >>= _) _ _ _
  refine wpAny_bind (wpAny_field hz rfl (x := .bool fl) rfl ?_)
  cases fl with
  | false =>
    show wpAny _ _ (setField (.ref z) 1 (.bool true) >>= _) _ _ _
    refine wpAny_bind (wpAny_setField_rec hz (by simp) fun h₁ hz₁ hs₁ => wpAny_pure (h _ hz₁ hs₁))
  | true =>
    show wpAny _ _ (pure false) _ _ _
    exact wpAny_pure (h _ hz (Heap.SameBut.refl _ _))
theorem zipM_next_item {z TI TO T i1 i2 l1 l2 : Addr} {fl : Bool} {o : Obj} {k1 k2 : Nat} {xs ys : Array Value} {x y : Value} {Q : Value → Shared → Prop} (D : ZipApart z TI TO i1 i2 l1 l2)
    (hz : IsZM s.heap z TI TO T fl) (hTo : s.heap.get? T = some o) (hTI : IsPair s.heap TI (.ref i1) (.ref i2))
    (h1 : s.heap.IsListIter i1 l1 k1) (h2 : s.heap.IsListIter i2 l2 k2) (hl1 : s.heap.IsList l1 xs) (hl2 : s.heap.IsList l2 ys) (hx : xs[k1]? = some x) (hy : ys[k2]? = some y)
    (hQ : ∀ h', IsZM h' z TI TO T true → h'.IsListIter i1 l1 (k1 + 1) → h'.IsListIter i2 l2 (k2 + 1) → IsPair h' s.heap.objs.size x y → h'.objs.size = s.heap.objs.size + 1 →
      (∀ c o, c ≠ z → c ≠ i1 → c ≠ i2 → s.heap.get? c = some o → h'.get? c = some o) → Q (.ref s.heap.objs.size) { s with heap := h' }) :
    wpAny (model prog w) A (Builtin.«zip.__next__» ⟨[.ref z], []⟩) (fun fin s' => ∃ v, fin = .done (.ret v) ∧ Q v s') E s := by
  show wpAny _ _ (field (.ref z) 2 >>= _) _ _ _
  refine wpAny_bind (wpAny_field hz rfl (x := .bool false) rfl ?_)
  show wpAny _ _ (field (.ref z) 3 >>= _) _ _ _
  refine wpAny_bind (wpAny_field hz rfl (x := .ref TI) rfl ?_)
  refine wpAny_bind (wpAny_seqItems hTI rfl ?_)
  show wpAny _ _ (Builtin.SmallTypes.ownedTupleIsFree (.ref z) >>= _) _ _ _
  refine wpAny_bind (ownedM hz hTo fun h₁ hz₁ hs₁ => ?_)
  simp only [Bool.false_eq_true, if_false]
  refine wpAny_bind ?_
  simp only [List.forIn_toArray, List.forIn_cons, List.forIn_nil]
  refine wpAny_bind (wpAny_bind (wpAny_holding ?_))
  show wpAny _ _ (Builtin.SmallTypes.nextOf (.ref i1) >>= _) _ _ _
  refine wpAny_bind (wpAny_nextOf_list_item (h1.extBut hs₁.extBut D.i1z) (hl1.extBut hs₁.extBut D.l1z) hx fun h₂ h1₂ hs₂ => wpAny_pure ?_)
  refine wpAny_pure ?_
  refine wpAny_bind (wpAny_bind (wpAny_holding ?_))
  show wpAny _ _ (Builtin.SmallTypes.nextOf (.ref i2) >>= _) _ _ _
  refine wpAny_bind (wpAny_nextOf_list_item ((h2.extBut hs₁.extBut D.i2z).extBut hs₂.extBut D.i12.symm) ((hl2.extBut hs₁.extBut D.l2z).extBut hs₂.extBut D.l2i1) hy fun h₃ h2₃ hs₃ => wpAny_pure ?_)
  refine wpAny_pure (wpAny_pure ?_)
  show wpAny _ _ (newTuple [x, y] >>= _) _ _ _
  refine wpAny_bind (wpAny_newTuple ?_)
  have hsz : h₃.objs.size = s.heap.objs.size := by rw [hs₃.1, hs₂.1, hs₁.1]
  have hk : ∀ c o, c ≠ z → c ≠ i1 → c ≠ i2 → s.heap.get? c = some o → h₃.get? c = some o := fun c o c1 c2 c3 e => hs₃.extBut _ _ c3 (hs₂.extBut _ _ c2 (hs₁.extBut _ _ c1 e))
  refine wpAny_pure ⟨_, rfl, ?_⟩
  show Q (.ref h₃.objs.size) _
  rw [hsz]
  have hz₃ : IsZM h₃ z TI TO T true := hs₃.extBut _ _ D.i2z.symm (hs₂.extBut _ _ D.i1z.symm hz₁)
  have nw : IsPair (h₃.push { cls := .type "tuple", data := .seq #[x, y] }) s.heap.objs.size x y := by rw [← hsz]; exact Heap.get?_push_size _ rfl
  exact hQ _ (Heap.get?_push_of_some _ hz₃) ((h1₂.extBut hs₃.extBut D.i12).at fun o e => Heap.get?_push_of_some _ e) (h2₃.at fun o e => Heap.get?_push_of_some _ e) nw (by rw [Heap.size_push, hsz]) fun c o c1 c2 c3 e => Heap.get?_push_of_some _ (hk c o c1 c2 c3 e)
theorem zipM_next_end {z TI TO T i1 i2 l1 l2 : Addr} {fl : Bool} {o : Obj} {k1 k2 : Nat} {xs ys : Array Value} {Q : Fin → Shared → Prop} (hh : A.handled = none) (D : ZipApart z TI TO i1 i2 l1 l2)
    (hz : IsZM s.heap z TI TO T fl) (hTo : s.heap.get? T = some o) (hTI : IsPair s.heap TI (.ref i1) (.ref i2))
    (h1 : s.heap.IsListIter i1 l1 k1) (h2 : s.heap.IsListIter i2 l2 k2) (hl1 : s.heap.IsList l1 xs) (hl2 : s.heap.IsList l2 ys) (hend : xs[k1]? = none ∨ ys[k2]? = none)
    (hE : ∀ h' e, (∀ c o, c ≠ z → c ≠ i1 → c ≠ i2 → s.heap.get? c = some o → h'.get? c = some o) → (∃ o, h'.get? e = some o ∧ o.cls = .type "StopIteration") → E (.ref e) { s with heap := h' }) :
    wpAny (model prog w) A (Builtin.«zip.__next__» ⟨[.ref z], []⟩) Q E s := by
  show wpAny _ _ (field (.ref z) 2 >>= _) _ _ _
  refine wpAny_bind (wpAny_field hz rfl (x := .bool false) rfl ?_)
  show wpAny _ _ (field (.ref z) 3 >>= _) _ _ _
  refine wpAny_bind (wpAny_field hz rfl (x := .ref TI) rfl ?_)
  refine wpAny_bind (wpAny_seqItems hTI rfl ?_)
  show wpAny _ _ (Builtin.SmallTypes.ownedTupleIsFree (.ref z) >>= _) _ _ _
  refine wpAny_bind (ownedM hz hTo fun h₁ hz₁ hs₁ => ?_)
  simp only [Bool.false_eq_true, if_false]
  refine wpAny_bind ?_
  simp only [List.forIn_toArray, List.forIn_cons, List.forIn_nil]
  refine wpAny_bind (wpAny_bind (wpAny_holding ?_))
  show wpAny _ _ (Builtin.SmallTypes.nextOf (.ref i1) >>= _) _ _ _
  cases hx : xs[k1]? with
  | none =>
    refine wpAny_bind (wpAny_nextOf_list_end hh (h1.extBut hs₁.extBut D.i1z) (hl1.extBut hs₁.extBut D.l1z) hx fun h₂ e hs₂ he => ?_)
    exact hE h₂ e (fun c o c1 c3 _ x => hs₂ _ _ c3 (hs₁.extBut _ _ c1 x)) he
  | some x =>
    have hy : ys[k2]? = none := by rcases hend with h | h; rw [hx] at h; cases h; exact h
    refine wpAny_bind (wpAny_nextOf_list_item (h1.extBut hs₁.extBut D.i1z) (hl1.extBut hs₁.extBut D.l1z) hx fun h₂ h1₂ hs₂ => wpAny_pure ?_)
    refine wpAny_pure ?_
    refine wpAny_bind (wpAny_bind (wpAny_holding ?_))
    show wpAny _ _ (Builtin.SmallTypes.nextOf (.ref i2) >>= _) _ _ _
    refine wpAny_bind (wpAny_nextOf_list_end hh ((h2.extBut hs₁.extBut D.i2z).extBut hs₂.extBut D.i12.symm) ((hl2.extBut hs₁.extBut D.l2z).extBut hs₂.extBut D.l2i1) hy fun h₃ e hs₃ he => ?_)
    exact hE h₃ e (fun c o c1 c3 c4 x => hs₃ _ _ c4 (hs₂.extBut _ _ c3 (hs₁.extBut _ _ c1 x))) he
/-- how a zip of two lists stands while its pairs are kept -/
def ZipStand (h : Heap) (z TI TO : Addr) : Prop := (∃ a b, IsPair h TO a b) ∧ (IsZip h z TI TO .none ∨ ∃ T fl a b, IsZM h z TI TO T fl ∧ IsPair h T a b)
theorem pyNext_zipL_item {z TI TO i1 i2 l1 l2 : Addr} {k1 k2 : Nat} {xs ys : Array Value} {x y : Value} {Q : Option Value → Shared → Prop} (D : ZipApart z TI TO i1 i2 l1 l2)
    (hz : ZipStand s.heap z TI TO) (hTI : IsPair s.heap TI (.ref i1) (.ref i2))
    (h1 : s.heap.IsListIter i1 l1 k1) (h2 : s.heap.IsListIter i2 l2 k2) (hl1 : s.heap.IsList l1 xs) (hl2 : s.heap.IsList l2 ys) (hx : xs[k1]? = some x) (hy : ys[k2]? = some y)
    (hQ : ∀ h', ZipStand h' z TI TO → h'.IsListIter i1 l1 (k1 + 1) → h'.IsListIter i2 l2 (k2 + 1) → IsPair h' s.heap.objs.size x y → h'.objs.size = s.heap.objs.size + 1 →
      (∀ c o, c ≠ z → c ≠ TO → c ≠ i1 → c ≠ i2 → s.heap.get? c = some o → h'.get? c = some o) → Q (some (.ref s.heap.objs.size)) { s with heap := h' }) :
    wpAny (model prog w) A (pyNext (.ref z)) Q E s := by
  obtain ⟨⟨a, b, hTO⟩, hz⟩ := hz
  rcases hz with hz | ⟨T, fl, c1, c2, hz, hT0⟩
  · have zl : z < s.heap.objs.size := Heap.lt_size hz
    exact wpAny_pyNext_zip_item D hz hTI hTO h1 h2 hl1 hl2 hx hy fun h' a1 a2 a3 a4 a5 a6 a7 => hQ h' ⟨⟨_, _, a2⟩, .inr ⟨_, false, _, _, a1, a5⟩⟩ a3 a4 a5 a6 a7
  · have hT : s.TypeIs (.ref z) "zip" := ⟨_, hz, rfl⟩
    have nz : T ≠ z := fun e => by
      subst e
      have q := congrArg Obj.cls (Option.some.inj (hz.symm.trans hT0))
      revert q
      simp
    have n1 : T ≠ i1 := fun e => by
      subst e
      obtain ⟨o, e1, e2, _⟩ := h1
      obtain rfl := Option.some.inj (hT0.symm.trans e1)
      revert e2
      simp
    have n2 : T ≠ i2 := fun e => by
      subst e
      obtain ⟨o, e1, e2, _⟩ := h2
      obtain rfl := Option.some.inj (hT0.symm.trans e1)
      revert e2
      simp
    unfold pyNext
    refine wpAny_bind (wpAny_attempt (wpAny_callSpecial?_slot (name := Str.ofString "__next__") hT F.slot_zip_next
      (wpAny_call_entry F.slot_zip_next hT F.entry_zip_next
        (zipM_next_item D hz hT0 hTI h1 h2 hl1 hl2 hx hy fun h' a1 a3 a4 a5 a6 a7 => wpAny_pure (hQ h' ⟨⟨a, b, a7 _ _ D.TOz D.TOi1 D.TOi2 hTO⟩, .inr ⟨T, true, c1, c2, a1, a7 _ _ nz n1 n2 hT0⟩⟩ a3 a4 a5 a6 fun c o c1 _ c3 c4 e => a7 c o c1 c3 c4 e)) (F.args_zip_next_1 _))))
theorem pyNext_zipL_end {z TI TO i1 i2 l1 l2 : Addr} {k1 k2 : Nat} {xs ys : Array Value} {Q : Option Value → Shared → Prop} (hh : A.handled = none) (D : ZipApart z TI TO i1 i2 l1 l2)
    (hz : ZipStand s.heap z TI TO) (hTI : IsPair s.heap TI (.ref i1) (.ref i2))
    (h1 : s.heap.IsListIter i1 l1 k1) (h2 : s.heap.IsListIter i2 l2 k2) (hl1 : s.heap.IsList l1 xs) (hl2 : s.heap.IsList l2 ys) (hend : xs[k1]? = none ∨ ys[k2]? = none)
    (hQ : ∀ h', (∀ c o, c ≠ z → c ≠ TO → c ≠ i1 → c ≠ i2 → s.heap.get? c = some o → h'.get? c = some o) → Q none { s with heap := h' }) : wpAny (model prog w) A (pyNext (.ref z)) Q E s := by
  obtain ⟨⟨a, b, hTO⟩, hz⟩ := hz
  rcases hz with hz | ⟨T, fl, c1, c2, hz, hT0⟩
  · exact wpAny_pyNext_zip_end hh D hz hTI hTO h1 h2 hl1 hl2 hend hQ
  · have hT : s.TypeIs (.ref z) "zip" := ⟨_, hz, rfl⟩
    unfold pyNext
    refine wpAny_bind (wpAny_attempt (wpAny_callSpecial?_slot (name := Str.ofString "__next__") hT F.slot_zip_next
      (wpAny_call_entry F.slot_zip_next hT F.entry_zip_next (zipM_next_end hh D hz hT0 hTI h1 h2 hl1 hl2 hend fun h' e hk he => ?_) (F.args_zip_next_1 _))))
    obtain ⟨o, ho, hc⟩ := he
    refine wpAny_bind (wpAny_isInstance (T := "StopIteration") (b := true) ⟨o, ho, hc⟩ isSubtype_stop ?_)
    exact wpAny_pure (hQ _ fun c o c1 _ c3 c4 e => hk c o c1 c3 c4 e)
end
end
section
open PySem PySem.Spec PyProof.Rows
theorem zip_no_len : typeLookup (.type "zip") "__len__" = pure none := by rw [typeLookup_type, builtinLookup_eq_fast]; kernel_rfl
theorem zip_no_hint : typeLookup (.type "zip") "__length_hint__" = pure none := by rw [typeLookup_type, builtinLookup_eq_fast]; kernel_rfl
def PrOf (H : Hp) (xs ys : List V) (as : List Addr) : Prop := ∀ (j : Nat) (t : Addr), as[j]? = some t → ∃ x y, xs[j]? = some x ∧ ys[j]? = some y ∧ H t = some (.tup [x, y])
section
variable {X : Cx} {pins : List (Addr × Obj)} {σ : L2.St} {R : Result → Shared → Prop} {A : Around} {z TI TO i1 i2 l1 l2 S : Addr} {xs ys : List V} {H0 : Hp}
theorem zipl_loop (hh : A.handled = none) (D : ZipApart z TI TO i1 i2 l1 l2) (res : Value) (few : xs.length ≤ 1000000) (n : Nat) (hn : n = min xs.length ys.length) :
    ∀ (k i : Nat) (s : Shared) (H : Hp) (as : List Addr), n - i = k → i ≤ n → Inv X pins σ H s → (∀ b ∈ [z, TI, TO, i1, i2], FpOk X pins H b) → ZipStand s.heap z TI TO → IsPair s.heap TI (.ref i1) (.ref i2) →
      s.heap.IsListIter i1 l1 i → s.heap.IsListIter i2 l2 i → SqL X.K H l1 xs → SqL X.K H l2 ys → H S = some (.lst (as.map V.ref)) → as.length = i → PrOf H xs ys as → (∀ b o, H0 b = some o → H b = some o ∧ b ≠ S) → S ≠ l1 → S ≠ l2 →
      (∀ (s' : Shared) (H' : Hp) (as' : List Addr), Inv X pins σ H' s' → H' S = some (.lst (as'.map V.ref)) → as'.length = n → PrOf H' xs ys as' → (∀ b o, H0 b = some o → H' b = some o) → R (.ok (.ret res)) s') →
      codeAny (model X.prog X.w) A (.builtin "list.extend.loop" ⟨[.ref S, .ref z, res], []⟩) R s := by
  intro k
  induction k with
  | zero =>
    intro i s H as hk hi I fp st hTI h1 h2 q1 q2 hS ha pr keep n1 n2 done
    have hin : i = n := by omega
    subst hin
    refine codeAny_builtin PySem.F.entry_extend_loop ?_
    rw [Around.under_plainId PySem.F.plain_extend_loop _]
    show wpAny _ A.in1 (pyNext (.ref z) >>= _) _ _ s
    obtain ⟨its, rv, p, _⟩ := I.list q1
    obtain ⟨its2, rv2, p2, _⟩ := I.list q2
    have e1 := rv.length
    have e2 := rv2.length
    have he : its.toArray[i]? = none ∨ its2.toArray[i]? = none := by
      by_cases h : xs.length ≤ ys.length
      · exact .inl (by simp; omega)
      · exact .inr (by simp; omega)
    refine wpAny_bind (pyNext_zipL_end (by simp [hh]) D st hTI h1 h2 p.isList p2.isList he fun h' hk2 => ?_)
    have I1 : Inv X pins σ H { s with heap := h' } := I.turnedL (t' := s.toks) (ch := [z, TI, TO, i1, i2]) (fun c o hb q =>
      hk2 c o (fun q' => hb (by simp [q'])) (fun q' => hb (by simp [q'])) (fun q' => hb (by simp [q'])) (fun q' => hb (by simp [q'])) q) fp
    exact wpAny_pure (done _ H as I1 hS ha pr fun b o e => (keep b o e).1)
  | succ k ih =>
    intro i s H as hk hi I fp st hTI h1 h2 q1 q2 hS ha pr keep n1 n2 done
    refine codeAny_builtin PySem.F.entry_extend_loop ?_
    rw [Around.under_plainId PySem.F.plain_extend_loop _]
    show wpAny _ A.in1 (pyNext (.ref z) >>= _) _ _ s
    obtain ⟨its, rv, p, _⟩ := I.list q1
    obtain ⟨its2, rv2, p2, _⟩ := I.list q2
    have hx : xs[i]? = some xs[i] := List.getElem?_eq_getElem (by omega)
    have hy : ys[i]? = some ys[i] := List.getElem?_eq_getElem (by omega)
    obtain ⟨u, hu, ru⟩ := rv.get hx
    obtain ⟨u2, hu2, ru2⟩ := rv2.get hy
    refine wpAny_bind (pyNext_zipL_item D st hTI h1 h2 p.isList p2.isList (x := u) (y := u2) (by simpa using hu) (by simpa using hu2) fun h' st' h1' h2' hT hsz hk2 => ?_)
    have kp : ∀ c o, c ∉ [z, TI, TO, i1, i2] → s.heap.get? c = some o → h'.get? c = some o := fun c o hb q => hk2 c o (fun q' => hb (by simp [q'])) (fun q' => hb (by simp [q'])) (fun q' => hb (by simp [q'])) (fun q' => hb (by simp [q'])) q
    have new : ObjOk X.prog X.w (upd H s.heap.objs.size (.tup [xs[i], ys[i]])) h' s.heap.objs.size (.tup [xs[i], ys[i]]) :=
      ⟨by show 2 ≤ sizeLine; decide, [u, u2], .cons ru (.cons ru2 .nil), ⟨_, hT, rfl, _, rfl⟩⟩
    have I1 : Inv X pins σ (upd H s.heap.objs.size (.tup [xs[i], ys[i]])) { s with heap := h' } := I.turnedNew (t' := s.toks) (ch := [z, TI, TO, i1, i2]) kp fp (Nat.le_refl _) new
    have fresh : H s.heap.objs.size = none := I.hok.fresh (Nat.le_refl _)
    have nT : ∀ {b : Addr} {o : HO}, H b = some o → b ≠ s.heap.objs.size := fun {b o} e z => by rw [z, fresh] at e; cases e
    have hS1 : upd H s.heap.objs.size (.tup [xs[i], ys[i]]) S = some (.lst (as.map V.ref)) := by rw [upd_ne (nT hS)]; exact hS
    obtain ⟨lz, its3, m, rl, ll, eS⟩ := I1.lstM hS1
    rw [List.length_map] at ll
    show wpAny _ A.in1 (updateSeq S (·.push (.ref s.heap.objs.size)) >>= _) _ _ _
    have I2 : Inv X pins σ (upd (upd H s.heap.objs.size (.tup [xs[i], ys[i]])) S (.lst ((as ++ [s.heap.objs.size]).map V.ref))) { s with heap := h'.update S (Obj.mapSeq (·.push (.ref s.heap.objs.size))) } := by
      refine I1.lset (t' := s.toks) (its' := its3 ++ [.ref s.heap.objs.size]) hS1 eS (by simp) ?_ ?_
      · rw [List.map_append]
        exact rl.append (.cons rfl .nil)
      · rw [List.length_map, List.length_append]
        show as.length + 1 ≤ _
        rw [sizeLine_eq]
        omega
    refine wpAny_bind (wpAny_updateSeq eS rfl ?_ (by rw [List.size_toArray, sizeLine_eq]; omega) (by rw [Array.size_push, List.size_toArray, sizeLine_eq]; omega))
    have zs : ∀ {b : Addr}, H b = none → b ≠ S := fun {b} e z => by rw [z, hS] at e; cases e
    have fpn : ∀ b ∈ [z, TI, TO, i1, i2], b ≠ S := fun b hb => zs (fp b hb).1
    have up : ∀ b o, b ≠ S → h'.get? b = some o → (h'.update S (Obj.mapSeq (·.push (.ref s.heap.objs.size)))).get? b = some o := fun b o hb e => (Heap.get?_update_other _ _ (Ne.symm hb)).trans e
    have szS : s.heap.objs.size ≠ S := fun e => by rw [← e] at hS; rw [fresh] at hS; cases hS
    have HH : ∀ b o, H b = some o → b ≠ S → upd (upd H s.heap.objs.size (.tup [xs[i], ys[i]])) S (.lst ((as ++ [s.heap.objs.size]).map V.ref)) b = some o := fun b o e n => by rw [upd_ne n, upd_ne (nT e)]; exact e
    have sq : ∀ {a : Addr} {zs : List V}, a ≠ S → SqL X.K H a zs → SqL X.K (upd (upd H s.heap.objs.size (.tup [xs[i], ys[i]])) S (.lst ((as ++ [s.heap.objs.size]).map V.ref))) a zs := fun {a zs} n h => by
      rcases h with h | h
      · left
        rcases h with h | ⟨o, h⟩
        · exact .inl (HH _ _ h n)
        · exact .inr ⟨o, HH _ _ h n⟩
      · exact .inr h
    have lt : ∀ b ∈ [z, TI, TO, i1, i2], b < s.heap.objs.size := fun b hb => by
      have e' : b = z ∨ b = TI ∨ b = TO ∨ b = i1 ∨ b = i2 := by simpa using hb
      rcases e' with q | q | q | q | q
      · rw [q]
        rcases st.2 with hz | ⟨T, fl, c1, c2, hz, _⟩
        · exact Heap.lt_size hz
        · exact Heap.lt_size hz
      · rw [q]; exact Heap.lt_size hTI
      · rw [q]; obtain ⟨⟨_, _, e1⟩, _⟩ := st; exact Heap.lt_size e1
      · rw [q]; obtain ⟨_, e1, _⟩ := h1; exact Heap.lt_size e1
      · rw [q]; obtain ⟨_, e1, _⟩ := h2; exact Heap.lt_size e1
    refine wpAny_pure ⟨plainId_quiet PySem.F.plain_extend_loop _, ih (i + 1) _ _ (as ++ [s.heap.objs.size]) (by omega) (by omega) I2 (fun b hb => ⟨?_, (fp b hb).2⟩) ?_ (up _ _ (fpn TI (by simp)) (hk2 _ _ D.TIz D.TITO D.TIi1 D.TIi2 hTI)) (h1'.at fun o e => up _ _ (fpn i1 (by simp)) e) (h2'.at fun o e => up _ _ (fpn i2 (by simp)) e) (sq (Ne.symm n1) q1) (sq (Ne.symm n2) q2) upd_same (by rw [List.length_append, ha]; rfl) ?_ (fun b o e => ⟨HH _ _ (keep b o e).1 (keep b o e).2, (keep b o e).2⟩) n1 n2 done⟩
    · rw [upd_ne (fpn b hb), upd_ne (Nat.ne_of_lt (lt b hb))]
      exact (fp b hb).1
    · obtain ⟨⟨c, d, eTO⟩, alt⟩ := st'
      refine ⟨⟨c, d, up _ _ (fpn TO (by simp)) eTO⟩, ?_⟩
      rcases alt with hz | ⟨T, fl, c1, c2, hz, hT0⟩
      · exact .inl (up _ _ (fpn z (by simp)) hz)
      · refine .inr ⟨T, fl, c1, c2, up _ _ (fpn z (by simp)) hz, up _ _ (fun e => ?_) hT0⟩
        subst e
        have q := congrArg Obj.cls (Option.some.inj (eS.symm.trans hT0))
        revert q
        simp
    · intro j t e
      rcases Nat.lt_or_ge j as.length with l | l
      · rw [List.getElem?_append_left l] at e
        obtain ⟨x, y, e1, e2, e3⟩ := pr j t e
        exact ⟨x, y, e1, e2, HH _ _ e3 (fun q => by rw [q, hS] at e3; cases e3)⟩
      · rw [List.getElem?_append_right l] at e
        have j0 : j - as.length = 0 := by
          have := (List.getElem?_eq_some_iff.mp e).1
          simp at this
          omega
        rw [j0] at e
        obtain rfl := Option.some.inj e
        have ji : j = i := by omega
        subst ji
        exact ⟨_, _, hx, hy, by rw [upd_ne szS]; exact upd_same⟩
theorem zipl_stay {s : Shared} {its : List Value} {m : Nat} {f : Array Value → Array Value} (st : ZipStand s.heap z TI TO) (fpn : ∀ b ∈ [z, TI, TO, i1, i2], b ≠ S) (eS : s.heap.get? S = some { cls := .type "list", data := .seq its.toArray m })
    (hTI : IsPair s.heap TI (.ref i1) (.ref i2)) {k1 k2 : Nat} (h1 : s.heap.IsListIter i1 l1 k1) (h2 : s.heap.IsListIter i2 l2 k2) :
    ZipStand (s.heap.update S (Obj.mapSeq f)) z TI TO ∧ IsPair (s.heap.update S (Obj.mapSeq f)) TI (.ref i1) (.ref i2) ∧ (s.heap.update S (Obj.mapSeq f)).IsListIter i1 l1 k1 ∧ (s.heap.update S (Obj.mapSeq f)).IsListIter i2 l2 k2 := by
  have up : ∀ b o, b ≠ S → s.heap.get? b = some o → (s.heap.update S (Obj.mapSeq f)).get? b = some o := fun b o hb e => (Heap.get?_update_other _ _ (Ne.symm hb)).trans e
  refine ⟨?_, up _ _ (fpn TI (by simp)) hTI, h1.at fun o e => up _ _ (fpn i1 (by simp)) e, h2.at fun o e => up _ _ (fpn i2 (by simp)) e⟩
  obtain ⟨⟨c, d, eTO⟩, alt⟩ := st
  refine ⟨⟨c, d, up _ _ (fpn TO (by simp)) eTO⟩, ?_⟩
  rcases alt with hz | ⟨T, fl, c1, c2, hz, hT0⟩
  · exact .inl (up _ _ (fpn z (by simp)) hz)
  · refine .inr ⟨T, fl, c1, c2, up _ _ (fpn z (by simp)) hz, up _ _ (fun e => ?_) hT0⟩
    subst e
    have q := congrArg Obj.cls (Option.some.inj (eS.symm.trans hT0))
    revert q
    simp
theorem zipl_extend {s : Shared} {H : Hp} (hh : A.handled = none) (D : ZipApart z TI TO i1 i2 l1 l2) (res : Value) (few : xs.length ≤ 1000000) (I : Inv X pins σ H s) (fp : ∀ b ∈ [z, TI, TO, i1, i2], FpOk X pins H b)
    (hz : IsZip s.heap z TI TO .none) (hTO : ∃ a b, IsPair s.heap TO a b) (hTI : IsPair s.heap TI (.ref i1) (.ref i2)) (h1 : s.heap.IsListIter i1 l1 0) (h2 : s.heap.IsListIter i2 l2 0) (q1 : SqL X.K H l1 xs) (q2 : SqL X.K H l2 ys)
    (hS : H S = some (.lst [])) (keep : ∀ b o, H0 b = some o → H b = some o ∧ b ≠ S) (n1 : S ≠ l1) (n2 : S ≠ l2)
    (done : ∀ (s' : Shared) (H' : Hp) (as' : List Addr), Inv X pins σ H' s' → H' S = some (.lst (as'.map V.ref)) → as'.length = min xs.length ys.length → PrOf H' xs ys as' → (∀ b o, H0 b = some o → H' b = some o) → R (.ok (.ret res)) s') :
    wpAny (model X.prog X.w) A.in1 (Builtin.List.listExtendWith (.ref S) (.ref z) res)
      (fun fin s' => match fin with | .done f => R (.ok f) s' | .again c' => c'.quiet = true ∧ codeAny (model X.prog X.w) A c' R s') (fun e s' => R (.error e) s') s := by
  have zsn : ∀ {b : Addr}, H b = none → b ≠ S := fun {b} e z => by rw [z, hS] at e; cases e
  have fpn : ∀ b ∈ [z, TI, TO, i1, i2], b ≠ S := fun b hb => zsn (fp b hb).1
  have hT : s.TypeIs (.ref z) "zip" := ⟨_, hz, rfl⟩
  unfold Builtin.List.listExtendWith
  refine wpAny_bind (wpAny_typeOf hT ?_)
  have a1 : Builtin.List.listSameRef (.ref S) (.ref z) = false := by simp [Builtin.List.listSameRef, Ne.symm (fpn z (by simp))]
  have a2 : (Value.type "zip" == Value.type "list") = false := by decide
  have a3 : (Value.type "zip" == Value.type "tuple") = false := by decide
  simp only [a1, a2, a3, Bool.or_false, Bool.false_eq_true, if_false]
  refine wpAny_bind (wpAny_pyIter_zip hz ?_)
  refine wpAny_bind (wpAny_holding ?_)
  unfold Builtin.List.listLengthHint
  refine wpAny_bind (wpAny_specialOf hT zip_no_len ?_)
  show wpAny _ A.in1 (specialOf (Value.ref z) (Str.ofString "__length_hint__") >>= _) _ _ _
  refine wpAny_bind (wpAny_specialOf hT zip_no_hint ?_)
  refine wpAny_pure ?_
  show wpAny _ A.in1 (rule "list.extend.makes-room" >>= fun _ => Builtin.List.listTouch (.ref S) >>= fun _ =>
    again (.builtin "list.extend.loop" ⟨[.ref S, .ref z, res], []⟩)) _ _ _
  refine wpAny_bind (wpAny_rule ?_)
  refine wpAny_bind ?_
  show wpAny _ A.in1 (updateSeq S (·.push .none) >>= fun _ => updateSeq S (·.pop)) _ _ _
  obtain ⟨_, its, m, rl, ll, eS⟩ := I.lstM hS
  obtain rfl : its = [] := List.eq_nil_of_length_eq_zero ll.symm
  have I1 : Inv X pins σ (upd H S (.lst [V.non])) { s with heap := s.heap.update S (Obj.mapSeq (·.push Value.none)) } :=
    I.lset (t' := s.toks) (its' := [Value.none]) hS eS rfl (.cons rfl .nil) (by show 1 ≤ sizeLine; decide)
  obtain ⟨b1, b2, b3, b4⟩ := zipl_stay (f := (·.push Value.none)) ⟨hTO, .inl hz⟩ fpn eS hTI h1 h2
  refine wpAny_bind (wpAny_updateSeq eS rfl ?_ (by show 0 ≤ sizeLine; decide) (by show 1 ≤ sizeLine + 1; decide))
  have hS1 : upd H S (.lst [V.non]) S = some (.lst [V.non]) := upd_same
  obtain ⟨_, its1, m1, rl1, ll1, eS1⟩ := I1.lstM hS1
  obtain ⟨u, rfl, ru⟩ := vals1 rl1
  have I2 : Inv X pins σ (upd (upd H S (.lst [V.non])) S (.lst [])) { s with heap := (s.heap.update S (Obj.mapSeq (·.push Value.none))).update S (Obj.mapSeq (·.pop)) } :=
    I1.lset (t' := s.toks) (its' := []) hS1 eS1 rfl .nil (Nat.zero_le _)
  obtain ⟨c1, c2, c3, c4⟩ := zipl_stay (s := { s with heap := s.heap.update S (Obj.mapSeq (·.push Value.none)) }) (f := (·.pop)) b1 fpn eS1 b2 b3 b4
  refine wpAny_updateSeq eS1 rfl ?_ (by show 1 ≤ sizeLine; decide) (by show 0 ≤ sizeLine + 1; decide)
  have HH : ∀ b o, H b = some o → b ≠ S → upd (upd H S (.lst [V.non])) S (.lst []) b = some o := fun b o e n => by rw [upd_ne n, upd_ne n]; exact e
  have sq : ∀ {a : Addr} {zs : List V}, a ≠ S → SqL X.K H a zs → SqL X.K (upd (upd H S (.lst [V.non])) S (.lst [])) a zs := fun {a zs} n h => by
    rcases h with h | h
    · left
      rcases h with h | ⟨o, h⟩
      · exact .inl (HH _ _ h n)
      · exact .inr ⟨o, HH _ _ h n⟩
    · exact .inr h
  exact wpAny_pure ⟨plainId_quiet PySem.F.plain_extend_loop _, zipl_loop (S := S) hh D res few _ rfl _ 0 _ _ [] rfl (Nat.zero_le _) I2 (fun b hb => ⟨by rw [upd_ne (fpn b hb), upd_ne (fpn b hb)]; exact (fp b hb).1, (fp b hb).2⟩) c1 c2 c3 c4 (sq (Ne.symm n1) q1) (sq (Ne.symm n2) q2) upd_same rfl (fun j t e => nomatch e) (fun b o e => ⟨HH _ _ (keep b o e).1 (keep b o e).2, (keep b o e).2⟩) n1 n2 done⟩
theorem zipl_init {s : Shared} {H : Hp} (hh : A.handled = none) (D : ZipApart z TI TO i1 i2 l1 l2) (few : xs.length ≤ 1000000) (I : Inv X pins σ H s) (fp : ∀ b ∈ [z, TI, TO, i1, i2], FpOk X pins H b)
    (hz : IsZip s.heap z TI TO .none) (hTO : ∃ a b, IsPair s.heap TO a b) (hTI : IsPair s.heap TI (.ref i1) (.ref i2)) (h1 : s.heap.IsListIter i1 l1 0) (h2 : s.heap.IsListIter i2 l2 0) (q1 : SqL X.K H l1 xs) (q2 : SqL X.K H l2 ys)
    (hS : H S = some (.lst [])) (keep : ∀ b o, H0 b = some o → H b = some o ∧ b ≠ S) (n1 : S ≠ l1) (n2 : S ≠ l2)
    (done : ∀ (s' : Shared) (H' : Hp) (as' : List Addr), Inv X pins σ H' s' → H' S = some (.lst (as'.map V.ref)) → as'.length = min xs.length ys.length → PrOf H' xs ys as' → (∀ b o, H0 b = some o → H' b = some o) → R (.ok (.ret .none)) s') :
    wpAny (model X.prog X.w) A.in1 (Builtin.«list.__init__» ⟨[.ref S, .ref z], []⟩)
      (fun fin s' => match fin with | .done f => R (.ok f) s' | .again c' => c'.quiet = true ∧ codeAny (model X.prog X.w) A c' R s') (fun e s' => R (.error e) s') s := by
  have zsn : ∀ {b : Addr}, H b = none → b ≠ S := fun {b} e z => by rw [z, hS] at e; cases e
  have fpn : ∀ b ∈ [z, TI, TO, i1, i2], b ≠ S := fun b hb => zsn (fp b hb).1
  obtain ⟨_, its, m, rl, ll, eS⟩ := I.lstM hS
  obtain rfl : its = [] := List.eq_nil_of_length_eq_zero ll.symm
  show wpAny _ A.in1 (do let old ← Builtin.List.listItems (.ref S); Builtin.List.listUpdate (.ref S) (fun _ => #[]); letGo old.toList.reverse; Builtin.List.listExtendWith (.ref S) (.ref z) .none) _ _ s
  refine wpAny_bind ?_
  unfold Builtin.List.listItems
  refine wpAny_bind (wpAny_seqItems eS rfl (wpAny_pure ?_))
  show wpAny _ A.in1 (updateSeq S (fun _ => #[]) >>= fun _ => letGo (#[] : Array Value).toList.reverse >>= fun _ => Builtin.List.listExtendWith (.ref S) (.ref z) .none) _ _ s
  have I1 : Inv X pins σ (upd H S (.lst [])) { s with heap := s.heap.update S (Obj.mapSeq (fun _ => #[])) } := I.lset (t' := s.toks) (its' := []) hS eS rfl .nil (Nat.zero_le _)
  obtain ⟨b1, b2, b3, b4⟩ := zipl_stay (f := fun _ => #[]) ⟨hTO, .inl hz⟩ fpn eS hTI h1 h2
  refine wpAny_bind (wpAny_updateSeq eS rfl ?_ (by show 0 ≤ sizeLine; decide) (by show 0 ≤ sizeLine + 1; decide))
  refine wpAny_bind (wpAny_letGo ?_)
  have up : ∀ b o, b ≠ S → s.heap.get? b = some o → (s.heap.update S (Obj.mapSeq (fun _ => #[]))).get? b = some o := fun b o hb e => (Heap.get?_update_other _ _ (Ne.symm hb)).trans e
  have HH : ∀ b o, H b = some o → b ≠ S → upd H S (.lst []) b = some o := fun b o e n => by rw [upd_ne n]; exact e
  have sq : ∀ {a : Addr} {zs : List V}, a ≠ S → SqL X.K H a zs → SqL X.K (upd H S (.lst [])) a zs := fun {a zs} n h => by
    rcases h with h | h
    · left
      rcases h with h | ⟨o, h⟩
      · exact .inl (HH _ _ h n)
      · exact .inr ⟨o, HH _ _ h n⟩
    · exact .inr h
  exact zipl_extend hh D .none few I1 (fun b hb => ⟨by rw [upd_ne (fpn b hb)]; exact (fp b hb).1, (fp b hb).2⟩) (up _ _ (fpn z (by simp)) hz) b1.1 b2 b3 b4 (sq (Ne.symm n1) q1) (sq (Ne.symm n2) q2) upd_same (fun b o e => ⟨HH _ _ (keep b o e).1 (keep b o e).2, (keep b o e).2⟩) n1 n2 done
end
section
variable {X : Cx}
def tListZip (K : PySem.W.Frag) (ta : TA) : TE := fun σ H Q => ta σ H fun vs H1 => ∃ a b xs ys, vs = [.ref a, .ref b] ∧ SqL K H1 a xs ∧ SqL K H1 b ys ∧ xs.length ≤ 1000000 ∧
  ∀ (p : Addr) (as : List Addr) (H' : Hp), H1 p = none → H' p = some (.lst (as.map V.ref)) → as.length = min xs.length ys.length → PrOf H' xs ys as → (∀ b o, H1 b = some o → H' b = some o) → Q (.ref p) H'
theorem pe_listZip (K : PySem.W.Frag) (same : X.K = K) {e e2 : Expr} {ta : TA} {p p2 pos pos2 : Pos} (hg : Gl X "list") (hm : X.mg "list" = none) (hg2 : Gl X "zip") (hm2 : X.mg "zip" = none) (ha : PA X [e, e2] ta) (hc : X.calm = true := by rfl)
    (na : starEach [Expr.Call (.Name "zip" p2) [e, e2] [] pos2] X.env = (false, eval (Expr.Call (.Name "zip" p2) [e, e2] [] pos2) X.env) :: starEach [] X.env := by rfl)
    (hs : starEach [e, e2] X.env = (false, eval e X.env) :: starEach [e2] X.env := by rfl) (hpl : (backTo pos2 (starEach [e2] X.env)).any (·.1) = false := by rfl) :
    PE X (.Call (.Name "list" p) [.Call (.Name "zip" p2) [e, e2] [] pos2] [] pos) (tListZip K ta) := by
  subst same
  refine ⟨fun pins s σ H Q I h => ?_⟩
  refine Call_ (ld_blt I hg hm boot_list ?_)
  refine PyProof.Rows.callWith_type1 (args_cons ?_ na) na rfl
  refine Call_ (ld_blt I hg2 hm2 PyProof.Rows.boot_zip (PyProof.Rows.callWith_type1 (thn (ha.run pos2 pins s σ H _ I h) fun us s1 ⟨vs, H1, I1, r1, q1⟩ => ?_) hs hpl))
  obtain ⟨a, b, xs, ys, ex, hqx, hqy, few, q1⟩ := q1
  subst ex
  cases r1 with
  | cons r rr =>
    cases rr with
    | cons r' rr =>
      cases rr
      cases r
      cases r'
      obtain ⟨its, rv, p1, _⟩ := I1.list hqx
      obtain ⟨its2, rv2, p2, _⟩ := I1.list hqy
      refine call_zip_2 p1.isList p2.isList fun h' hz hTI hTO h1 h2 hsz hk => ?_
      refine args_nil ?_
      have I2 : Inv X pins σ H1 { s1 with heap := h' } := I1.kept (t' := s1.toks) hk
      have fresh5 : ∀ c, c ∈ [s1.heap.objs.size + 4, s1.heap.objs.size + 2, s1.heap.objs.size + 3, s1.heap.objs.size, s1.heap.objs.size + 1] → FpOk X pins H1 c ∧ c < s1.heap.objs.size + 5 := fun c hcm => by
        have e' : c = s1.heap.objs.size + 4 ∨ c = s1.heap.objs.size + 2 ∨ c = s1.heap.objs.size + 3 ∨ c = s1.heap.objs.size ∨ c = s1.heap.objs.size + 1 := by simpa using hcm
        have hle : s1.heap.objs.size ≤ c := by
          rcases e' with z | z | z | z | z
          · rw [z]; exact Nat.le_add_right _ _
          · rw [z]; exact Nat.le_add_right _ _
          · rw [z]; exact Nat.le_add_right _ _
          · rw [z]; exact Nat.le_refl _
          · rw [z]; exact Nat.le_add_right _ _
        refine ⟨I1.fpOk hle (I1.hok.fresh hle), ?_⟩
        rcases e' with z | z | z | z | z
        · rw [z]; exact Nat.add_lt_add_left (by decide) _
        · rw [z]; exact Nat.add_lt_add_left (by decide) _
        · rw [z]; exact Nat.add_lt_add_left (by decide) _
        · rw [z]; exact Nat.lt_add_of_pos_right (by decide)
        · rw [z]; exact Nat.add_lt_add_left (by decide) _
      have D := PySem.W.ktu_apart s1.heap.objs.size a b p1.lt p2.lt
      have hS : (h'.push { cls := .type "list", data := .seq #[] }).get? h'.objs.size = some { cls := .type "list", data := .seq #[] } := Heap.get?_push_size _ rfl
      have I3 : Inv X pins σ (upd H1 h'.objs.size (.lst [])) { s1 with heap := h'.push { cls := .type "list", data := .seq #[] } } := I2.lnew (t' := s1.toks) (its := []) .nil (Nat.zero_le _)
      have fr : H1 h'.objs.size = none := I2.hok.fresh (Nat.le_refl _)
      have nS : ∀ {c : Addr}, c < s1.heap.objs.size + 5 → c ≠ h'.objs.size := fun {c} l e => by rw [e, hsz] at l; exact absurd l (Nat.lt_irrefl _)
      have nK : ∀ b o, H1 b = some o → b ≠ h'.objs.size := fun b o e z => by rw [z, fr] at e; cases e
      have HH : ∀ b o, H1 b = some o → upd H1 h'.objs.size (.lst []) b = some o := fun b o e => by rw [upd_ne (nK b o e)]; exact e
      have sq : ∀ {a : Addr} {zs : List V}, SqL X.K H1 a zs → SqL X.K (upd H1 h'.objs.size (.lst [])) a zs := fun {a zs} h => by
        rcases h with h | h
        · left
          rcases h with h | ⟨o, h⟩
          · exact .inl (HH _ _ h)
          · exact .inr ⟨o, HH _ _ h⟩
        · exact .inr h
      refine callType_codes (Q₁ := fun obj s₁ => obj = .ref h'.objs.size ∧ s₁ = { s1 with heap := h'.push { cls := .type "list", data := .seq #[] } }) PySem.F.called_list (PySem.F.typeCall_list_1 _) PySem.F.entry_list_init (code_list_new _ ⟨rfl, rfl⟩) fun obj s₁ h₁ => ?_
      obtain ⟨rfl, rfl⟩ := h₁
      have push : ∀ {c : Addr} {o : Obj}, h'.get? c = some o → (h'.push { cls := .type "list", data := .seq #[] }).get? c = some o := fun e => Heap.get?_push_of_some _ e
      refine ⟨⟨_, hS, rfl⟩, PySem.F.args_list_init_2 _ _, ?_⟩
      refine zipl_init (X := X) (A := X.A.in1) (H0 := H1) (by simp [I1.ok.hd hc]) D few I3 (fun c hcm => ⟨?_, (fresh5 c hcm).1.2⟩) (push hz) ⟨_, _, push hTO⟩ (push hTI) (h1.at fun o e => push e) (h2.at fun o e => push e) (sq hqx) (sq hqy) upd_same (fun b o e => ⟨HH b o e, nK b o e⟩) ?_ ?_ fun s' H' as' I4 e1 e2 e3 e4 => ?_
      · rw [upd_ne (nS (fresh5 c hcm).2)]
        exact (fresh5 c hcm).1.1
      · exact (nS (Nat.lt_of_lt_of_le p1.lt (Nat.le_add_right _ _))).symm
      · exact (nS (Nat.lt_of_lt_of_le p2.lt (Nat.le_add_right _ _))).symm
      · exact ⟨rfl, .ref h'.objs.size, H', I4, rfl, q1 _ as' H' fr e1 e2 e3 e4⟩
end
end
end
theorem firstMet_uniq (ns : List Int) : ∀ i, i ≤ ns.length → PyProof.Rows.firstMet (fun j => ns.getD j 0) i = uniq (ns.take i)
  | 0, _ => rfl
  | i + 1, h => by
    have ih := firstMet_uniq ns i (by omega)
    have e : ns[i]? = some ns[i] := List.getElem?_eq_getElem (by omega)
    rw [PyProof.Rows.firstMet_succ, ih, List.take_add_one, e]
    show PyProof.Rows.step_dedup _ (ns.getD i 0) = uniq (ns.take i ++ [ns[i]])
    rw [uniq_snoc, List.getD_eq_getElem?_getD, e]
    show PyProof.Rows.step_dedup _ ns[i] = _
    unfold PyProof.Rows.step_dedup
    by_cases m : ns[i] ∈ uniq (ns.take i) <;> simp [m]
theorem ints_of_valsG : ∀ {ns : List Int} {us : List Value}, Vals (ns.map V.int) us → PyProof.Rows.IntsAre us ns
  | [], _, .nil => .nil
  | _ :: _, _, .cons r t => by
    obtain ⟨k, rfl⟩ := r
    exact .cons _ k (ints_of_valsG t)
def tLenSetL (K : PySem.W.Frag) (ta : TE) : TE := fun σ H Q => ta σ H fun x H1 => ∃ (l : Addr) (ns : List Int), x = .ref l ∧ SqL K H1 l (ns.map V.int) ∧ ns.length ≤ 400 ∧ Q (.int (((uniq ns).length : Nat) : Int)) H1
theorem pe_lenSetL (K : PySem.W.Frag) {X : Cx} (same : X.K = K) {a : Expr} {ta : TE} {p p2 q pos : Pos} (hg : Gl X "len") (hm : X.mg "len" = none) (hg2 : Gl X "set") (hm2 : X.mg "set" = none) (ha : PE X a ta) (hc : X.calm = true := by rfl)
    (na : starEach [a] X.env = (false, eval a X.env) :: starEach [] X.env := by rfl) : PE X (.Call (.Name "len" p) [.Call (.Name "set" p2) [a] [] q] [] pos) (tLenSetL K ta) := by
  subst same
  constructor
  intro pins s σ H Q I h
  refine Call_
    (ld_blt I hg hm boot_len ?_)
  refine PyProof.Rows.callWith_builtin1
    (PyProof.Rows.args_cons ?_ rfl) rfl rfl
  refine Call_
    (ld_blt I hg2 hm2 boot_set ?_)
  refine PyProof.Rows.callWith_type1
    (PyProof.Rows.args_cons (thn (ha.run pins s σ H _ I h) ?_) na) na rfl
  rintro v s1 ⟨x, H1, I1, r1, l, ns, rfl, hq, hl, q1⟩
  refine PyProof.Rows.args_nil ?_
  cases r1
  have ⟨its, r, pl, _⟩ := I1.list hq
  have big : its.toArray.size = ns.length := by rw [List.size_toArray, ← r.length, List.length_map]
  refine call_set_list (ns := ns) (I1.ok.hd hc) pl.isList (by simpa using ints_of_valsG r) (by unfold scanBound; omega) ?_
  intro h' tk hS hk
  refine PyProof.Rows.args_nil ?_
  rw [big, firstMet_uniq ns ns.length (Nat.le_refl _), List.take_length] at hS
  have ⟨o, es, ep, t, ho, hex, hd, _, _, _, hf, hn⟩ := hS
  have I2 : Inv X pins σ H1 { s1 with heap := h', toks := tk } := I1.kept fun b o e => hk b o (Heap.lt_size e) e
  have lu := uniq_len ns
  refine call_len_set ho hex hd hf (by rw [hn]; omega) ?_
  exact ⟨.int (((uniq ns).length : Nat) : Int), H1, I2.tok _, ⟨_, by rw [hn]⟩, q1⟩
/-- a tuple of whole numbers -/
def RowAt (H : Hp) (v : V) (m : List Int) : Prop := ∃ t : Addr, v = .ref t ∧ H t = some (.tup (m.map V.int))
theorem RowAt.keep {H H' : Hp} {v : V} {m : List Int} (a : RowAt H v m) (k : TK H H') : RowAt H' v m := by
  obtain ⟨t, e, h⟩ := a
  exact ⟨t, e, k _ _ h⟩
abbrev rowD (m : List Int) : PyData := .tuple (m.map PyData.int)
theorem rows_dp {K : PySem.W.Frag} {H : Hp} {vs : List V} {ms : List (List Int)} (a : All2 (RowAt H) vs ms) : DpAll K H vs (ms.map rowD) := by
  induction a with
  | nil => exact .nil
  | cons h t ih =>
    obtain ⟨t, rfl, e1⟩ := h
    exact .cons (.tup (SqT.of e1) (dp_ints _)) ih
theorem lay_ints : ∀ m : List Int, PyData.canLayAll0 (m.map PyData.int) = true
  | [] => rfl
  | x :: m => by
    rw [List.map_cons]
    simp only [PyData.canLayAll0, PyData.canLay0, lay_ints m, Bool.and_self]
theorem lay_rows : ∀ m : List (List Int), PyData.canLayAll0 (m.map rowD) = true
  | [] => rfl
  | x :: m => by
    rw [List.map_cons]
    simp only [PyData.canLayAll0, PyData.canLay0, lay_rows m, lay_ints, Bool.and_self]
theorem dep_ints : ∀ m : List Int, PyData.depthAll (m.map PyData.int) ≤ 0
  | [] => Nat.le_refl _
  | x :: m => by
    rw [List.map_cons]
    simp only [PyData.depthAll, PyData.depth]
    have := dep_ints m
    omega
theorem dep_rows : ∀ m : List (List Int), PyData.depthAll (m.map rowD) ≤ 1
  | [] => Nat.zero_le _
  | x :: m => by
    rw [List.map_cons]
    simp only [PyData.depthAll, PyData.depth]
    have := dep_ints x
    have := dep_rows m
    omega
theorem rows_lay (m : List (List Int)) : PyData.canLay0 (.list (m.map rowD)) = true := by
  simp only [PyData.canLay0, lay_rows]
theorem rows_shaped (m : List (List Int)) : SeqAt.shaped (.list (m.map rowD)) = true := by
  unfold SeqAt.shaped
  rw [rows_lay, Bool.true_and]
  refine decide_eq_true ?_
  simp only [PyData.depth]
  have := dep_rows m
  omega
theorem belt_lay (b : BR) : PyData.canLay0 (beltD b) = true := by
  simp only [PyData.canLay0, PyData.canLayAll0, lay_ints, Bool.and_self]
theorem belt_shaped (b : BR) : SeqAt.shaped (beltD b) = true := by
  unfold SeqAt.shaped
  rw [belt_lay, Bool.true_and]
  refine decide_eq_true ?_
  simp only [PyData.depth, PyData.depthAll]
  have := dep_ints b.th
  omega
theorem hands_neat {hs : List HR} (g : ∀ h ∈ hs, GoodHand h) : Neat (.tuple (hs.map handD)) 3 (hs.length * 201) := Neat.tup (NeatAll.map fun h hh => (g h hh).neat)
/-! ### who gives to a hand; hands that look alike -/
def GivAt (H : Hp) (v : V) (b : BR) : Prop := ∃ t g : Addr, v = .ref t ∧ H t = some (.tup [nV b.one, .ref g]) ∧ H g = some (.tup (b.th.map V.int))
theorem GivAt.keep {H H' : Hp} {v : V} {b : BR} (a : GivAt H v b) (k : TK H H') : GivAt H' v b := by
  obtain ⟨t, g, e, e1, e2⟩ := a
  exact ⟨t, g, e, k _ _ e1, k _ _ e2⟩
theorem ints_eqvA (l m : List Int) : PyData.eqvAll (l.map PyData.int) (m.map PyData.int) = decide (l = m) := by
  induction l generalizing m with
  | nil => cases m with
    | nil => rfl
    | cons y s => rfl
  | cons x r ih => cases m with
    | nil => rfl
    | cons y s =>
      rw [List.map_cons, List.map_cons, PyData.eqvAll, ih]
      show (decide (x = y) && decide (r = s)) = decide (x :: r = y :: s)
      by_cases h : x = y
      · subst h
        rw [decide_eq_true rfl, Bool.true_and]
        by_cases h2 : r = s
        · rw [h2, decide_eq_true rfl, decide_eq_true rfl]
        · rw [decide_eq_false h2, decide_eq_false (fun z => h2 (List.cons.inj z).2)]
      · rw [decide_eq_false h, Bool.false_and, decide_eq_false (fun z => h (List.cons.inj z).1)]
theorem rows_eqvA (l m : List (List Int)) : PyData.eqvAll (l.map rowD) (m.map rowD) = decide (l = m) := by
  induction l generalizing m with
  | nil => cases m with
    | nil => rfl
    | cons y s => rfl
  | cons x r ih => cases m with
    | nil => rfl
    | cons y s =>
      rw [List.map_cons, List.map_cons, PyData.eqvAll, ih, show (rowD x).eqv (rowD y) = PyData.eqvAll (x.map PyData.int) (y.map PyData.int) by show PyData.eqv (.tuple (x.map PyData.int)) (.tuple (y.map PyData.int)) = _; simp only [PyData.eqv], ints_eqvA]
      by_cases h : x = y
      · subst h
        rw [decide_eq_true rfl, Bool.true_and]
        by_cases h2 : r = s
        · rw [h2, decide_eq_true rfl, decide_eq_true rfl]
        · rw [decide_eq_false h2, decide_eq_false (fun z => h2 (List.cons.inj z).2)]
      · rw [decide_eq_false h, Bool.false_and, decide_eq_false (fun z => h (List.cons.inj z).1)]
theorem rules_eqv (g h : HR) : PyData.eqv (.tuple (ruleD g)) (.tuple (ruleD h)) = decide (g.wd = h.wd ∧ g.no = h.no) := by
  obtain ⟨wd, no, mom⟩ := g
  obtain ⟨wd2, no2, mom2⟩ := h
  have e : (wd == wd2) = decide (wd = wd2) := by
    by_cases k : wd = wd2
    · rw [k, decide_eq_true rfl]; exact beq_self_eq_true wd2
    · rw [decide_eq_false k]; exact beq_eq_false_iff_ne.mpr k
  cases no with
  | none =>
    cases no2 with
    | none =>
      show (wd == wd2 && true) = _
      rw [e, Bool.and_true]
      simp
    | some n =>
      show (wd == wd2 && false) = _
      rw [Bool.and_false]
      simp
  | some m =>
    cases no2 with
    | none =>
      show (wd == wd2 && false) = _
      rw [Bool.and_false]
      simp
    | some n =>
      show (wd == wd2 && (decide (m = n) && true)) = _
      rw [e, Bool.and_true]
      simp
def Looks (hs : List HR) (bs : List BR) (j k : Nat) : Prop := (∃ g h, hs[j]? = some g ∧ hs[k]? = some h ∧ g.wd = h.wd ∧ g.no = h.no ∧ isDoor g = false) ∧ (comeB bs j).map BR.th = (comeB bs k).map BR.th
section
variable {P : Program} {w : World} {K : PySem.W.Frag} {mg : Str → Option Value} {base : Heap}
def sp_law_givers (K : PySem.W.Frag) : Sp := fun vs H Q _ => ∃ (r : Addr) (hs : List HR) (bs : List BR) (k : Nat), vs = [.ref r, nV k] ∧ RoomAt H r hs bs ∧ bs.length ≤ 400 ∧
  ∀ (p : Addr) (gv : List V) (H' : Hp), H p = none → H' p = some (.lst gv) → All2 (GivAt H') gv (comeB bs k) → Same H H' → Q (.ref p) H'
theorem ok_law_givers {f : Addr} {fd : FuncData} (F : Fun K "_law_givers" "_law_givers" s_law_givers f fd) (T : Top K mg) : FnOk P w K mg base CX0 1 f fd ["_law_room_here", "_law_k"] (sp_law_givers K) := by
  refine F.ok sc_law_givers (fun vs H Q E h => ?_) (fun cdv A outer s H vs Q E hr h => ?_)
  · obtain ⟨r, hs, bs, k, rfl, _⟩ := h
    rfl
  obtain ⟨r, hs, bs, k, rfl, hR, lb, q⟩ := h
  obtain ⟨ha, ba, hv, bv, er, eh, eb, alh, alb⟩ := hR.ex
  have lbv := alb.length
  refine ⟨_, (pss_one (ps_ret (pe_lc (own := [("_law_one", 2), ("_law_to", 3), ("_law_things", 4)]) (g := gTup K 3 (gCons (gName 2) (gCons (gName 3) (gCons (gName 4) gNil)))) (by rfl) sc_law_givers.nd (pi_tupK K rfl (pe_ix (ix_tupK K rfl) (pv 0) pe_int (fun _ _ => rfl))) (blkOk_by (own := [("_law_one", 2), ("_law_to", 3), ("_law_things", 4)]) (N := N_law_givers) (sc := defScope s_law_givers) (by decide +kernel)) (fun _ _ _ _ _ => (pg_tupK K rfl rfl (pgs_cons (pg_name (i := 2) sc_law_givers.nd rfl (Or.inl rfl)) (pgs_cons (pg_name (i := 3) sc_law_givers.nd rfl (Or.inl rfl)) (pgs_cons (pg_name (i := 4) sc_law_givers.nd rfl (Or.inl rfl)) pgs_nil))))) (fun _ _ _ _ _ => pts_one (pt_cmpR op_eq (pv 3) (pv 1) (nomark _))) (fun _ _ _ _ _ => (pe_tup (pa_cons (pv 2) (pa_cons (pv 4) pa_nil))))))), ?_⟩
  refine ⟨_, rfl, r, _, _, _, rfl, rfl, SqT.of er, atI_nat (j := 1) rfl, ba, rfl, ⟨_, SqT.of eb⟩, fun D nD => lc_tup (K := K) (a := ba) (xs := bv) (fun i H5 => ∃ gv : List V, H5 D = some (.lst gv) ∧ All2 (GivAt H5) gv (comeB (bs.take i) k) ∧ Same H H5) ⟨[], upd_same, .nil, same_new nD⟩ (fun i H5 _ ⟨_, _, _, s5⟩ => SqT.of (s5 _ _ eb)) ?_ ?_⟩
  · rintro i x H5 hx ⟨gv, hD, al, s5⟩
    obtain ⟨b, eb1, tb, g, rfl, e1, e2⟩ := alb.getL hx
    have lg := al.length
    have lc : (comeB (bs.take i) k).length ≤ 400 := by
      unfold comeB
      exact Nat.le_trans (List.length_filter_le ..) (Nat.le_trans (List.length_take_le ..) (by
        have := (List.getElem?_eq_some_iff.mp eb1).1
        omega))
    have ct : comeB (bs.take (i + 1)) k = comeB (bs.take i) k ++ (if b.to = k then [b] else []) := by
      unfold comeB
      rw [List.take_add_one, eb1, List.filter_append]
      congr 1
      by_cases h : b.to = k
      · rw [if_pos h]; simp [h]
      · rw [if_neg h]; simp [h]
    refine ⟨tb, _, rfl, SqT.of (s5 _ _ e1), rfl, _, _, rfl, _, _, rfl, _, _, rfl, rfl, rfl, _, rfl, _, rfl, rfl, _, rfl, if_bl (fun c => ?_) (fun c => ?_)⟩
    · have c : b.to = k := by have := V.int.inj (of_decide_eq_true c); omega
      refine ⟨_, rfl, _, rfl, (by show 2 ≤ sizeLine; decide), fun p np => ?_⟩
      have s6 := same_new (o := .tup [nV b.one, V.ref g]) np
      have hD6 := s6 _ _ hD
      have k6 : TK H5 _ := (TK.same s6).trans (TK.lst (ys := gv ++ [V.ref p]) hD6)
      refine ⟨gv, hD6, small1000 (by omega), gv ++ [.ref p], upd_same, ?_, Same.own (fun a o e => s6 _ _ (s5 _ _ e)) nD⟩
      rw [ct, if_pos c]
      exact (al.imp fun _ _ z => z.keep k6).snoc ⟨p, g, rfl, TK.lst hD6 _ _ upd_same, k6 _ _ (s5 _ _ e2)⟩
    · have c : ¬ b.to = k := fun z => of_decide_eq_false c (by rw [z])
      refine ⟨gv, hD, ?_, s5⟩
      rw [ct, if_neg c, List.append_nil]
      exact al
  · rintro H5 ⟨gv, hD, al, s5⟩
    rw [lbv, List.take_length] at al
    exact q D gv H5 nD hD al s5
def sp_law_looks_alike (K : PySem.W.Frag) : Sp := fun vs H Q _ => ∃ (r : Addr) (hs : List HR) (bs : List BR) (j k : Nat), vs = [.ref r, nV j, nV k] ∧ RoomAt H r hs bs ∧ (∀ h ∈ hs, GoodHand h) ∧ bs.length ≤ 400 ∧ j < hs.length ∧ k < hs.length ∧
  ∀ (b : Bool) (H' : Hp), (b = true ↔ Looks hs bs j k) → Same H H' → Q (.bl b) H'
theorem ok_law_looks_alike {f : Addr} {fd : FuncData} (F : Fun K "_law_looks_alike" "_law_looks_alike" s_law_looks_alike f fd) (T : Top K mg) : FnOk P w K mg base CX0 2 f fd ["_law_room_here", "_law_j", "_law_k"] (sp_law_looks_alike K) := by
  obtain ⟨f_law_givers, fd_law_givers, F_law_givers, b_law_givers, m_law_givers⟩ := T.d_law_givers
  have G_law_givers := ok_law_givers (P := P) (w := w) (base := base) F_law_givers T
  refine F.ok sc_law_looks_alike (fun vs H Q E h => ?_) (fun cdv A outer s H vs Q E hr h => ?_)
  · obtain ⟨r, hs, bs, j, k, rfl, _⟩ := h
    rfl
  obtain ⟨r, hs, bs, j, k, rfl, hR, gd, lb, hj, hk, q⟩ := h
  obtain ⟨ha, ba, hv, bv, er, eh, eb, alh, alb⟩ := hR.ex
  have ej := List.getElem?_eq_getElem hj
  have ek := List.getElem?_eq_getElem hk
  obtain ⟨v1, ev1, t1, r1, rfl, f1, g1⟩ := alh.get ej
  obtain ⟨v2, ev2, t2, r2, rfl, f2, g2⟩ := alh.get ek
  have gj := gd _ (List.mem_of_getElem? ej)
  have gk := gd _ (List.mem_of_getElem? ek)
  refine ⟨_, (pss_cons (ps_if (PW.pt (pw_or (pt_cmpR (op_neDK K rfl hr.units) (pe_ix (ix_tupK K rfl) (pe_ix (ix_tupK K rfl) (pe_ix (ix_tupK K rfl) (pv 0) pe_int (fun _ _ => rfl)) (pv 1) (fun _ _ => rfl)) pe_int (fun _ _ => rfl)) (pe_ix (ix_tupK K rfl) (pe_ix (ix_tupK K rfl) (pe_ix (ix_tupK K rfl) (pv 0) pe_int (fun _ _ => rfl)) (pv 2) (fun _ _ => rfl)) pe_int (fun _ _ => rfl)) (nomark _)) (pw_or1 (pt_cmpR (op_in_seqK K rfl) (pe_ix (ix_tupK K rfl) (pe_ix (ix_tupK K rfl) (pe_ix (ix_tupK K rfl) (pe_ix (ix_tupK K rfl) (pv 0) pe_int (fun _ _ => rfl)) (pv 1) (fun _ _ => rfl)) pe_int (fun _ _ => rfl)) pe_int (fun _ _ => rfl)) (pe_tup (pa_cons pe_str (pa_cons pe_str pa_nil))) (by with_unfolding_all rfl))))) (pss_one (ps_ret pe_bl)) pss_nil)
      (pss_one (ps_ret (pe_cmpR (op_eqDK K rfl hr.units) (pe_lc (own := [("_law_one", 3), ("_law_things", 4)]) (g := gTup K 2 (gCons (gName 3) (gCons (gName 4) gNil))) (tt := tYes) (by rfl) sc_law_looks_alike.nd (pi_listK K rfl (pe_call G_law_givers (hr.mono (by decide)) (by rfl) m_law_givers F_law_givers.kp b_law_givers .nil pass0 (pa_cons (pv 0) (pa_cons (pv 1) pa_nil)))) (blkOk_by (own := [("_law_one", 3), ("_law_things", 4)]) (N := N_law_looks_alike) (sc := defScope s_law_looks_alike) (by decide +kernel)) (fun _ _ _ _ _ => (pg_tupK K rfl rfl (pgs_cons (pg_name (i := 3) sc_law_looks_alike.nd rfl (Or.inl rfl)) (pgs_cons (pg_name (i := 4) sc_law_looks_alike.nd rfl (Or.inl rfl)) pgs_nil)))) (fun _ _ _ _ _ => pts_nil) (fun _ _ _ _ _ => (pv 4))) (pe_lc (own := [("_law_one", 3), ("_law_things", 4)]) (g := gTup K 2 (gCons (gName 3) (gCons (gName 4) gNil))) (tt := tYes) (by rfl) sc_law_looks_alike.nd (pi_listK K rfl (pe_call G_law_givers (hr.mono (by decide)) (by rfl) m_law_givers F_law_givers.kp b_law_givers .nil pass0 (pa_cons (pv 0) (pa_cons (pv 2) pa_nil)))) (blkOk_by (own := [("_law_one", 3), ("_law_things", 4)]) (N := N_law_looks_alike) (sc := defScope s_law_looks_alike) (by decide +kernel)) (fun _ _ _ _ _ => (pg_tupK K rfl rfl (pgs_cons (pg_name (i := 3) sc_law_looks_alike.nd rfl (Or.inl rfl)) (pgs_cons (pg_name (i := 4) sc_law_looks_alike.nd rfl (Or.inl rfl)) pgs_nil)))) (fun _ _ _ _ _ => pts_nil) (fun _ _ _ _ _ => (pv 4))) (nomark _))))), ?_⟩
  refine ⟨_, rfl, r, _, _, _, rfl, rfl, SqT.of er, atI_nat (j := 0) rfl, _, rfl, ha, _, _, _, rfl, rfl, SqT.of eh, atI_nat ev1, t1, _, _, _, rfl, rfl, SqT.of f1, atI_nat (j := 0) rfl, ?_⟩
  refine ⟨_, rfl, r, _, _, _, rfl, rfl, SqT.of er, atI_nat (j := 0) rfl, _, rfl, ha, _, _, _, rfl, rfl, SqT.of eh, atI_nat ev2, t2, _, _, _, rfl, rfl, SqT.of f2, atI_nat (j := 0) rfl, ?_⟩
  refine ⟨.tuple (ruleD hs[j]), .tuple (ruleD hs[k]), rule_dp g1, rule_dp g2, rule_shaped gj.lay, rule_shaped gk.lay, _, rfl, ?_⟩
  rw [rules_eqv]
  have things : ∀ {H1 : Hp} {gv : List V} {cs : List BR} {p : Addr} {σ σ0 : L2.St} {Qd : Hp → Prop}, True := trivial
  refine if_bl (fun z => ?_) (fun z => ?_)
  · refine if_bl (fun _ => q false _ ⟨fun y => (nomatch y), fun y => ?_⟩ (fun _ _ e => e)) (fun y => nomatch y)
    obtain ⟨⟨g, h, x1, x2, x3, x4, x5⟩, _⟩ := y
    rw [ej] at x1
    rw [ek] at x2
    rw [Option.some.inj x1, Option.some.inj x2] at z
    rw [decide_eq_true ⟨x3, x4⟩] at z
    exact absurd z (by decide)
  have same : hs[j].wd = hs[k].wd ∧ hs[j].no = hs[k].no := by
    refine Classical.byContradiction fun y => ?_
    rw [decide_eq_false y] at z
    exact absurd z (by decide)
  refine ⟨_, rfl, r, _, _, _, rfl, rfl, SqT.of er, atI_nat (j := 0) rfl, _, rfl, ha, _, _, _, rfl, rfl, SqT.of eh, atI_nat ev1, t1, _, _, _, rfl, rfl, SqT.of f1, atI_nat (j := 0) rfl, r1, _, _, _, rfl, rfl, SqT.of g1, atI_nat (j := 0) rfl, (by show 2 ≤ sizeLine; decide), fun p np => ⟨p, _, rfl, .inr (SqT.of upd_same), rfl, rfl, _, rfl, if_in (zs := ["in", "out"]) (fun e => ?_) (fun e => ?_)⟩⟩
  · refine q false _ ⟨fun y => (nomatch y), fun y => ?_⟩ (same_new np)
    obtain ⟨⟨g, h, x1, x2, x3, x4, x5⟩, _⟩ := y
    rw [ej] at x1
    rw [← Option.some.inj x1] at x5
    unfold isDoor at x5
    simp only [List.mem_cons, List.not_mem_nil, or_false] at e
    rcases e with e | e <;> simp [e] at x5
  have nd : isDoor hs[j] = false := by
    unfold isDoor
    simp only [List.mem_cons, List.not_mem_nil, or_false, not_or] at e
    rw [decide_eq_false e.1, decide_eq_false e.2]
    rfl
  have s1 : Same H (upd H p (.tup [V.str "in", V.str "out"])) := same_new np
  refine ⟨_, rfl, _, rfl, r, hs, bs, j, rfl, hR.keep (TK.same s1), lb, fun p1 gv1 H2 np1 hp1 al1 s2 => ⟨p1, rfl, ⟨_, SqL.of hp1⟩, fun D nD => lc_list (K := K) (a := p1) (xs := gv1) (fun i H5 => ∃ tv : List V, H5 D = some (.lst tv) ∧ All2 (RowAt H5) tv (((comeB bs j).take i).map BR.th) ∧ Same H2 H5) ⟨[], upd_same, .nil, same_new nD⟩ (fun i H5 _ ⟨_, _, _, s5⟩ => SqL.of (s5 _ _ hp1)) ?_ ?_⟩⟩
  · rintro i x H5 hx ⟨tv, hD, al, s5⟩
    obtain ⟨b, eb1, t, g, rfl, e1, e2⟩ := al1.getL hx
    have lg := al.length
    rw [List.length_map, List.length_take] at lg
    have lc : (comeB bs j).length ≤ 400 := by unfold comeB; exact Nat.le_trans (List.length_filter_le ..) lb
    have k5 := TK.same s5
    refine ⟨t, _, rfl, SqT.of (k5 _ _ e1), rfl, _, _, rfl, _, _, rfl, rfl, rfl, yes_in ⟨_, rfl, tv, hD, small1000 (by omega), tv ++ [.ref g], upd_same, ?_, Same.own s5 nD⟩⟩
    rw [List.take_add_one, eb1, List.map_append]
    exact (al.imp fun _ _ z => z.keep (TK.lst hD)).snoc ⟨g, rfl, TK.lst hD _ _ (k5 _ _ e2)⟩
  rintro H3 ⟨tv1, hD1, ar1, s3⟩
  rw [al1.length, List.take_length] at ar1
  have s13 := s2.trans s3
  refine ⟨_, rfl, _, rfl, r, hs, bs, k, rfl, hR.keep (TK.same (s1.trans s13)), lb, fun p2 gv2 H4 np2 hp2 al2 s4 => ⟨p2, rfl, ⟨_, SqL.of hp2⟩, fun D2 nD2 => lc_list (K := K) (a := p2) (xs := gv2) (fun i H5 => ∃ tv : List V, H5 D2 = some (.lst tv) ∧ All2 (RowAt H5) tv (((comeB bs k).take i).map BR.th) ∧ Same H4 H5) ⟨[], upd_same, .nil, same_new nD2⟩ (fun i H5 _ ⟨_, _, _, s5⟩ => SqL.of (s5 _ _ hp2)) ?_ ?_⟩⟩
  · rintro i x H5 hx ⟨tv, hD, al, s5⟩
    obtain ⟨b, eb1, t, g, rfl, e1, e2⟩ := al2.getL hx
    have lg := al.length
    rw [List.length_map, List.length_take] at lg
    have lc : (comeB bs k).length ≤ 400 := by unfold comeB; exact Nat.le_trans (List.length_filter_le ..) lb
    have k5 := TK.same s5
    refine ⟨t, _, rfl, SqT.of (k5 _ _ e1), rfl, _, _, rfl, _, _, rfl, rfl, rfl, yes_in ⟨_, rfl, tv, hD, small1000 (by omega), tv ++ [.ref g], upd_same, ?_, Same.own s5 nD2⟩⟩
    rw [List.take_add_one, eb1, List.map_append]
    exact (al.imp fun _ _ z => z.keep (TK.lst hD)).snoc ⟨g, rfl, TK.lst hD _ _ (k5 _ _ e2)⟩
  rintro H5 ⟨tv2, hD2, ar2, s5⟩
  rw [al2.length, List.take_length] at ar2
  have s35 := s4.trans s5
  refine ⟨.list (((comeB bs j).map BR.th).map rowD), .list (((comeB bs k).map BR.th).map rowD), .lst (SqL.of (s35 _ _ hD1)) (rows_dp (ar1.imp fun _ _ z => z.keep (TK.same s35))), .lst (SqL.of hD2) (rows_dp ar2), rows_shaped _, rows_shaped _, ?_⟩
  refine q _ H5 ?_ (s1.trans (s13.trans s35))
  rw [show PyData.eqv (.list (((comeB bs j).map BR.th).map rowD)) (.list (((comeB bs k).map BR.th).map rowD)) = decide ((comeB bs j).map BR.th = (comeB bs k).map BR.th) by simp only [PyData.eqv]; exact rows_eqvA _ _]
  rw [decide_eq_true_iff]
  exact ⟨fun y => ⟨⟨_, _, ej, ek, same.1, same.2, nd⟩, y⟩, fun y => y.2⟩
end
/-! ### pairs of hands marked unlike, till no more come -/
def kd (t : List Nat) (i : Nat) : Nat := t.getD i 0
theorem kd_at {t : List Nat} {i x : Nat} (e : t[i]? = some x) : kd t i = x := by
  unfold kd
  rw [List.getD_eq_getElem?_getD, e]; rfl
theorem at_kd {t : List Nat} {i : Nat} (h : i < t.length) : t[i]? = some (kd t i) := by
  rw [List.getElem?_eq_getElem h]
  unfold kd
  rw [List.getD_eq_getElem?_getD, List.getElem?_eq_getElem h]; rfl
theorem kinds_alike {hs : List HR} {bs : List BR} {t : List Nat} (K : KindsOf hs bs t) {i j : Nat} (hi : i < hs.length) (hj : j < hs.length) : kd t i = kd t j ↔ AlikeH hs bs i j := by
  rw [← K.same i j hi hj, at_kd (by rw [K.len]; exact hi), at_kd (by rw [K.len]; exact hj)]
  exact ⟨fun z => congrArg some z, fun z => Option.some.inj z⟩
def PairsOk (bs : List BR) (A : Nat → Nat → Bool) (j k : Nat) : Prop := ∀ (i : Nat) (x y : BR), (comeB bs j)[i]? = some x → (comeB bs k)[i]? = some y → A x.one y.one = true
structure PA (hs : List HR) (bs : List BR) (t : List Nat) (A : Nat → Nat → Bool) : Prop where
  sym : ∀ j k, j < hs.length → k < hs.length → A j k = A k j
  self : ∀ j, j < hs.length → A j j = true
  look : ∀ j k, j < hs.length → k < hs.length → A j k = true → j = k ∨ Looks hs bs j k
  keep : ∀ j k, j < hs.length → k < hs.length → kd t j = kd t k → A j k = true
def offA (A : Nat → Nat → Bool) (j k : Nat) : Nat → Nat → Bool := fun a b => if (a = j ∧ b = k) ∨ (a = k ∧ b = j) then false else A a b
section
variable {hs : List HR} {bs : List BR} {t : List Nat} {A : Nat → Nat → Bool}
theorem All2.getBoth {α β : Type} {R : α → β → Prop} {as : List α} {cs : List β} (h : All2 R as cs) {i : Nat} {a : α} {b : β} (e1 : as[i]? = some a) (e2 : cs[i]? = some b) : R a b := by
  obtain ⟨b2, e3, r⟩ := h.getL e1
  rw [e2] at e3
  rw [Option.some.inj e3]
  exact r
theorem PA.off (K : KindsOf hs bs t) (ends : ∀ b ∈ bs, b.one < hs.length) (p : PA hs bs t A) {j k : Nat} (hj : j < hs.length) (hk : k < hs.length) (ne : j ≠ k) (bad : ¬ PairsOk bs A j k) : PA hs bs t (offA A j k) := by
  have un : kd t j ≠ kd t k := fun e => bad fun i x y e1 e2 => by
    have al := (((kinds_alike K hj hk).mp e).come hj hk).getBoth e1 e2
    have mx := (List.mem_filter.mp (List.mem_of_getElem? e1)).1
    have my := (List.mem_filter.mp (List.mem_of_getElem? e2)).1
    exact p.keep _ _ (ends x mx) (ends y my) ((kinds_alike K (ends x mx) (ends y my)).mpr al.2)
  refine ⟨fun a b ha hb => ?_, fun a ha => ?_, fun a b ha hb e => ?_, fun a b ha hb e => ?_⟩
  · unfold offA
    by_cases c : (a = j ∧ b = k) ∨ (a = k ∧ b = j)
    · rw [if_pos c, if_pos (c.elim (fun z => .inr ⟨z.2, z.1⟩) fun z => .inl ⟨z.2, z.1⟩)]
    · rw [if_neg c, if_neg fun z => c (z.elim (fun z => .inr ⟨z.2, z.1⟩) fun z => .inl ⟨z.2, z.1⟩)]
      exact p.sym a b ha hb
  · unfold offA
    rw [if_neg]
    · exact p.self a ha
    · rintro (⟨rfl, z⟩ | ⟨rfl, z⟩)
      · exact ne z
      · exact ne z.symm
  · unfold offA at e
    by_cases c : (a = j ∧ b = k) ∨ (a = k ∧ b = j)
    · rw [if_pos c] at e; cases e
    · rw [if_neg c] at e
      exact p.look a b ha hb e
  · unfold offA
    rw [if_neg]
    · exact p.keep a b ha hb e
    · rintro (⟨rfl, rfl⟩ | ⟨rfl, rfl⟩)
      · exact un e
      · exact un e.symm
theorem All2.ofGet {α β : Type} {R : α → β → Prop} : ∀ {as : List α} {cs : List β}, as.length = cs.length → (∀ (i : Nat) (a : α) (b : β), as[i]? = some a → cs[i]? = some b → R a b) → All2 R as cs
  | [], [], _, _ => .nil
  | [], _ :: _, h, _ => by cases h
  | _ :: _, [], h, _ => by cases h
  | a :: as, b :: cs, h, f => .cons (f 0 a b rfl rfl) (All2.ofGet (Nat.succ.inj h) fun i x y e1 e2 => f (i + 1) x y e1 e2)
theorem PA.done (K : KindsOf hs bs t) (ends : ∀ b ∈ bs, b.one < hs.length) (p : PA hs bs t A) (all : ∀ j k, j < hs.length → k < j → A j k = true → PairsOk bs A j k) {j k : Nat} (hj : j < hs.length) (hk : k < hs.length) : A j k = true ↔ kd t j = kd t k := by
  refine ⟨fun e => (kinds_alike K hj hk).mpr ⟨fun a b => a < hs.length ∧ b < hs.length ∧ A a b = true, ⟨fun a b ⟨ha, hb, r⟩ _ _ => ?_, fun a b ⟨ha, hb, r⟩ _ _ => ?_⟩, hj, hk, e⟩, p.keep j k hj hk⟩
  · rcases p.look a b ha hb r with z | ⟨z, _⟩
    · exact .inl z
    · exact .inr z
  · have ok : PairsOk bs A a b := by
      rcases Nat.lt_trichotomy a b with l | rfl | l
      · have q := all b a hb l (by rw [p.sym b a hb ha]; exact r)
        intro i x y e1 e2
        have mx := (List.mem_filter.mp (List.mem_of_getElem? e1)).1
        have my := (List.mem_filter.mp (List.mem_of_getElem? e2)).1
        rw [p.sym _ _ (ends x mx) (ends y my)]
        exact q i y x e2 e1
      · intro i x y e1 e2
        rw [e1] at e2
        rw [← Option.some.inj e2]
        exact p.self _ (ends x (List.mem_filter.mp (List.mem_of_getElem? e1)).1)
      · exact all a b ha l r
    have th : (comeB bs a).map BR.th = (comeB bs b).map BR.th := by
      rcases p.look a b ha hb r with rfl | ⟨_, z⟩
      · rfl
      · exact z
    refine All2.ofGet (by have := congrArg List.length th; rwa [List.length_map, List.length_map] at this) fun i x y e1 e2 => ⟨?_, ends x (List.mem_filter.mp (List.mem_of_getElem? e1)).1, ends y (List.mem_filter.mp (List.mem_of_getElem? e2)).1, ok i x y e1 e2⟩
    have q := congrArg (fun l => l[i]?) th
    simp only [List.getElem?_map, e1, e2, Option.map_some] at q
    exact Option.some.inj q
theorem PA.first (K : KindsOf hs bs t) (ends : ∀ b ∈ bs, b.one < hs.length) {A : Nat → Nat → Bool} (h : ∀ j k, j < hs.length → k < hs.length → (A j k = true ↔ j = k ∨ Looks hs bs j k)) : PA hs bs t A := by
  have bo : ∀ {x y : Bool}, (x = true ↔ y = true) → x = y := fun {x y} z => by cases x <;> cases y <;> simp_all
  have sl : ∀ {j k}, Looks hs bs j k → Looks hs bs k j := fun {j k} ⟨⟨g, h, e1, e2, e3, e4, e5⟩, z⟩ => ⟨⟨h, g, e2, e1, e3.symm, e4.symm, by unfold isDoor at e5 ⊢; rw [← e3]; exact e5⟩, z.symm⟩
  refine ⟨fun j k hj hk => bo ?_, fun j hj => (h j j hj hj).mpr (.inl rfl), fun j k hj hk => (h j k hj hk).mp, fun j k hj hk e => (h j k hj hk).mpr ?_⟩
  · rw [h j k hj hk, h k j hk hj]
    exact ⟨fun z => z.elim (fun y => .inl y.symm) fun y => .inr (sl y), fun z => z.elim (fun y => .inl y.symm) fun y => .inr (sl y)⟩
  · have al := (kinds_alike K hj hk).mp e
    rcases al.first hj hk with z | z
    · exact .inl z
    · refine .inr ⟨z, ?_⟩
      have c := al.come hj hk
      have : ∀ {as cs : List BR}, All2 (fun b c : BR => b.th = c.th ∧ AlikeH hs bs b.one c.one) as cs → as.map BR.th = cs.map BR.th := by
        intro as cs a
        induction a with
        | nil => rfl
        | cons r _ ih => rw [List.map_cons, List.map_cons, ih, r.1]
      exact this c
/-- how many pairs are marked alike -/
def cntA (n : Nat) (A : Nat → Nat → Bool) : Nat := (prs n).countP fun p => A p.1 p.2
theorem cntA_off {n j k : Nat} (hj : j < n) (hk : k < n) (e : A j k = true) : cntA n (offA A j k) < cntA n A := by
  unfold cntA
  refine count_less (fun p _ h => ?_) ⟨(j, k), mem_prs hj hk, e, ?_⟩
  · unfold offA at h
    split at h
    · cases h
    · exact h
  · unfold offA
    exact if_pos (.inl ⟨rfl, rfl⟩)
end
def doorsOf (z : Str) (hs : List HR) : List Nat := (List.range hs.length).filter fun i => decide (hs[i]?.map HR.wd = some z)
/-! ### the room that has one hand for each kind -/
theorem Canon.take {t : List Nat} (c : Canon t) (k : Nat) : Canon (t.take k) := by
  intro i x e
  rw [List.getElem?_take] at e
  by_cases h : i < k
  · rw [if_pos h] at e
    rw [List.take_take, Nat.min_eq_left (Nat.le_of_lt h)]
    exact c i x e
  · rw [if_neg h] at e; cases e
theorem canon_all : ∀ {t : List Nat}, Canon t → ∀ x, x ∈ t ↔ x < (uniq t).length := by
  intro t
  induction t using snoc_ind with
  | h0 => intro _ x; exact ⟨fun z => (by cases z), fun z => absurd z (Nat.not_lt_zero _)⟩
  | h1 l y ih =>
    intro c x
    have cl : Canon l := by
      have := c.take l.length
      rwa [List.take_left'] at this
      rfl
    have ih := ih cl
    have cy := c l.length y (by rw [List.getElem?_append_right (Nat.le_refl _), Nat.sub_self]; rfl)
    rw [List.take_left' rfl] at cy
    rw [uniq_snoc, List.mem_append, List.mem_singleton, ih x]
    by_cases h : y ∈ l
    · rw [if_pos ((mem_uniq l y).mpr h)]
      constructor
      · rintro (z | rfl)
        · exact z
        · exact (ih _).mp h
      · exact .inl
    · rw [if_neg (fun z => h ((mem_uniq l y).mp z)), List.length_append]
      have : y = (uniq l).length := cy.resolve_left h
      show _ ↔ x < _ + 1
      omega
def alk (t : List Nat) (k : Nat) : List Nat := (List.range t.length).filter fun i => decide (t[i]? = some k)
def rep (t : List Nat) (k : Nat) : Nat := (alk t k).headD 0
def minL : List Int → Int
  | [] => 0
  | [x] => x
  | x :: y :: r => min x (minL (y :: r))
theorem minL_le : ∀ {l : List Int}, ∀ x ∈ l, minL l ≤ x
  | [_], x, h => by rw [List.mem_singleton.mp h]; exact Int.le_refl _
  | y :: z :: r, x, h => by
    show min y (minL (z :: r)) ≤ x
    rcases List.mem_cons.mp h with rfl | h
    · exact Int.min_le_left ..
    · exact Int.le_trans (Int.min_le_right ..) (minL_le x h)
theorem minL_mem : ∀ {l : List Int}, l ≠ [] → minL l ∈ l
  | [x], _ => List.mem_singleton.mpr rfl
  | y :: z :: r, _ => by
    show min y (minL (z :: r)) ∈ _
    by_cases h : y ≤ minL (z :: r)
    · rw [Int.min_eq_left h]; exact List.mem_cons_self ..
    · rw [Int.min_eq_right (by omega)]; exact List.mem_cons_of_mem _ (minL_mem (List.cons_ne_nil _ _))
def gH (hs : List HR) (i : Nat) : HR := hs.getD i ⟨"", none, 0⟩
def joinH1 (hs : List HR) (t : List Nat) (k : Nat) : HR := ⟨(gH hs (rep t k)).wd, (gH hs (rep t k)).no, minL ((alk t k).map fun i => (gH hs i).mom)⟩
def joinB1 (bs : List BR) (t : List Nat) (k : Nat) : List BR := (comeB bs (rep t k)).map fun b => ⟨kd t b.one, k, b.th⟩
def joinH (hs : List HR) (t : List Nat) : List HR := (List.range (uniq t).length).map (joinH1 hs t)
def joinB (bs : List BR) (t : List Nat) : List BR := (List.range (uniq t).length).flatMap (joinB1 bs t)
theorem gH_at {hs : List HR} {i : Nat} {h : HR} (e : hs[i]? = some h) : gH hs i = h := by
  unfold gH
  rw [List.getD_eq_getElem?_getD, e]; rfl
theorem rep_of {t : List Nat} {k : Nat} (h : k ∈ t) : rep t k < t.length ∧ t[rep t k]? = some k ∧ rep t k ∈ alk t k ∧ ∃ r, alk t k = rep t k :: r := by
  obtain ⟨i, hi, e⟩ := List.getElem_of_mem h
  have m : i ∈ alk t k := List.mem_filter.mpr ⟨List.mem_range.mpr hi, decide_eq_true (by rw [List.getElem?_eq_getElem hi, e])⟩
  cases hl : alk t k with
  | nil => rw [hl] at m; cases m
  | cons a r =>
    have e1 : rep t k = a := by unfold rep; rw [hl]; rfl
    have m2 : a ∈ alk t k := by rw [hl]; exact List.mem_cons_self ..
    obtain ⟨q1, q2⟩ := List.mem_filter.mp m2
    rw [e1]
    exact ⟨List.mem_range.mp q1, of_decide_eq_true q2, List.mem_cons_self .., r, rfl⟩
section
variable {hs : List HR} {bs : List BR} {t : List Nat}
theorem kd_lt (K : KindsOf hs bs t) {i : Nat} (h : i < hs.length) : kd t i < (uniq t).length := by
  have e := at_kd (t := t) (i := i) (by rw [K.len]; exact h)
  exact (canon_all K.canon _).mp (List.mem_of_getElem? e)
theorem rep_lt (K : KindsOf hs bs t) {k : Nat} (h : k < (uniq t).length) : rep t k < hs.length ∧ kd t (rep t k) = k := by
  obtain ⟨a, b, _⟩ := rep_of ((canon_all K.canon k).mpr h)
  exact ⟨by rw [← K.len]; exact a, kd_at b⟩
theorem flat_filter {f : Nat → List BR} (hf : ∀ k, ∀ b ∈ f k, b.to = k) (k : Nat) : ∀ m, ((List.range m).flatMap f).filter (fun b => decide (b.to = k)) = if k < m then f k else [] := by
  intro m
  induction m with
  | zero => rfl
  | succ m ih =>
    rw [List.range_succ, List.flatMap_append, List.filter_append, ih]
    have e : ([m].flatMap f).filter (fun b => decide (b.to = k)) = if k = m then f k else [] := by
      rw [List.flatMap_singleton]
      by_cases h : k = m
      · rw [if_pos h, h]
        exact List.filter_eq_self.mpr fun b hb => decide_eq_true (hf m b hb)
      · rw [if_neg h]
        exact List.filter_eq_nil_iff.mpr fun b hb z => h ((of_decide_eq_true z).symm.trans (hf m b hb))
    rw [e]
    by_cases h1 : k < m
    · rw [if_pos h1, if_neg (by omega), if_pos (by omega), List.append_nil]
    · rw [if_neg h1, List.nil_append]
      by_cases h2 : k = m
      · rw [if_pos h2, if_pos (by omega)]
      · rw [if_neg h2, if_neg (by omega)]
theorem joinB1_to {k : Nat} : ∀ b ∈ joinB1 bs t k, b.to = k := fun b hb => by
  obtain ⟨c, _, rfl⟩ := List.mem_map.mp hb
  rfl
theorem come_join {k : Nat} (h : k < (uniq t).length) : comeB (joinB bs t) k = joinB1 bs t k := by
  show ((List.range (uniq t).length).flatMap (joinB1 bs t)).filter _ = _
  rw [flat_filter (fun k b hb => joinB1_to b hb), if_pos h]
theorem mem_join {c : BR} (h : c ∈ joinB bs t) : ∃ k, k < (uniq t).length ∧ c ∈ joinB1 bs t k := by
  obtain ⟨k, hk, hc⟩ := List.mem_flatMap.mp h
  exact ⟨k, List.mem_range.mp hk, hc⟩
theorem All2.mapR {α β γ : Type} {R : α → γ → Prop} {f : β → γ} : ∀ {as : List α} {bs : List β}, All2 (fun a b => R a (f b)) as bs → All2 R as (bs.map f)
  | _, _, .nil => .nil
  | _, _, .cons h t => .cons h (All2.mapR t)
theorem All2.mapL {α β γ : Type} {R : γ → β → Prop} {f : α → γ} : ∀ {as : List α} {bs : List β}, All2 (fun a b => R (f a) b) as bs → All2 R (as.map f) bs
  | _, _, .nil => .nil
  | _, _, .cons h t => .cons h (All2.mapL t)
theorem pw_eq : ∀ {l m : List Nat}, l.Pairwise (· < ·) → m.Pairwise (· < ·) → (∀ x, x ∈ l ↔ x ∈ m) → l = m
  | [], [], _, _, _ => rfl
  | [], y :: m, _, _, h => absurd ((h y).mpr (List.mem_cons_self ..)) (fun z => (by cases z))
  | x :: l, [], _, _, h => absurd ((h x).mp (List.mem_cons_self ..)) (fun z => (by cases z))
  | x :: l, y :: m, a, b, h => by
    obtain ⟨a1, a2⟩ := List.pairwise_cons.mp a
    obtain ⟨b1, b2⟩ := List.pairwise_cons.mp b
    have e : x = y := by
      rcases List.mem_cons.mp ((h x).mp (List.mem_cons_self ..)) with e | hx
      · exact e
      · rcases List.mem_cons.mp ((h y).mpr (List.mem_cons_self ..)) with e | hy
        · exact e.symm
        · have := a1 y hy
          have := b1 x hx
          omega
    subst e
    rw [pw_eq a2 b2 fun z => ?_]
    constructor
    · intro hz
      rcases List.mem_cons.mp ((h z).mp (List.mem_cons_of_mem _ hz)) with e | q
      · rw [e] at hz
        exact absurd (a1 x hz) (Nat.lt_irrefl _)
      · exact q
    · intro hz
      rcases List.mem_cons.mp ((h z).mpr (List.mem_cons_of_mem _ hz)) with e | q
      · rw [e] at hz
        exact absurd (b1 x hz) (Nat.lt_irrefl _)
      · exact q
/-- each hand goes on in its kind -/
structure Join (hs : List HR) (bs : List BR) (t : List Nat) (hs' : List HR) (bs' : List BR) : Prop where
  tlen : t.length = hs.length
  hand : ∀ i h, hs[i]? = some h → ∃ h', hs'[kd t i]? = some h' ∧ h'.wd = h.wd ∧ h'.no = h.no ∧ h'.mom ≤ h.mom
  doors : ∀ z : Str, z = "in" ∨ z = "out" → doorsOf z hs' = (doorsOf z hs).map (kd t)
  come : ∀ i, i < hs.length → All2 (fun b c : BR => b.th = c.th ∧ c.one = kd t b.one) (comeB bs i) (comeB bs' (kd t i))
  ends : ∀ b ∈ bs, b.one < hs.length
theorem doors_pw {z : Str} {hs : List HR} : (doorsOf z hs).Pairwise (· < ·) := List.Pairwise.filter _ List.pairwise_lt_range
theorem mem_doors {z : Str} {hs : List HR} {k : Nat} : k ∈ doorsOf z hs ↔ ∃ h, hs[k]? = some h ∧ h.wd = z := by
  unfold doorsOf
  rw [List.mem_filter, List.mem_range]
  constructor
  · rintro ⟨a, b⟩
    have b := of_decide_eq_true b
    rw [List.getElem?_eq_getElem a] at b
    exact ⟨_, List.getElem?_eq_getElem a, Option.some.inj b⟩
  · rintro ⟨h, e, w⟩
    exact ⟨(List.getElem?_eq_some_iff.mp e).1, decide_eq_true (by rw [e]; exact congrArg some w)⟩
theorem joinH_at {k : Nat} (h : k < (uniq t).length) : (joinH hs t)[k]? = some (joinH1 hs t k) := by
  unfold joinH
  rw [List.getElem?_map, List.getElem?_range h]; rfl
theorem same_rule (K : KindsOf hs bs t) {i : Nat} {h : HR} (e : hs[i]? = some h) : (joinH1 hs t (kd t i)).wd = h.wd ∧ (joinH1 hs t (kd t i)).no = h.no ∧ (joinH1 hs t (kd t i)).mom ≤ h.mom := by
  have il := (List.getElem?_eq_some_iff.mp e).1
  obtain ⟨r1, r2⟩ := rep_lt K (kd_lt K il)
  have al := (kinds_alike K il r1).mp r2.symm
  have im : i ∈ alk t (kd t i) := List.mem_filter.mpr ⟨List.mem_range.mpr (by rw [K.len]; exact il), decide_eq_true (at_kd (by rw [K.len]; exact il))⟩
  have mm : (joinH1 hs t (kd t i)).mom ≤ h.mom := minL_le _ (List.mem_map.mpr ⟨i, im, by rw [gH_at e]⟩)
  rcases al.first il r1 with q | ⟨g, h2, e1, e2, e3, e4, _⟩
  · refine ⟨?_, ?_, mm⟩
    · show (gH hs (rep t (kd t i))).wd = _
      rw [← q, gH_at e]
    · show (gH hs (rep t (kd t i))).no = _
      rw [← q, gH_at e]
  · rw [e] at e1
    obtain rfl := Option.some.inj e1
    refine ⟨?_, ?_, mm⟩
    · show (gH hs (rep t (kd t i))).wd = _
      rw [gH_at e2, e3]
    · show (gH hs (rep t (kd t i))).no = _
      rw [gH_at e2, e4]
theorem join_ok (K : KindsOf hs bs t) (ends : ∀ b ∈ bs, b.one < hs.length) : Join hs bs t (joinH hs t) (joinB bs t) := by
  have rule := fun i h (e : hs[i]? = some h) => same_rule K e
  refine ⟨K.len, fun i h e => ⟨_, joinH_at (kd_lt K (List.getElem?_eq_some_iff.mp e).1), rule i h e⟩, fun z hz => ?_, fun i hi => ?_, ends⟩
  · refine pw_eq doors_pw ?_ fun x => ?_
    · rw [List.pairwise_map]
      refine List.Pairwise.imp_of_mem ?_ (doors_pw (z := z) (hs := hs))
      intro a b ha hb lt
      obtain ⟨h1, e1, w1⟩ := mem_doors.mp ha
      obtain ⟨h2, e2, w2⟩ := mem_doors.mp hb
      have al := (List.getElem?_eq_some_iff.mp e1).1
      have bl := (List.getElem?_eq_some_iff.mp e2).1
      have ta := at_kd (t := t) (i := a) (by rw [K.len]; exact al)
      have tb := at_kd (t := t) (i := b) (by rw [K.len]; exact bl)
      have am : kd t a ∈ t.take b := List.mem_of_getElem? (i := a) (by rw [List.getElem?_take, if_pos lt]; exact ta)
      rcases K.canon b _ tb with m | e
      · exfalso
        obtain ⟨j, hj, ej⟩ := List.getElem_of_mem m
        rw [List.length_take] at hj
        rw [List.getElem_take] at ej
        have tj : t[j]? = some (kd t b) := by rw [← ej]; exact List.getElem?_eq_getElem (by omega)
        have jl : j < hs.length := by rw [← K.len]; omega
        have q := (kinds_alike K jl bl).mp (kd_at tj)
        rcases q.first jl bl with e | ⟨g, h3, g1, g2, g3, g4, g5⟩
        · omega
        · rw [e2] at g2
          rw [← Option.some.inj g2, w2] at g3
          unfold isDoor at g5
          rw [g3] at g5
          rcases hz with rfl | rfl
          · revert g5; decide +kernel
          · revert g5; decide +kernel
      · rw [e]
        exact (canon_all (K.canon.take b) _).mp am
    · rw [mem_doors, List.mem_map]
      constructor
      · rintro ⟨h', e, w⟩
        have xl : x < (uniq t).length := by
          have := (List.getElem?_eq_some_iff.mp e).1
          unfold joinH at this
          rwa [List.length_map, List.length_range] at this
        obtain ⟨r1, r2⟩ := rep_lt K xl
        have er := List.getElem?_eq_getElem r1
        refine ⟨rep t x, mem_doors.mpr ⟨_, er, ?_⟩, r2⟩
        rw [joinH_at xl] at e
        rw [← w, ← Option.some.inj e]
        show _ = (gH hs (rep t x)).wd
        rw [gH_at er]
      · rintro ⟨i, hi, rfl⟩
        obtain ⟨h, e, w⟩ := mem_doors.mp hi
        exact ⟨_, joinH_at (kd_lt K (List.getElem?_eq_some_iff.mp e).1), (rule i h e).1.trans w⟩
  · have kl := kd_lt K hi
    obtain ⟨r1, r2⟩ := rep_lt K kl
    have al := (kinds_alike K hi r1).mp r2.symm
    rw [come_join kl]
    refine All2.mapR ((al.come hi r1).imp_mem fun b hb c hc ⟨z1, z2⟩ => ⟨z1, ?_⟩)
    exact ((kinds_alike K (ends b (come_mem hb)) (ends c (come_mem hc))).mpr z2).symm
theorem All2.memR {α β : Type} {R : α → β → Prop} : ∀ {as : List α} {bs : List β}, All2 R as bs → ∀ b ∈ bs, ∃ a ∈ as, R a b
  | _, _, .cons r t, b, h => by
    rcases List.mem_cons.mp h with rfl | h
    · exact ⟨_, List.mem_cons_self .., r⟩
    · obtain ⟨a, ha, ra⟩ := All2.memR t b h
      exact ⟨a, List.mem_cons_of_mem _ ha, ra⟩
theorem rep_least {t : List Nat} {k i : Nat} (h : i ∈ alk t k) : rep t k ≤ i := by
  have p : (alk t k).Pairwise (· < ·) := List.Pairwise.filter _ List.pairwise_lt_range
  unfold rep
  cases hl : alk t k with
  | nil => rw [hl] at h; cases h
  | cons a r =>
    rw [hl] at p h
    rcases List.mem_cons.mp h with rfl | h
    · exact Nat.le_refl _
    · exact Nat.le_of_lt ((List.pairwise_cons.mp p).1 i h)
theorem rep_new {t : List Nat} {i k : Nat} (e : t[i]? = some k) (no : k ∉ t.take i) : rep t k = i := by
  have il := (List.getElem?_eq_some_iff.mp e).1
  have m : i ∈ alk t k := List.mem_filter.mpr ⟨List.mem_range.mpr il, decide_eq_true e⟩
  have le := rep_least m
  obtain ⟨_, q, _⟩ := rep_of (List.mem_of_getElem? e)
  rcases Nat.lt_or_ge (rep t k) i with lt | ge
  · exact absurd (List.mem_of_getElem? (i := rep t k) (by rw [List.getElem?_take, if_pos lt]; exact q)) no
  · omega
theorem rep_sum {t : List Nat} (c : Canon t) (f : Nat → Nat) : ∀ i, i ≤ t.length → ((List.range (uniq (t.take i)).length).map fun k => f (rep t k)).sum ≤ ((List.range i).map f).sum := by
  intro i
  induction i with
  | zero => intro _; exact Nat.le_refl _
  | succ i ih =>
    intro h
    have ih := ih (by omega)
    have e : t[i]? = some t[i] := List.getElem?_eq_getElem (by omega)
    have e1 : t.take (i + 1) = t.take i ++ [t[i]] := by rw [List.take_add_one, e]; rfl
    rw [e1, uniq_snoc, List.range_succ, List.map_append, List.sum_append]
    by_cases m : t[i] ∈ uniq (t.take i)
    · rw [if_pos m]
      exact Nat.le_trans ih (Nat.le_add_right _ _)
    · rw [if_neg m, List.length_append, show [t[i]].length = 1 from rfl, List.range_succ, List.map_append, List.sum_append]
      have no : t[i] ∉ t.take i := fun z => m ((mem_uniq _ _).mpr z)
      have v := (c i _ e).resolve_left no
      have r := rep_new e no
      show _ + (f (rep t (uniq (t.take i)).length) + 0) ≤ _ + (f i + 0)
      have r2 : rep t (uniq (t.take i)).length = i := by rw [← v]; exact r
      rw [r2]
      exact Nat.add_le_add_right ih _
theorem join_many (ok : RoomOk hs bs) (K : KindsOf hs bs t) : (joinB bs t).length ≤ bs.length := by
  have e : (joinB bs t).length = ((List.range (uniq t).length).map fun k => cT bs (rep t k)).sum := by
    unfold joinB
    rw [List.length_flatMap]
    congr 1
    refine List.map_congr_left fun k _ => ?_
    unfold joinB1 cT
    rw [List.length_map, count_filter]
    rfl
  have s := rep_sum K.canon (cT bs) t.length (Nat.le_refl _)
  rw [List.take_length] at s
  rw [e]
  refine Nat.le_trans s ?_
  rw [cT_sum bs fun b hb => by rw [K.len]; exact (ok.ends b hb).2]
  exact Nat.le_refl _
/-- a rank for the kinds -/
def rkK (t : List Nat) (rk : Nat → Int) (k : Nat) : Int := minL ((alk t k).map rk)
theorem join_rank (ok : RoomOk hs bs) (K : KindsOf hs bs t) {rk : Nat → Int} (hrk : ∀ b ∈ bs, b.th = [] → rk b.one < rk b.to) : ∀ c ∈ joinB bs t, c.th = [] → rkK t rk c.one < rkK t rk c.to := by
  intro c hc e
  obtain ⟨k, hk, h1⟩ := mem_join hc
  obtain ⟨b, hb, rfl⟩ := List.mem_map.mp h1
  obtain ⟨r1, r2⟩ := rep_lt K hk
  have ne : (alk t k).map rk ≠ [] := fun z => by
    obtain ⟨_, _, m, _⟩ := rep_of ((canon_all K.canon k).mpr hk)
    rw [List.map_eq_nil_iff.mp z] at m
    cases m
  obtain ⟨i, hi, ei⟩ := List.mem_map.mp (minL_mem ne)
  obtain ⟨i1, i2⟩ := List.mem_filter.mp hi
  have il : i < hs.length := by rw [← K.len]; exact List.mem_range.mp i1
  have ik := kd_at (of_decide_eq_true i2)
  have al := (kinds_alike K il r1).mp (by rw [ik, r2])
  obtain ⟨b2, hb2, z1, z2⟩ := (al.come il r1).memR b hb
  have m2 := come_mem hb2
  have to2 : b2.to = i := of_decide_eq_true (List.mem_filter.mp hb2).2
  have o2 := (ok.ends b2 m2).1
  have e2 : kd t b2.one = kd t b.one := (kinds_alike K o2 (ok.ends b (come_mem hb)).1).mpr z2
  have lt := hrk b2 m2 (z1.trans e)
  have le : rkK t rk (kd t b.one) ≤ rk b2.one := by
    refine minL_le _ (List.mem_map.mpr ⟨b2.one, List.mem_filter.mpr ⟨List.mem_range.mpr (by rw [K.len]; exact o2), decide_eq_true ?_⟩, rfl⟩)
    rw [at_kd (by rw [K.len]; exact o2), e2]
  show rkK t rk (kd t b.one) < minL ((alk t k).map rk)
  rw [← ei]
  rw [to2] at lt
  omega
theorem join_room (ok : RoomOk hs bs) (K : KindsOf hs bs t) : RoomOk (joinH hs t) (joinB bs t) := by
  have ln : (joinH hs t).length = (uniq t).length := by unfold joinH; rw [List.length_map, List.length_range]
  have lm := uniq_len t
  rw [K.len] at lm
  have ends : ∀ b ∈ bs, b.one < hs.length := fun b hb => (ok.ends b hb).1
  have J := join_ok K ends
  obtain ⟨rk, hrk⟩ := ok.rank
  have of_ : ∀ {c}, c ∈ joinB bs t → ∃ k b, k < (uniq t).length ∧ b ∈ comeB bs (rep t k) ∧ c = ⟨kd t b.one, k, b.th⟩ := fun {c} hc => by
    obtain ⟨k, hk, h1⟩ := mem_join hc
    obtain ⟨b, hb, e⟩ := List.mem_map.mp h1
    exact ⟨k, b, hk, hb, e.symm⟩
  refine ⟨by rw [ln]; exact Nat.le_trans lm ok.hands, fun h hh => ?_, fun c hc => ?_, fun c hc h e => ?_, fun c hc => ?_, ⟨rkK t rk, join_rank ok K hrk⟩, fun k h e => ?_, Nat.le_trans (join_many ok K) ok.many⟩
  · obtain ⟨k, hk, rfl⟩ := List.mem_map.mp hh
    have hk := List.mem_range.mp hk
    obtain ⟨r1, r2⟩ := rep_lt K hk
    have er := List.getElem?_eq_getElem r1
    obtain ⟨g1, _⟩ := ok.good _ (List.mem_of_getElem? er)
    have ne : (alk t k).map (fun i => (gH hs i).mom) ≠ [] := fun z => by
      obtain ⟨_, _, m, _⟩ := rep_of ((canon_all K.canon k).mpr hk)
      rw [List.map_eq_nil_iff.mp z] at m
      cases m
    obtain ⟨i, hi, ei⟩ := List.mem_map.mp (minL_mem ne)
    have il : i < hs.length := by rw [← K.len]; exact List.mem_range.mp (List.mem_filter.mp hi).1
    have gi := (ok.good _ (List.mem_of_getElem? (List.getElem?_eq_getElem il))).2
    have mo : (joinH1 hs t k).mom = hs[i].mom := by
      show minL ((alk t k).map fun i => (gH hs i).mom) = _
      rw [← ei, gH_at (List.getElem?_eq_getElem il)]
    have w1 : (joinH1 hs t k).wd = hs[rep t k].wd := by show (gH hs (rep t k)).wd = _; rw [gH_at er]
    have w2 : (joinH1 hs t k).no = hs[rep t k].no := by show (gH hs (rep t k)).no = _; rw [gH_at er]
    refine ⟨?_, by rw [mo]; exact gi⟩
    rcases g1 with g | g
    · exact .inl ⟨by rw [w1]; exact g.wd, by rw [w1, w2]; exact g.no, by rw [w2]; exact g.big⟩
    · exact .inr ⟨by rw [w1]; exact g.1, by rw [w2]; exact g.2⟩
  · obtain ⟨k, b, hk, hb, rfl⟩ := of_ hc
    rw [ln]
    exact ⟨kd_lt K (ends b (come_mem hb)), hk⟩
  · obtain ⟨k, b, hk, hb, rfl⟩ := of_ hc
    have bl := ends b (come_mem hb)
    have eb := List.getElem?_eq_getElem bl
    obtain ⟨h', e1, w, _⟩ := J.hand _ _ eb
    have e : (joinH hs t)[kd t b.one]? = some h := e
    rw [e] at e1
    rw [Option.some.inj e1, w]
    exact ok.out b (come_mem hb) _ eb
  · obtain ⟨k, b, hk, hb, rfl⟩ := of_ hc
    exact ok.th b (come_mem hb)
  · have kl : k < (uniq t).length := by rw [← ln]; exact (List.getElem?_eq_some_iff.mp e).1
    obtain ⟨r1, r2⟩ := rep_lt K kl
    have er := List.getElem?_eq_getElem r1
    have c := ok.count _ _ er
    rw [joinH_at kl] at e
    rw [← Option.some.inj e]
    have w1 : (joinH1 hs t k).wd = hs[rep t k].wd := by show (gH hs (rep t k)).wd = _; rw [gH_at er]
    rw [w1, ← c, count_filter, count_filter]
    have cj := come_join (bs := bs) kl
    show (((comeB (joinB bs t) k).length : Nat) : Int) = _
    rw [cj]
    unfold joinB1
    rw [List.length_map]
    rfl
end
/-! ### max, min of a list with a default -/
def rMaxDf (K : PySem.W.Frag) : List V → List V → Hp → VK → Prop := fun xs zs H Q => ∃ (a : Addr) (ns : List Int) (d : V), xs = [.ref a] ∧ zs = [d] ∧ SqL K H a (ns.map V.int) ∧ (ns = [] → Q d H) ∧ ∀ m, m ∈ ns → (∀ y ∈ ns, y ≤ m) → Q (.int m) H
def rMinDf (K : PySem.W.Frag) : List V → List V → Hp → VK → Prop := fun xs zs H Q => ∃ (a : Addr) (ns : List Int) (d : V), xs = [.ref a] ∧ zs = [d] ∧ SqL K H a (ns.map V.int) ∧ (ns = [] → Q d H) ∧ ∀ m, m ∈ ns → (∀ y ∈ ns, m ≤ y) → Q (.int m) H
theorem ints_val {ns : List Int} {its : List Value} (rv : Vals (ns.map V.int) its) : ∀ i v, its.toArray[i]? = some v → ∃ t, v = Value.int (ns.getD i 0) t := fun i v e => by
  rw [List.getElem?_toArray] at e
  have il : i < ns.length := by
    have h1 := (List.getElem?_eq_some_iff.mp e).1
    have h2 := rv.length
    rw [List.length_map] at h2
    omega
  obtain ⟨u, eu, t, ru⟩ := rv.get (i := i) (x := .int ns[i]) (by rw [List.getElem?_map, List.getElem?_eq_getElem il]; rfl)
  rw [e] at eu
  cases eu
  exact ⟨t, by rw [ru, List.getD_eq_getElem?_getD, List.getElem?_eq_getElem il]; rfl⟩
section
variable {X : Cx}
theorem cr_maxDf (K : PySem.W.Frag) (hk : X.K = K) (hc : X.calm = true) : CallRK X (.builtin "max") ["default"] (rMaxDf K) := by
  subst hk
  intro pins s σ H xs zs us ws Q I r r2 h
  obtain ⟨a, ns, d, rfl, rfl, hs, q0, q1⟩ := h
  obtain ⟨its, rv, hl, _⟩ := I.list hs
  rw [Vals.ref1 r]
  obtain ⟨dv, rfl, rd⟩ := vals1 r2
  have hh := I.ok.hd hc
  have ln : its.length = ns.length := by rw [← rv.length, List.length_map]
  show wpAny _ _ (call (.builtin "max") [.ref a] [(Str.ofString "default", dv)]) _ _ s
  refine PySem.call_max_walkD (PySem.W.iter_listW (A := X.A.in1) hh hl.isList fun s₂ e W st hfp hw hk => ?_)
  refine ⟨_, _, _, _, _, _, _, s.heap, (fun i j => decide (ns.getD i 0 > ns.getD j 0)), rfl, W, st, hfp, hw, hk, fun hz s' m => ?_, fun hp => ⟨fun i j vi vj s3 Q3 E3 _ p1 p2 q3 => ?_, fun v s' hP m => ?_⟩⟩
  · obtain ⟨h', tk, rfl, hk'⟩ := PySem.W.moved_old e rfl m
    refine ⟨d, H, I.kept hk', rd, q0 ?_⟩
    exact List.eq_nil_of_length_eq_zero (by have : its.toArray.size = 0 := hz; rw [List.size_toArray] at this; omega)
  · exact (CmpOf.ints_gt (fun i => ns.getD i 0) (ints_val rv)) i j vi vj s3 Q3 E3 p1 p2 q3
  · obtain ⟨h', tk, rfl, hk'⟩ := PySem.W.moved_old e rfl m
    have hp : 0 < its.length := by have : 0 < its.toArray.size := hp; rw [List.size_toArray] at this; exact this
    have hsz : its.toArray.size = its.length := List.size_toArray
    obtain ⟨t, rfl⟩ := ints_val rv _ v hP
    obtain ⟨h1, h2⟩ := argBest_gt (fun i => ns.getD i 0) (its.toArray.size - 1)
    refine ⟨.int _, H, I.kept hk', ⟨_, rfl⟩, q1 _ ?_ fun y hy => ?_⟩
    · have il : argBest (fun i j => decide (ns.getD i 0 > ns.getD j 0)) (its.toArray.size - 1) < ns.length := by omega
      rw [List.getD_eq_getElem?_getD, List.getElem?_eq_getElem il]
      exact List.getElem_mem _
    · obtain ⟨j, hj⟩ := List.getElem?_of_mem hy
      have jl := (List.getElem?_eq_some_iff.mp hj).1
      have := h2 j (by omega)
      rw [show ns.getD j 0 = y by rw [List.getD_eq_getElem?_getD, hj]; rfl] at this
      exact this
theorem cr_minDf (K : PySem.W.Frag) (hk : X.K = K) (hc : X.calm = true) : CallRK X (.builtin "min") ["default"] (rMinDf K) := by
  subst hk
  intro pins s σ H xs zs us ws Q I r r2 h
  obtain ⟨a, ns, d, rfl, rfl, hs, q0, q1⟩ := h
  obtain ⟨its, rv, hl, _⟩ := I.list hs
  rw [Vals.ref1 r]
  obtain ⟨dv, rfl, rd⟩ := vals1 r2
  have hh := I.ok.hd hc
  have ln : its.length = ns.length := by rw [← rv.length, List.length_map]
  show wpAny _ _ (call (.builtin "min") [.ref a] [(Str.ofString "default", dv)]) _ _ s
  refine PySem.call_min_walkD (PySem.W.iter_listW (A := X.A.in1) hh hl.isList fun s₂ e W st hfp hw hk => ?_)
  refine ⟨_, _, _, _, _, _, _, s.heap, (fun i j => decide (ns.getD i 0 < ns.getD j 0)), rfl, W, st, hfp, hw, hk, fun hz s' m => ?_, fun hp => ⟨fun i j vi vj s3 Q3 E3 _ p1 p2 q3 => ?_, fun v s' hP m => ?_⟩⟩
  · obtain ⟨h', tk, rfl, hk'⟩ := PySem.W.moved_old e rfl m
    refine ⟨d, H, I.kept hk', rd, q0 ?_⟩
    exact List.eq_nil_of_length_eq_zero (by have : its.toArray.size = 0 := hz; rw [List.size_toArray] at this; omega)
  · exact (CmpOf.ints_lt (fun i => ns.getD i 0) (ints_val rv)) i j vi vj s3 Q3 E3 p1 p2 q3
  · obtain ⟨h', tk, rfl, hk'⟩ := PySem.W.moved_old e rfl m
    have hp : 0 < its.length := by have : 0 < its.toArray.size := hp; rw [List.size_toArray] at this; exact this
    have hsz : its.toArray.size = its.length := List.size_toArray
    obtain ⟨t, rfl⟩ := ints_val rv _ v hP
    obtain ⟨h1, h2⟩ := argBest_lt (fun i => ns.getD i 0) (its.toArray.size - 1)
    refine ⟨.int _, H, I.kept hk', ⟨_, rfl⟩, q1 _ ?_ fun y hy => ?_⟩
    · have il : argBest (fun i j => decide (ns.getD i 0 < ns.getD j 0)) (its.toArray.size - 1) < ns.length := by omega
      rw [List.getD_eq_getElem?_getD, List.getElem?_eq_getElem il]
      exact List.getElem_mem _
    · obtain ⟨j, hj⟩ := List.getElem?_of_mem hy
      have jl := (List.getElem?_eq_some_iff.mp hj).1
      have := h2 j (by omega)
      rw [show ns.getD j 0 = y by rw [List.getD_eq_getElem?_getD, hj]; rfl] at this
      exact this
end
/-! ### max of a tuple of numbers, with a default -/
def rMaxDfT (K : PySem.W.Frag) : List V → List V → Hp → VK → Prop := fun xs zs H Q => ∃ (a : Addr) (ns : List Int) (d : V), xs = [.ref a] ∧ zs = [d] ∧ SqT K H a (ns.map V.int) ∧ ∀ v, (ns = [] ∧ v = d ∨ ∃ m, m ∈ ns ∧ v = .int m ∧ ∀ y ∈ ns, y ≤ m) → Q v H
theorem cr_maxDfT {X : Cx} (K : PySem.W.Frag) (hk : X.K = K) (hc : X.calm = true) : CallRK X (.builtin "max") ["default"] (rMaxDfT K) := by
  subst hk
  intro pins s σ H xs zs us ws Q I r r2 h
  obtain ⟨a, ns, d, rfl, rfl, hs, q⟩ := h
  obtain ⟨its, rv, hl, _⟩ := I.tuple hs
  rw [Vals.ref1 r]
  obtain ⟨dv, rfl, rd⟩ := vals1 r2
  have hh := I.ok.hd hc
  have ln : its.length = ns.length := by rw [← rv.length, List.length_map]
  show wpAny _ _ (call (.builtin "max") [.ref a] [(Str.ofString "default", dv)]) _ _ s
  refine PySem.call_max_walkD (PySem.W.iter_tupleW (A := X.A.in1) hh hl fun s₂ e W st hfp hw hk => ?_)
  refine ⟨_, _, _, _, _, _, _, s.heap, (fun i j => decide (ns.getD i 0 > ns.getD j 0)), rfl, W, st, hfp, hw, hk, fun hz s' m => ?_, fun hp => ⟨fun i j vi vj s3 Q3 E3 _ p1 p2 q3 => ?_, fun v s' hP m => ?_⟩⟩
  · obtain ⟨h', tk, rfl, hk'⟩ := PySem.W.moved_old e rfl m
    refine ⟨d, H, I.kept hk', rd, q _ (.inl ⟨?_, rfl⟩)⟩
    exact List.eq_nil_of_length_eq_zero (by have : its.toArray.size = 0 := hz; rw [List.size_toArray] at this; omega)
  · exact (CmpOf.ints_gt (fun i => ns.getD i 0) (ints_val rv)) i j vi vj s3 Q3 E3 p1 p2 q3
  · obtain ⟨h', tk, rfl, hk'⟩ := PySem.W.moved_old e rfl m
    have hp : 0 < its.length := by have : 0 < its.toArray.size := hp; rw [List.size_toArray] at this; exact this
    have hsz : its.toArray.size = its.length := List.size_toArray
    obtain ⟨t, rfl⟩ := ints_val rv _ v hP
    obtain ⟨h1, h2⟩ := argBest_gt (fun i => ns.getD i 0) (its.toArray.size - 1)
    refine ⟨.int _, H, I.kept hk', ⟨_, rfl⟩, q _ (.inr ⟨_, ?_, rfl, fun y hy => ?_⟩)⟩
    · have il : argBest (fun i j => decide (ns.getD i 0 > ns.getD j 0)) (its.toArray.size - 1) < ns.length := by omega
      rw [List.getD_eq_getElem?_getD, List.getElem?_eq_getElem il]
      exact List.getElem_mem _
    · obtain ⟨j, hj⟩ := List.getElem?_of_mem hy
      have jl := (List.getElem?_eq_some_iff.mp hj).1
      have := h2 j (by omega)
      rw [show ns.getD j 0 = y by rw [List.getD_eq_getElem?_getD, hj]; rfl] at this
      exact this
/-! ### how many things a set of a tuple of numbers has -/
theorem nd_le : ∀ l D : List Int, l.Nodup → (∀ x ∈ l, x ∈ D) → l.length ≤ D.length
  | [], _, _, _ => Nat.zero_le _
  | x :: l, D, h, sub => by
    obtain ⟨h1, h2⟩ := List.nodup_cons.mp h
    have mx := sub x (List.mem_cons_self ..)
    have ih := nd_le l (D.erase x) h2 fun y hy => (List.mem_erase_of_ne (fun e => h1 (by rw [← e]; exact hy))).mpr (sub y (List.mem_cons_of_mem _ hy))
    rw [List.length_erase_of_mem mx] at ih
    have := List.length_pos_of_mem mx
    rw [List.length_cons]
    omega
def tLenSetT (K : PySem.W.Frag) (ta : TE) : TE := fun σ H Q => ta σ H fun x H1 => ∃ (l : Addr) (ns : List Int), x = .ref l ∧ SqT K H1 l (ns.map V.int) ∧ ns.length ≤ 400 ∧ Q (.int (((uniq ns).length : Nat) : Int)) H1
theorem pe_lenSetT (K : PySem.W.Frag) {X : Cx} (same : X.K = K) {a : Expr} {ta : TE} {p p2 q pos : Pos} (hg : Gl X "len") (hm : X.mg "len" = none) (hg2 : Gl X "set") (hm2 : X.mg "set" = none) (ha : PE X a ta) (hc : X.calm = true := by rfl)
    (na : starEach [a] X.env = (false, eval a X.env) :: starEach [] X.env := by rfl) : PE X (.Call (.Name "len" p) [.Call (.Name "set" p2) [a] [] q] [] pos) (tLenSetT K ta) := by
  subst same
  constructor
  intro pins s σ H Q I h
  refine Call_
    (ld_blt I hg hm boot_len ?_)
  refine PyProof.Rows.callWith_builtin1
    (PyProof.Rows.args_cons ?_ rfl) rfl rfl
  refine Call_
    (ld_blt I hg2 hm2 boot_set ?_)
  refine PyProof.Rows.callWith_type1
    (PyProof.Rows.args_cons (thn (ha.run pins s σ H _ I h) ?_) na) na rfl
  rintro v s1 ⟨x, H1, I1, r1, l, ns, rfl, hq, hl, q1⟩
  refine PyProof.Rows.args_nil ?_
  cases r1
  have ⟨its, r, pl, _⟩ := I1.tuple hq
  refine call_set_tupI ns (I1.ok.hd hc) pl (by simpa using ints_of_valsG r) (by unfold scanBound; omega) fun h' tk c hS hle hk => ?_
  refine PyProof.Rows.args_nil ?_
  obtain ⟨o, es, ep, t, ho, hex, hd, _, nd, mem, _, hf, hn, _⟩ := hS
  have I2 : Inv X pins σ H1 { s1 with heap := h', toks := tk } := I1.kept hk
  have lk : (es.toList.map keyOf).length = es.size := by rw [List.length_map, Array.length_toList]
  have e1 := nd_le _ (uniq ns) nd fun x hx => (mem_uniq ns x).mpr (of_decide_eq_true ((mem x).mpr hx))
  have e2 := nd_le _ (es.toList.map keyOf) (uniq_nodup ns) fun x hx => (mem x).mp (decide_eq_true ((mem_uniq ns x).mp hx))
  have e : es.size = (uniq ns).length := by omega
  have lu := uniq_len ns
  refine call_len_set ho hex hd hf (by rw [e]; omega) ?_
  exact ⟨.int (((uniq ns).length : Nat) : Int), H1, I2.tok _, ⟨_, by rw [e]⟩, q1⟩
section
variable {P : Program} {w : World} {K : PySem.W.Frag} {mg : Str → Option Value} {base : Heap}
theorem flat_len {f : Nat → List BR} (hf : ∀ k, (f k).length ≤ 20) : ∀ m, ((List.range m).flatMap f).length ≤ m * 20
  | 0 => Nat.le_refl _
  | m + 1 => by
    rw [List.range_succ, List.flatMap_append, List.length_append, List.flatMap_singleton]
    have := flat_len hf m
    have := hf m
    omega
theorem joinB1_len {bs : List BR} {t : List Nat} (h : bs.length ≤ 20) (k : Nat) : (joinB1 bs t k).length ≤ 20 := by
  unfold joinB1 comeB
  rw [List.length_map]
  exact Nat.le_trans (List.length_filter_le ..) h
theorem max_kinds {t : List Nat} (c : Canon t) {m : Int} (hm : m ∈ t.map fun n => ((n : Nat) : Int)) (hall : ∀ y ∈ t.map (fun n => ((n : Nat) : Int)), y ≤ m) : m + 1 = (((uniq t).length : Nat) : Int) := by
  obtain ⟨x, hx, rfl⟩ := List.mem_map.mp hm
  have lt := (canon_all c x).mp hx
  have hl : (uniq t).length - 1 ∈ t := (canon_all c _).mpr (by omega)
  have := hall _ (List.mem_map.mpr ⟨_, hl, rfl⟩)
  omega
theorem alk_lt {t : List Nat} {k i : Nat} (h : i ∈ alk t k) : i < t.length := List.mem_range.mp (List.mem_filter.mp h).1
def sp_joined_alike (K : PySem.W.Frag) : Sp := fun vs H Q _ => ∃ (r : Addr) (hs : List HR) (bs : List BR), vs = [.ref r] ∧ RoomAt H r hs bs ∧ RoomOk hs bs ∧
  ∀ (r' : Addr) (t : List Nat) (H' : Hp), KindsOf hs bs t → RoomAt H' r' (joinH hs t) (joinB bs t) → Same H H' → Q (.ref r') H'
theorem ok_joined_alike {f : Addr} {fd : FuncData} (F : Fun K "joined_alike" "joined_alike" s_joined_alike f fd) (T : Top K mg) : FnOk P w K mg base CX0 4 f fd ["room"] (sp_joined_alike K) := by
  obtain ⟨f_kinds, fd_kinds, F_kinds, b_kinds, m_kinds⟩ := T.d_kinds
  have G_kinds := ok_kinds (P := P) (w := w) (base := base) F_kinds T
  obtain ⟨f_comings, fd_comings, F_comings, b_comings, m_comings⟩ := T.d_comings
  have G_comings := ok_comings (P := P) (w := w) (base := base) F_comings T
  refine F.ok sc_joined_alike (fun vs H Q E h => ?_) (fun cdv A outer s H vs Q E hr h => ?_)
  · obtain ⟨r, hs, bs, rfl, _⟩ := h
    rfl
  obtain ⟨r, hs, bs, rfl, hR, ok, q⟩ := h
  have lh := ok.hands
  have lb := ok.many
  refine ⟨_, (pss_cons (ps_set (i := 1) sc_joined_alike.nd rfl (Or.inl rfl) (pe_call G_kinds (hr.mono (by decide)) (by rfl) m_kinds F_kinds.kp b_kinds .nil pass0 (pa_cons (pv 0) pa_nil)))
      (pss_cons (ps_set (i := 2) sc_joined_alike.nd rfl (Or.inl rfl) (pe_lst pa_nil))
      (pss_cons (ps_set (i := 3) sc_joined_alike.nd rfl (Or.inl rfl) (pe_lst pa_nil))
      (pss_cons (ps_for PassesOwn.never rfl (pi_range1 (by rfl) T.m_range (pa_cons (pe_op op_add (pe_callBK (cr_maxDfT K rfl rfl) (by rfl) T.m_max (by decide +kernel) (pa_cons (pv 1) pa_nil) (pk_cons (pe_un un_neg pe_int) pk_nil)) pe_int) pa_nil)) (pg_name (i := 4) sc_joined_alike.nd rfl (Or.inr rfl))
        (pss_cons (ps_setLc (i := 5) (own := [("hand", 6), ("own", 7)]) (g := gTup K 2 (gCons (gName 6) (gCons (gName 7) gNil))) (by rfl) sc_joined_alike.nd rfl rfl (sw_true rfl rfl rfl (by decide +kernel)) (pi_enumT K rfl (by rfl) T.m_enumerate (pa_cons (pv 1) pa_nil)) (blkOk_by (own := [("hand", 6), ("own", 7)]) (N := N_joined_alike) (sc := defScope s_joined_alike) (by decide +kernel)) (fun _ _ _ _ _ => (pg_tupK K rfl rfl (pgs_cons (pg_name (i := 6) sc_joined_alike.nd rfl (Or.inl rfl)) (pgs_cons (pg_name (i := 7) sc_joined_alike.nd rfl (Or.inl rfl)) pgs_nil)))) (fun _ _ _ _ _ => pts_one (pt_cmpR op_eq (pv 7) (pv 4) (nomark _))) (fun _ _ _ _ _ => (pv 6)))
      (pss_cons (ps_expr (pe_bmK K rfl PySem.F.plainAttrs_list PySem.F.slot_list_append PySem.F.type_list_append mt_append (pv 2) (pa_cons (pe_tup (pa_cons (pe_ix (ix_tupK K rfl) (pe_ix (ix_tupK K rfl) (pe_ix (ix_tupK K rfl) (pv 0) pe_int (fun _ _ => rfl)) (pe_ix (ix_listK K rfl) (pv 5) pe_int (fun _ _ => rfl)) (fun _ _ => rfl)) pe_int (fun _ _ => rfl)) (pa_cons (pe_callB (cr_minKK K rfl rfl) (by rfl) T.m_min (by decide +kernel) (pa_cons (pe_lc (own := [("hand", 6)]) (g := gName 6) (tt := tYes) (by rfl) sc_joined_alike.nd (pi_listK K rfl (pv 5)) (blkOk_by (own := [("hand", 6)]) (N := N_joined_alike) (sc := defScope s_joined_alike) (by decide +kernel)) (fun _ _ _ _ _ => (pg_name (i := 6) sc_joined_alike.nd rfl (Or.inl rfl))) (fun _ _ _ _ _ => pts_nil) (fun _ _ _ _ _ => (pe_ix (ix_tupK K rfl) (pe_ix (ix_tupK K rfl) (pe_ix (ix_tupK K rfl) (pv 0) pe_int (fun _ _ => rfl)) (pv 6) (fun _ _ => rfl)) pe_int (fun _ _ => rfl)))) pa_nil)) pa_nil))) pa_nil)))
      (pss_one (ps_for PassesOwn.never rfl (pi_listK K rfl (pe_call G_comings (hr.mono (by decide)) (by rfl) m_comings F_comings.kp b_comings .nil pass0 (pa_cons (pv 0) (pa_cons (pe_ix (ix_listK K rfl) (pv 5) pe_int (fun _ _ => rfl)) pa_nil)))) (pg_name (i := 8) sc_joined_alike.nd rfl (Or.inl rfl))
        (pss_cons (ps_asg (pe_ix (ix_tupK K rfl) (pe_ix (ix_tupK K rfl) (pv 0) pe_int (fun _ _ => rfl)) (pv 8) (fun _ _ => rfl)) (pg_tupK K rfl rfl (pgs_cons (pg_name (i := 9) sc_joined_alike.nd rfl (Or.inl rfl)) (pgs_cons (pg_name (i := 10) sc_joined_alike.nd rfl (Or.inl rfl)) (pgs_cons (pg_name (i := 11) sc_joined_alike.nd rfl (Or.inl rfl)) pgs_nil)))))
      (pss_one (ps_expr (pe_bmK K rfl PySem.F.plainAttrs_list PySem.F.slot_list_append PySem.F.type_list_append mt_append (pv 3) (pa_cons (pe_tup (pa_cons (pe_ix (ix_tupK K rfl) (pv 1) (pv 9) (fun _ _ => rfl)) (pa_cons (pv 4) (pa_cons (pv 11) pa_nil)))) pa_nil))))))))))
      (pss_one (ps_ret (pe_tup (pa_cons (pe_callTy (call_tuple_ofK K rfl) (by rfl) T.m_tuple (by decide +kernel) (pa_cons (pv 2) pa_nil)) (pa_cons (pe_callTy (call_tuple_ofK K rfl) (by rfl) T.m_tuple (by decide +kernel) (pa_cons (pv 3) pa_nil)) pa_nil))))))))), ?_⟩
  refine ⟨_, rfl, r, hs, bs, rfl, hR, ok.good, by omega, fun b hb => (ok.ends b hb).1, by omega, fun p pob t H1 pod kd np hp s1 => ?_⟩
  refine ⟨(by show 0 ≤ sizeLine; decide), fun hl nhl => ⟨(by show 0 ≤ sizeLine; decide), fun bl nbl => ?_⟩⟩
  have tl := kd.len
  let Lv : Nat → L2.St → Hp → Prop := fun k σ H5 => ∃ (hv bv : List V) (x4 x5 x6 x7 x8 x9 x10 x11 : Option V), σ = [some (.ref r), some (.ref p), some (.ref hl), some (.ref bl), x4, x5, x6, x7, x8, x9, x10, x11] ∧ H5 hl = some (.lst hv) ∧ H5 bl = some (.lst bv) ∧ All2 (HandAt H5) hv ((List.range k).map (joinH1 hs t)) ∧ All2 (BeltAt H5) bv ((List.range k).flatMap (joinB1 bs t)) ∧ H5 p = some (.frz pob (.tup (t.map nV))) ∧ Same H H5
  have n1 : hl ≠ bl := fun e => by rw [e] at nbl; rw [upd_same] at nbl; cases nbl
  have npl : p ≠ hl := fun e => by rw [← e, hp] at nhl; cases nhl
  have npb : p ≠ bl := fun e => by rw [← e, upd_ne npl, hp] at nbl; cases nbl
  have s3 : Same H (upd (upd H1 hl (.lst [])) bl (.lst [])) := fun a o e => same_new nbl _ _ (same_new nhl _ _ (s1 _ _ e))
  have hp3 := same_new (o := .lst ([] : List V)) nbl _ _ (same_new (o := .lst ([] : List V)) nhl _ _ hp)
  refine ⟨_, rfl, 1, rfl, p, t.map (fun n => ((n : Nat) : Int)), .int (-(1 : Int)), rfl, rfl, SqT.fz (o := pob) (by rw [List.map_map]; exact hp3), fun v hv => ?_⟩
  obtain ⟨m, rfl, me⟩ : ∃ m : Int, v = .int m ∧ m + 1 = (((uniq t).length : Nat) : Int) := by
    rcases hv with ⟨z, rfl⟩ | ⟨m, hm, rfl, hall⟩
    · have : t = [] := List.map_eq_nil_iff.mp z
      exact ⟨_, rfl, by rw [this]; rfl⟩
    · exact ⟨m, rfl, max_kinds kd.canon hm hall⟩
  have ul := uniq_len t
  have nat_at : ∀ {j : Nat}, j < t.length → (t.map nV)[j]? = some (nV (Mine.kd t j)) := fun {j} h => by
    rw [List.getElem?_map, at_kd h]; rfl
  refine ⟨_, _, rfl, rfl, _, congrArg (fun z => [V.int z]) me, by omega, by omega, for_range (lo := 0) (n := (uniq t).length) Lv ⟨[], [], _, _, _, _, _, _, _, _, rfl, by rw [upd_ne n1]; exact upd_same, upd_same, .nil, .nil, hp3, s3⟩ ?_ ?_⟩
  · rintro k σ H5 hk ⟨hv, bv, x4, x5, x6, x7, x8, x9, x10, x11, rfl, hH, hB, alh, alb, hp5, s5⟩
    obtain ⟨rp1, rp2, rp3, rr, rp4⟩ := rep_of ((canon_all kd.canon k).mpr hk)
    obtain ⟨ha, ba, hv0, bv0, er, eh, eb, alh0, alb0⟩ := hR.ex
    rw [Int.zero_add]
    have nH : ∀ {D : Addr}, H5 D = none → D ≠ hl ∧ D ≠ bl ∧ D ≠ p := fun {D} z => ⟨fun e => (by rw [e, hH] at z; cases z), fun e => (by rw [e, hB] at z; cases z), fun e => (by rw [e, hp5] at z; cases z)⟩
    refine ⟨_, rfl, p, t.map nV, rfl, SqT.fz hp5, fun D nD => lc_it (J := IteT K p (t.map nV)) (n := (t.map nV).length) (fun i H6 => H6 D = some (.lst (((List.range i).filter fun j => decide (t[j]? = some k)).map nV)) ∧ Same H5 H6) ⟨upd_same, same_new nD⟩ ?_ ?_ ?_ ?_⟩
    · rintro i H6 hi ⟨hD, s6⟩
      exact ⟨SqT.fz (s6 _ _ hp5), hi⟩
    · rintro H6 ⟨hD, s6⟩
      exact ⟨SqT.fz (s6 _ _ hp5), rfl⟩
    · rintro i x H6 H7 hi ⟨hD, s6⟩ ⟨u, y, rfl, nu, rfl, ey⟩
      have il : i < t.length := by rw [List.length_map] at hi; exact hi
      rw [nat_at il] at ey
      obtain rfl := Option.some.inj ey
      have s7 := s6.trans (same_new (o := .tup [V.int ((i : Nat) : Int), nV (Mine.kd t i)]) nu)
      have hD7 := same_new (o := .tup [V.int ((i : Nat) : Int), nV (Mine.kd t i)]) nu _ _ hD
      have few := filt_len (p := fun j => decide (t[j]? = some k)) i
      refine ⟨u, _, rfl, SqT.of upd_same, rfl, _, _, rfl, _, _, rfl, rfl, rfl, _, rfl, _, rfl, rfl, _, rfl, if_bl (fun c => ?_) (fun c => ?_)⟩
      · have c : Mine.kd t i = k := by have := V.int.inj (of_decide_eq_true c); omega
        refine ⟨_, rfl, _, hD7, by rw [List.length_map]; exact small1000 (by omega), ?_, Same.own s7 nD⟩
        rw [upd_same, filt_succ, if_pos (decide_eq_true (by rw [at_kd il, c])), List.map_append]
        rfl
      · have c : ¬ Mine.kd t i = k := fun z => of_decide_eq_false c (by rw [z])
        refine ⟨?_, s7⟩
        rw [filt_succ, if_neg fun z => c (by have := of_decide_eq_true z; rw [at_kd il] at this; exact Option.some.inj this), List.append_nil]
        exact hD7
    rintro H6 ⟨hD, s6⟩
    rw [List.length_map] at hD
    replace hD : H6 D = some (.lst ((alk t k).map nV)) := hD
    obtain ⟨gv, egv, t2, rr2, rfl, e1, e2⟩ := alh0.get (List.getElem?_eq_getElem (l := hs) (i := rep t k) (by omega))
    have s06 : Same H H6 := s5.trans s6
    have al0 : atI ((alk t k).map nV) 0 = some (nV (rep t k)) := by rw [rp4]; exact atI_nat (j := 0) rfl
    have hH6 := s6 _ _ hH
    refine ⟨_, rfl, .inl ⟨rfl, _, SqL.of hH6⟩, _, rfl, r, _, _, _, rfl, rfl, SqT.of (s06 _ _ er), atI_nat (j := 0) rfl, _, rfl, D, _, _, _, rfl, rfl, SqL.of hD, al0, ha, _, _, _, rfl, rfl, SqT.of (s06 _ _ eh), atI_nat egv, t2, _, _, _, rfl, rfl, SqT.of (s06 _ _ e1), atI_nat (j := 0) rfl, ?_⟩
    refine ⟨_, rfl, D, rfl, ⟨_, SqL.of hD⟩, fun E nE => lc_list (K := K) (a := D) (xs := (alk t k).map nV) (fun i H7 => H7 E = some (.lst (((alk t k).take i).map fun j => V.int (gH hs j).mom)) ∧ Same H6 H7) ⟨upd_same, same_new nE⟩ (fun i H7 _ ⟨_, s7⟩ => SqL.of (s7 _ _ hD)) ?_ ?_⟩
    · rintro i v H7 hx ⟨hE, s7⟩
      rw [List.getElem?_map] at hx
      cases hj : (alk t k)[i]? with
      | none => rw [hj] at hx; cases hx
      | some j =>
        rw [hj] at hx
        obtain rfl : nV j = v := Option.some.inj hx
        have jl := alk_lt (List.mem_of_getElem? hj)
        have ej := List.getElem?_eq_getElem (l := hs) (i := j) (by omega)
        obtain ⟨gv3, egv3, t3, rr3, rfl, e3, e4⟩ := alh0.get ej
        have s07 : Same H H7 := s06.trans s7
        have il := (List.getElem?_eq_some_iff.mp hj).1
        have al2 : (alk t k).length ≤ t.length := Nat.le_trans (List.length_filter_le ..) (by rw [List.length_range]; exact Nat.le_refl _)
        refine ⟨rfl, yes_in ⟨_, rfl, r, _, _, _, rfl, rfl, SqT.of (s07 _ _ er), atI_nat (j := 0) rfl, _, rfl, ha, _, _, _, rfl, rfl, SqT.of (s07 _ _ eh), atI_nat egv3, t3, _, _, _, rfl, rfl, SqT.of (s07 _ _ e3), atI_nat (j := 1) rfl, _, hE, by rw [List.length_map, List.length_take]; exact small1000 (by omega), ?_, Same.own s7 nE⟩⟩
        rw [upd_same, List.take_add_one, hj, List.map_append, ← gH_at ej]
        rfl
    rintro H7 ⟨hE, s7⟩
    rw [List.length_map, List.take_length] at hE
    have s07 : Same H H7 := s06.trans s7
    have s57 : Same H5 H7 := s6.trans s7
    refine ⟨E, (alk t k).map fun j => (gH hs j).mom, rfl, SqL.of (by rw [List.map_map]; exact hE), by rw [List.length_map, rp4]; exact Nat.succ_pos _, fun m hm hall => ?_⟩
    obtain rfl : m = (joinH1 hs t k).mom := Int.le_antisymm (hall _ (minL_mem (List.ne_nil_of_mem hm))) (minL_le _ hm)
    have hHn := same_none s1 nhl
    have nbl1 : H1 bl = none := by rw [← nbl, upd_ne (fun e => by rw [e] at nbl; rw [upd_same] at nbl; cases nbl)]
    have hBn := same_none s1 nbl1
    refine ⟨(by show 2 ≤ sizeLine; decide), fun q1 nq1 => ?_⟩
    have s8 := same_new (o := .tup [V.ref rr2, V.int (joinH1 hs t k).mom]) nq1
    have hH7 := s57 _ _ hH
    have hH8 := s8 _ _ hH7
    have lhv := alh.length
    rw [List.length_map, List.length_range] at lhv
    have k8 : TK H5 (upd (upd H7 q1 (.tup [V.ref rr2, V.int (joinH1 hs t k).mom])) hl (.lst (hv ++ [V.ref q1]))) := ((TK.same s57).trans (TK.same s8)).trans (TK.lst hH8)
    have s09 : Same H (upd (upd H7 q1 (.tup [V.ref rr2, V.int (joinH1 hs t k).mom])) hl (.lst (hv ++ [V.ref q1]))) := Same.own (fun a o e => s8 _ _ (s07 _ _ e)) hHn
    have nD5 := nH (same_none (same_new (o := .lst ([] : List V)) nD |> fun _ => (fun _ _ e => e : Same H5 H5)) nD)
    have hD7 : H7 D = some (.lst ((alk t k).map nV)) := s7 _ _ hD
    have hD9 : upd (upd H7 q1 (.tup [V.ref rr2, V.int (joinH1 hs t k).mom])) hl (.lst (hv ++ [V.ref q1])) D = some (.lst ((alk t k).map nV)) := by rw [upd_ne nD5.1]; exact s8 _ _ hD7
    have hB9 : upd (upd H7 q1 (.tup [V.ref rr2, V.int (joinH1 hs t k).mom])) hl (.lst (hv ++ [V.ref q1])) bl = some (.lst bv) := by rw [upd_ne (Ne.symm n1)]; exact s8 _ _ (s57 _ _ hB)
    have hH9 : upd (upd H7 q1 (.tup [V.ref rr2, V.int (joinH1 hs t k).mom])) hl (.lst (hv ++ [V.ref q1])) hl = some (.lst (hv ++ [V.ref q1])) := upd_same
    have hp9 : upd (upd H7 q1 (.tup [V.ref rr2, V.int (joinH1 hs t k).mom])) hl (.lst (hv ++ [V.ref q1])) p = some (.frz pob (.tup (t.map nV))) := by rw [upd_ne npl]; exact s8 _ _ (s57 _ _ hp5)
    have alh9 : All2 (HandAt (upd (upd H7 q1 (.tup [V.ref rr2, V.int (joinH1 hs t k).mom])) hl (.lst (hv ++ [V.ref q1])))) (hv ++ [V.ref q1]) ((List.range (k + 1)).map (joinH1 hs t)) := by
      rw [List.range_succ, List.map_append]
      refine (alh.imp fun _ _ z => z.keep k8).snoc ⟨q1, rr2, rfl, TK.lst hH8 _ _ upd_same, ?_⟩
      have := s09 _ _ e2
      rw [this]
      unfold ruleL joinH1
      rw [gH_at (List.getElem?_eq_getElem (l := hs) (i := rep t k) (by omega))]
    have alb9 := alb.imp fun _ _ z => z.keep k8
    refine ⟨hl, hv, _, rfl, rfl, hH8, small1000 (by omega), ?_⟩
    generalize upd (upd H7 q1 (.tup [V.ref rr2, V.int (joinH1 hs t k).mom])) hl (.lst (hv ++ [V.ref q1])) = H9 at *
    refine ⟨_, rfl, _, rfl, D, _, _, _, rfl, rfl, SqL.of hD9, al0, r, hs, bs, rep t k, rfl, hR.keep (TK.same s09), by omega, fun c Hc nc hc sc => ⟨c, rfl, ⟨_, SqL.of hc⟩, for_list (K := K) (a := c) (xs := (comingN bs (rep t k)).map nV) (fun i σ H10 => ∃ (bv2 : List V) (y8 y9 y10 y11 : Option V), σ = [some (.ref r), some (.ref p), some (.ref hl), some (.ref bl), some (nV k), some (.ref D), x6, x7, y8, y9, y10, y11] ∧ H10 hl = some (.lst (hv ++ [V.ref q1])) ∧ H10 bl = some (.lst bv2) ∧ All2 (HandAt H10) (hv ++ [V.ref q1]) ((List.range (k + 1)).map (joinH1 hs t)) ∧ All2 (BeltAt H10) bv2 ((List.range k).flatMap (joinB1 bs t) ++ (joinB1 bs t k).take i) ∧ H10 p = some (.frz pob (.tup (t.map nV))) ∧ H10 c = some (.lst ((comingN bs (rep t k)).map nV)) ∧ Same H H10)
      ⟨bv, _, _, _, _, rfl, sc _ _ hH9, sc _ _ hB9, alh9.imp fun _ _ z => z.keep (TK.same sc), by rw [List.take_zero, List.append_nil]; exact alb9.imp fun _ _ z => z.keep (TK.same sc), sc _ _ hp9, hc, s09.trans sc⟩ (fun i σ H10 _ ⟨_, _, _, _, _, _, _, _, _, _, _, h, _⟩ => SqL.of h) ?_ ?_⟩⟩
    · rintro i v σ H10 hx ⟨bv2, y8, y9, y10, y11, rfl, hH10, hB10, alh10, alb10, hp10, hc10, s10⟩
      have cl := come_list bs (rep t k)
      rw [List.getElem?_map] at hx
      cases hj : (comingN bs (rep t k))[i]? with
      | none => rw [hj] at hx; cases hx
      | some j =>
        rw [hj] at hx
        obtain rfl : nV j = v := Option.some.inj hx
        obtain ⟨b, eb1, eb2⟩ := cl.getL hj
        obtain ⟨bvx, ebx, tb, g, rfl, e5, e6⟩ := alb0.get eb2
        have bl_ := (ok.ends b (List.mem_of_getElem? eb2)).1
        have lbv := alb10.length
        rw [List.length_append, List.length_take] at lbv
        have fl := flat_len (fun k => joinB1_len (t := t) lb k) k
        have jl := joinB1_len (t := t) lb k
        refine ⟨_, rfl, r, _, _, _, rfl, rfl, SqT.of (s10 _ _ er), atI_nat (j := 1) rfl, _, rfl, ba, _, _, _, rfl, rfl, SqT.of (s10 _ _ eb), atI_nat ebx, tb, _, rfl, SqT.of (s10 _ _ e5), rfl, _, _, rfl, _, _, rfl, _, _, rfl, rfl, _, rfl, .inl ⟨rfl, _, SqL.of hB10⟩, _, rfl, _, rfl, p, _, _, _, rfl, rfl, SqT.fz hp10, atI_nat (nat_at (by omega)), _, rfl, _, rfl, (by show 3 ≤ sizeLine; decide), fun q2 nq2 => ?_⟩
        have s11 := same_new (o := .tup [nV (Mine.kd t b.one), nV k, V.ref g]) nq2
        have hB11 := s11 _ _ hB10
        have k11 : TK H10 _ := (TK.same s11).trans (TK.lst (ys := bv2 ++ [V.ref q2]) hB11)
        refine ⟨bl, bv2, _, rfl, rfl, hB11, small1000 (by omega), bv2 ++ [V.ref q2], _, _, _, _, rfl, by rw [upd_ne n1]; exact s11 _ _ hH10, upd_same, alh10.imp fun _ _ z => z.keep k11, ?_, (by rw [upd_ne npb]; exact s11 _ _ hp10), ?_, Same.own (fun a o e => s11 _ _ (s10 _ _ e)) hBn⟩
        · rw [show (joinB1 bs t k).take (i + 1) = (joinB1 bs t k).take i ++ [⟨Mine.kd t b.one, k, b.th⟩] by
            rw [List.take_add_one]
            unfold joinB1
            rw [List.getElem?_map, eb1]
            rfl, ← List.append_assoc]
          exact (alb10.imp fun _ _ z => z.keep k11).snoc ⟨q2, g, rfl, TK.lst hB11 _ _ upd_same, k11 _ _ (s10 _ _ e6)⟩
        · rw [upd_ne (fun e => by rw [e, hB9] at nc; cases nc)]
          exact s11 _ _ hc10
    · rintro σ H10 ⟨bv2, y8, y9, y10, y11, rfl, hH10, hB10, alh10, alb10, hp10, hc10, s10⟩
      refine ⟨_, _, _, _, _, _, _, _, _, _, rfl, hH10, hB10, alh10, ?_, hp10, s10⟩
      rw [List.length_map, (come_list bs (rep t k)).length] at alb10
      rw [show (joinB1 bs t k).take (comeB bs (rep t k)).length = joinB1 bs t k from List.take_of_length_le (by unfold joinB1; rw [List.length_map]; exact Nat.le_refl _)] at alb10
      rw [List.range_succ, List.flatMap_append, List.flatMap_singleton]
      exact alb10
  · rintro σ H5 ⟨hv, bv, x4, x5, x6, x7, x8, x9, x10, x11, rfl, hH, hB, alh, alb, hp5, s5⟩
    refine ⟨_, rfl, hl, hv, rfl, .inl ⟨SqL.of hH, fun h1 nh1 => ?_⟩⟩
    have s6 := same_new (o := .tup hv) nh1
    refine ⟨_, rfl, bl, bv, rfl, .inl ⟨SqL.of (s6 _ _ hB), fun h2 nh2 => ?_⟩⟩
    have s7 := s6.trans (same_new (o := .tup bv) nh2)
    refine ⟨(by show 2 ≤ sizeLine; decide), fun r' nr' => ?_⟩
    have s8 := same_new (o := .tup [V.ref h1, V.ref h2]) nr'
    have k8 := (TK.same s7).trans (TK.same s8)
    exact q r' t _ kd ⟨h1, h2, hv, bv, upd_same, s8 _ _ (same_new (o := .tup bv) nh2 _ _ upd_same), s8 _ _ upd_same, alh.imp fun _ _ z => z.keep k8, alb.imp fun _ _ z => z.keep k8⟩ fun a o e => s8 _ _ (s7 _ _ (s5 _ _ e))
end
section
variable {P : Program} {w : World} {K : PySem.W.Frag} {mg : Str → Option Value} {base : Heap}
theorem alike_looks {hs : List HR} {bs : List BR} {j k : Nat} (al : AlikeH hs bs j k) (hj : j < hs.length) (hk : k < hs.length) (ne : j ≠ k) : Looks hs bs j k := by
  refine ⟨(al.first hj hk).resolve_left ne, ?_⟩
  have : ∀ {as cs : List BR}, All2 (fun b c : BR => b.th = c.th ∧ AlikeH hs bs b.one c.one) as cs → as.map BR.th = cs.map BR.th := by
    intro as cs a
    induction a with
    | nil => rfl
    | cons r _ ih => rw [List.map_cons, List.map_cons, ih, r.1]
  exact this (al.come hj hk)
def sp_law_closed (K : PySem.W.Frag) : Sp := fun vs H Q _ => ∃ (r p : Addr) (hs : List HR) (bs : List BR) (t : List Nat), vs = [.ref r, .ref p] ∧ RoomAt H r hs bs ∧ (∀ h ∈ hs, GoodHand h) ∧ hs.length ≤ 12 ∧ bs.length ≤ 20 ∧ (∀ b ∈ bs, b.one < hs.length) ∧ (∃ ob, H p = some (.frz ob (.tup (t.map nV)))) ∧ KindsOf hs bs t ∧ ∀ H', Same H H' → Q (.bl true) H'
theorem ok_law_closed {f : Addr} {fd : FuncData} (F : Fun K "_law_closed" "_law_closed" s_law_closed f fd) (T : Top K mg) : FnOk P w K mg base CX0 3 f fd ["_law_room_here", "_law_numbers"] (sp_law_closed K) := by
  obtain ⟨f_law_looks_alike, fd_law_looks_alike, F_law_looks_alike, b_law_looks_alike, m_law_looks_alike⟩ := T.d_law_looks_alike
  have G_law_looks_alike := ok_law_looks_alike (P := P) (w := w) (base := base) F_law_looks_alike T
  obtain ⟨f_law_givers, fd_law_givers, F_law_givers, b_law_givers, m_law_givers⟩ := T.d_law_givers
  have G_law_givers := ok_law_givers (P := P) (w := w) (base := base) F_law_givers T
  refine F.ok sc_law_closed (fun vs H Q E h => ?_) (fun cdv A outer s H vs Q E hr h => ?_)
  · obtain ⟨r, p, hs, bs, t, rfl, _⟩ := h
    rfl
  obtain ⟨r, p, hs, bs, t, rfl, hR, gd, lh, lb, ends, ⟨ob, hp⟩, kd0, q⟩ := h
  have tl := kd0.len
  have tat : ∀ {k : Nat}, k < hs.length → (t.map nV)[k]? = some (nV (kd t k)) := fun {k} h => by rw [List.getElem?_map, at_kd (by omega)]; rfl
  have lm : (t.map nV).length = t.length := List.length_map ..
  have tsq : ∀ {H' : Hp}, Same H H' → H' p = some (.frz ob (.tup (t.map nV))) := fun s => s _ _ hp
  refine ⟨_, (pss_cons (ps_for PassesOwn.never rfl (pi_range1 (by rfl) T.m_range (pa_cons (pe_callB (call_len_seqK K rfl) (by rfl) T.m_len (by decide +kernel) (pa_cons (pv 1) pa_nil)) pa_nil)) (pg_name (i := 2) sc_law_closed.nd rfl (Or.inl rfl))
        (pss_one (ps_for PassesOwn.never rfl (pi_range1 (by rfl) T.m_range (pa_cons (pv 2) pa_nil)) (pg_name (i := 3) sc_law_closed.nd rfl (Or.inl rfl))
        (pss_one (ps_if (pt_cmpR op_eq (pe_ix (ix_tupK K rfl) (pv 1) (pv 2) (fun _ _ => rfl)) (pe_ix (ix_tupK K rfl) (pv 1) (pv 3) (fun _ _ => rfl)) (nomark _)) (pss_cons (ps_if (pt_not (pt_val (pe_call G_law_looks_alike (hr.mono (by decide)) (by rfl) m_law_looks_alike F_law_looks_alike.kp b_law_looks_alike .nil pass0 (pa_cons (pv 0) (pa_cons (pv 2) (pa_cons (pv 3) pa_nil)))))) (pss_one (ps_ret pe_bl)) pss_nil)
      (pss_cons (ps_set (i := 4) sc_law_closed.nd rfl (Or.inl rfl) (pe_listZip K rfl (by rfl) T.m_list (by rfl) T.m_zip (pa_cons (pe_call G_law_givers (hr.mono (by decide)) (by rfl) m_law_givers F_law_givers.kp b_law_givers .nil pass0 (pa_cons (pv 0) (pa_cons (pv 2) pa_nil))) (pa_cons (pe_call G_law_givers (hr.mono (by decide)) (by rfl) m_law_givers F_law_givers.kp b_law_givers .nil pass0 (pa_cons (pv 0) (pa_cons (pv 3) pa_nil))) pa_nil))))
      (pss_one (ps_if (pt_not (pt_val (pe_callB (cr_allK K rfl rfl) (by rfl) T.m_all (by decide +kernel) (pa_cons (pe_lc (own := [("_law_one", 5), ("_law_other", 6)]) (g := gTup K 2 (gCons (gName 5) (gCons (gName 6) gNil))) (tt := tYes) (by rfl) sc_law_closed.nd (pi_listK K rfl (pv 4)) (blkOk_by (own := [("_law_one", 5), ("_law_other", 6)]) (N := N_law_closed) (sc := defScope s_law_closed) (by decide +kernel)) (fun _ _ _ _ _ => (pg_tupK K rfl rfl (pgs_cons (pg_name (i := 5) sc_law_closed.nd rfl (Or.inl rfl)) (pgs_cons (pg_name (i := 6) sc_law_closed.nd rfl (Or.inl rfl)) pgs_nil)))) (fun _ _ _ _ _ => pts_nil) (fun _ _ _ _ _ => (pe_cmpR op_eq (pe_ix (ix_tupK K rfl) (pv 1) (pe_ix (ix_tupK K rfl) (pv 5) pe_int (fun _ _ => rfl)) (fun _ _ => rfl)) (pe_ix (ix_tupK K rfl) (pv 1) (pe_ix (ix_tupK K rfl) (pv 6) pe_int (fun _ _ => rfl)) (fun _ _ => rfl)) (nomark _)))) pa_nil)))) (pss_one (ps_ret pe_bl)) pss_nil)))) pss_nil)))))
      (pss_one (ps_ret pe_bl))), ?_⟩
  refine ⟨_, rfl, p, _, rfl, .inr (SqT.fz hp), _, rfl, by omega, by omega, for_range (lo := 0) (n := (t.map nV).length) (fun j σ H5 => ∃ v2 v3 v4 v5 v6 : Option V, σ = [some (.ref r), some (.ref p), v2, v3, v4, v5, v6] ∧ Same H H5) ⟨_, _, _, _, _, rfl, fun _ _ e => e⟩ ?_ ?_⟩
  · rintro j σ H5 hj ⟨v2, v3, v4, v5, v6, rfl, s5⟩
    rw [Int.zero_add]
    refine ⟨_, rfl, _, rfl, by omega, by omega, for_range (lo := 0) (n := j) (fun k σ H5 => ∃ v3 v4 v5 v6 : Option V, σ = [some (.ref r), some (.ref p), some (nV j), v3, v4, v5, v6] ∧ Same H H5) ⟨_, _, _, _, rfl, s5⟩ ?_ ?_⟩
    · rintro k σ H6 hk ⟨v3, v4, v5, v6, rfl, s6⟩
      rw [Int.zero_add]
      have jl : j < hs.length := by omega
      have kl : k < hs.length := by omega
      refine ⟨_, rfl, _, rfl, p, _, _, _, rfl, rfl, SqT.fz (tsq s6), atI_nat (tat jl), _, rfl, _, rfl, p, _, _, _, rfl, rfl, SqT.fz (tsq s6), atI_nat (tat kl), rfl, _, rfl, if_bl (fun e => ?_) (fun e => ⟨_, _, _, _, rfl, s6⟩)⟩
      have e : kd t j = kd t k := by have := V.int.inj (of_decide_eq_true e); omega
      have al := (kinds_alike kd0 jl kl).mp e
      refine ⟨_, rfl, _, rfl, _, rfl, r, hs, bs, j, k, rfl, hR.keep (TK.same s6), gd, by omega, jl, kl, fun b H7 hb s7 => ?_⟩
      obtain rfl : b = true := hb.mpr (alike_looks al jl kl (by omega))
      refine ⟨_, rfl, if_bl (fun z => nomatch z) (fun _ => ?_)⟩
      have s67 := s6.trans s7
      refine ⟨_, rfl, _, rfl, r, hs, bs, j, rfl, hR.keep (TK.same s67), by omega, fun g1 gv1 H8 n1 h1 al1 s8 => ?_⟩
      refine ⟨_, rfl, _, rfl, r, hs, bs, k, rfl, hR.keep (TK.same (s67.trans s8)), by omega, fun g2 gv2 H9 n2 h2 al2 s9 => ?_⟩
      have lc : ∀ x, (comeB bs x).length ≤ 20 := fun x => by unfold comeB; exact Nat.le_trans (List.length_filter_le ..) lb
      have lc1 := lc j
      have lg1 := al1.length
      refine ⟨g1, g2, gv1, gv2, rfl, SqL.of (s9 _ _ h1), SqL.of h2, by omega, fun pz as H10 np hpz la pr keep => ?_⟩
      have s10 : Same H9 H10 := keep
      have s810 : Same H8 H10 := s9.trans s10
      have s610 : Same H H10 := s67.trans (s8.trans s810)
      refine ⟨_, rfl, pz, rfl, ⟨_, SqL.of hpz⟩, fun D nD => lc_list (K := K) (a := pz) (xs := as.map V.ref) (fun i H11 => H11 D = some (.lst ((List.replicate i true).map V.bl)) ∧ Same H10 H11) ⟨upd_same, same_new nD⟩ (fun i H11 _ ⟨_, s11⟩ => SqL.of (s11 _ _ hpz)) ?_ ?_⟩
      · rintro i x H11 hx ⟨hD, s11⟩
        rw [List.getElem?_map] at hx
        cases hi : as[i]? with
        | none => rw [hi] at hx; cases hx
        | some u =>
          rw [hi] at hx
          obtain rfl : V.ref u = x := Option.some.inj hx
          obtain ⟨x1, y1, ex, ey, eu⟩ := pr i u hi
          obtain ⟨b1, e1, t1, gg1, rfl, f1, _⟩ := al1.getL ex
          obtain ⟨b2, e2, t2, gg2, rfl, f2, _⟩ := al2.getL ey
          have m1 := ends b1 (come_mem (List.mem_of_getElem? e1))
          have m2 := ends b2 (come_mem (List.mem_of_getElem? e2))
          have ek := (kinds_alike kd0 m1 m2).mpr ((al.come jl kl).getBoth e1 e2).2
          have il := (List.getElem?_eq_some_iff.mp e1).1
          have s11a := s610.trans s11
          refine ⟨u, _, rfl, SqT.of (s11 _ _ eu), rfl, _, _, rfl, _, _, rfl, rfl, rfl, yes_in ⟨_, rfl, _, rfl, t1, _, _, _, rfl, rfl, SqT.of (s11 _ _ (s810 _ _ f1)), atI_nat (j := 0) rfl, p, _, _, _, rfl, rfl, SqT.fz (tsq s11a), atI_nat (tat m1), _, rfl, _, rfl, t2, _, _, _, rfl, rfl, SqT.of (s11 _ _ (s10 _ _ f2)), atI_nat (j := 0) rfl, p, _, _, _, rfl, rfl, SqT.fz (tsq s11a), atI_nat (tat m2), rfl, _, hD, ?_, ?_, Same.own s11 nD⟩⟩
          · rw [List.length_map, List.length_replicate]
            exact small1000 (by omega)
          · rw [upd_same, List.replicate_succ', List.map_append, ek, decide_eq_true (show nV (kd t b2.one) = nV (kd t b2.one) from rfl)]
            rfl
      · rintro H11 ⟨hD, s11⟩
        refine ⟨D, _, rfl, SqL.of hD, ?_⟩
        rw [show (List.replicate (as.map V.ref).length true).all id = true by simp]
        exact ⟨_, rfl, if_bl (fun z => nomatch z) (fun _ => ⟨_, _, _, _, rfl, s610.trans s11⟩)⟩
    · rintro σ H6 ⟨v3, v4, v5, v6, rfl, s6⟩
      exact ⟨_, _, _, _, _, rfl, s6⟩
  · rintro σ H5 ⟨v2, v3, v4, v5, v6, rfl, s5⟩
    exact q _ s5
end
/-! ### two kinds made one, with them whoever gives to them -/
inductive Con (F : Nat → Nat) (L : List (Nat × Nat)) : Nat → Nat → Prop
  | same {i j : Nat} : F i = F j → Con F L i j
  | pair {i j : Nat} : (i, j) ∈ L → Con F L i j
  | symm {i j : Nat} : Con F L i j → Con F L j i
  | trans {i j k : Nat} : Con F L i j → Con F L j k → Con F L i k
theorem Con.mono {F F' : Nat → Nat} {L L' : List (Nat × Nat)} (h1 : ∀ i j, F i = F j → Con F' L' i j) (h2 : ∀ i j, (i, j) ∈ L → Con F' L' i j) {i j : Nat} (c : Con F L i j) : Con F' L' i j := by
  induction c with
  | same e => exact h1 _ _ e
  | pair e => exact h2 _ _ e
  | symm _ ih => exact ih.symm
  | trans _ _ ih1 ih2 => exact ih1.trans ih2
theorem Con.nil {F : Nat → Nat} {i j : Nat} (c : Con F [] i j) : F i = F j := by
  induction c with
  | same e => exact e
  | pair e => cases e
  | symm _ ih => exact ih.symm
  | trans _ _ ih1 ih2 => exact ih1.trans ih2
structure CB (hs : List HR) (bs : List BR) (t : List Nat) (F : Nat → Nat) (L : List (Nat × Nat)) (a b : Nat) : Prop where
  keep : ∀ i j, i < hs.length → j < hs.length → kd t i = kd t j → F i = F j
  look : ∀ i j, i < hs.length → j < hs.length → F i = F j → i = j ∨ Looks hs bs i j
  come : ∀ i j, i < hs.length → j < hs.length → F i = F j → ∀ (x : Nat) (p q : BR), (comeB bs i)[x]? = some p → (comeB bs j)[x]? = some q → Con F L p.one q.one
  goal : Con F L a b
  inL : ∀ p ∈ L, p.1 < hs.length ∧ p.2 < hs.length
theorem Looks.symm {hs : List HR} {bs : List BR} {j k : Nat} (l : Looks hs bs j k) : Looks hs bs k j := by
  obtain ⟨⟨g, h, e1, e2, e3, e4, e5⟩, z⟩ := l
  exact ⟨⟨h, g, e2, e1, e3.symm, e4.symm, by unfold isDoor at e5 ⊢; rw [← e3]; exact e5⟩, z.symm⟩
theorem Looks.trans {hs : List HR} {bs : List BR} {i j k : Nat} (a : Looks hs bs i j) (b : Looks hs bs j k) : Looks hs bs i k := by
  obtain ⟨⟨g, h, e1, e2, e3, e4, e5⟩, z⟩ := a
  obtain ⟨⟨g2, h2, f1, f2, f3, f4, f5⟩, y⟩ := b
  rw [e2] at f1
  obtain rfl := Option.some.inj f1
  exact ⟨⟨g, h2, e1, f2, e3.trans f3, e4.trans f4, e5⟩, z.trans y⟩
theorem Looks.len {hs : List HR} {bs : List BR} {j k : Nat} (l : j = k ∨ Looks hs bs j k) : (comeB bs j).length = (comeB bs k).length := by
  rcases l with rfl | ⟨_, z⟩
  · rfl
  · have := congrArg List.length z
    rwa [List.length_map, List.length_map] at this
section
variable {hs : List HR} {bs : List BR} {t : List Nat} {F : Nat → Nat} {L : List (Nat × Nat)} {a b : Nat}
theorem CB.done (K : KindsOf hs bs t) (ends : ∀ b ∈ bs, b.one < hs.length) (c : CB hs bs t F [] a b) (ha : a < hs.length) (hb : b < hs.length) : kd t a = kd t b := by
  refine (kinds_alike K ha hb).mpr ⟨fun i j => i < hs.length ∧ j < hs.length ∧ F i = F j, ⟨fun i j ⟨hi, hj, e⟩ _ _ => ?_, fun i j ⟨hi, hj, e⟩ _ _ => ?_⟩, ha, hb, c.goal.nil⟩
  · rcases c.look i j hi hj e with z | ⟨z, _⟩
    · exact .inl z
    · exact .inr z
  · have l := c.look i j hi hj e
    refine All2.ofGet (Looks.len l) fun x p q e1 e2 => ⟨?_, ends p (come_mem (List.mem_of_getElem? e1)), ends q (come_mem (List.mem_of_getElem? e2)), (c.come i j hi hj e x p q e1 e2).nil⟩
    rcases l with rfl | ⟨_, th⟩
    · rw [e1] at e2
      rw [Option.some.inj e2]
    · have q2 := congrArg (fun l => l[x]?) th
      simp only [List.getElem?_map, e1, e2, Option.map_some] at q2
      exact Option.some.inj q2
theorem CB.skip {i j : Nat} (c : CB hs bs t F (L ++ [(i, j)]) a b) (e : F i = F j) : CB hs bs t F L a b := by
  have m : ∀ {x y}, Con F (L ++ [(i, j)]) x y → Con F L x y := fun h => h.mono (fun _ _ e => .same e) fun x y z => by
    rcases List.mem_append.mp z with z | z
    · exact .pair z
    · obtain ⟨rfl, rfl⟩ := Prod.mk.inj (List.mem_singleton.mp z)
      exact .same e
  exact ⟨c.keep, c.look, fun x y hx hy e z p q e1 e2 => m (c.come x y hx hy e z p q e1 e2), m c.goal, fun p hp => c.inL p (List.mem_append.mpr (.inl hp))⟩
def mrg (F : Nat → Nat) (i j : Nat) : Nat → Nat := fun x => if F x = F j then F i else F x
def ones (bs : List BR) (i j : Nat) : List (Nat × Nat) := List.zipWith (fun p q : BR => (p.one, q.one)) (comeB bs i) (comeB bs j)
theorem CB.merge (ends : ∀ b ∈ bs, b.one < hs.length) {i j j0 : Nat} (c : CB hs bs t F (L ++ [(i, j)]) a b) (ne : F i ≠ F j) (hj0 : j0 < hs.length) (e0 : F j0 = F j) (lk : ∀ x, x < hs.length → F x = F i → Looks hs bs x j0) :
    CB hs bs t (mrg F i j) (L ++ ones bs i j) a b := by
  obtain ⟨hi, hj⟩ := c.inL (i, j) (List.mem_append.mpr (.inr (List.mem_singleton.mpr rfl)))
  have fs : ∀ {x y}, F x = F y → mrg F i j x = mrg F i j y := fun {x y} e => by unfold mrg; rw [e]
  have m : ∀ {x y}, Con F (L ++ [(i, j)]) x y → Con (mrg F i j) (L ++ ones bs i j) x y := fun h => h.mono (fun _ _ e => .same (fs e)) fun x y z => by
    rcases List.mem_append.mp z with z | z
    · exact .pair (List.mem_append.mpr (.inl z))
    · obtain ⟨rfl, rfl⟩ := Prod.mk.inj (List.mem_singleton.mp z)
      refine .same ?_
      unfold mrg
      rw [if_neg ne, if_pos rfl]
  have cases_ : ∀ {x y}, mrg F i j x = mrg F i j y → F x = F y ∨ (F x = F i ∧ F y = F j) ∨ (F x = F j ∧ F y = F i) := fun {x y} e => by
    unfold mrg at e
    by_cases h1 : F x = F j
    · by_cases h2 : F y = F j
      · exact .inl (h1.trans h2.symm)
      · rw [if_pos h1, if_neg h2] at e
        exact .inr (.inr ⟨h1, e.symm⟩)
    · by_cases h2 : F y = F j
      · rw [if_neg h1, if_pos h2] at e
        exact .inr (.inl ⟨e, h2⟩)
      · rw [if_neg h1, if_neg h2] at e
        exact .inl e
  have cross : ∀ {x y}, x < hs.length → y < hs.length → F x = F i → F y = F j → Looks hs bs x y := fun {x y} hx hy h1 h2 => by
    have l1 := lk x hx h1
    rcases c.look j0 y hj0 hy (e0.trans h2.symm) with rfl | l2
    · exact l1
    · exact l1.trans l2
  have meet : ∀ {x y}, x < hs.length → y < hs.length → F x = F i → F y = F j → ∀ (z : Nat) (p q : BR), (comeB bs x)[z]? = some p → (comeB bs y)[z]? = some q → Con (mrg F i j) (L ++ ones bs i j) p.one q.one := fun {x y} hx hy h1 h2 z p q e1 e2 => by
    have zl := (List.getElem?_eq_some_iff.mp e1).1
    have zl2 := (List.getElem?_eq_some_iff.mp e2).1
    have l1 := Looks.len (c.look x i hx hi h1)
    have l2 := Looks.len (c.look y j hy hj h2)
    have g1 : (comeB bs i)[z]? = some ((comeB bs i)[z]'(by omega)) := List.getElem?_eq_getElem (by omega)
    have g2 : (comeB bs j)[z]? = some ((comeB bs j)[z]'(by omega)) := List.getElem?_eq_getElem (by omega)
    have c1 := m (c.come x i hx hi h1 z _ _ e1 g1)
    have c2 := m (c.come y j hy hj h2 z _ _ e2 g2)
    refine c1.trans (Con.trans (.pair (List.mem_append.mpr (.inr ?_))) c2.symm)
    exact List.mem_of_getElem? (i := z) (by unfold ones; rw [List.getElem?_zipWith, g1, g2])
  refine ⟨fun x y hx hy e => fs (c.keep x y hx hy e), fun x y hx hy e => ?_, fun x y hx hy e z p q e1 e2 => ?_, m c.goal, fun p hp => ?_⟩
  · rcases cases_ e with h | ⟨h1, h2⟩ | ⟨h1, h2⟩
    · exact c.look x y hx hy h
    · exact .inr (cross hx hy h1 h2)
    · exact .inr (cross hy hx h2 h1).symm
  · rcases cases_ e with h | ⟨h1, h2⟩ | ⟨h1, h2⟩
    · exact m (c.come x y hx hy h z p q e1 e2)
    · exact meet hx hy h1 h2 z p q e1 e2
    · exact (meet hy hx h2 h1 z q p e2 e1).symm
  · rcases List.mem_append.mp hp with hp | hp
    · exact c.inL p (List.mem_append.mpr (.inl hp))
    · obtain ⟨z, ez⟩ := List.getElem?_of_mem hp
      unfold ones at ez
      rw [List.getElem?_zipWith] at ez
      cases h1 : (comeB bs i)[z]? with
      | none => rw [h1] at ez; cases ez
      | some u =>
        cases h2 : (comeB bs j)[z]? with
        | none => rw [h1, h2] at ez; cases ez
        | some v =>
          rw [h1, h2] at ez
          rw [← Option.some.inj ez]
          exact ⟨ends u (come_mem (List.mem_of_getElem? h1)), ends v (come_mem (List.mem_of_getElem? h2))⟩
end
/-! ### found, written over; how much is left -/
theorem nd_sub {α : Type} [DecidableEq α] : ∀ {l m : List α}, l.Nodup → (∀ x ∈ l, x ∈ m) → l.length ≤ m.length
  | [], _, _, _ => Nat.zero_le _
  | x :: l, m, nd, h => by
    obtain ⟨n1, n2⟩ := List.nodup_cons.mp nd
    have i := nd_sub (m := m.erase x) n2 fun y hy => (List.mem_erase_of_ne (fun e : y = x => n1 (e ▸ hy))).mpr (h y (List.mem_cons_of_mem _ hy))
    have := List.length_erase_of_mem (h x (List.mem_cons_self ..))
    have pos : 0 < m.length := List.length_pos_of_mem (h x (List.mem_cons_self ..))
    show l.length + 1 ≤ m.length
    omega
theorem uniq_less {fs : List Nat} {v w : Nat} (ne : w ≠ v) (hv : v ∈ fs) (hw : w ∈ fs) : (uniq (fs.map fun x => if x = v then w else x)).length < (uniq fs).length := by
  have nd : (v :: uniq (fs.map fun x => if x = v then w else x)).Nodup := List.nodup_cons.mpr ⟨fun m => by
    rw [mem_uniq] at m
    obtain ⟨x, _, e⟩ := List.mem_map.mp m
    by_cases h : x = v
    · rw [if_pos h] at e; exact ne e
    · rw [if_neg h] at e; exact h e, uniq_nodup _⟩
  refine nd_sub nd fun x hx => ?_
  rw [mem_uniq]
  rcases List.mem_cons.mp hx with rfl | hx
  · exact hv
  · rw [mem_uniq] at hx
    obtain ⟨y, hy, rfl⟩ := List.mem_map.mp hx
    by_cases h : y = v
    · rw [if_pos h]; exact hw
    · rw [if_neg h]; exact hy
theorem ixN_nat {n k : Nat} (h : k < n) : ixN n ((k : Nat) : Int) = some k := by
  unfold ixN
  rw [if_pos (by omega), if_pos (by omega)]
  simp
def PairAt (H : Hp) (v : V) (p : Nat × Nat) : Prop := ∃ u : Addr, v = .ref u ∧ H u = some (.tup [nV p.1, nV p.2])
theorem PairAt.keep {H H' : Hp} {v : V} {p : Nat × Nat} (a : PairAt H v p) (k : TK H H') : PairAt H' v p := by
  obtain ⟨u, e, e1⟩ := a
  exact ⟨u, e, k _ _ e1⟩
theorem All2.takeN {α β : Type} {R : α → β → Prop} : ∀ {as : List α} {bs : List β}, All2 R as bs → ∀ n, All2 R (as.take n) (bs.take n)
  | _, _, .nil, n => by rw [List.take_nil, List.take_nil]; exact .nil
  | _, _, .cons h t, 0 => .nil
  | _, _, .cons h t, n + 1 => .cons h (t.takeN n)
def fO (fs : List Nat) (x : Nat) : Nat := fs.getD x 0
/-- the same, told so that no place in the list can meet one behind it -/
def gO (fs : List Nat) (x : Nat) : Nat := match fs[x]? with
  | some v => v + 1
  | none => 0
theorem gO_in {fs : List Nat} {x : Nat} (h : x < fs.length) : gO fs x = fO fs x + 1 := by
  unfold gO fO
  rw [List.getD_eq_getElem?_getD, List.getElem?_eq_getElem h]; rfl
theorem gO_iff {fs : List Nat} {x y : Nat} (hx : x < fs.length) (hy : y < fs.length) : gO fs x = gO fs y ↔ fO fs x = fO fs y := by
  rw [gO_in hx, gO_in hy]
  omega
/-- found, after one value was written over another -/
theorem gO_mrg {fs : List Nat} {i j : Nat} (hi : i < fs.length) (hj : j < fs.length) : gO (fs.map fun v => if v = fO fs j then fO fs i else v) = mrg (gO fs) i j := by
  funext x
  unfold mrg
  rw [gO_in hi, gO_in hj]
  by_cases hx : x < fs.length
  · have e : gO (fs.map fun v => if v = fO fs j then fO fs i else v) x = (if fO fs x = fO fs j then fO fs i else fO fs x) + 1 := by
      unfold gO
      rw [List.getElem?_map, List.getElem?_eq_getElem hx]
      show (if fs[x] = fO fs j then fO fs i else fs[x]) + 1 = _
      have : fO fs x = fs[x] := by unfold fO; rw [List.getD_eq_getElem?_getD, List.getElem?_eq_getElem hx]; rfl
      rw [this]
    rw [e, gO_in hx]
    by_cases h : fO fs x = fO fs j
    · rw [if_pos h, if_pos (by rw [h])]
    · rw [if_neg h, if_neg (by omega)]
  · have e1 : gO fs x = 0 := by unfold gO; rw [List.getElem?_eq_none (by omega)]
    have e2 : gO (fs.map fun v => if v = fO fs j then fO fs i else v) x = 0 := by unfold gO; rw [List.getElem?_eq_none (by rw [List.length_map]; omega)]
    rw [e1, e2, if_neg (by omega)]
theorem fO_at {fs : List Nat} {x : Nat} (h : x < fs.length) : (fs.map nV)[x]? = some (nV (fO fs x)) := by
  rw [List.getElem?_map, List.getElem?_eq_getElem h]
  unfold fO
  rw [List.getD_eq_getElem?_getD, List.getElem?_eq_getElem h]; rfl
/-- where found holds the same as at j -/
def thr (fs : List Nat) (j : Nat) : List Nat := (List.range fs.length).filter fun y => decide (fO fs y = fO fs j)
theorem thr_mem {fs : List Nat} {j k : Nat} : k ∈ thr fs j ↔ k < fs.length ∧ fO fs k = fO fs j := by
  unfold thr
  rw [List.mem_filter, List.mem_range]
  exact ⟨fun h => ⟨h.1, of_decide_eq_true h.2⟩, fun h => ⟨h.1, decide_eq_true h.2⟩⟩
def wrt (fs : List Nat) (i j : Nat) : List Nat := fs.map fun v => if v = fO fs j then fO fs i else v
theorem fO_get {fs : List Nat} {k : Nat} (h : k < fs.length) : fs[k]? = some (fO fs k) := by
  unfold fO
  rw [List.getD_eq_getElem?_getD, List.getElem?_eq_getElem h]; rfl
theorem fO_ext {fs gs : List Nat} (l : gs.length = fs.length) (h : ∀ k, k < fs.length → fO gs k = fO fs k) : gs = fs := by
  refine List.ext_getElem? fun k => ?_
  by_cases hk : k < fs.length
  · rw [fO_get hk, fO_get (by omega), h k hk]
  · rw [List.getElem?_eq_none (by omega), List.getElem?_eq_none (by omega)]
theorem fO_set {gs : List Nat} {k m v : Nat} (hk : k < gs.length) : fO (gs.set k v) m = if m = k then v else fO gs m := by
  unfold fO
  rw [List.getD_eq_getElem?_getD, List.getD_eq_getElem?_getD, List.getElem?_set]
  by_cases h : k = m
  · subst h; rw [if_pos rfl, if_pos hk, if_pos rfl]; rfl
  · rw [if_neg h, if_neg (fun z => h z.symm)]
theorem wrt_eq {fs gs : List Nat} {i j : Nat} (l : gs.length = fs.length) (h : ∀ k, k < fs.length → fO gs k = if k ∈ thr fs j then fO fs i else fO fs k) : gs = wrt fs i j := by
  refine fO_ext (by unfold wrt; rw [List.length_map]; exact l) fun k hk => ?_
  have hk : k < fs.length := by unfold wrt at hk; rwa [List.length_map] at hk
  have e : fO (wrt fs i j) k = if fO fs k = fO fs j then fO fs i else fO fs k := by
    have := fO_get (fs := wrt fs i j) (k := k) (by unfold wrt; rw [List.length_map]; exact hk)
    unfold wrt at this
    rw [List.getElem?_map, fO_get hk] at this
    exact (Option.some.inj this).symm
  rw [h k hk, e]
  by_cases c : fO fs k = fO fs j
  · rw [if_pos (thr_mem.mpr ⟨hk, c⟩), if_pos c]
  · rw [if_neg (fun z => c (thr_mem.mp z).2), if_neg c]
theorem wrt_less {fs : List Nat} {i j : Nat} (hi : i < fs.length) (hj : j < fs.length) (ne : fO fs i ≠ fO fs j) : (uniq (wrt fs i j)).length < (uniq fs).length := uniq_less ne (List.mem_of_getElem? (fO_get hj)) (List.mem_of_getElem? (fO_get hi))
theorem ones_len {bs : List BR} (i j : Nat) (h : bs.length ≤ 20) : (ones bs i j).length ≤ 20 := by
  unfold ones
  rw [List.length_zipWith]
  have : (comeB bs i).length ≤ 20 := Nat.le_trans (List.length_filter_le ..) h
  omega
section
variable {P : Program} {w : World} {K : PySem.W.Frag} {mg : Str → Option Value} {base : Heap}
def sp_law_could_be_one (K : PySem.W.Frag) : Sp := fun vs H Q _ => ∃ (r p : Addr) (hs : List HR) (bs : List BR) (t : List Nat) (a b : Nat), vs = [.ref r, .ref p, nV a, nV b] ∧ RoomAt H r hs bs ∧ (∀ h ∈ hs, GoodHand h) ∧ hs.length ≤ 12 ∧ bs.length ≤ 20 ∧ (∀ b ∈ bs, b.one < hs.length) ∧ (∃ ob, H p = some (.frz ob (.tup (t.map nV)))) ∧ KindsOf hs bs t ∧ a < hs.length ∧ b < hs.length ∧ kd t a ≠ kd t b ∧ ∀ H', Same H H' → Q (.bl false) H'
theorem ok_law_could_be_one {f : Addr} {fd : FuncData} (F : Fun K "_law_could_be_one" "_law_could_be_one" s_law_could_be_one f fd) (T : Top K mg) : FnOk P w K mg base CX0 3 f fd ["_law_room_here", "_law_numbers", "_law_first", "_law_second"] (sp_law_could_be_one K) := by
  obtain ⟨f_law_givers, fd_law_givers, F_law_givers, b_law_givers, m_law_givers⟩ := T.d_law_givers
  have G_law_givers := ok_law_givers (P := P) (w := w) (base := base) F_law_givers T
  obtain ⟨f_law_looks_alike, fd_law_looks_alike, F_law_looks_alike, b_law_looks_alike, m_law_looks_alike⟩ := T.d_law_looks_alike
  have G_law_looks_alike := ok_law_looks_alike (P := P) (w := w) (base := base) F_law_looks_alike T
  refine F.ok sc_law_could_be_one (fun vs H Q E h => ?_) (fun cdv A outer s H vs Q E hr h => ?_)
  · obtain ⟨r, p, hs, bs, t, a, b, rfl, _⟩ := h
    rfl
  obtain ⟨r, p, hs, bs, t, a, b, rfl, hR, gd, lh, lb, ends, ⟨ob, hp⟩, kd0, ha, hb, un, q⟩ := h
  have tl := kd0.len
  refine ⟨_, (pss_cons (ps_set (i := 4) sc_law_could_be_one.nd rfl (Or.inr rfl) (pe_callTy (call_list_ofK K rfl) (by rfl) T.m_list (by decide +kernel) (pa_cons (pv 1) pa_nil)))
      (pss_cons (ps_set (i := 5) sc_law_could_be_one.nd rfl (Or.inl rfl) (pe_lst (pa_cons (pe_tup (pa_cons (pv 2) (pa_cons (pv 3) pa_nil))) pa_nil)))
      (pss_cons (ps_while PassesOwn.never (pt_cmpR op_gt (pe_callB (call_len_seqK K rfl) (by rfl) T.m_len (by decide +kernel) (pa_cons (pv 5) pa_nil)) pe_int (nomark _))
        (pss_cons (ps_asg (pe_bm0K K rfl PySem.F.plainAttrs_list PySem.F.slot_list_pop PySem.F.type_list_pop mt_pop (pv 5)) (pg_tupK K rfl rfl (pgs_cons (pg_name (i := 6) sc_law_could_be_one.nd rfl (Or.inr rfl)) (pgs_cons (pg_name (i := 7) sc_law_could_be_one.nd rfl (Or.inr rfl)) pgs_nil))))
      (pss_cons (ps_setLc (i := 8) (own := [("_law_k", 9)]) (g := gName 9) (by rfl) sc_law_could_be_one.nd rfl rfl (sw_true rfl rfl rfl (by decide +kernel)) (pi_range1 (by rfl) T.m_range (pa_cons (pe_callB (call_len_seqK K rfl) (by rfl) T.m_len (by decide +kernel) (pa_cons (pv 4) pa_nil)) pa_nil)) (blkOk_by (own := [("_law_k", 9)]) (N := N_law_could_be_one) (sc := defScope s_law_could_be_one) (by decide +kernel)) (fun _ _ _ _ _ => (pg_name (i := 9) sc_law_could_be_one.nd rfl (Or.inl rfl))) (fun _ _ _ _ _ => pts_one (pt_cmpR op_eq (pe_ix (ix_listK K rfl) (pv 4) (pv 9) (fun _ _ => rfl)) (pe_ix (ix_listK K rfl) (pv 4) (pv 6) (fun _ _ => rfl)) (nomark _))) (fun _ _ _ _ _ => (pv 9)))
      (pss_cons (ps_set (i := 10) sc_law_could_be_one.nd rfl (Or.inr rfl) (pe_lc (own := [("_law_k", 9)]) (g := gName 9) (by rfl) sc_law_could_be_one.nd (pi_range1 (by rfl) T.m_range (pa_cons (pe_callB (call_len_seqK K rfl) (by rfl) T.m_len (by decide +kernel) (pa_cons (pv 4) pa_nil)) pa_nil)) (blkOk_by (own := [("_law_k", 9)]) (N := N_law_could_be_one) (sc := defScope s_law_could_be_one) (by decide +kernel)) (fun _ _ _ _ _ => (pg_name (i := 9) sc_law_could_be_one.nd rfl (Or.inl rfl))) (fun _ _ _ _ _ => pts_one (pt_cmpR op_eq (pe_ix (ix_listK K rfl) (pv 4) (pv 9) (fun _ _ => rfl)) (pe_ix (ix_listK K rfl) (pv 4) (pv 7) (fun _ _ => rfl)) (nomark _))) (fun _ _ _ _ _ => (pv 9))))
      (pss_one (ps_if (pt_cmpR op_ne (pe_ix (ix_listK K rfl) (pv 4) (pv 6) (fun _ _ => rfl)) (pe_ix (ix_listK K rfl) (pv 4) (pv 7) (fun _ _ => rfl)) (nomark _)) (pss_cons (ps_if (pt_not (pt_val (pe_callB (cr_allK K rfl rfl) (by rfl) T.m_all (by decide +kernel) (pa_cons (pe_lc (own := [("_law_j", 11)]) (g := gName 11) (tt := tYes) (by rfl) sc_law_could_be_one.nd (pi_listK K rfl (pv 8)) (blkOk_by (own := [("_law_j", 11)]) (N := N_law_could_be_one) (sc := defScope s_law_could_be_one) (by decide +kernel)) (fun _ _ _ _ _ => (pg_name (i := 11) sc_law_could_be_one.nd rfl (Or.inl rfl))) (fun _ _ _ _ _ => pts_nil) (fun _ _ _ _ _ => (pe_call G_law_looks_alike (hr.mono (by decide)) (by rfl) m_law_looks_alike F_law_looks_alike.kp b_law_looks_alike .nil pass0 (pa_cons (pv 0) (pa_cons (pv 11) (pa_cons (pe_ix (ix_listK K rfl) (pv 10) pe_int (fun _ _ => rfl)) pa_nil)))))) pa_nil)))) (pss_one (ps_ret pe_bl)) pss_nil)
      (pss_cons (ps_for PassesOwn.never rfl (pi_listK K rfl (pv 10)) (pg_name (i := 9) sc_law_could_be_one.nd rfl (Or.inl rfl))
        (pss_one (ps_asg (pe_ix (ix_listK K rfl) (pv 4) (pv 6) (fun _ _ => rfl)) (pg_sub (pv 4) (pv 9) set_list))))
      (pss_one (ps_for PassesOwn.never rfl (pi_zipAK K rfl (by rfl) T.m_zip (pa_cons (pe_call G_law_givers (hr.mono (by decide)) (by rfl) m_law_givers F_law_givers.kp b_law_givers .nil pass0 (pa_cons (pv 0) (pa_cons (pv 6) pa_nil))) (pa_cons (pe_call G_law_givers (hr.mono (by decide)) (by rfl) m_law_givers F_law_givers.kp b_law_givers .nil pass0 (pa_cons (pv 0) (pa_cons (pv 7) pa_nil))) pa_nil))) (pg_tupK K rfl rfl (pgs_cons (pg_name (i := 12) sc_law_could_be_one.nd rfl (Or.inl rfl)) (pgs_cons (pg_name (i := 13) sc_law_could_be_one.nd rfl (Or.inl rfl)) pgs_nil)))
        (pss_one (ps_expr (pe_bmK K rfl PySem.F.plainAttrs_list PySem.F.slot_list_append PySem.F.type_list_append mt_append (pv 5) (pa_cons (pe_tup (pa_cons (pe_ix (ix_tupK K rfl) (pv 12) pe_int (fun _ _ => rfl)) (pa_cons (pe_ix (ix_tupK K rfl) (pv 13) pe_int (fun _ _ => rfl)) pa_nil))) pa_nil)))))))) pss_nil))))))
      (pss_one (ps_ret pe_bl))))), ?_⟩
  refine ⟨_, rfl, p, _, rfl,   .inr (SqT.fz hp), fun fl nfl => ?_⟩
  refine ⟨_, rfl, _, rfl, (by show 2 ≤ sizeLine; decide), fun u nu => ⟨(by show 1 ≤ sizeLine; decide), fun ll nll => ?_⟩⟩
  have s1 := same_new (o := .lst (t.map nV)) nfl
  have s2 := s1.trans (same_new (o := .tup [nV a, nV b]) nu)
  have s3 := s2.trans (same_new (o := .lst [V.ref u]) nll)
  let St : List Nat → List (Nat × Nat) → L2.St → Hp → Prop := fun fs L σ H5 => ∃ (lv : List V) (v6 v7 v8 v9 v10 v11 v12 v13 : Option V), σ = [some (.ref r), some (.ref p), some (nV a), some (nV b), some (.ref fl), some (.ref ll), v6, v7, v8, v9, v10, v11, v12, v13] ∧ Same H H5 ∧ H5 fl = some (.lst (fs.map nV)) ∧ H5 ll = some (.lst lv) ∧ All2 (PairAt H5) lv L ∧ fs.length = hs.length ∧ CB hs bs t (gO fs) L a b ∧ 21 * (uniq fs).length + L.length ≤ 300
  let W : Nat → L2.St → Hp → Prop := fun m σ H5 => ∃ fs L, St fs L σ H5 ∧ m = 21 * (uniq fs).length + L.length
  have fll : fl ≠ ll := fun e => by
    rw [← e, upd_ne (ne_of_none upd_same nu), upd_same] at nll
    cases nll
  refine ⟨W, ⟨_, t, [(a, b)], ⟨[.ref u], _, _, _, _, _, _, _, _, rfl, s3, ?_, upd_same, .cons ⟨u, rfl, ?_⟩ .nil, tl, ?_, (by have := uniq_len t; show _ + 1 ≤ 300; omega)⟩, rfl⟩, ?_⟩
  · rw [upd_ne fll, upd_ne (ne_of_none upd_same nu)]
    exact upd_same
  · exact same_new nll _ _ upd_same
  · have gk : ∀ {i j}, i < hs.length → j < hs.length → (gO t i = gO t j ↔ kd t i = kd t j) := fun {i j} hi hj => gO_iff (by omega) (by omega)
    refine ⟨fun i j hi hj e => (gk hi hj).mpr e, fun i j hi hj e => ?_, fun i j hi hj e x p q e1 e2 => .same ?_, .pair (List.mem_singleton.mpr rfl), fun p hp => ?_⟩
    · by_cases h : i = j
      · exact .inl h
      · exact .inr (alike_looks ((kinds_alike kd0 hi hj).mp ((gk hi hj).mp e)) hi hj h)
    · refine (gk (ends p (come_mem (List.mem_of_getElem? e1))) (ends q (come_mem (List.mem_of_getElem? e2)))).mpr ?_
      have e := (gk hi hj).mp e
      exact (kinds_alike kd0 (ends p (come_mem (List.mem_of_getElem? e1))) (ends q (come_mem (List.mem_of_getElem? e2)))).mpr ((((kinds_alike kd0 hi hj).mp e).come hi hj).getBoth e1 e2).2
    · rw [List.mem_singleton.mp hp]
      exact ⟨ha, hb⟩
  · rintro m σ H5 ⟨fs, L, ⟨lv, v6, v7, v8, v9, v10, v11, v12, v13, rfl, s5, hfl, hll, al, lf, cb, lL⟩, rfl⟩
    have lal := al.length
    refine ⟨_, rfl, ll, _, rfl, .inl (SqL.of hll), _, _, rfl, rfl, _, rfl, if_bl (fun e => ?_) (fun e => ?_)⟩
    · refine ⟨fun σ' H' => ∃ m', m' < 21 * (uniq fs).length + L.length ∧ W m' σ' H', fun _ _ z => z, ?_⟩
      have ne : L ≠ [] := fun z => by
        subst z
        have := of_decide_eq_true e
        rw [lal] at this
        exact absurd this (by decide)
      obtain ⟨L', pr, rfl⟩ : ∃ L' pr, L = L' ++ [pr] := ⟨L.dropLast, L.getLast ne, (List.dropLast_concat_getLast ne).symm⟩
      obtain ⟨i, j⟩ := pr
      rw [List.length_append] at lal
      have lal : lv.length = L'.length + 1 := lal
      obtain ⟨vl, evl, u2, rfl, eu2⟩ := al.get (i := L'.length) (b := (i, j)) (by rw [List.getElem?_append_right (Nat.le_refl _), Nat.sub_self]; rfl)
      replace eu2 : H5 u2 = some (.tup [nV i, nV j]) := eu2
      have al2 : All2 (PairAt H5) lv.dropLast L' := by
        have := al.takeN L'.length
        rw [List.take_left'] at this
        · rw [List.dropLast_eq_take, lal]
          exact this
        · rfl
      obtain ⟨hi, hj⟩ := cb.inL (i, j) (List.mem_append.mpr (.inr (List.mem_singleton.mpr rfl)))
      refine ⟨_, rfl, .inl ⟨rfl, _, SqL.of hll⟩, ll, lv, _, rfl, rfl, hll, by rw [lal]; exact evl, ?_⟩
      have k6 : TK H5 (upd H5 ll (.lst lv.dropLast)) := TK.lst hll
      have hll6 : upd H5 ll (.lst lv.dropLast) ll = some (.lst lv.dropLast) := upd_same
      have hfl6 : upd H5 ll (.lst lv.dropLast) fl = some (.lst (fs.map nV)) := by rw [upd_ne fll]; exact hfl
      have s6 : Same H (upd H5 ll (.lst lv.dropLast)) := Same.own s5 (same_none s2 nll)
      have al6 := al2.imp fun _ _ z => z.keep k6
      have eu6 := k6 _ _ eu2
      generalize upd H5 ll (.lst lv.dropLast) = H6 at *
      refine ⟨u2, _, rfl, SqT.of eu6, rfl, _, _, rfl, _, _, rfl, rfl, ?_⟩
      have lfm : (fs.map nV).length = fs.length := List.length_map ..
      refine ⟨_, rfl, fl, _, rfl, .inl (SqL.of hfl6), _, rfl, by omega, by omega, fun D nD => lc_range (lo := 0) (n := (fs.map nV).length) (fun x H7 => H7 D = some (.lst (((List.range x).filter fun y => decide (fO fs y = fO fs i)).map nV)) ∧ Same H6 H7) ⟨upd_same, same_new nD⟩ ?_ ?_⟩
      · rintro x H7 hx ⟨hD, s7⟩
        rw [Int.zero_add]
        have few := filt_len (p := fun y => decide (fO fs y = fO fs i)) x
        have hf7 := s7 _ _ hfl6
        refine ⟨rfl, _, rfl, _, rfl, fl, _, _, _, rfl, rfl, SqL.of hf7, atI_nat (fO_at (by omega)), _, rfl, _, rfl, fl, _, _, _, rfl, rfl, SqL.of hf7, atI_nat (fO_at (by omega)), rfl, _, rfl, if_bl (fun e => ?_) (fun e => ?_)⟩
        · have e : fO fs x = fO fs i := by have := V.int.inj (of_decide_eq_true e); omega
          refine ⟨_, rfl, _, hD, by rw [List.length_map]; exact small1000 (by omega), ?_, Same.own s7 nD⟩
          rw [upd_same, filt_succ, if_pos (decide_eq_true e), List.map_append]
          rfl
        · have e : ¬ fO fs x = fO fs i := fun z => of_decide_eq_false e (by rw [z])
          refine ⟨?_, s7⟩
          rw [filt_succ, if_neg (by rw [decide_eq_false e]; exact Bool.false_ne_true), List.append_nil]
          exact hD
      rintro H7 ⟨hD, s7⟩
      have hf7 := s7 _ _ hfl6
      refine ⟨_, rfl, fl, _, rfl, .inl (SqL.of hf7), _, rfl, by omega, by omega, fun D2 nD2 => lc_range (lo := 0) (n := (fs.map nV).length) (fun x H8 => H8 D2 = some (.lst (((List.range x).filter fun y => decide (fO fs y = fO fs j)).map nV)) ∧ Same H7 H8) ⟨upd_same, same_new nD2⟩ ?_ ?_⟩
      · rintro x H8 hx ⟨hD2, s8⟩
        rw [Int.zero_add]
        have few := filt_len (p := fun y => decide (fO fs y = fO fs j)) x
        have hf8 := s8 _ _ hf7
        refine ⟨rfl, _, rfl, _, rfl, fl, _, _, _, rfl, rfl, SqL.of hf8, atI_nat (fO_at (by omega)), _, rfl, _, rfl, fl, _, _, _, rfl, rfl, SqL.of hf8, atI_nat (fO_at (by omega)), rfl, _, rfl, if_bl (fun e => ?_) (fun e => ?_)⟩
        · have e : fO fs x = fO fs j := by have := V.int.inj (of_decide_eq_true e); omega
          refine ⟨_, rfl, _, hD2, by rw [List.length_map]; exact small1000 (by omega), ?_, Same.own s8 nD2⟩
          rw [upd_same, filt_succ, if_pos (decide_eq_true e), List.map_append]
          rfl
        · have e : ¬ fO fs x = fO fs j := fun z => of_decide_eq_false e (by rw [z])
          refine ⟨?_, s8⟩
          rw [filt_succ, if_neg (by rw [decide_eq_false e]; exact Bool.false_ne_true), List.append_nil]
          exact hD2
      rintro H8 ⟨hD2, s8⟩
      have hf8 := s8 _ _ hf7
      have s68 : Same H6 H8 := s7.trans s8
      have s08 : Same H H8 := s6.trans s68
      have hll8 := s68 _ _ hll6
      have al8 := al6.imp fun _ _ z => z.keep (TK.same s68)
      rw [lfm] at hD hD2
      refine ⟨_, rfl, _, rfl, fl, _, _, _, rfl, rfl, SqL.of hf8, atI_nat (fO_at (by omega)), _, rfl, _, rfl, fl, _, _, _, rfl, rfl, SqL.of hf8, atI_nat (fO_at (by omega)), rfl, _, rfl, if_bl (fun e => ?_) (fun e => ?_)⟩
      · have ne : fO fs i ≠ fO fs j := fun z => by
          rw [z] at e
          revert e
          simp
        have mj : j ∈ (List.range fs.length).filter fun y => decide (fO fs y = fO fs j) := List.mem_filter.mpr ⟨List.mem_range.mpr (by omega), decide_eq_true rfl⟩
        cases hth : (List.range fs.length).filter fun y => decide (fO fs y = fO fs j) with
        | nil => rw [hth] at mj; cases mj
        | cons j0 rest =>
          have m0 : j0 ∈ (List.range fs.length).filter fun y => decide (fO fs y = fO fs j) := by rw [hth]; exact List.mem_cons_self ..
          obtain ⟨q1, q2⟩ := List.mem_filter.mp m0
          have hj0 : j0 < hs.length := by rw [← lf]; exact List.mem_range.mp q1
          have e0 := of_decide_eq_true q2
          have at0 : atI (((List.range fs.length).filter fun y => decide (fO fs y = fO fs j)).map nV) 0 = some (nV j0) := by rw [hth]; exact atI_nat (j := 0) rfl
          have hereL := filt_len (p := fun y => decide (fO fs y = fO fs i)) fs.length
          refine ⟨_, rfl, D, rfl, ⟨_, SqL.of (s8 _ _ hD)⟩, fun E nE => lc_list (K := K) (a := D) (xs := ((List.range fs.length).filter fun y => decide (fO fs y = fO fs i)).map nV) (fun x H9 => ∃ bl : List Bool, H9 E = some (.lst (bl.map V.bl)) ∧ bl.length = x ∧ (∀ z y, ((List.range fs.length).filter fun y => decide (fO fs y = fO fs i))[z]? = some y → z < x → bl[z]? = some true → Looks hs bs y j0) ∧ Same H8 H9) ⟨[], upd_same, rfl, (fun z y _ h => absurd h (Nat.not_lt_zero _)), same_new nE⟩ (fun x H9 _ ⟨_, _, _, _, s9⟩ => SqL.of (s9 _ _ (s8 _ _ hD))) ?_ ?_⟩
          · rintro x v H9 hx ⟨bl, hE, lbl, good, s9⟩
            rw [List.getElem?_map] at hx
            cases hy : ((List.range fs.length).filter fun y => decide (fO fs y = fO fs i))[x]? with
            | none => rw [hy] at hx; cases hx
            | some y =>
              rw [hy] at hx
              obtain rfl : nV y = v := Option.some.inj hx
              have yl : y < hs.length := by rw [← lf]; exact List.mem_range.mp (List.mem_filter.mp (List.mem_of_getElem? hy)).1
              have xl := (List.getElem?_eq_some_iff.mp hy).1
              refine ⟨rfl, yes_in ⟨_, rfl, _, rfl, _, rfl, D2, _, _, _, rfl, rfl, SqL.of (s9 _ _ hD2), at0, r, hs, bs, y, j0, rfl, hR.keep (TK.same (s08.trans s9)), gd, by omega, yl, hj0, fun c H10 hc s10 => ⟨_, s10 _ _ hE, by rw [List.length_map]; exact small1000 (by omega), bl ++ [c], ?_, by rw [List.length_append, lbl]; rfl, fun z y2 h1 h2 h3 => ?_, Same.own (s9.trans s10) nE⟩⟩⟩
              · rw [upd_same, List.map_append]; rfl
              · rcases Nat.lt_or_ge z x with l | l
                · rw [List.getElem?_append_left (by omega)] at h3
                  exact good z y2 h1 l h3
                · obtain rfl : z = x := by omega
                  rw [hy] at h1
                  rw [List.getElem?_append_right (by omega), lbl, Nat.sub_self] at h3
                  rw [← Option.some.inj h1]
                  exact hc.mp (Option.some.inj h3)
          rintro H9 ⟨bl, hE, lbl, good, s9⟩
          refine ⟨E, bl, rfl, SqL.of hE, _, rfl, if_bl (fun z => ?_) (fun z => ?_)⟩
          · exact q _ (s08.trans s9)
          have lk : ∀ x, x < hs.length → fO fs x = fO fs i → Looks hs bs x j0 := fun x hx ex => by
            have mx : x ∈ (List.range fs.length).filter fun y => decide (fO fs y = fO fs i) := List.mem_filter.mpr ⟨List.mem_range.mpr (by omega), decide_eq_true ex⟩
            obtain ⟨z2, ez⟩ := List.getElem?_of_mem mx
            have zl := (List.getElem?_eq_some_iff.mp ez).1
            have zl2 : z2 < bl.length := by rw [lbl, List.length_map]; exact zl
            refine good z2 x ez (by rw [List.length_map]; exact zl) ?_
            rw [List.getElem?_eq_getElem zl2]
            have all : bl.all id = true := by cases hb : bl.all id with | true => rfl | false => rw [hb] at z; exact absurd z (by decide)
            exact congrArg some (List.all_eq_true.mp all _ (List.getElem_mem zl2))
          have cbl : (comeB bs i).length = (comeB bs j).length := (Looks.len (.inr (lk i hi rfl))).trans (Looks.len (cb.look j0 j hj0 hj ((gO_iff (by omega) (by omega)).mpr e0)))
          have cb2 := cb.merge ends (fun z => ne ((gO_iff (by omega) (by omega)).mp z)) hj0 ((gO_iff (by omega) (by omega)).mpr e0) fun x hx ex => lk x hx ((gO_iff (by omega) (by omega)).mp ex)
          rw [← gO_mrg (by omega) (by omega)] at cb2
          replace cb2 : CB hs bs t (gO (wrt fs i j)) (L' ++ ones bs i j) a b := cb2
          have less := wrt_less (fs := fs) (i := i) (j := j) (by omega) (by omega) ne
          have lon := ones_len (bs := bs) i j lb
          have lL2 : 21 * (uniq fs).length + (L'.length + 1) ≤ 300 := by rw [List.length_append] at lL; exact lL
          have hf9 := s9 _ _ hf8
          have hll9 := s9 _ _ hll8
          have hD9 : H9 D2 = some (.lst ((thr fs j).map nV)) := s9 _ _ hD2
          have al9 := al8.imp fun _ _ z => z.keep (TK.same s9)
          have s09 : Same H H9 := s08.trans s9
          have nef : fl ≠ D2 := fun z => by rw [← z, hf7] at nD2; cases nD2
          have nef2 := Ne.symm nef
          have nel : D2 ≠ ll := fun z => by rw [z, s7 _ _ hll6] at nD2; cases nD2
          refine ⟨_, rfl, D2, rfl, ⟨_, SqL.of hD9⟩, for_list (K := K) (a := D2) (xs := (thr fs j).map nV) (fun x σ H10 => ∃ (v9 v11 v12 v13 : Option V) (gs : List Nat), σ = [some (.ref r), some (.ref p), some (nV a), some (nV b), some (.ref fl), some (.ref ll), some (nV i), some (nV j), some (.ref D), v9, some (.ref D2), v11, v12, v13] ∧ Same H H10 ∧ H10 fl = some (.lst (gs.map nV)) ∧ gs.length = fs.length ∧ (∀ k, k < fs.length → fO gs k = if k ∈ (thr fs j).take x then fO fs i else fO fs k) ∧ H10 ll = some (.lst lv.dropLast) ∧ All2 (PairAt H10) lv.dropLast L' ∧ H10 D2 = some (.lst ((thr fs j).map nV))) ⟨_, _, _, _, fs, rfl, s09, hf9, rfl, (fun k _ => by rw [List.take_zero, if_neg (fun z => by cases z)]), hll9, al9, hD9⟩ (fun x σ H10 _ ⟨_, _, _, _, _, _, _, _, _, _, _, _, h⟩ => SqL.of h) ?_ ?_⟩
          · rintro x v σ H10 hx ⟨v9, v11, v12, v13, gs, rfl, s10, hf10, lgs, gsv, hll10, al10, hD10⟩
            rw [List.getElem?_map] at hx
            cases hk : (thr fs j)[x]? with
            | none => rw [hk] at hx; cases hx
            | some k =>
              rw [hk] at hx
              obtain rfl : nV k = v := Option.some.inj hx
              obtain ⟨kl, ek⟩ := thr_mem.mp (List.mem_of_getElem? hk)
              have ei : fO gs i = fO fs i := by rw [gsv i (by omega)]; split <;> rfl
              have k11 : TK H10 (upd H10 fl (.lst ((gs.map nV).set k (nV (fO gs i))))) := TK.lst hf10
              refine ⟨_, rfl, _, rfl, fl, _, _, _, rfl, rfl, SqL.of hf10, atI_nat (fO_at (by omega)), _, rfl, _, rfl, fl, _, _, k, rfl, rfl, hf10, ixN_nat (by rw [List.length_map]; omega), _, _, _, _, gs.set k (fO fs i), rfl, Same.own s10 nfl, ?_, by rw [List.length_set]; exact lgs, fun m hm => ?_, by rw [upd_ne fll.symm]; exact hll10, al10.imp fun _ _ z => z.keep k11, by rw [upd_ne nef2]; exact hD10⟩
              · rw [upd_same, List.map_set, ei]
              · rw [fO_set (by omega), List.take_add_one, hk, gsv m hm, show (some k).toList = [k] from rfl]
                by_cases c : m = k
                · rw [if_pos c, if_pos (List.mem_append.mpr (.inr (by rw [c]; exact List.mem_singleton.mpr rfl)))]
                · rw [if_neg c]
                  by_cases c2 : m ∈ (thr fs j).take x
                  · rw [if_pos c2, if_pos (List.mem_append.mpr (.inl c2))]
                  · rw [if_neg c2, if_neg (fun z => (List.mem_append.mp z).elim c2 fun z => c (List.mem_singleton.mp z))]
          rintro σ H10 ⟨v9, v11, v12, v13, gs, rfl, s10, hf10, lgs, gsv, hll10, al10, hD10⟩
          rw [List.length_map, List.take_length] at gsv
          obtain rfl := wrt_eq lgs gsv
          clear gsv hD10 al9 hll9 hf9 hD9 good
          refine ⟨_, rfl, _, rfl, r, hs, bs, i, rfl, hR.keep (TK.same s10), by omega, fun g1 gv1 H11 n1 h1 al1 s11 => ?_⟩
          have s011 : Same H H11 := s10.trans s11
          refine ⟨_, rfl, _, rfl, r, hs, bs, j, rfl, hR.keep (TK.same s011), by omega, fun g2 gv2 H12 n2 h2 al2 s12 => ?_⟩
          have s1012 : Same H10 H12 := s11.trans s12
          have s012 : Same H H12 := s011.trans s12
          have gl1 : g1 ≠ ll := fun z => by rw [z, hll10] at n1; cases n1
          have gl2 : g2 ≠ ll := fun z => by rw [z, s11 _ _ hll10] at n2; cases n2
          have g12 := s12 _ _ h1
          have al12 := al1.imp fun _ _ z => z.keep (TK.same s12)
          have lg : gv1.length = gv2.length := by rw [al1.length, al2.length]; exact cbl
          refine ⟨g1, g2, gv1, gv2, rfl, .inl ⟨SqL.of g12, SqL.of h2, for_it (J := L2.Itz K g1 g2) (n := gv1.length) (fun x σ H13 => ∃ (v9 v11 v12 v13 : Option V) (lw : List V), σ = [some (.ref r), some (.ref p), some (nV a), some (nV b), some (.ref fl), some (.ref ll), some (nV i), some (nV j), some (.ref D), v9, some (.ref D2), v11, v12, v13] ∧ Same H H13 ∧ TK H12 H13 ∧ H13 fl = some (.lst ((wrt fs i j).map nV)) ∧ H13 ll = some (.lst lw) ∧ All2 (PairAt H13) lw (L' ++ (ones bs i j).take x) ∧ H13 g1 = some (.lst gv1) ∧ H13 g2 = some (.lst gv2)) ⟨_, _, _, _, _, rfl, s012, (fun _ _ e => e), s1012 _ _ hf10, s1012 _ _ hll10, (by rw [List.take_zero, List.append_nil]; exact al10.imp fun _ _ z => z.keep (TK.same s1012)), g12, h2⟩ (fun x σ H13 hx ⟨_, _, _, _, _, _, _, _, _, _, _, e1, e2⟩ => ⟨gv1, gv2, _, _, SqL.of e1, SqL.of e2, List.getElem?_eq_getElem hx, List.getElem?_eq_getElem (by omega)⟩) (fun σ H13 ⟨_, _, _, _, _, _, _, _, _, _, _, e1, e2⟩ => ⟨gv1, gv2, SqL.of e1, SqL.of e2, .inl (Nat.le_refl _)⟩) ?_ ?_⟩⟩
          · rintro x v σ H13 H14 hx ⟨v9, v11, v12, v13, lw, rfl, s13, k13, hf13, hll13, al13, e1, e2⟩ y
            obtain ⟨T2, v1, v2, rfl, nT, rfl, q4, q5⟩ := y
            have q4 := q4 _ (SqL.of e1)
            have q5 := q5 _ (SqL.of e2)
            obtain ⟨b1, f1, t1, d1, rfl, c1, _⟩ := al12.getL q4
            obtain ⟨b2, f2, t2, d2, rfl, c2, _⟩ := al2.getL q5
            have s14 := same_new (o := .tup [V.ref t1, V.ref t2]) nT
            have c1 := s14 _ _ (k13 _ _ c1)
            have c2 := s14 _ _ (k13 _ _ c2)
            have hll14 := s14 _ _ hll13
            have law_ := al13.length
            have lt : ((ones bs i j).take x).length ≤ 20 := by rw [List.length_take]; omega
            rw [List.length_append] at law_
            refine ⟨T2, _, rfl, SqT.of upd_same, rfl, _, _, rfl, _, _, rfl, rfl, ?_⟩
            refine ⟨_, rfl, .inl ⟨rfl, _, SqL.of hll14⟩, _, rfl, t1, _, _, _, rfl, rfl, SqT.of c1, atI_nat (j := 0) rfl, _, rfl, t2, _, _, _, rfl, rfl, SqT.of c2, atI_nat (j := 0) rfl, (by show 2 ≤ sizeLine; decide), fun q1 nq1 => ?_⟩
            have s15 := s14.trans (same_new (o := .tup [nV b1.one, nV b2.one]) nq1)
            have hll15 := s15 _ _ hll13
            refine ⟨ll, lw, _, rfl, rfl, hll15, small1000 (by omega), ?_⟩
            have k16 := (TK.same s15).trans (TK.lst (ys := lw ++ [V.ref q1]) hll15)
            refine ⟨_, _, _, _, lw ++ [V.ref q1], rfl, Same.own (s13.trans s15) (same_none s2 nll), k13.trans k16, by rw [upd_ne fll]; exact s15 _ _ hf13, upd_same, ?_, by rw [upd_ne gl1]; exact s15 _ _ e1, by rw [upd_ne gl2]; exact s15 _ _ e2⟩
            have eo : (ones bs i j)[x]? = some (b1.one, b2.one) := by unfold ones; rw [List.getElem?_zipWith, f1, f2]
            rw [List.take_add_one, eo, ← List.append_assoc]
            exact (al13.imp fun _ _ z => z.keep k16).snoc ⟨q1, rfl, TK.lst hll15 _ _ upd_same⟩
          · rintro σ H13 ⟨v9, v11, v12, v13, lw, rfl, s13, k13, hf13, hll13, al13, e1, e2⟩
            have lo : (ones bs i j).length = gv1.length := by
              unfold ones
              rw [List.length_zipWith, al1.length, cbl, Nat.min_self]
            rw [← lo, List.take_length] at al13
            refine ⟨21 * (uniq (wrt fs i j)).length + (L' ++ ones bs i j).length, by rw [List.length_append, List.length_append]; show _ < _ + (_ + 1); omega, wrt fs i j, L' ++ ones bs i j, ⟨lw, _, _, _, _, _, _, _, _, rfl, s13, hf13, hll13, al13, lgs.trans lf, cb2, by rw [List.length_append]; omega⟩, rfl⟩
      · have e : fO fs i = fO fs j := by
          by_cases h : fO fs i = fO fs j
          · exact h
          · exfalso
            revert e
            simp [show ¬ nV (fO fs i) = nV (fO fs j) from fun z => h (by have := V.int.inj z; omega)]
        refine ⟨21 * (uniq fs).length + L'.length, by rw [List.length_append]; show _ < _ + (_ + 1); omega, fs, L', ⟨lv.dropLast, _, _, _, _, _, _, _, _, rfl, s08, hf8, hll8, al8, lf, cb.skip ((gO_iff (by omega) (by omega)).mpr e), by rw [List.length_append] at lL; omega⟩, rfl⟩
    · have e0 : L = [] := by
        have := of_decide_eq_false e
        cases L with
        | nil => rfl
        | cons x l => exact absurd (show (0 : Int) < ((lv.length : Nat) : Int) by rw [lal]; show (0 : Int) < ((l.length + 1 : Nat) : Int); omega) this
      subst e0
      exact absurd (cb.done kd0 ends ha hb) un
end
/-! ### rules: the place of a number in a tuple; the numbers of a tuple in order, each once -/
def tTIdx (to : TE) (t : TA) : TE := fun σ H Q => to σ H fun x H1 => ∃ (p : Addr) (ob : Obj) (ns : List Int), x = .ref p ∧ ob.dict = none ∧ H1 p = some (.frz ob (.tup (ns.map V.int))) ∧ t σ H1 fun ys H2 => ∃ k, ys = [.int k] ∧ H2 p = some (.frz ob (.tup (ns.map V.int))) ∧ k ∈ ns ∧ Q (.int (ns.idxOf k : Nat)) H2
theorem pe_tIdx {X : Cx} {o e : Expr} {to : TE} {t : TA} {apos cpos : Pos} (ho : PE X o to) (ha : L2.PA X [e] t) (hbase : attributeBase o "index" X.env (eval o X.env) = eval o X.env := by rfl)
    (hfew : ((backTo cpos (starEach [e] X.env)).all (fun x => !x.1) && (backToKw cpos (keywordEach [] X.env)).all (fun x => x.1.isSome)
      && decide ([e].length + ([] : List Keyword).length + (if ([] : List Keyword).isEmpty then 0 else 1) < 30)) = true := by rfl)
    (hline : (apos.endLine == cpos.line) = true := by rfl) (hs : starEach [e] X.env = (false, eval e X.env) :: starEach [] X.env := by rfl) :
    PE X (.Call (.Attribute o "index" apos) [e] [] cpos) (tTIdx to t) := by
  refine ⟨fun pins s σ H Q I h => ?_⟩
  refine wpAny_Call_method_late hbase hfew hline rfl (thn (ho.run pins s σ H _ I h) fun v s1 ⟨x, H1, I1, r1, p, ob, ns, ex, nod, at1, q1⟩ => ?_)
  subst ex
  cases r1
  obtain ⟨here, tup⟩ := I1.hok p _ at1
  obtain ⟨_, its, _, ob2, here2, cls, _⟩ := tup
  rw [here] at here2
  obtain rfl := Option.some.inj here2
  refine ⟨"tuple", _, PySem.F.plainAttrs_tuple, PySem.F.slot_tuple_index, PySem.F.type_tuple_index, ⟨_, here, cls⟩, fun a ea => (by cases ea; exact ⟨_, here, nod⟩), ?_⟩
  have hA := ha.run cpos pins s1 σ H1 _ I1 q1
  rw [hs] at hA ⊢
  refine Calls.callWith_builtin rfl (Calls.evalArgs_plain (thn hA fun us s2 ⟨vs, H2, I2, r2, k, ey, at2, m, q2⟩ => ?_))
  subst ey
  obtain ⟨_, rfl, t, rfl⟩ := vals1 r2
  have ⟨its2, rv, pl, _⟩ := I2.tuple (.inl (.inr ⟨_, at2⟩))
  exact PySem.SeqAt.tuple_index_ints pl (by simpa using ints_of_valsG rv) m ⟨.int (ns.idxOf k : Nat), H2, I2.tok _, ⟨_, rfl⟩, q2⟩
def tSortSetT (K : PySem.W.Frag) (ta : TE) : TE := fun σ H Q => ta σ H fun x H1 => ∃ (l : Addr) (ns : List Int), x = .ref l ∧ SqT K H1 l (ns.map V.int) ∧ ns.length < 64 ∧
  ∀ (ms : List Int) (p : Addr), ms.Pairwise (· < ·) → (∀ k, k ∈ ms ↔ k ∈ ns) → H1 p = none → Q (.ref p) (upd H1 p (.lst (ms.map V.int)))
theorem pe_sortSetT (K : PySem.W.Frag) {X : Cx} (same : X.K = K) {a : Expr} {ta : TE} {p p2 q pos : Pos} (hg : Gl X "sorted") (hm : X.mg "sorted" = none) (hg2 : Gl X "set") (hm2 : X.mg "set" = none) (ha : PE X a ta) (hc : X.calm = true := by rfl)
    (na : starEach [a] X.env = (false, eval a X.env) :: starEach [] X.env := by rfl) : PE X (.Call (.Name "sorted" p) [.Call (.Name "set" p2) [a] [] q] [] pos) (tSortSetT K ta) := by
  subst same
  refine ⟨fun pins s σ H Q I h => ?_⟩
  refine Call_ (ld_blt I hg hm boot_sorted (PyProof.Rows.callWith_builtin1 (PyProof.Rows.args_cons ?_ rfl) rfl rfl))
  refine Call_ (ld_blt I hg2 hm2 boot_set (PyProof.Rows.callWith_type1 (PyProof.Rows.args_cons (thn (ha.run pins s σ H _ I h) fun v s1 ⟨x, H1, I1, r1, l, ns, ex, sq, few, go⟩ => PyProof.Rows.args_nil ?_) na) na rfl))
  subst ex
  cases r1
  have ⟨its, r, pl, _⟩ := I1.tuple sq
  refine call_set_tupI ns (I1.ok.hd hc) pl (by simpa using ints_of_valsG r) (by unfold scanBound; omega) fun h' tk c made less old => PyProof.Rows.args_nil ?_
  have I2 : Inv X pins σ H1 { s1 with heap := h', toks := tk } := I1.kept old
  refine sorted_set made (I2.ok.hd hc) (by omega) fun s' p out cap ms keeps gs os fresh at_ ims up mem num => ?_
  have none1 : H1 p = none := I2.hok.fresh fresh
  have small : (ms.map V.int).length ≤ sizeLine := by rw [List.length_map, num, sizeLine_eq]; omega
  have J : Inv X pins σ (upd H1 p (.lst (ms.map V.int))) { s1 with heap := s'.heap, gens := s'.gens, drawn := s'.drawn, toks := s'.toks } :=
    Inv.call (s := { s1 with heap := h', toks := tk }) I2 (ch := []) (g' := s'.gens) (d' := s'.drawn) (t' := s'.toks) (Un.laid keeps fresh none1) (I2.hok.laid keeps fresh ⟨small, out.toList, cap, vals_of_ints ims, at_⟩) (by rw [gs]; exact I2.bare) (fun _ z => nomatch z)
  have back : s' = { s1 with heap := s'.heap, gens := s'.gens, drawn := s'.drawn, toks := s'.toks } := by
    cases s'
    cases s1
    cases os
    rfl
  rw [back]
  exact ⟨.ref p, _, J, rfl, go ms p up (fun k => (mem k).trans ⟨fun z => of_decide_eq_true z, fun z => decide_eq_true z⟩) none1⟩
/-! ### the kinds of the room made one, and of the turned room -/
theorem All2.mapB {α β γ δ : Type} {R : γ → δ → Prop} {f : α → γ} {g : β → δ} : ∀ {as : List α} {bs : List β}, All2 (fun a b => R (f a) (g b)) as bs → All2 R (as.map f) (bs.map g)
  | _, _, .nil => .nil
  | _, _, .cons h t => .cons h (All2.mapB t)
theorem uniq_nd : ∀ {l : List Nat}, l.Nodup → uniq l = l := by
  intro l
  induction l using snoc_ind with
  | h0 => intro _; rfl
  | h1 l x ih =>
    intro nd
    have nl : l.Nodup := (List.nodup_append.mp nd).1
    have nx : x ∉ l := fun m => (List.nodup_append.mp nd).2.2 x m x (List.mem_singleton.mpr rfl) rfl
    rw [uniq_snoc, ih nl, if_neg nx]
theorem uniq_range (n : Nat) : uniq (List.range n) = List.range n := uniq_nd List.nodup_range
theorem canon_range (n : Nat) : Canon (List.range n) := fun i x e => by
  have il := (List.getElem?_eq_some_iff.mp e).1
  rw [List.length_range] at il
  rw [List.getElem?_range il] at e
  obtain rfl := Option.some.inj e
  refine .inr ?_
  rw [List.take_range, Nat.min_eq_left (Nat.le_of_lt il), uniq_range, List.length_range]
section
variable {hs : List HR} {bs : List BR} {t : List Nat}
theorem joinH_len : (joinH hs t).length = (uniq t).length := by
  unfold joinH
  rw [List.length_map, List.length_range]
theorem join_sep (K : KindsOf hs bs t) (ends : ∀ b ∈ bs, b.one < hs.length) {i j : Nat} (hi : i < (uniq t).length) (hj : j < (uniq t).length) (al : AlikeH (joinH hs t) (joinB bs t) i j) : i = j := by
  have J := join_ok K ends
  obtain ⟨R, bis, r⟩ := al
  obtain ⟨i1, i2⟩ := rep_lt K hi
  obtain ⟨j1, j2⟩ := rep_lt K hj
  have lt : ∀ {x}, x < hs.length → kd t x < (joinH hs t).length := fun {x} h => by rw [joinH_len]; exact kd_lt K h
  have big : AlikeH hs bs (rep t i) (rep t j) := by
    refine ⟨fun a b => R (kd t a) (kd t b), ⟨fun a b h ha hb => ?_, fun a b h ha hb => ?_⟩, by show R _ _; rw [i2, j2]; exact r⟩
    · rcases bis.first _ _ h (lt ha) (lt hb) with e | ⟨g, g2, e1, e2, e3, e4, e5⟩
      · exact ((kinds_alike K ha hb).mp e).first ha hb
      · have ea := List.getElem?_eq_getElem ha
        have eb := List.getElem?_eq_getElem hb
        obtain ⟨ga, fa, wa, na, _⟩ := J.hand a _ ea
        obtain ⟨gb, fb, wb, nb, _⟩ := J.hand b _ eb
        rw [fa] at e1
        rw [fb] at e2
        obtain rfl := Option.some.inj e1
        obtain rfl := Option.some.inj e2
        refine .inr ⟨_, _, ea, eb, ?_, ?_, ?_⟩
        · rw [← wa, ← wb]; exact e3
        · rw [← na, ← nb]; exact e4
        · unfold isDoor at e5 ⊢
          rw [← wa]; exact e5
    · have c0 := bis.come _ _ h (lt ha) (lt hb)
      have ca := J.come a ha
      have cb := J.come b hb
      refine All2.ofGet (by rw [ca.length, cb.length]; exact c0.length) fun z p q ep eq => ?_
      obtain ⟨p', ep', h1, h2⟩ := ca.getL ep
      obtain ⟨q', eq', h3, h4⟩ := cb.getL eq
      obtain ⟨h5, h6⟩ := c0.getBoth ep' eq'
      refine ⟨by rw [h1, h3, h5], ?_⟩
      show R (kd t p.one) (kd t q.one)
      rw [← h2, ← h4]
      exact h6
  have := (kinds_alike K i1 j1).mpr big
  rw [i2, j2] at this
  exact this
theorem alike_refl (i : Nat) : AlikeH hs bs i i := by
  refine ⟨fun a b => a = b, ⟨fun a b h _ _ => .inl h, fun a b h _ _ => ?_⟩, rfl⟩
  subst h
  exact All2.ofGet rfl fun z p q e1 e2 => by
    rw [e1] at e2
    obtain rfl := Option.some.inj e2
    exact ⟨rfl, rfl⟩
theorem join_kinds (K : KindsOf hs bs t) (ends : ∀ b ∈ bs, b.one < hs.length) : KindsOf (joinH hs t) (joinB bs t) (List.range (uniq t).length) := by
  refine ⟨by rw [List.length_range, joinH_len], canon_range _, fun i j hi hj => ?_⟩
  rw [joinH_len] at hi hj
  rw [List.getElem?_range hi, List.getElem?_range hj]
  exact ⟨fun e => by rw [Option.some.inj e]; exact alike_refl j, fun a => congrArg some (join_sep K ends hi hj a)⟩
theorem alk_range {n k : Nat} (h : k < n) : alk (List.range n) k = [k] := by
  refine pw_eq (List.Pairwise.filter _ List.pairwise_lt_range) (List.pairwise_singleton ..) fun x => ?_
  unfold alk
  rw [List.mem_filter, List.mem_range, List.length_range, List.mem_singleton]
  constructor
  · rintro ⟨h1, h2⟩
    have h2 := of_decide_eq_true h2
    rw [List.getElem?_range h1] at h2
    exact Option.some.inj h2
  · rintro rfl
    exact ⟨h, decide_eq_true (List.getElem?_range h)⟩
theorem kd_range {n k : Nat} (h : k < n) : kd (List.range n) k = k := kd_at (List.getElem?_range h)
theorem rep_range {n k : Nat} (h : k < n) : rep (List.range n) k = k := by
  unfold rep
  rw [alk_range h]; rfl
theorem joinH_range (hs : List HR) : joinH hs (List.range hs.length) = hs := by
  refine List.ext_getElem? fun k => ?_
  by_cases h : k < hs.length
  · rw [joinH_at (by rw [uniq_range, List.length_range]; exact h), List.getElem?_eq_getElem h]
    refine congrArg some ?_
    unfold joinH1
    rw [rep_range h, alk_range h, gH_at (List.getElem?_eq_getElem h)]
    show (⟨hs[k].wd, hs[k].no, minL [(gH hs k).mom]⟩ : HR) = _
    rw [gH_at (List.getElem?_eq_getElem h)]
    rfl
  · rw [List.getElem?_eq_none (by rw [joinH_len, uniq_range, List.length_range]; omega), List.getElem?_eq_none (by omega)]
theorem flatMap_cong {f g : Nat → List BR} {n : Nat} (h : ∀ k, k < n → f k = g k) : (List.range n).flatMap f = (List.range n).flatMap g := by
  rw [List.flatMap_def, List.flatMap_def]
  congr 1
  exact List.map_congr_left fun k hk => h k (List.mem_range.mp hk)
theorem joinB_range (K : KindsOf hs bs t) (ends : ∀ b ∈ bs, b.one < hs.length) : joinB (joinB bs t) (List.range (uniq t).length) = joinB bs t := by
  show (List.range (uniq (List.range (uniq t).length)).length).flatMap _ = (List.range (uniq t).length).flatMap _
  rw [uniq_range, List.length_range]
  refine flatMap_cong fun k hk => ?_
  unfold joinB1
  rw [rep_range hk, come_join hk]
  unfold joinB1
  rw [List.map_map]
  refine List.map_congr_left fun b hb => ?_
  show (⟨kd (List.range _) (kd t b.one), k, b.th⟩ : BR) = _
  rw [kd_range (kd_lt K (ends b (come_mem hb)))]
end
section
variable {hs : List HR} {bs : List BR} {ord : List Nat} {hs' : List HR} {bs' : List BR}
theorem Turned.ordlt (T : Turned hs bs ord hs' bs') {j k : Nat} (e : ord[j]? = some k) : k < hs.length ∧ j < hs'.length ∧ ord.idxOf k = j :=
  ⟨T.mem.mp (List.mem_of_getElem? e), by rw [T.hlen]; exact (List.getElem?_eq_some_iff.mp e).1, idx_at T.nd e⟩
theorem Turned.alike (T : Turned hs bs ord hs' bs') (ends : ∀ b ∈ bs, b.one < hs.length) {i j a b : Nat} (ea : ord[i]? = some a) (eb : ord[j]? = some b) : AlikeH hs' bs' i j ↔ AlikeH hs bs a b := by
  have come : ∀ {x k : Nat}, ord[x]? = some k → comeB bs' x = (comeB bs k).map (ren ord) := fun {x k} e => by
    obtain ⟨h1, h2, h3⟩ := T.ordlt e
    have := T.at_ k h1
    rw [h3] at this
    exact this
  have back : ∀ {x}, x < hs'.length → ∃ k, ord[x]? = some k := fun {x} h => ⟨_, List.getElem?_eq_getElem (by rw [← T.hlen]; exact h)⟩
  constructor
  · rintro ⟨R, bis, r⟩
    refine ⟨fun x y => R (ord.idxOf x) (ord.idxOf y), ⟨fun x y h hx hy => ?_, fun x y h hx hy => ?_⟩, by show R _ _; rw [(T.ordlt ea).2.2, (T.ordlt eb).2.2]; exact r⟩
    · rcases bis.first _ _ h (T.lt hx) (T.lt hy) with e | ⟨g, g2, e1, e2, e3⟩
      · have := T.back hx
        rw [e, T.back hy] at this
        exact .inl (Option.some.inj this).symm
      · rw [T.hand _ _ (T.back hx)] at e1
        rw [T.hand _ _ (T.back hy)] at e2
        exact .inr ⟨g, g2, e1, e2, e3⟩
    · have c0 := bis.come _ _ h (T.lt hx) (T.lt hy)
      rw [come (T.back hx), come (T.back hy)] at c0
      refine All2.ofGet (by have := c0.length; rwa [List.length_map, List.length_map] at this) fun z p q ep eq => ?_
      exact c0.getBoth (i := z) (a := ren ord p) (b := ren ord q) (by rw [List.getElem?_map, ep]; rfl) (by rw [List.getElem?_map, eq]; rfl)
  · rintro ⟨R, bis, r⟩
    refine ⟨fun x y => ∃ u v, ord[x]? = some u ∧ ord[y]? = some v ∧ R u v, ⟨fun x y ⟨u, v, e1, e2, h⟩ _ _ => ?_, fun x y ⟨u, v, e1, e2, h⟩ _ _ => ?_⟩, a, b, ea, eb, r⟩
    · rcases bis.first _ _ h (T.ordlt e1).1 (T.ordlt e2).1 with e | ⟨g, g2, f1, f2, f3⟩
      · rw [← (T.ordlt e1).2.2, ← (T.ordlt e2).2.2, e]
        exact .inl rfl
      · rw [← T.hand _ _ e1] at f1
        rw [← T.hand _ _ e2] at f2
        exact .inr ⟨g, g2, f1, f2, f3⟩
    · have c0 := bis.come _ _ h (T.ordlt e1).1 (T.ordlt e2).1
      rw [come e1, come e2]
      refine All2.mapB (c0.imp_mem fun p hp q hq h2 => ⟨h2.1, p.one, q.one, T.back (ends p (come_mem hp)), T.back (ends q (come_mem hq)), h2.2⟩)
end
theorem pwI_eq : ∀ {l m : List Int}, l.Pairwise (· < ·) → m.Pairwise (· < ·) → (∀ x, x ∈ l ↔ x ∈ m) → l = m
  | [], [], _, _, _ => rfl
  | [], y :: m, _, _, h => absurd ((h y).mpr (List.mem_cons_self ..)) (fun z => (by cases z))
  | x :: l, [], _, _, h => absurd ((h x).mp (List.mem_cons_self ..)) (fun z => (by cases z))
  | x :: l, y :: m, a, b, h => by
    obtain ⟨a1, a2⟩ := List.pairwise_cons.mp a
    obtain ⟨b1, b2⟩ := List.pairwise_cons.mp b
    have e : x = y := by
      rcases List.mem_cons.mp ((h x).mp (List.mem_cons_self ..)) with e | hx
      · exact e
      · rcases List.mem_cons.mp ((h y).mpr (List.mem_cons_self ..)) with e | hy
        · exact e.symm
        · exact absurd (Int.lt_trans (a1 y hy) (b1 x hx)) (Int.lt_irrefl _)
    subst e
    refine congrArg (x :: ·) (pwI_eq a2 b2 fun z => ⟨fun hz => ?_, fun hz => ?_⟩)
    · rcases List.mem_cons.mp ((h z).mp (List.mem_cons_of_mem _ hz)) with e | q
      · exact absurd (e ▸ a1 z hz) (Int.lt_irrefl _)
      · exact q
    · rcases List.mem_cons.mp ((h z).mpr (List.mem_cons_of_mem _ hz)) with e | q
      · exact absurd (e ▸ b1 z hz) (Int.lt_irrefl _)
      · exact q
/-- the kinds in order are all numbers below how many there are -/
theorem kinds_sorted {t : List Nat} (c : Canon t) {ms : List Int} (up : ms.Pairwise (· < ·)) (mem : ∀ k, k ∈ ms ↔ k ∈ t.map fun n => ((n : Nat) : Int)) : ms = (List.range (uniq t).length).map fun n => ((n : Nat) : Int) := by
  refine pwI_eq up ?_ fun x => ?_
  · rw [List.pairwise_map]
    exact List.pairwise_lt_range.imp fun h => by omega
  · rw [mem, List.mem_map, List.mem_map]
    constructor
    · rintro ⟨n, hn, e⟩
      exact ⟨n, List.mem_range.mpr ((canon_all c n).mp hn), e⟩
    · rintro ⟨n, hn, e⟩
      exact ⟨n, (canon_all c n).mpr (List.mem_range.mp hn), e⟩
theorem belts_lay : ∀ bs : List BR, PyData.canLayAll0 (bs.map beltD) = true
  | [] => rfl
  | b :: bs => by
    rw [List.map_cons]
    simp only [PyData.canLayAll0]
    rw [belt_lay, belts_lay bs]
    rfl
theorem belts_dep : ∀ bs : List BR, PyData.depthAll (bs.map beltD) ≤ 2
  | [] => Nat.zero_le _
  | b :: bs => by
    rw [List.map_cons]
    have h1 := belts_dep bs
    have h2 := dep_ints b.th
    simp only [PyData.depthAll, PyData.depth] at h1 h2 ⊢
    omega
theorem room_lay {hs : List HR} {bs : List BR} (g : ∀ h ∈ hs, GoodHand h) : PyData.canLay0 (roomD hs bs) = true := by
  have h1 := (hands_neat g).lay
  have h2 := belts_lay bs
  simp only [PyData.canLay0, PyData.canLayAll0] at h1 h2 ⊢
  rw [h1, h2]
  rfl
theorem room_shaped {hs : List HR} {bs : List BR} (g : ∀ h ∈ hs, GoodHand h) : SeqAt.shaped (roomD hs bs) = true := by
  unfold SeqAt.shaped
  rw [room_lay g, Bool.true_and]
  refine decide_eq_true ?_
  have h1 := (hands_neat g).dep
  have h2 := belts_dep bs
  simp only [PyData.depth, PyData.depthAll] at h1 h2 ⊢
  omega
theorem rgV_nats (n : Nat) : rgV 0 ((n : Nat) : Int) = (List.range n).map nV := by
  unfold rgV
  rw [show ((n : Int) - 0).toNat = n by omega]
  exact List.map_congr_left fun i _ => congrArg V.int (Int.zero_add _)
theorem nats_ints (t : List Nat) : t.map nV = (t.map fun n => ((n : Nat) : Int)).map V.int := by rw [List.map_map]; rfl
theorem list_shaped (m : List Nat) : SeqAt.shaped (.list (m.map fun n => PyData.int ((n : Nat) : Int))) = true := by
  unfold SeqAt.shaped
  simp only [PyData.canLay0, lay_nats, Bool.true_and, PyData.depth]
  have := dep_nats m
  exact decide_eq_true (by omega)
theorem bools_dp {K : PySem.W.Frag} {H : Hp} : ∀ bl : List Bool, DpAll K H (bl.map V.bl) (bl.map PyData.bool)
  | [] => .nil
  | b :: bl => .cons (.bl b) (bools_dp bl)
theorem bools_lay : ∀ bl : List Bool, PyData.canLayAll0 (bl.map PyData.bool) = true ∧ PyData.depthAll (bl.map PyData.bool) ≤ 0
  | [] => ⟨rfl, Nat.le_refl _⟩
  | b :: bl => by
    obtain ⟨h1, h2⟩ := bools_lay bl
    rw [List.map_cons]
    refine ⟨by simp only [PyData.canLayAll0, PyData.canLay0, h1, Bool.and_self], ?_⟩
    simp only [PyData.depthAll, PyData.depth]
    omega
theorem bools_shaped (bl : List Bool) : SeqAt.shaped (.list (bl.map PyData.bool)) = true := by
  obtain ⟨h1, h2⟩ := bools_lay bl
  unfold SeqAt.shaped
  simp only [PyData.canLay0, h1, Bool.true_and, PyData.depth]
  exact decide_eq_true (by omega)
section
variable {P : Program} {w : World} {K : PySem.W.Frag} {mg : Str → Option Value} {base : Heap}
def sp_law (K : PySem.W.Frag) : Sp := fun vs H Q _ => ∃ (a : Addr) (ns : List Int), vs = [.ref a] ∧ SqL K H a (ns.map V.int) ∧ ns.length ≤ 63 ∧ ∀ H', Q (.bl true) H'
theorem ok_law {f : Addr} {fd : FuncData} (F : Fun K "law" "law" s_law f fd) (T : Top K mg) : FnOk P w K mg base CX0 8 f fd ["_law_script"] (sp_law K) := by
  obtain ⟨f_law_flow, fd_law_flow, F_law_flow, b_law_flow, m_law_flow⟩ := T.d_law_flow
  have G_law_flow := ok_law_flow (P := P) (w := w) (base := base) F_law_flow T
  obtain ⟨f_law_some_copied, fd_law_some_copied, F_law_some_copied, b_law_some_copied, m_law_some_copied⟩ := T.d_law_some_copied
  have G_law_some_copied := ok_law_some_copied (P := P) (w := w) (base := base) F_law_some_copied T
  obtain ⟨f_kinds, fd_kinds, F_kinds, b_kinds, m_kinds⟩ := T.d_kinds
  have G_kinds := ok_kinds (P := P) (w := w) (base := base) F_kinds T
  obtain ⟨f_joined_alike, fd_joined_alike, F_joined_alike, b_joined_alike, m_joined_alike⟩ := T.d_joined_alike
  have G_joined_alike := ok_joined_alike (P := P) (w := w) (base := base) F_joined_alike T
  obtain ⟨f_law_turned_room, fd_law_turned_room, F_law_turned_room, b_law_turned_room, m_law_turned_room⟩ := T.d_law_turned_room
  have G_law_turned_room := ok_law_turned_room (P := P) (w := w) (base := base) F_law_turned_room T
  obtain ⟨f_law_closed, fd_law_closed, F_law_closed, b_law_closed, m_law_closed⟩ := T.d_law_closed
  have G_law_closed := ok_law_closed (P := P) (w := w) (base := base) F_law_closed T
  obtain ⟨f_law_could_be_one, fd_law_could_be_one, F_law_could_be_one, b_law_could_be_one, m_law_could_be_one⟩ := T.d_law_could_be_one
  have G_law_could_be_one := ok_law_could_be_one (P := P) (w := w) (base := base) F_law_could_be_one T
  refine F.ok sc_law (fun vs H Q E h => ?_) (fun cdv A outer s H vs Q E hr h => ?_)
  · obtain ⟨a, ns, rfl, _⟩ := h
    rfl
  obtain ⟨a, ns, rfl, hS, hlen, q⟩ := h
  refine ⟨_, (pss_cons (ps_set (i := 1) sc_law.nd rfl (Or.inl rfl) (pe_call G_law_flow (hr.mono (by decide)) (by rfl) m_law_flow F_law_flow.kp b_law_flow .nil pass0 (pa_cons (pv 0) pa_nil)))
      (pss_cons (ps_set (i := 2) sc_law.nd rfl (Or.inl rfl) (pe_call G_law_some_copied (hr.mono (by decide)) (by rfl) m_law_some_copied F_law_some_copied.kp b_law_some_copied .nil pass0 (pa_cons (pv 1) pa_nil)))
      (pss_cons (ps_set (i := 3) sc_law.nd rfl (Or.inr rfl) (pe_call G_kinds (hr.mono (by decide)) (by rfl) m_kinds F_kinds.kp b_kinds .nil pass0 (pa_cons (pv 2) pa_nil)))
      (pss_cons (ps_if (PW.pt (pw_or (pt_cmpR op_ne (pe_callB (call_len_seqK K rfl) (by rfl) T.m_len (by decide +kernel) (pa_cons (pv 3) pa_nil)) (pe_callB (call_len_seqK K rfl) (by rfl) T.m_len (by decide +kernel) (pa_cons (pe_ix (ix_tupK K rfl) (pv 2) pe_int (fun _ _ => rfl)) pa_nil)) (nomark _)) (pw_or1 (pt_cmpR (op_neDK K rfl hr.units) (pe_sortSetT K rfl (by rfl) T.m_sorted (by rfl) T.m_set (pv 3)) (pe_listRg rfl (by rfl) T.m_list (prg_1 (by rfl) T.m_range (pe_lenSetT K rfl (by rfl) T.m_len (by rfl) T.m_set (pv 3)))) (nomark _))))) (pss_one (ps_ret pe_bl)) pss_nil)
      (pss_cons (ps_if (pt_not (pt_val (pe_call G_law_closed (hr.mono (by decide)) (by rfl) m_law_closed F_law_closed.kp b_law_closed .nil pass0 (pa_cons (pv 2) (pa_cons (pv 3) pa_nil))))) (pss_one (ps_ret pe_bl)) pss_nil)
      (pss_cons (ps_setLc (i := 4) (own := [("_law_kind", 5)]) (g := gName 5) (tt := tYes) (by rfl) sc_law.nd rfl rfl (sw_true rfl rfl rfl (by decide +kernel)) (pi_range1 (by rfl) T.m_range (pa_cons (pe_lenSetT K rfl (by rfl) T.m_len (by rfl) T.m_set (pv 3)) pa_nil)) (blkOk_by (own := [("_law_kind", 5)]) (N := N_law) (sc := defScope s_law) (by decide +kernel)) (fun _ _ _ _ _ => (pg_name (i := 5) sc_law.nd rfl (Or.inl rfl))) (fun _ _ _ _ _ => pts_nil) (fun _ _ _ _ _ => (pe_tIdx (pv 3) (pa_cons (pv 5) pa_nil))))
      (pss_cons (ps_for PassesOwn.never rfl (pi_range1 (by rfl) T.m_range (pa_cons (pe_callB (call_len_seqK K rfl) (by rfl) T.m_len (by decide +kernel) (pa_cons (pv 4) pa_nil)) pa_nil)) (pg_name (i := 6) sc_law.nd rfl (Or.inr rfl))
        (pss_one (ps_for PassesOwn.never rfl (pi_range1 (by rfl) T.m_range (pa_cons (pv 6) pa_nil)) (pg_name (i := 7) sc_law.nd rfl (Or.inl rfl))
        (pss_one (ps_if (pt_val (pe_call G_law_could_be_one (hr.mono (by decide)) (by rfl) m_law_could_be_one F_law_could_be_one.kp b_law_could_be_one .nil pass0 (pa_cons (pv 2) (pa_cons (pv 3) (pa_cons (pe_ix (ix_listK K rfl) (pv 4) (pv 7) (fun _ _ => rfl)) (pa_cons (pe_ix (ix_listK K rfl) (pv 4) (pv 6) (fun _ _ => rfl)) pa_nil)))))) (pss_one (ps_ret pe_bl)) pss_nil)))))
      (pss_cons (ps_set (i := 8) sc_law.nd rfl (Or.inl rfl) (pe_call G_joined_alike (hr.mono (by decide)) (by rfl) m_joined_alike F_joined_alike.kp b_joined_alike .nil pass0 (pa_cons (pv 2) pa_nil)))
      (pss_cons (ps_if (PW.pt (pw_or (pt_cmpR (op_neDK K rfl hr.units) (pe_call G_kinds (hr.mono (by decide)) (by rfl) m_kinds F_kinds.kp b_kinds .nil pass0 (pa_cons (pv 8) pa_nil)) (pe_tupRg rfl (by rfl) T.m_tuple (prg_1 (by rfl) T.m_range (pe_callB (call_len_seqK K rfl) (by rfl) T.m_len (by decide +kernel) (pa_cons (pv 4) pa_nil)))) (nomark _)) (pw_or1 (pt_cmpR (op_neDK K rfl hr.units) (pe_call G_joined_alike (hr.mono (by decide)) (by rfl) m_joined_alike F_joined_alike.kp b_joined_alike .nil pass0 (pa_cons (pv 8) pa_nil)) (pv 8) (nomark _))))) (pss_one (ps_ret pe_bl)) pss_nil)
      (pss_cons (ps_asg (pe_call G_law_turned_room (hr.mono (by decide)) (by rfl) m_law_turned_room F_law_turned_room.kp b_law_turned_room .nil pass0 (pa_cons (pv 1) (pa_cons (pv 2) pa_nil))) (pg_tupK K rfl rfl (pgs_cons (pg_name (i := 9) sc_law.nd rfl (Or.inl rfl)) (pgs_cons (pg_name (i := 10) sc_law.nd rfl (Or.inr rfl)) pgs_nil))))
      (pss_cons (ps_set (i := 11) sc_law.nd rfl (Or.inr rfl) (pe_call G_kinds (hr.mono (by decide)) (by rfl) m_kinds F_kinds.kp b_kinds .nil pass0 (pa_cons (pv 9) pa_nil)))
      (pss_cons (ps_for PassesOwn.never rfl (pi_range1 (by rfl) T.m_range (pa_cons (pe_callB (call_len_seqK K rfl) (by rfl) T.m_len (by decide +kernel) (pa_cons (pv 10) pa_nil)) pa_nil)) (pg_name (i := 6) sc_law.nd rfl (Or.inr rfl))
        (pss_one (ps_if (pt_cmpR (op_neDK K rfl hr.units) (pe_lc (own := [("_law_k", 7)]) (g := gName 7) (tt := tYes) (by rfl) sc_law.nd (pi_range1 (by rfl) T.m_range (pa_cons (pv 6) pa_nil)) (blkOk_by (own := [("_law_k", 7)]) (N := N_law) (sc := defScope s_law) (by decide +kernel)) (fun _ _ _ _ _ => (pg_name (i := 7) sc_law.nd rfl (Or.inl rfl))) (fun _ _ _ _ _ => pts_nil) (fun _ _ _ _ _ => (pe_cmpR op_eq (pe_ix (ix_tupK K rfl) (pv 11) (pv 6) (fun _ _ => rfl)) (pe_ix (ix_tupK K rfl) (pv 11) (pv 7) (fun _ _ => rfl)) (nomark _)))) (pe_lc (own := [("_law_k", 7)]) (g := gName 7) (tt := tYes) (by rfl) sc_law.nd (pi_range1 (by rfl) T.m_range (pa_cons (pv 6) pa_nil)) (blkOk_by (own := [("_law_k", 7)]) (N := N_law) (sc := defScope s_law) (by decide +kernel)) (fun _ _ _ _ _ => (pg_name (i := 7) sc_law.nd rfl (Or.inl rfl))) (fun _ _ _ _ _ => pts_nil) (fun _ _ _ _ _ => (pe_cmpR op_eq (pe_ix (ix_tupK K rfl) (pv 3) (pe_ix (ix_listK K rfl) (pv 10) (pv 6) (fun _ _ => rfl)) (fun _ _ => rfl)) (pe_ix (ix_tupK K rfl) (pv 3) (pe_ix (ix_listK K rfl) (pv 10) (pv 7) (fun _ _ => rfl)) (fun _ _ => rfl)) (nomark _)))) (nomark _)) (pss_one (ps_ret pe_bl)) pss_nil)))
      (pss_one (ps_ret pe_bl)))))))))))))), ?_⟩
  refine ⟨_, rfl, a, ns, rfl, hS, fun f c H1 nf nc F1 s1 => ?_⟩
  refine ⟨_, rfl, f, c, rfl, F1, fun r hs bs H2 hR ok pos F2 B2 => ?_⟩
  have lh := ok.hands
  have lb := ok.many
  have ends : ∀ b ∈ bs, b.one < hs.length := fun b hb => (ok.ends b hb).1
  refine ⟨_, rfl, r, hs, bs, rfl, hR, ok.good, by omega, ends, by omega, fun p ob t H3 od kd0 np hp s3 => ?_⟩
  have tl := kd0.len
  have tm : (t.map nV).length = t.length := List.length_map ..
  have hR3 := hR.keep (TK.same s3)
  have F3 := F2.same s3
  obtain ⟨ha, ba, hv, bv, er, eh, eb, alh, alb⟩ := id hR3.ex
  have lhv := alh.length
  have nn : (uniq t).length ≤ 12 := Nat.le_trans (uniq_len t) (by omega)
  have un : (uniq (t.map fun n => ((n : Nat) : Int))).length = (uniq t).length := by
    rw [uniq_map t (fun x _ y _ e => by omega), List.length_map]
  have sqt : ∀ {H' : Hp}, H' p = some (.frz ob (.tup (t.map nV))) → SqT K H' p ((t.map fun n => ((n : Nat) : Int)).map V.int) := fun h => by rw [← nats_ints]; exact SqT.fz h
  have fzt : ∀ {H' : Hp}, H' p = some (.frz ob (.tup (t.map nV))) → H' p = some (.frz ob (.tup ((t.map fun n => ((n : Nat) : Int)).map V.int))) := fun h => by rw [← nats_ints]; exact h
  refine ⟨_, rfl, p, _, rfl, .inr (SqT.fz hp), _, rfl, r, _, _, _, rfl, rfl, SqT.of er, atI_nat (j := 0) rfl, ha, _, rfl, .inr (SqT.of eh), rfl, _, rfl, if_bl (fun e => ?_) (fun _ => ?_)⟩
  · exfalso
    revert e
    simp [tm, tl, lhv]
  refine ⟨_, rfl, p, _, rfl, sqt hp, by rw [List.length_map]; omega, fun ms q1 up mem nq1 => ?_⟩
  obtain rfl := kinds_sorted kd0.canon up mem
  have s4 : Same H3 (upd H3 q1 (.lst (((List.range (uniq t).length).map fun n => ((n : Nat) : Int)).map V.int))) := same_new nq1
  have hp4 := s4 _ _ hp
  have hq1 : (upd H3 q1 (.lst (((List.range (uniq t).length).map fun n => ((n : Nat) : Int)).map V.int))) q1 = some (.lst ((List.range (uniq t).length).map nV)) := by rw [upd_same, nats_ints]
  generalize (upd H3 q1 (.lst (((List.range (uniq t).length).map fun n => ((n : Nat) : Int)).map V.int))) = H4 at *
  refine ⟨_, rfl, p, _, rfl, sqt hp4, by rw [List.length_map]; omega, ?_⟩
  rw [un]
  refine ⟨_, rfl, RgOk.of_le (by decide) (by omega) (by decide) (by omega), fun q2 nq2 => ?_⟩
  rw [rgV_nats]
  have s5 := same_new (o := .lst ((List.range (uniq t).length).map nV)) nq2
  refine ⟨_, _, .lst (SqL.of (s5 _ _ hq1)) (dp_nats _), .lst (SqL.of upd_same) (dp_nats _), list_shaped _, list_shaped _, _, rfl, ?_⟩
  rw [SeqAt.eqv_refl _ (by simp only [PyData.canLay0, lay_nats])]
  refine if_bl (fun z => nomatch z) (fun _ => ?_)
  have s35 := s4.trans s5
  have hp5 := s5 _ _ hp4
  have hR5 := hR3.keep (TK.same s35)
  have F5 := F3.same s35
  generalize upd H4 q2 (.lst ((List.range (uniq t).length).map nV)) = H5 at *
  clear s5 s4 hp4 hq1 s35 mem up nq1 nq2
  refine ⟨_, rfl, _, rfl, r, p, hs, bs, t, rfl, hR5, ok.good, lh, lb, ends, ⟨_, hp5⟩, kd0, fun H6 s6 => ?_⟩
  refine ⟨_, rfl, if_bl (fun z => nomatch z) (fun _ => ?_)⟩
  have hp6 := s6 _ _ hp5
  have hR6 := hR5.keep (TK.same s6)
  have F6 := F5.same s6
  -- the first of each kind
  let at_ : Nat → Nat := fun k => (t.map fun n => ((n : Nat) : Int)).idxOf ((k : Nat) : Int)
  have ain : ∀ {k}, k < (uniq t).length → ((k : Nat) : Int) ∈ t.map fun n => ((n : Nat) : Int) := fun {k} h => List.mem_map.mpr ⟨k, (canon_all kd0.canon k).mpr h, rfl⟩
  have att : ∀ {k}, k < (uniq t).length → at_ k < hs.length ∧ kd t (at_ k) = k := fun {k} h => by
    have il := List.idxOf_lt_length_of_mem (ain h)
    have e : (t.map fun n => ((n : Nat) : Int))[at_ k]? = some ((k : Nat) : Int) := by
      rw [List.getElem?_eq_getElem il, List.getElem_idxOf]
    rw [List.length_map] at il
    rw [List.getElem?_map, at_kd (t := t) (i := at_ k) il] at e
    have : ((kd t (at_ k) : Nat) : Int) = ((k : Nat) : Int) := Option.some.inj e
    exact ⟨by rw [← tl]; exact il, by omega⟩
  refine ⟨_, rfl, p, _, rfl, sqt hp6, by rw [List.length_map]; omega, ?_⟩
  rw [un]
  refine ⟨_, rfl, by omega, by omega, fun D nD => lc_range (lo := 0) (n := (uniq t).length) (fun i H7 => H7 D = some (.lst ((List.range i).map fun k => nV (at_ k))) ∧ Same H6 H7) ⟨upd_same, same_new nD⟩ ?_ ?_⟩
  · rintro i H7 hi ⟨hD, s7⟩
    rw [Int.zero_add]
    refine ⟨rfl, yes_in ⟨_, rfl, p, ob, _, rfl, od, fzt (s7 _ _ hp6), _, rfl, _, rfl, fzt (s7 _ _ hp6), ain hi, _, hD, by rw [List.length_map, List.length_range]; exact small1000 (by omega), ?_, Same.own s7 nD⟩⟩
    rw [upd_same, List.range_succ, List.map_append]
    rfl
  rintro H7 ⟨hD, s7⟩
  have lD : ((List.range (uniq t).length).map fun k => nV (at_ k)).length = (uniq t).length := by rw [List.length_map, List.length_range]
  have hp7 := s7 _ _ hp6
  have hR7 := hR6.keep (TK.same s7)
  have F7 := F6.same s7
  have atD : ∀ {H' : Hp} {k : Nat}, k < (uniq t).length → atI ((List.range (uniq t).length).map fun k => nV (at_ k)) ((k : Nat) : Int) = some (nV (at_ k)) := fun {H' k} h => atI_nat (by rw [List.getElem?_map, List.getElem?_range h]; rfl)
  refine ⟨_, rfl, D, _, rfl, .inl (SqL.of hD), _, rfl, by omega, by omega, for_range (lo := 0) (n := ((List.range (uniq t).length).map fun k => nV (at_ k)).length) (fun j σ H8 => ∃ v5 v6 v7 v8 v9 v10 v11 : Option V, σ = [some (.ref a), some (.ref f), some (.ref r), some (.ref p), some (.ref D), v5, v6, v7, v8, v9, v10, v11] ∧ Same H7 H8) ⟨_, _, _, _, _, _, _, rfl, fun _ _ e => e⟩ ?_ ?_⟩
  · rintro j σ H8 hj ⟨v5, v6, v7, v8, v9, v10, v11, rfl, s8⟩
    rw [Int.zero_add]
    refine ⟨_, rfl, _, rfl, by omega, by omega, for_range (lo := 0) (n := j) (fun k σ H8 => ∃ v5 v7 v8 v9 v10 v11 : Option V, σ = [some (.ref a), some (.ref f), some (.ref r), some (.ref p), some (.ref D), v5, some (nV j), v7, v8, v9, v10, v11] ∧ Same H7 H8) ⟨_, _, _, _, _, _, rfl, s8⟩ ?_ ?_⟩
    · rintro k σ H9 hk ⟨v5, v7, v8, v9, v10, v11, rfl, s9⟩
      rw [Int.zero_add]
      obtain ⟨k1, k2⟩ := att (k := k) (by omega)
      obtain ⟨j1, j2⟩ := att (k := j) (by omega)
      refine ⟨_, rfl, _, rfl, _, rfl, _, rfl, D, _, _, _, rfl, rfl, SqL.of (s9 _ _ hD), atD (H' := H9) (by omega), _, rfl, _, rfl, D, _, _, _, rfl, rfl, SqL.of (s9 _ _ hD), atD (H' := H9) (by omega), r, p, hs, bs, t, at_ k, at_ j, rfl, hR7.keep (TK.same s9), ok.good, lh, lb, ends, ⟨_, s9 _ _ hp7⟩, kd0, k1, j1, by rw [k2, j2]; omega, fun H10 s10 => ?_⟩
      exact ⟨_, rfl, if_bl (fun z => nomatch z) (fun _ => ⟨_, _, _, _, _, _, rfl, s9.trans s10⟩)⟩
    · rintro σ H9 ⟨v5, v7, v8, v9, v10, v11, rfl, s9⟩
      exact ⟨_, _, _, _, _, _, _, rfl, s9⟩
  rintro σ H8 ⟨v5, v6, v7, v8, v9, v10, v11, rfl, s8⟩
  have hp8 := s8 _ _ hp7
  have hD8 := s8 _ _ hD
  have hR8 := hR7.keep (TK.same s8)
  have F8 := F7.same s8
  refine ⟨_, rfl, r, hs, bs, rfl, hR8, ok, fun r1 t1 H9 kd1 hR1 s9 => ?_⟩
  obtain rfl := KindsOf.one kd0 kd1
  have okJ := join_room ok kd0
  have endJ : ∀ b ∈ joinB bs t, b.one < (joinH hs t).length := fun b hb => (okJ.ends b hb).1
  have kJ := join_kinds kd0 ends
  have lhJ := okJ.hands
  have lbJ := okJ.many
  refine ⟨_, rfl, r1, _, _, rfl, hR1, okJ.good, by omega, endJ, by omega, fun p2 ob2 t2 H10 od2 kd2 np2 hp2 s10 => ?_⟩
  obtain rfl := KindsOf.one kJ kd2
  refine ⟨_, rfl, D, _, rfl, .inl (SqL.of (s10 _ _ (s9 _ _ hD8))), _, rfl, ?_⟩
  rw [lD]
  refine ⟨RgOk.of_le (by decide) (by omega) (by decide) (by omega), fun q3 nq3 => ?_⟩
  rw [rgV_nats]
  have s11 := same_new (o := .tup ((List.range (uniq t).length).map nV)) nq3
  refine ⟨_, _, .tup (SqT.fz (s11 _ _ hp2)) (dp_nats _), .tup (SqT.of upd_same) (dp_nats _), nats_shaped _, nats_shaped _, _, rfl, ?_⟩
  rw [SeqAt.eqv_refl _ (by simp only [PyData.canLay0, lay_nats])]
  refine if_bl (fun z => nomatch z) (fun _ => ?_)
  have s911 := s10.trans s11
  generalize upd H10 q3 (.tup ((List.range (uniq t).length).map nV)) = H11 at *
  have hR11 := hR1.keep (TK.same s911)
  refine ⟨_, rfl, r1, _, _, rfl, hR11, okJ, fun r2 t3 H12 kd3 hR2 s12 => ?_⟩
  obtain rfl := KindsOf.one kJ kd3
  have eH : joinH (joinH hs t) (List.range (uniq t).length) = joinH hs t := by
    have := joinH_range (joinH hs t)
    rw [joinH_len] at this
    exact this
  rw [eH, joinB_range kd0 ends] at hR2
  have s812 : Same H8 H12 := s9.trans (s911.trans s12)
  refine ⟨_, rfl, _, _, hR2.dp, (hR11.keep (TK.same s12)).dp, room_shaped okJ.good, room_shaped okJ.good, _, rfl, ?_⟩
  rw [SeqAt.eqv_refl _ (room_lay okJ.good)]
  refine if_bl (fun z => nomatch z) (fun _ => ?_)
  have hp12 := s812 _ _ hp8
  have hR12 := hR8.keep (TK.same s812)
  have F12 := F8.same s812
  clear s812 s12 s911 s11 s10 s9 hR11 hR1 hR2 hp2 hD8 hR8 F8
  refine ⟨_, rfl, _, rfl, f, c, r, hs, bs, rfl, F12, hR12, ok, fun tt r' od ord hs' bs' H13 htt hR' hod nod tu F13 B13 => ?_⟩
  refine ⟨tt, _, rfl, SqT.of htt, rfl, _, _, rfl, _, _, rfl, rfl, ?_⟩
  have okT := tu.ok ok
  have lhT := okT.hands
  have lbT := okT.many
  have hp13 := B13 _ _ hp12 (fun e => by obtain ⟨_, _, _, _, _, efl, _⟩ := F12; rw [e, efl] at hp12; cases hp12)
  refine ⟨_, rfl, r', hs', bs', rfl, hR', okT.good, by omega, fun b hb => (okT.ends b hb).1, by omega, fun p3 ob3 u H14 od3 kdT np3 hp3 s14 => ?_⟩
  have hod14 := s14 _ _ hod
  have hp14 := s14 _ _ hp13
  have lu := kdT.len
  have lo := tu.olen
  have lo2 := tu.hlen
  have lom : (ord.map nV).length = ord.length := List.length_map ..
  have uat : ∀ {j : Nat}, j < ord.length → atI (u.map nV) ((j : Nat) : Int) = some (nV (kd u j)) := fun {j} h => atI_nat (by rw [List.getElem?_map, at_kd (by omega)]; rfl)
  have oat : ∀ {j k : Nat}, ord[j]? = some k → atI (ord.map nV) ((j : Nat) : Int) = some (nV k) := fun {j k} h => atI_nat (by rw [List.getElem?_map, h]; rfl)
  have tat : ∀ {j k : Nat}, ord[j]? = some k → atI (t.map nV) ((k : Nat) : Int) = some (nV (kd t k)) := fun {j k} h => atI_nat (by rw [List.getElem?_map, at_kd (by have := (tu.ordlt h).1; omega)]; rfl)
  have same : ∀ {i j x y : Nat}, ord[i]? = some x → ord[j]? = some y → decide (nV (kd u i) = nV (kd u j)) = decide (nV (kd t x) = nV (kd t y)) := fun {i j x y} h1 h2 => by
    obtain ⟨x1, x2, _⟩ := tu.ordlt h1
    obtain ⟨y1, y2, _⟩ := tu.ordlt h2
    have a1 := kinds_alike kdT x2 y2
    have a2 := kinds_alike kd0 x1 y1
    have a3 := tu.alike ends h1 h2
    have : (kd u i = kd u j) ↔ (kd t x = kd t y) := a1.trans (a3.trans a2.symm)
    by_cases z : kd t x = kd t y
    · rw [z, this.mpr z, decide_eq_true (Eq.refl (nV (kd u j))), decide_eq_true (Eq.refl (nV (kd t y)))]
    · rw [decide_eq_false (fun e => z (by have := V.int.inj e; omega)), decide_eq_false (fun e => z (this.mp (by have := V.int.inj e; omega)))]
  refine ⟨_, rfl, od, _, rfl, .inl (SqL.of hod14), _, rfl, by omega, by omega, for_range (lo := 0) (n := (ord.map nV).length) (fun j σ H15 => ∃ v4 v5 v6 v7 v8 v9 : Option V, σ = [some (.ref a), some (.ref f), some (.ref r), some (.ref p), v4, v5, v6, v7, v8, v9, some (.ref od), some (.ref p3)] ∧ Same H14 H15) ⟨_, _, _, _, _, _, rfl, fun _ _ e => e⟩ ?_ ?_⟩
  · rintro j σ H15 hj ⟨v4, v5, v6, v7, v8, v9, rfl, s15⟩
    rw [Int.zero_add]
    have ej : ord[j]? = some (ord[j]'(by omega)) := List.getElem?_eq_getElem (by omega)
    generalize ord[j]'(by omega) = x at ej
    let bl : Nat → Bool := fun k => decide (nV (kd u j) = nV (kd u k))
    refine ⟨_, rfl, _, rfl, by omega, by omega, fun D1 nD1 => lc_range (lo := 0) (n := j) (fun i H16 => H16 D1 = some (.lst (((List.range i).map bl).map V.bl)) ∧ Same H15 H16) ⟨upd_same, same_new nD1⟩ ?_ ?_⟩
    · rintro i H16 hi ⟨hD1, s16⟩
      rw [Int.zero_add]
      have s1416 := s15.trans s16
      refine ⟨rfl, yes_in ⟨_, rfl, _, rfl, p3, _, _, _, rfl, rfl, SqT.fz (s1416 _ _ hp3), uat (by omega), _, rfl, _, rfl, p3, _, _, _, rfl, rfl, SqT.fz (s1416 _ _ hp3), uat (by omega), rfl, _, hD1, by rw [List.length_map, List.length_map, List.length_range]; exact small1000 (by omega), ?_, Same.own s16 nD1⟩⟩
      rw [upd_same, List.range_succ, List.map_append, List.map_append]
      rfl
    rintro H16 ⟨hD1, s16⟩
    refine ⟨_, rfl, _, rfl, by omega, by omega, fun D2 nD2 => lc_range (lo := 0) (n := j) (fun i H17 => H17 D2 = some (.lst (((List.range i).map bl).map V.bl)) ∧ Same H16 H17) ⟨upd_same, same_new nD2⟩ ?_ ?_⟩
    · rintro i H17 hi ⟨hD2, s17⟩
      rw [Int.zero_add]
      have s1417 := s15.trans (s16.trans s17)
      have ei : ord[i]? = some (ord[i]'(by omega)) := List.getElem?_eq_getElem (by omega)
      generalize ord[i]'(by omega) = y at ei
      refine ⟨rfl, yes_in ⟨_, rfl, _, rfl, _, rfl, od, _, _, _, rfl, rfl, SqL.of (s1417 _ _ hod14), oat ej, p, _, _, _, rfl, rfl, SqT.fz (s1417 _ _ hp14), tat ej, _, rfl, _, rfl, _, rfl, od, _, _, _, rfl, rfl, SqL.of (s1417 _ _ hod14), oat ei, p, _, _, _, rfl, rfl, SqT.fz (s1417 _ _ hp14), tat ei, rfl, _, hD2, by rw [List.length_map, List.length_map, List.length_range]; exact small1000 (by omega), ?_, Same.own s17 nD2⟩⟩
      rw [upd_same, List.range_succ, List.map_append, List.map_append, ← same ej ei]
      rfl
    rintro H17 ⟨hD2, s17⟩
    refine ⟨_, _, .lst (SqL.of (s17 _ _ hD1)) (bools_dp _), .lst (SqL.of hD2) (bools_dp _), bools_shaped _, bools_shaped _, _, rfl, ?_⟩
    rw [SeqAt.eqv_refl _ (by simp only [PyData.canLay0, (bools_lay _).1])]
    exact if_bl (fun z => nomatch z) (fun _ => ⟨_, _, _, _, _, _, rfl, s15.trans (s16.trans s17)⟩)
  rintro σ H15 ⟨v4, v5, v6, v7, v8, v9, rfl, s15⟩
  exact q _
end
set_option maxHeartbeats 0 in
theorem all_mk {l : PySem.W.OpenLaw} {w : World} {K : PySem.W.Frag} {h : Heap} {mg : Str → Option Value} {fa f1 f2 f3 f4 f5 f6 f7 f8 f9 f10 f11 f12 f13 f14 f15 f16 f17 f18 f19 f20 f21 f22 f23 f24 : Addr} (X : K.In h) (G : h.Ns mainGlobals mg) (hfa : mg "law" = some (.ref fa))
    {od1 an1 od2 an2 od3 an3 od4 an4 od5 an5 od6 an6 od7 an7 od8 an8 od9 an9 od10 an10 od11 an11 od12 an12 od13 an13 od14 an14 od15 an15 od16 an16 od17 an17 od18 an18 od19 an19 od20 an20 od21 an21 od22 an22 od23 an23 od24 an24 : Option Addr} {sl1 sl2 sl3 sl4 sl5 sl6 sl7 sl8 sl9 sl10 sl11 sl12 sl13 sl14 sl15 sl16 sl17 sl18 sl19 sl20 sl21 sl22 sl23 sl24 : Array (Option Value)} {oc1 kV1 dc1 pm1 cd1 ct1 oc2 kV2 dc2 pm2 cd2 ct2 oc3 kV3 dc3 pm3 cd3 ct3 oc4 kV4 dc4 pm4 cd4 ct4 oc5 kV5 dc5 pm5 cd5 ct5 oc6 kV6 dc6 pm6 cd6 ct6 oc7 kV7 dc7 pm7 cd7 ct7 oc8 kV8 dc8 pm8 cd8 ct8 oc9 kV9 dc9 pm9 cd9 ct9 oc10 kV10 dc10 pm10 cd10 ct10 oc11 kV11 dc11 pm11 cd11 ct11 oc12 kV12 dc12 pm12 cd12 ct12 oc13 kV13 dc13 pm13 cd13 ct13 oc14 kV14 dc14 pm14 cd14 ct14 oc15 kV15 dc15 pm15 cd15 ct15 oc16 kV16 dc16 pm16 cd16 ct16 oc17 kV17 dc17 pm17 cd17 ct17 oc18 kV18 dc18 pm18 cd18 ct18 oc19 kV19 dc19 pm19 cd19 ct19 oc20 kV20 dc20 pm20 cd20 ct20 oc21 kV21 dc21 pm21 cd21 ct21 oc22 kV22 dc22 pm22 cd22 ct22 oc23 kV23 dc23 pm23 cd23 ct23 oc24 kV24 dc24 pm24 cd24 ct24 : Value}
    (a1 : PySem.W.nsIn K mainGlobals "comings" = some (some (.ref f1))) (l1 : K.lookup f1 = some ⟨oc1, od1, .func (PySem.W.fnOf "comings" "comings" (defArgs s_comings) (defBody s_comings) (defScope s_comings) .none kV1 dc1 pm1 an1 cd1 ct1), sl1⟩) (c1 : PySem.W.codeIn K cd1 "comings" = true) (k1 : PySem.W.keepIn K (.ref f1) = true)
    (a2 : PySem.W.nsIn K mainGlobals "kinds" = some (some (.ref f2))) (l2 : K.lookup f2 = some ⟨oc2, od2, .func (PySem.W.fnOf "kinds" "kinds" (defArgs s_kinds) (defBody s_kinds) (defScope s_kinds) .none kV2 dc2 pm2 an2 cd2 ct2), sl2⟩) (c2 : PySem.W.codeIn K cd2 "kinds" = true) (k2 : PySem.W.keepIn K (.ref f2) = true)
    (a3 : PySem.W.nsIn K mainGlobals "numbered" = some (some (.ref f3))) (l3 : K.lookup f3 = some ⟨oc3, od3, .func (PySem.W.fnOf "numbered" "numbered" (defArgs s_numbered) (defBody s_numbered) (defScope s_numbered) .none kV3 dc3 pm3 an3 cd3 ct3), sl3⟩) (c3 : PySem.W.codeIn K cd3 "numbered" = true) (k3 : PySem.W.keepIn K (.ref f3) = true)
    (a4 : PySem.W.nsIn K mainGlobals "first_mark" = some (some (.ref f4))) (l4 : K.lookup f4 = some ⟨oc4, od4, .func (PySem.W.fnOf "first_mark" "first_mark" (defArgs s_first_mark) (defBody s_first_mark) (defScope s_first_mark) .none kV4 dc4 pm4 an4 cd4 ct4), sl4⟩) (c4 : PySem.W.codeIn K cd4 "first_mark" = true) (k4 : PySem.W.keepIn K (.ref f4) = true)
    (a5 : PySem.W.nsIn K mainGlobals "mark_by" = some (some (.ref f5))) (l5 : K.lookup f5 = some ⟨oc5, od5, .func (PySem.W.fnOf "mark_by" "mark_by" (defArgs s_mark_by) (defBody s_mark_by) (defScope s_mark_by) .none kV5 dc5 pm5 an5 cd5 ct5), sl5⟩) (c5 : PySem.W.codeIn K cd5 "mark_by" = true) (k5 : PySem.W.keepIn K (.ref f5) = true)
    (a6 : PySem.W.nsIn K mainGlobals "joined_alike" = some (some (.ref f6))) (l6 : K.lookup f6 = some ⟨oc6, od6, .func (PySem.W.fnOf "joined_alike" "joined_alike" (defArgs s_joined_alike) (defBody s_joined_alike) (defScope s_joined_alike) .none kV6 dc6 pm6 an6 cd6 ct6), sl6⟩) (c6 : PySem.W.codeIn K cd6 "joined_alike" = true) (k6 : PySem.W.keepIn K (.ref f6) = true)
    (a7 : PySem.W.nsIn K mainGlobals "_law_flow" = some (some (.ref f7))) (l7 : K.lookup f7 = some ⟨oc7, od7, .func (PySem.W.fnOf "_law_flow" "_law_flow" (defArgs s_law_flow) (defBody s_law_flow) (defScope s_law_flow) .none kV7 dc7 pm7 an7 cd7 ct7), sl7⟩) (c7 : PySem.W.codeIn K cd7 "_law_flow" = true) (k7 : PySem.W.keepIn K (.ref f7) = true)
    (a8 : PySem.W.nsIn K mainGlobals "_law_pick" = some (some (.ref f8))) (l8 : K.lookup f8 = some ⟨oc8, od8, .func (PySem.W.fnOf "_law_pick" "_law_pick" (defArgs s_law_pick) (defBody s_law_pick) (defScope s_law_pick) .none kV8 dc8 pm8 an8 cd8 ct8), sl8⟩) (c8 : PySem.W.codeIn K cd8 "_law_pick" = true) (k8 : PySem.W.keepIn K (.ref f8) = true)
    (a9 : PySem.W.nsIn K mainGlobals "_law_thing" = some (some (.ref f9))) (l9 : K.lookup f9 = some ⟨oc9, od9, .func (PySem.W.fnOf "_law_thing" "_law_thing" (defArgs s_law_thing) (defBody s_law_thing) (defScope s_law_thing) .none kV9 dc9 pm9 an9 cd9 ct9), sl9⟩) (c9 : PySem.W.codeIn K cd9 "_law_thing" = true) (k9 : PySem.W.keepIn K (.ref f9) = true)
    (a10 : PySem.W.nsIn K mainGlobals "_law_needs" = some (some (.ref f10))) (l10 : K.lookup f10 = some ⟨oc10, od10, .func (PySem.W.fnOf "_law_needs" "_law_needs" (defArgs s_law_needs) (defBody s_law_needs) (defScope s_law_needs) .none kV10 dc10 pm10 an10 cd10 ct10), sl10⟩) (c10 : PySem.W.codeIn K cd10 "_law_needs" = true) (k10 : PySem.W.keepIn K (.ref f10) = true)
    (a11 : PySem.W.nsIn K mainGlobals "_law_rule" = some (some (.ref f11))) (l11 : K.lookup f11 = some ⟨oc11, od11, .func (PySem.W.fnOf "_law_rule" "_law_rule" (defArgs s_law_rule) (defBody s_law_rule) (defScope s_law_rule) .none kV11 dc11 pm11 an11 cd11 ct11), sl11⟩) (c11 : PySem.W.codeIn K cd11 "_law_rule" = true) (k11 : PySem.W.keepIn K (.ref f11) = true)
    (a12 : PySem.W.nsIn K mainGlobals "_law_shuffled" = some (some (.ref f12))) (l12 : K.lookup f12 = some ⟨oc12, od12, .func (PySem.W.fnOf "_law_shuffled" "_law_shuffled" (defArgs s_law_shuffled) (defBody s_law_shuffled) (defScope s_law_shuffled) .none kV12 dc12 pm12 an12 cd12 ct12), sl12⟩) (c12 : PySem.W.codeIn K cd12 "_law_shuffled" = true) (k12 : PySem.W.keepIn K (.ref f12) = true)
    (a13 : PySem.W.nsIn K mainGlobals "_law_hands" = some (some (.ref f13))) (l13 : K.lookup f13 = some ⟨oc13, od13, .func (PySem.W.fnOf "_law_hands" "_law_hands" (defArgs s_law_hands) (defBody s_law_hands) (defScope s_law_hands) .none kV13 dc13 pm13 an13 cd13 ct13), sl13⟩) (c13 : PySem.W.codeIn K cd13 "_law_hands" = true) (k13 : PySem.W.keepIn K (.ref f13) = true)
    (a14 : PySem.W.nsIn K mainGlobals "_law_room" = some (some (.ref f14))) (l14 : K.lookup f14 = some ⟨oc14, od14, .func (PySem.W.fnOf "_law_room" "_law_room" (defArgs s_law_room) (defBody s_law_room) (defScope s_law_room) .none kV14 dc14 pm14 an14 cd14 ct14), sl14⟩) (c14 : PySem.W.codeIn K cd14 "_law_room" = true) (k14 : PySem.W.keepIn K (.ref f14) = true)
    (a15 : PySem.W.nsIn K mainGlobals "_law_turned_room" = some (some (.ref f15))) (l15 : K.lookup f15 = some ⟨oc15, od15, .func (PySem.W.fnOf "_law_turned_room" "_law_turned_room" (defArgs s_law_turned_room) (defBody s_law_turned_room) (defScope s_law_turned_room) .none kV15 dc15 pm15 an15 cd15 ct15), sl15⟩) (c15 : PySem.W.codeIn K cd15 "_law_turned_room" = true) (k15 : PySem.W.keepIn K (.ref f15) = true)
    (a16 : PySem.W.nsIn K mainGlobals "_law_copied" = some (some (.ref f16))) (l16 : K.lookup f16 = some ⟨oc16, od16, .func (PySem.W.fnOf "_law_copied" "_law_copied" (defArgs s_law_copied) (defBody s_law_copied) (defScope s_law_copied) .none kV16 dc16 pm16 an16 cd16 ct16), sl16⟩) (c16 : PySem.W.codeIn K cd16 "_law_copied" = true) (k16 : PySem.W.keepIn K (.ref f16) = true)
    (a17 : PySem.W.nsIn K mainGlobals "_law_marred" = some (some (.ref f17))) (l17 : K.lookup f17 = some ⟨oc17, od17, .func (PySem.W.fnOf "_law_marred" "_law_marred" (defArgs s_law_marred) (defBody s_law_marred) (defScope s_law_marred) .none kV17 dc17 pm17 an17 cd17 ct17), sl17⟩) (c17 : PySem.W.codeIn K cd17 "_law_marred" = true) (k17 : PySem.W.keepIn K (.ref f17) = true)
    (a18 : PySem.W.nsIn K mainGlobals "_law_lines" = some (some (.ref f18))) (l18 : K.lookup f18 = some ⟨oc18, od18, .func (PySem.W.fnOf "_law_lines" "_law_lines" (defArgs s_law_lines) (defBody s_law_lines) (defScope s_law_lines) .none kV18 dc18 pm18 an18 cd18 ct18), sl18⟩) (c18 : PySem.W.codeIn K cd18 "_law_lines" = true) (k18 : PySem.W.keepIn K (.ref f18) = true)
    (a19 : PySem.W.nsIn K mainGlobals "_law_some_copied" = some (some (.ref f19))) (l19 : K.lookup f19 = some ⟨oc19, od19, .func (PySem.W.fnOf "_law_some_copied" "_law_some_copied" (defArgs s_law_some_copied) (defBody s_law_some_copied) (defScope s_law_some_copied) .none kV19 dc19 pm19 an19 cd19 ct19), sl19⟩) (c19 : PySem.W.codeIn K cd19 "_law_some_copied" = true) (k19 : PySem.W.keepIn K (.ref f19) = true)
    (a20 : PySem.W.nsIn K mainGlobals "_law_givers" = some (some (.ref f20))) (l20 : K.lookup f20 = some ⟨oc20, od20, .func (PySem.W.fnOf "_law_givers" "_law_givers" (defArgs s_law_givers) (defBody s_law_givers) (defScope s_law_givers) .none kV20 dc20 pm20 an20 cd20 ct20), sl20⟩) (c20 : PySem.W.codeIn K cd20 "_law_givers" = true) (k20 : PySem.W.keepIn K (.ref f20) = true)
    (a21 : PySem.W.nsIn K mainGlobals "_law_looks_alike" = some (some (.ref f21))) (l21 : K.lookup f21 = some ⟨oc21, od21, .func (PySem.W.fnOf "_law_looks_alike" "_law_looks_alike" (defArgs s_law_looks_alike) (defBody s_law_looks_alike) (defScope s_law_looks_alike) .none kV21 dc21 pm21 an21 cd21 ct21), sl21⟩) (c21 : PySem.W.codeIn K cd21 "_law_looks_alike" = true) (k21 : PySem.W.keepIn K (.ref f21) = true)
    (a22 : PySem.W.nsIn K mainGlobals "_law_closed" = some (some (.ref f22))) (l22 : K.lookup f22 = some ⟨oc22, od22, .func (PySem.W.fnOf "_law_closed" "_law_closed" (defArgs s_law_closed) (defBody s_law_closed) (defScope s_law_closed) .none kV22 dc22 pm22 an22 cd22 ct22), sl22⟩) (c22 : PySem.W.codeIn K cd22 "_law_closed" = true) (k22 : PySem.W.keepIn K (.ref f22) = true)
    (a23 : PySem.W.nsIn K mainGlobals "_law_could_be_one" = some (some (.ref f23))) (l23 : K.lookup f23 = some ⟨oc23, od23, .func (PySem.W.fnOf "_law_could_be_one" "_law_could_be_one" (defArgs s_law_could_be_one) (defBody s_law_could_be_one) (defScope s_law_could_be_one) .none kV23 dc23 pm23 an23 cd23 ct23), sl23⟩) (c23 : PySem.W.codeIn K cd23 "_law_could_be_one" = true) (k23 : PySem.W.keepIn K (.ref f23) = true)
    (a24 : PySem.W.nsIn K mainGlobals "law" = some (some (.ref f24))) (l24 : K.lookup f24 = some ⟨oc24, od24, .func (PySem.W.fnOf "law" "law" (defArgs s_law) (defBody s_law) (defScope s_law) .none kV24 dc24 pm24 an24 cd24 ct24), sl24⟩) (c24 : PySem.W.codeIn K cd24 "law" = true) (k24 : PySem.W.keepIn K (.ref f24) = true)
    (z1 : PySem.W.nsIn K mainGlobals "all" = some none)    (z2 : PySem.W.nsIn K mainGlobals "enumerate" = some none)    (z3 : PySem.W.nsIn K mainGlobals "int" = some none)    (z4 : PySem.W.nsIn K mainGlobals "len" = some none)    (z5 : PySem.W.nsIn K mainGlobals "list" = some none)    (z6 : PySem.W.nsIn K mainGlobals "max" = some none)    (z7 : PySem.W.nsIn K mainGlobals "min" = some none)    (z8 : PySem.W.nsIn K mainGlobals "range" = some none)    (z9 : PySem.W.nsIn K mainGlobals "set" = some none)    (z10 : PySem.W.nsIn K mainGlobals "sorted" = some none)    (z11 : PySem.W.nsIn K mainGlobals "tuple" = some none)    (z12 : PySem.W.nsIn K mainGlobals "zip" = some none)
    {aI aO : Addr} {odI odO : Option Addr} {tI tO : Tok} {nI nO : Nat} {slI slO : Array (Option Value)} (gI : PySem.W.nsIn K mainGlobals "IN_RULE" = some (some (.ref aI)))
    (lI : K.lookup aI = some ⟨.type "tuple", odI, .seq #[.str "in" tI] nI, slI⟩)
    (gO : PySem.W.nsIn K mainGlobals "OUT_RULE" = some (some (.ref aO)))
    (lO : K.lookup aO = some ⟨.type "tuple", odO, .seq #[.str "out" tO] nO, slO⟩) :
    ∃ fd : FuncData, (∀ (s : Shared) (v : Value), BindsTo s fd ⟨[v], []⟩ [("_law_script", v)]) ∧ ∀ base : Heap, K.In base → base.Ns mainGlobals mg → FnOk l.prog w K mg base CX0 8 fa fd ["_law_script"] (sp_law K) := by
  have e := hfa.symm.trans (PySem.W.mg_of X G a24)
  cases e
  have F1 := fun_mk (st := s_comings) l1 c1 k1
  have b1 := F1.binds (ps := ["room", "hand"]) fun _ _ _ _ _ _ us hl => match us, hl with | [_, _], _ => rfl
  have F2 := fun_mk (st := s_kinds) l2 c2 k2
  have b2 := F2.binds (ps := ["room"]) fun _ _ _ _ _ _ us hl => match us, hl with | [_], _ => rfl
  have F3 := fun_mk (st := s_numbered) l3 c3 k3
  have b3 := F3.binds (ps := ["marks"]) fun _ _ _ _ _ _ us hl => match us, hl with | [_], _ => rfl
  have F4 := fun_mk (st := s_first_mark) l4 c4 k4
  have b4 := F4.binds (ps := ["rule", "hand"]) fun _ _ _ _ _ _ us hl => match us, hl with | [_, _], _ => rfl
  have F5 := fun_mk (st := s_mark_by) l5 c5 k5
  have b5 := F5.binds (ps := ["room", "told", "hand"]) fun _ _ _ _ _ _ us hl => match us, hl with | [_, _, _], _ => rfl
  have F6 := fun_mk (st := s_joined_alike) l6 c6 k6
  have b6 := F6.binds (ps := ["room"]) fun _ _ _ _ _ _ us hl => match us, hl with | [_], _ => rfl
  have F7 := fun_mk (st := s_law_flow) l7 c7 k7
  have b7 := F7.binds (ps := ["_law_script"]) fun _ _ _ _ _ _ us hl => match us, hl with | [_], _ => rfl
  have F8 := fun_mk (st := s_law_pick) l8 c8 k8
  have b8 := F8.binds (ps := ["_law_flow_here", "_law_many"]) fun _ _ _ _ _ _ us hl => match us, hl with | [_, _], _ => rfl
  have F9 := fun_mk (st := s_law_thing) l9 c9 k9
  have b9 := F9.binds (ps := ["_law_flow_here"]) fun _ _ _ _ _ _ us hl => match us, hl with | [_], _ => rfl
  have F10 := fun_mk (st := s_law_needs) l10 c10 k10
  have b10 := F10.binds (ps := ["_law_rule_here"]) fun _ _ _ _ _ _ us hl => match us, hl with | [_], _ => rfl
  have F11 := fun_mk (st := s_law_rule) l11 c11 k11
  have b11 := F11.binds (ps := ["_law_flow_here", "_law_most"]) fun _ _ _ _ _ _ us hl => match us, hl with | [_, _], _ => rfl
  have F12 := fun_mk (st := s_law_shuffled) l12 c12 k12
  have b12 := F12.binds (ps := ["_law_flow_here", "_law_some"]) fun _ _ _ _ _ _ us hl => match us, hl with | [_, _], _ => rfl
  have F13 := fun_mk (st := s_law_hands) l13 c13 k13
  have b13 := F13.binds (ps := ["_law_flow_here", "_law_many"]) fun _ _ _ _ _ _ us hl => match us, hl with | [_, _], _ => rfl
  have F14 := fun_mk (st := s_law_room) l14 c14 k14
  have b14 := F14.binds (ps := ["_law_flow_here", "_law_most"]) fun _ _ _ _ _ _ us hl => match us, hl with | [_, _], _ => rfl
  have F15 := fun_mk (st := s_law_turned_room) l15 c15 k15
  have b15 := F15.binds (ps := ["_law_flow_here", "_law_room_here"]) fun _ _ _ _ _ _ us hl => match us, hl with | [_, _], _ => rfl
  have F16 := fun_mk (st := s_law_copied) l16 c16 k16
  have b16 := F16.binds (ps := ["_law_flow_here"]) fun _ _ _ _ _ _ us hl => match us, hl with | [_], _ => rfl
  have F17 := fun_mk (st := s_law_marred) l17 c17 k17
  have b17 := F17.binds (ps := ["_law_flow_here", "_law_room_here"]) fun _ _ _ _ _ _ us hl => match us, hl with | [_, _], _ => rfl
  have F18 := fun_mk (st := s_law_lines) l18 c18 k18
  have b18 := F18.binds (ps := ["_law_flow_here"]) fun _ _ _ _ _ _ us hl => match us, hl with | [_], _ => rfl
  have F19 := fun_mk (st := s_law_some_copied) l19 c19 k19
  have b19 := F19.binds (ps := ["_law_flow_here"]) fun _ _ _ _ _ _ us hl => match us, hl with | [_], _ => rfl
  have F20 := fun_mk (st := s_law_givers) l20 c20 k20
  have b20 := F20.binds (ps := ["_law_room_here", "_law_k"]) fun _ _ _ _ _ _ us hl => match us, hl with | [_, _], _ => rfl
  have F21 := fun_mk (st := s_law_looks_alike) l21 c21 k21
  have b21 := F21.binds (ps := ["_law_room_here", "_law_j", "_law_k"]) fun _ _ _ _ _ _ us hl => match us, hl with | [_, _, _], _ => rfl
  have F22 := fun_mk (st := s_law_closed) l22 c22 k22
  have b22 := F22.binds (ps := ["_law_room_here", "_law_numbers"]) fun _ _ _ _ _ _ us hl => match us, hl with | [_, _], _ => rfl
  have F23 := fun_mk (st := s_law_could_be_one) l23 c23 k23
  have b23 := F23.binds (ps := ["_law_room_here", "_law_numbers", "_law_first", "_law_second"]) fun _ _ _ _ _ _ us hl => match us, hl with | [_, _, _, _], _ => rfl
  have F24 := fun_mk (st := s_law) l24 c24 k24
  have T : Top K mg := ⟨⟨f1, _, F1, b1, PySem.W.mg_of X G a1⟩, ⟨f2, _, F2, b2, PySem.W.mg_of X G a2⟩, ⟨f3, _, F3, b3, PySem.W.mg_of X G a3⟩, ⟨f4, _, F4, b4, PySem.W.mg_of X G a4⟩, ⟨f5, _, F5, b5, PySem.W.mg_of X G a5⟩, ⟨f6, _, F6, b6, PySem.W.mg_of X G a6⟩, ⟨f7, _, F7, b7, PySem.W.mg_of X G a7⟩, ⟨f8, _, F8, b8, PySem.W.mg_of X G a8⟩, ⟨f9, _, F9, b9, PySem.W.mg_of X G a9⟩, ⟨f10, _, F10, b10, PySem.W.mg_of X G a10⟩, ⟨f11, _, F11, b11, PySem.W.mg_of X G a11⟩, ⟨f12, _, F12, b12, PySem.W.mg_of X G a12⟩, ⟨f13, _, F13, b13, PySem.W.mg_of X G a13⟩, ⟨f14, _, F14, b14, PySem.W.mg_of X G a14⟩, ⟨f15, _, F15, b15, PySem.W.mg_of X G a15⟩, ⟨f16, _, F16, b16, PySem.W.mg_of X G a16⟩, ⟨f17, _, F17, b17, PySem.W.mg_of X G a17⟩, ⟨f18, _, F18, b18, PySem.W.mg_of X G a18⟩, ⟨f19, _, F19, b19, PySem.W.mg_of X G a19⟩, ⟨f20, _, F20, b20, PySem.W.mg_of X G a20⟩, ⟨f21, _, F21, b21, PySem.W.mg_of X G a21⟩, ⟨f22, _, F22, b22, PySem.W.mg_of X G a22⟩, ⟨f23, _, F23, b23, PySem.W.mg_of X G a23⟩, PySem.W.mg_none_of X G z1, PySem.W.mg_none_of X G z2, PySem.W.mg_none_of X G z3, PySem.W.mg_none_of X G z4, PySem.W.mg_none_of X G z5, PySem.W.mg_none_of X G z6, PySem.W.mg_none_of X G z7, PySem.W.mg_none_of X G z8, PySem.W.mg_none_of X G z9, PySem.W.mg_none_of X G z10, PySem.W.mg_none_of X G z11, PySem.W.mg_none_of X G z12, ⟨aI, PySem.W.mg_of X G gI, one_at lI⟩, ⟨aO, PySem.W.mg_of X G gO, one_at lO⟩⟩
  exact ⟨PySem.W.fnOf "law" "law" (defArgs s_law) (defBody s_law) (defScope s_law) .none kV24 dc24 pm24 an24 cd24 ct24, fun s v => .of_eq rfl, fun base _ _ => ok_law F24 T⟩
end Mine
open PySem PySem.W PyProof.Rows
set_option maxRecDepth 100000 in
set_option maxHeartbeats 0 in
theorem PySem.Challenge.cw_beltshift_k71_whole_as_far_as_need_be_holds : PySem.Challenge.rw_beltshift_k71_whole_as_far_as_need_be.Holds := by
  w_on; o_law; k_head; (case hw => w_witness2)
  k_fill
  refine L2.walk_of (l := PySem.Challenge.rw_beltshift_k71_whole_as_far_as_need_be) (n := 63) (k := 8) (x := "_law_script") (CX := fun _ => L2.CX0) (sp := fun w => Mine.sp_law _) rfl (by decide) rfl ⟨rfl, by decide, by decide⟩ (fun w h Y => PySem.W.kIn_of Y) ?F (fun _ _ a ns hl _ hS => ⟨a, ns, rfl, hS, hl, fun _ => rfl⟩) (fun _ _ _ _ _ h => h)
  case F =>
    intro w mg fa h KX G hmg
    refine' Mine.all_mk KX G hmg ?a1 ?l1 ?c1 ?k1 ?a2 ?l2 ?c2 ?k2 ?a3 ?l3 ?c3 ?k3 ?a4 ?l4 ?c4 ?k4 ?a5 ?l5 ?c5 ?k5 ?a6 ?l6 ?c6 ?k6 ?a7 ?l7 ?c7 ?k7 ?a8 ?l8 ?c8 ?k8 ?a9 ?l9 ?c9 ?k9 ?a10 ?l10 ?c10 ?k10 ?a11 ?l11 ?c11 ?k11 ?a12 ?l12 ?c12 ?k12 ?a13 ?l13 ?c13 ?k13 ?a14 ?l14 ?c14 ?k14 ?a15 ?l15 ?c15 ?k15 ?a16 ?l16 ?c16 ?k16 ?a17 ?l17 ?c17 ?k17 ?a18 ?l18 ?c18 ?k18 ?a19 ?l19 ?c19 ?k19 ?a20 ?l20 ?c20 ?k20 ?a21 ?l21 ?c21 ?k21 ?a22 ?l22 ?c22 ?k22 ?a23 ?l23 ?c23 ?k23 ?a24 ?l24 ?c24 ?k24 ?z1 ?z2 ?z3 ?z4 ?z5 ?z6 ?z7 ?z8 ?z9 ?z10 ?z11 ?z12 ?gI ?lI ?gO ?lO
    (case a1 => k_is)
    (case l1 => k_is)
    (case c1 => k_is)
    (case k1 => k_is)
    (case a2 => k_is)
    (case l2 => k_is)
    (case c2 => k_is)
    (case k2 => k_is)
    (case a3 => k_is)
    (case l3 => k_is)
    (case c3 => k_is)
    (case k3 => k_is)
    (case a4 => k_is)
    (case l4 => k_is)
    (case c4 => k_is)
    (case k4 => k_is)
    (case a5 => k_is)
    (case l5 => k_is)
    (case c5 => k_is)
    (case k5 => k_is)
    (case a6 => k_is)
    (case l6 => k_is)
    (case c6 => k_is)
    (case k6 => k_is)
    (case a7 => k_is)
    (case l7 => k_is)
    (case c7 => k_is)
    (case k7 => k_is)
    (case a8 => k_is)
    (case l8 => k_is)
    (case c8 => k_is)
    (case k8 => k_is)
    (case a9 => k_is)
    (case l9 => k_is)
    (case c9 => k_is)
    (case k9 => k_is)
    (case a10 => k_is)
    (case l10 => k_is)
    (case c10 => k_is)
    (case k10 => k_is)
    (case a11 => k_is)
    (case l11 => k_is)
    (case c11 => k_is)
    (case k11 => k_is)
    (case a12 => k_is)
    (case l12 => k_is)
    (case c12 => k_is)
    (case k12 => k_is)
    (case a13 => k_is)
    (case l13 => k_is)
    (case c13 => k_is)
    (case k13 => k_is)
    (case a14 => k_is)
    (case l14 => k_is)
    (case c14 => k_is)
    (case k14 => k_is)
    (case a15 => k_is)
    (case l15 => k_is)
    (case c15 => k_is)
    (case k15 => k_is)
    (case a16 => k_is)
    (case l16 => k_is)
    (case c16 => k_is)
    (case k16 => k_is)
    (case a17 => k_is)
    (case l17 => k_is)
    (case c17 => k_is)
    (case k17 => k_is)
    (case a18 => k_is)
    (case l18 => k_is)
    (case c18 => k_is)
    (case k18 => k_is)
    (case a19 => k_is)
    (case l19 => k_is)
    (case c19 => k_is)
    (case k19 => k_is)
    (case a20 => k_is)
    (case l20 => k_is)
    (case c20 => k_is)
    (case k20 => k_is)
    (case a21 => k_is)
    (case l21 => k_is)
    (case c21 => k_is)
    (case k21 => k_is)
    (case a22 => k_is)
    (case l22 => k_is)
    (case c22 => k_is)
    (case k22 => k_is)
    (case a23 => k_is)
    (case l23 => k_is)
    (case c23 => k_is)
    (case k23 => k_is)
    (case a24 => k_is)
    (case l24 => k_is)
    (case c24 => k_is)
    (case k24 => k_is)
    (case z1 => k_is)
    (case z2 => k_is)
    (case z3 => k_is)
    (case z4 => k_is)
    (case z5 => k_is)
    (case z6 => k_is)
    (case z7 => k_is)
    (case z8 => k_is)
    (case z9 => k_is)
    (case z10 => k_is)
    (case z11 => k_is)
    (case z12 => k_is)
    (case gI => k_is)
    (case lI => k_is)
    (case gO => k_is)
    (case lO => k_is)

