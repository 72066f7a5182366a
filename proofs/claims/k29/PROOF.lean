import PyProof.Rows.All
import Wide.All
import OpenK.AllK
import Wide.FinOn
import HandS.ForMost
import HandS.Wide
import HandS.Style
import HandS.IsInst
import HandS.TupAny
import HandS.NoneIn
import HandS.SetFor
import HandS.Conv
import HandS.Zip
import KE.GoesMore
import KE.KDictZip
import KE.GoesZip
import KE.GoesEnum
import PySem.Challenge.RW_beltshift_k29_least_between_hands
set_option Elab.async false
set_option linter.all false
set_option maxRecDepth 100000
namespace Mine
open PySem PyProof.Rows L2
def topS (i : Nat) : Stmt := PySem.Challenge.pw_beltshift_k29_least_between_hands.main.body.getD i (.Pass ⟨0, 0, 0, 0⟩)
abbrev s_way_back : Stmt := topS 1
abbrev N_way_back : List Str := ["room", "end", "last", "numbers", "hand"]
theorem sc_way_back : FnScope N_way_back ["room", "end", "last"] (defScope s_way_back) := ⟨rfl, rfl, rfl, by decide +kernel, rfl, by decide +kernel, by decide +kernel⟩
abbrev s_least_between : Stmt := topS 2
abbrev N_least_between : List Str := ["room", "one", "other", "costs", "last", "trays", "less"]
theorem sc_least_between : FnScope N_least_between ["room", "one", "other"] (defScope s_least_between) := ⟨rfl, rfl, rfl, by decide +kernel, rfl, by decide +kernel, by decide +kernel⟩
abbrev s_way_between : Stmt := topS 3
abbrev N_way_between : List Str := ["room", "one", "other", "costs", "last"]
theorem sc_way_between : FnScope N_way_between ["room", "one", "other"] (defScope s_way_between) := ⟨rfl, rfl, rfl, by decide +kernel, rfl, by decide +kernel, by decide +kernel⟩
abbrev s_least_costs : Stmt := topS 4
abbrev N_least_costs : List Str := ["room", "one", "hands", "belts", "costs", "last", "changed", "number", "giver", "taker", "things", "trays", "less", "cost"]
theorem sc_least_costs : FnScope N_least_costs ["room", "one"] (defScope s_least_costs) := ⟨rfl, rfl, rfl, by decide +kernel, rfl, by decide +kernel, by decide +kernel⟩
abbrev s_law_flow : Stmt := topS 6
abbrev N_law_flow : List Str := ["_law_script"]
theorem sc_law_flow : FnScope N_law_flow ["_law_script"] (defScope s_law_flow) := ⟨rfl, rfl, rfl, by decide +kernel, rfl, by decide +kernel, by decide +kernel⟩
abbrev s_law_pick : Stmt := topS 7
abbrev N_law_pick : List Str := ["_law_flow_here", "_law_many", "_law_cell", "_law_digit"]
theorem sc_law_pick : FnScope N_law_pick ["_law_flow_here", "_law_many"] (defScope s_law_pick) := ⟨rfl, rfl, rfl, by decide +kernel, rfl, by decide +kernel, by decide +kernel⟩
abbrev s_law_thing : Stmt := topS 8
abbrev N_law_thing : List Str := ["_law_flow_here"]
theorem sc_law_thing : FnScope N_law_thing ["_law_flow_here"] (defScope s_law_thing) := ⟨rfl, rfl, rfl, by decide +kernel, rfl, by decide +kernel, by decide +kernel⟩
abbrev s_law_needs : Stmt := topS 9
abbrev N_law_needs : List Str := ["_law_rule_here"]
theorem sc_law_needs : FnScope N_law_needs ["_law_rule_here"] (defScope s_law_needs) := ⟨rfl, rfl, rfl, by decide +kernel, rfl, by decide +kernel, by decide +kernel⟩
abbrev s_law_rule : Stmt := topS 10
abbrev N_law_rule : List Str := ["_law_flow_here", "_law_most", "_law_words", "_law_word"]
theorem sc_law_rule : FnScope N_law_rule ["_law_flow_here", "_law_most"] (defScope s_law_rule) := ⟨rfl, rfl, rfl, by decide +kernel, rfl, by decide +kernel, by decide +kernel⟩
abbrev s_law_shuffled : Stmt := topS 11
abbrev N_law_shuffled : List Str := ["_law_flow_here", "_law_some", "_law_left", "_law_k"]
theorem sc_law_shuffled : FnScope N_law_shuffled ["_law_flow_here", "_law_some"] (defScope s_law_shuffled) := ⟨rfl, rfl, rfl, by decide +kernel, rfl, by decide +kernel, by decide +kernel⟩
abbrev s_law_hands : Stmt := topS 12
abbrev N_law_hands : List Str := ["_law_flow_here", "_law_many", "_law_sorts", "_law_left", "_law_hands_here", "_law_k", "_law_sort", "_law_behind", "_law_other", "_law_rule_here"]
theorem sc_law_hands : FnScope N_law_hands ["_law_flow_here", "_law_many"] (defScope s_law_hands) := ⟨rfl, rfl, rfl, by decide +kernel, rfl, by decide +kernel, by decide +kernel⟩
abbrev s_law_room : Stmt := topS 13
abbrev N_law_room : List Str := ["_law_flow_here", "_law_most", "_law_hands_here", "_law_ranks", "_law_givers", "_law_k", "_law_takers", "_law_belts", "_law_to", "_law_one", "_law_trays_here"]
theorem sc_law_room : FnScope N_law_room ["_law_flow_here", "_law_most"] (defScope s_law_room) := ⟨rfl, rfl, rfl, by decide +kernel, rfl, by decide +kernel, by decide +kernel⟩
abbrev s_law_alike : Stmt := topS 14
abbrev N_law_alike : List Str := ["_law_found", "_law_due", "_law_one", "_law_other"]
theorem sc_law_alike : FnScope N_law_alike ["_law_found", "_law_due"] (defScope s_law_alike) := ⟨rfl, rfl, rfl, by decide +kernel, rfl, by decide +kernel, by decide +kernel⟩
abbrev s_law_end : Stmt := topS 15
abbrev N_law_end : List Str := ["_law_room_here", "_law_pair", "_law_here", "_law_b", "_law_one", "_law_to", "_law_things"]
theorem sc_law_end : FnScope N_law_end ["_law_room_here", "_law_pair"] (defScope s_law_end) := ⟨rfl, rfl, rfl, by decide +kernel, rfl, by decide +kernel, by decide +kernel⟩
abbrev s_law_trays : Stmt := topS 16
abbrev N_law_trays : List Str := ["_law_room_here", "_law_way", "_law_b"]
theorem sc_law_trays : FnScope N_law_trays ["_law_room_here", "_law_way"] (defScope s_law_trays) := ⟨rfl, rfl, rfl, by decide +kernel, rfl, by decide +kernel, by decide +kernel⟩
abbrev s_law_moments : Stmt := topS 17
abbrev N_law_moments : List Str := ["_law_room_here", "_law_way", "_law_k", "_law_b"]
theorem sc_law_moments : FnScope N_law_moments ["_law_room_here", "_law_way"] (defScope s_law_moments) := ⟨rfl, rfl, rfl, by decide +kernel, rfl, by decide +kernel, by decide +kernel⟩
abbrev s_law_is_way : Stmt := topS 18
abbrev N_law_is_way : List Str := ["_law_room_here", "_law_way", "_law_numbers", "_law_one", "_law_b"]
theorem sc_law_is_way : FnScope N_law_is_way ["_law_room_here", "_law_way"] (defScope s_law_is_way) := ⟨rfl, rfl, rfl, by decide +kernel, rfl, by decide +kernel, by decide +kernel⟩
abbrev s_law_least_from : Stmt := topS 19
abbrev N_law_least_from : List Str := ["_law_room_here", "_law_hand", "_law_hands_here", "_law_belts", "_law_found", "_law_k", "_law_turn", "_law_one", "_law_to", "_law_things", "_law_trays_here", "_law_moments_here"]
theorem sc_law_least_from : FnScope N_law_least_from ["_law_room_here", "_law_hand"] (defScope s_law_least_from) := ⟨rfl, rfl, rfl, by decide +kernel, rfl, by decide +kernel, by decide +kernel⟩
abbrev s_law_thin : Stmt := topS 20
abbrev N_law_thin : List Str := ["_law_room_here", "_law_most", "_law_belts", "_law_one", "_law_to", "_law_things"]
theorem sc_law_thin : FnScope N_law_thin ["_law_room_here", "_law_most"] (defScope s_law_thin) := ⟨rfl, rfl, rfl, by decide +kernel, rfl, by decide +kernel, by decide +kernel⟩
abbrev s_law_right : Stmt := topS 21
abbrev N_law_right : List Str := ["_law_room_here", "_law_one", "_law_others", "_law_due", "_law_other", "_law_way"]
theorem sc_law_right : FnScope N_law_right ["_law_room_here", "_law_one", "_law_others"] (defScope s_law_right) := ⟨rfl, rfl, rfl, by decide +kernel, rfl, by decide +kernel, by decide +kernel⟩
abbrev s_law : Stmt := topS 22
abbrev N_law : List Str := ["_law_script", "_law_flow_here", "_law_some", "_law_k", "_law_room_here", "_law_asked", "_law_others", "_law_one"]
theorem sc_law : FnScope N_law ["_law_script"] (defScope s_law) := ⟨rfl, rfl, rfl, by decide +kernel, rfl, by decide +kernel, by decide +kernel⟩

/-- a def of the text stands, binds and is bound -/
def Dd (K : PySem.W.Frag) (mg : Str → Option Value) (name : Str) (st : Stmt) (ps : List Str) : Prop :=
  ∃ (f : Addr) (fd : FuncData), Fun K name name st f fd ∧ Binds K fd ps [] ∧ mg name = some (.ref f)
structure Top (K : PySem.W.Frag) (mg : Str → Option Value) : Prop where
  d_way_back : Dd K mg "way_back" s_way_back ["room", "end", "last"]
  d_least_between : Dd K mg "least_between" s_least_between ["room", "one", "other"]
  d_way_between : Dd K mg "way_between" s_way_between ["room", "one", "other"]
  d_least_costs : Dd K mg "least_costs" s_least_costs ["room", "one"]
  d_law_flow : Dd K mg "_law_flow" s_law_flow ["_law_script"]
  d_law_pick : Dd K mg "_law_pick" s_law_pick ["_law_flow_here", "_law_many"]
  d_law_thing : Dd K mg "_law_thing" s_law_thing ["_law_flow_here"]
  d_law_needs : Dd K mg "_law_needs" s_law_needs ["_law_rule_here"]
  d_law_rule : Dd K mg "_law_rule" s_law_rule ["_law_flow_here", "_law_most"]
  d_law_shuffled : Dd K mg "_law_shuffled" s_law_shuffled ["_law_flow_here", "_law_some"]
  d_law_hands : Dd K mg "_law_hands" s_law_hands ["_law_flow_here", "_law_many"]
  d_law_room : Dd K mg "_law_room" s_law_room ["_law_flow_here", "_law_most"]
  d_law_alike : Dd K mg "_law_alike" s_law_alike ["_law_found", "_law_due"]
  d_law_end : Dd K mg "_law_end" s_law_end ["_law_room_here", "_law_pair"]
  d_law_trays : Dd K mg "_law_trays" s_law_trays ["_law_room_here", "_law_way"]
  d_law_moments : Dd K mg "_law_moments" s_law_moments ["_law_room_here", "_law_way"]
  d_law_is_way : Dd K mg "_law_is_way" s_law_is_way ["_law_room_here", "_law_way"]
  d_law_least_from : Dd K mg "_law_least_from" s_law_least_from ["_law_room_here", "_law_hand"]
  d_law_thin : Dd K mg "_law_thin" s_law_thin ["_law_room_here", "_law_most"]
  d_law_right : Dd K mg "_law_right" s_law_right ["_law_room_here", "_law_one", "_law_others"]
  m_all : mg "all" = none
  m_bool : mg "bool" = none
  m_enumerate : mg "enumerate" = none
  m_int : mg "int" = none
  m_isinstance : mg "isinstance" = none
  m_len : mg "len" = none
  m_list : mg "list" = none
  m_max : mg "max" = none
  m_min : mg "min" = none
  m_range : mg "range" = none
  m_str : mg "str" = none
  m_sum : mg "sum" = none
  m_tuple : mg "tuple" = none
  m_zip : mg "zip" = none

/-! ### heaps -/
def But (f : Addr) (H H' : Hp) : Prop := ∀ b o, H b = some o → b ≠ f → H' b = some o
theorem But.refl {f : Addr} {H : Hp} : But f H H := fun _ _ e _ => e
theorem But.trans {f : Addr} {H H1 H2 : Hp} (a : But f H H1) (b : But f H1 H2) : But f H H2 := fun x o e n => b x o (a x o e n) n
theorem But.upd {f : Addr} {H H1 : Hp} {o : HO} (a : But f H H1) : But f H (upd H1 f o) := fun x u e n => by rw [upd_ne n]; exact a x u e n
theorem But.new {f p : Addr} {H H1 : Hp} {o : HO} (a : But f H H1) (h : H1 p = none) : But f H (L2.upd H1 p o) := fun x u e n => by
  have e1 := a x u e n
  rw [upd_ne (ne_of_none e1 h)]
  exact e1
theorem same_new {H : Hp} {p : Addr} {o : HO} (h : H p = none) : Same H (upd H p o) := fun b u q => by rw [upd_ne (ne_of_none q h)]; exact q
theorem But.same {f : Addr} {H H1 H2 : Hp} (a : But f H H1) (b : Same H1 H2) : But f H H2 := fun x o e n => b x o (a x o e n)
theorem But.seqT {K : PySem.W.Frag} {f a : Addr} {H H1 : Hp} {xs : List V} (b : But f H H1) (h : SqT K H a xs) (n : a ≠ f) : SqT K H1 a xs := by
  rcases h with h | h
  · left
    rcases h with h | ⟨o, h⟩
    · exact .inl (b _ _ h n)
    · exact .inr ⟨o, b _ _ h n⟩
  · exact .inr h
/-- a comprehension without a test -/
theorem yes_in {σ : L2.St} {H : Hp} {A B : Hp → Prop} (h : A H) : tYes σ H (fun b H3 => if b = true then A H3 else B H3) := by
  show (if true = true then A H else B H)
  rw [if_pos rfl]
  exact h
/-! ### the draw -/
/-- the list of the law's draws at f, the script's copy at c -/
def Flow (H : Hp) (f c : Addr) : Prop := ∃ (ns : List Int) (i p q r : Int), H f = some (.lst [.ref c, .int i, .int p, .int q, .int r]) ∧ H c = some (.lst (ns.map V.int)) ∧ 0 ≤ i ∧ 0 ≤ p ∧ 0 ≤ q ∧ q < 2147483647
theorem Flow.new {H : Hp} {f c p : Addr} {o : HO} (h : Flow H f c) (n : H p = none) : Flow (upd H p o) f c := by
  obtain ⟨ns, i, a, q, r, e1, e2, e⟩ := h
  exact ⟨ns, i, a, q, r, same_new n _ _ e1, same_new n _ _ e2, e⟩
theorem Flow.ne {H : Hp} {f c p : Addr} (h : Flow H f c) (n : H p = none) : p ≠ f := by
  obtain ⟨ns, i, a, q, r, e1, _⟩ := h
  exact fun e => by rw [e, e1] at n; cases n
theorem Flow.nec {H : Hp} {f c p : Addr} (h : Flow H f c) (n : H p = none) : p ≠ c := by
  obtain ⟨ns, i, a, q, r, _, e1, _⟩ := h
  exact fun e => by rw [e, e1] at n; cases n
theorem Flow.lst {H : Hp} {f c p : Addr} {o : HO} (h : Flow H f c) (n1 : p ≠ f) (n2 : p ≠ c) : Flow (upd H p o) f c := by
  obtain ⟨ns, i, a, q, r, e1, e2, e⟩ := h
  exact ⟨ns, i, a, q, r, by rw [upd_ne n1.symm]; exact e1, by rw [upd_ne n2.symm]; exact e2, e⟩
theorem Flow.same {H H' : Hp} {f c : Addr} (h : Flow H f c) (s : Same H H') : Flow H' f c := by
  obtain ⟨ns, i, a, q, r, e1, e2, e⟩ := h
  exact ⟨ns, i, a, q, r, s _ _ e1, s _ _ e2, e⟩
theorem Flow.tup {H : Hp} {f c p : Addr} {xs : List V} (h : Flow H f c) (e : H p = some (.tup xs)) : p ≠ f := by
  obtain ⟨ns, i, a, q, r, e1, _⟩ := h
  exact ne_of e e1 (by intro z; cases z)
theorem at_ints {ns : List Int} {i : Int} (h0 : 0 ≤ i) (h1 : i < (ns.length : Int)) : ∃ v : Int, atI (ns.map V.int) i = some (.int v) := by
  have hk : i.toNat < ns.length := by omega
  have ek : i = ((i.toNat : Nat) : Int) := by omega
  have q : atI (ns.map V.int) ((i.toNat : Nat) : Int) = some (.int ns[i.toNat]) := atI_nat (by rw [List.getElem?_map, List.getElem?_eq_getElem hk]; rfl)
  rw [← ek] at q
  exact ⟨_, q⟩
/-- a block by less than it asks -/
theorem PSs.to {X : Cx} {ss : List Stmt} {t : TS} (h : PSs X ss t) (u : TS) (k : ∀ D σ H, u D σ H → t D σ H) : PSs X ss u := ⟨fun pins s σ H D I q => h.run pins s σ H D I (k D σ H q)⟩
theorem if_bl {b : Bool} {A B : Prop} (h1 : b = true → A) (h2 : b = false → B) : if b = true then A else B := by
  cases b
  · rw [if_neg Bool.false_ne_true]; exact h2 rfl
  · rw [if_pos rfl]; exact h1 rfl
/-! ### lists, two by two -/
inductive All2 {α β : Type} (R : α → β → Prop) : List α → List β → Prop
  | nil : All2 R [] []
  | cons {a b as bs} : R a b → All2 R as bs → All2 R (a :: as) (b :: bs)
theorem All2.imp {α β : Type} {R S : α → β → Prop} (h : ∀ a b, R a b → S a b) : ∀ {as bs}, All2 R as bs → All2 S as bs
  | _, _, .nil => .nil
  | _, _, .cons a b => .cons (h _ _ a) (All2.imp h b)
theorem All2.length {α β : Type} {R : α → β → Prop} : ∀ {as bs}, All2 R as bs → as.length = bs.length
  | _, _, .nil => rfl
  | _, _, .cons _ b => congrArg (· + 1) (All2.length b)
theorem All2.snoc {α β : Type} {R : α → β → Prop} {a b} (r : R a b) : ∀ {as bs}, All2 R as bs → All2 R (as ++ [a]) (bs ++ [b])
  | _, _, .nil => .cons r .nil
  | _, _, .cons h t => .cons h (All2.snoc r t)
theorem All2.get {α β : Type} {R : α → β → Prop} {as : List α} {bs : List β} (h : All2 R as bs) : ∀ {i : Nat} {b : β}, bs[i]? = some b → ∃ a, as[i]? = some a ∧ R a b := by
  induction h with
  | nil => intro i b e; cases e
  | cons r t ih =>
    intro i b e
    cases i with
    | zero => cases e; exact ⟨_, rfl, r⟩
    | succ i => exact ih e
theorem All2.getL {α β : Type} {R : α → β → Prop} {as : List α} {bs : List β} (h : All2 R as bs) : ∀ {i : Nat} {a : α}, as[i]? = some a → ∃ b, bs[i]? = some b ∧ R a b := by
  induction h with
  | nil => intro i b e; cases e
  | cons r t ih =>
    intro i b e
    cases i with
    | zero => cases e; exact ⟨_, rfl, r⟩
    | succ i => exact ih e
/-! ### tuples stay -/
def TK (H H' : Hp) : Prop := ∀ b xs, H b = some (.tup xs) → H' b = some (.tup xs)
theorem TK.refl {H : Hp} : TK H H := fun _ _ e => e
theorem TK.trans {H H1 H2 : Hp} (a : TK H H1) (b : TK H1 H2) : TK H H2 := fun x xs e => b x xs (a x xs e)
theorem TK.same {H H' : Hp} (s : Same H H') : TK H H' := fun x xs e => s _ _ e
theorem TK.new {H : Hp} {p : Addr} {o : HO} (n : H p = none) : TK H (upd H p o) := fun x xs e => same_new n _ _ e
theorem TK.lst {H : Hp} {p : Addr} {xs ys : List V} (h : H p = some (.lst xs)) : TK H (upd H p (.lst ys)) := fun x zs e => by
  rw [upd_ne (ne_of e h (by intro z; cases z))]
  exact e
theorem TK.but {H H' : Hp} {f c : Addr} (F : Flow H f c) (b : But f H H') : TK H H' := fun x xs e => b _ _ e (F.tup e)
theorem same_none {H H' : Hp} {p : Addr} (s : Same H H') (n : H' p = none) : H p = none := by
  cases e : H p with
  | none => rfl
  | some o => rw [s _ _ e] at n; cases n
theorem But.none {f p : Addr} {H H' : Hp} (b : But f H H') (n : H' p = Option.none) (h : p ≠ f) : H p = Option.none := by
  cases e : H p with
  | none => rfl
  | some o => rw [b _ _ e h] at n; cases n
theorem But.of {f : Addr} {H H' : Hp} (s : Same H H') : But f H H' := fun _ _ e _ => s _ _ e
/-- a list that was not there is written: what was stays -/
theorem But.own {f p : Addr} {H H1 : Hp} {o : HO} (a : But f H H1) (h : H p = Option.none) : But f H (L2.upd H1 p o) := fun x u e n => by
  rw [upd_ne (ne_of_none e h)]
  exact a x u e n
theorem Same.own {p : Addr} {H H1 : Hp} {o : HO} (a : Same H H1) (h : H p = Option.none) : Same H (L2.upd H1 p o) := fun x u e => by
  rw [upd_ne (ne_of_none e h)]
  exact a x u e
/-! ### loops over any iterator -/
theorem for_it {J : It} {n : Nat} {g : TG} {tb : TS} {D : Ends} {σ : L2.St} {H : Hp} (Pv : Nat → L2.St → Hp → Prop) (h0 : Pv 0 σ H) (go : ∀ i σ H, i < n → Pv i σ H → J.go i H) (st : ∀ σ H, Pv n σ H → J.stop n H)
    (hs : ∀ i x σ H H', i < n → Pv i σ H → J.yld i H x H' → g x σ H' fun σ2 H2 => tb { D with nx := Pv (i + 1), ct := Pv (i + 1), bk := D.nx } σ2 H2) (hd : ∀ σ H, Pv n σ H → D.nx σ H) :
    ∃ W : Nat → Nat → L2.St → Hp → Prop, (∃ m, W 0 m σ H) ∧ ∀ i m σ H, W i m σ H →
      (J.stop i H ∧ D.nx σ H) ∨ (J.go i H ∧ ∃ N : L2.St → Hp → Prop, (∀ σ' H', N σ' H' → ∃ m', m' < m ∧ W (i + 1) m' σ' H') ∧ ∀ x H', J.yld i H x H' → g x σ H' fun σ2 H2 => tb { D with nx := N, ct := N, bk := D.nx } σ2 H2) := by
  refine ⟨fun i m σ H => i + m = n ∧ Pv i σ H, ⟨n, by omega, h0⟩, fun i m σ H ⟨e, p⟩ => ?_⟩
  by_cases k : i < n
  · exact .inr ⟨go i σ H k p, Pv (i + 1), fun σ' H' p' => ⟨m - 1, by omega, by omega, p'⟩, fun x H' y => hs i x σ H H' k p y⟩
  · have z : i = n := by omega
    subst z
    exact .inl ⟨st σ H p, hd σ H p⟩
theorem lc_it {J : It} {n : Nat} {g : TG} {tt : TT} {te : TE} {vs : List Nat} {σ : L2.St} {H1 : Hp} {D : Addr} {Qd : Hp → Prop} (Pv : Nat → Hp → Prop) (h0 : Pv 0 (upd H1 D (.lst []))) (go : ∀ i H, i < n → Pv i H → J.go i H) (st : ∀ H, Pv n H → J.stop n H)
    (hs : ∀ i x H H', i < n → Pv i H → J.yld i H x H' → g x (wipe σ vs) H' fun σ2 H2 => wipe σ2 vs = wipe σ vs ∧ tt σ2 H2 fun b H3 =>
      if b = true then te σ2 H3 fun y H4 => ∃ acc, H4 D = some (.lst acc) ∧ acc.length < sizeLine ∧ Pv (i + 1) (upd H4 D (.lst (acc ++ [y]))) else Pv (i + 1) H3) (hd : ∀ H, Pv n H → Qd H) :
    ∃ W : Nat → Nat → Hp → Prop, (∃ m, W 0 m (upd H1 D (.lst []))) ∧ ∀ i m H, W i m H →
      (J.stop i H ∧ Qd H) ∨ (J.go i H ∧ ∃ Nx : Hp → Prop, (∀ H', Nx H' → ∃ m', m' < m ∧ W (i + 1) m' H') ∧ ∀ x H', J.yld i H x H' → g x (wipe σ vs) H' fun σ2 H2 => wipe σ2 vs = wipe σ vs ∧ tt σ2 H2 fun b H3 =>
        if b = true then te σ2 H3 fun y H4 => ∃ acc, H4 D = some (.lst acc) ∧ acc.length < sizeLine ∧ Nx (upd H4 D (.lst (acc ++ [y]))) else Nx H3) := by
  refine ⟨fun i m H => i + m = n ∧ Pv i H, ⟨n, by omega, h0⟩, fun i m H ⟨e, p⟩ => ?_⟩
  by_cases k : i < n
  · exact .inr ⟨go i H k p, Pv (i + 1), fun H' p' => ⟨m - 1, by omega, by omega, p'⟩, fun x H' y => hs i x H H' k p y⟩
  · have z : i = n := by omega
    subst z
    exact .inl ⟨st H p, hd H p⟩
/-! ### tests -/
theorem if_str {x z : Str} {A B : Prop} (h1 : x = z → A) (h2 : x ≠ z → B) : if decide (V.str x = V.str z) = true then A else B :=
  if_bl (fun e => h1 (V.str.inj (of_decide_eq_true e))) (fun e => h2 (fun q => of_decide_eq_false e (congrArg V.str q)))
theorem inV_strs {x : Str} {zs : List Str} : inV (.str x) (zs.map V.str) = true ↔ x ∈ zs := by
  unfold inV
  induction zs with
  | nil => simp
  | cons z zs ih =>
    rw [List.map_cons, List.any_cons, Bool.or_eq_true, ih, List.mem_cons]
    constructor
    · rintro (h | h)
      · exact .inl (by simpa [eqV] using (show (z == x) = true from h) |> fun k => (eq_of_beq k).symm)
      · exact .inr h
    · rintro (h | h)
      · exact .inl (show (z == x) = true by rw [h]; exact beq_self_eq_true z)
      · exact .inr h
theorem if_in {x : Str} {zs : List Str} {A B : Prop} (h1 : x ∈ zs → A) (h2 : x ∉ zs → B) : if (if false = true then !inV (.str x) (zs.map V.str) else inV (.str x) (zs.map V.str)) = true then A else B := by
  have e : (if false = true then !inV (.str x) (zs.map V.str) else inV (.str x) (zs.map V.str)) = inV (.str x) (zs.map V.str) := if_neg Bool.false_ne_true
  rw [e]
  exact if_bl (fun c => h1 (inV_strs.mp c)) (fun c => h2 (fun k => by rw [inV_strs.mpr k] at c; cases c))
theorem same_seqT {K : PySem.W.Frag} {a : Addr} {H H1 : Hp} {xs : List V} (b : Same H H1) (h : SqT K H a xs) : SqT K H1 a xs := by
  rcases h with h | h
  · left
    rcases h with h | ⟨o, h⟩
    · exact .inl (b _ _ h)
    · exact .inr ⟨o, b _ _ h⟩
  · exact .inr h
theorem little {n : Nat} (h : n ≤ 1000) : n ≤ sizeLine := Nat.le_of_lt (small1000 h)
/-! ### xs[i] op= e -/
def rGetL (K : PySem.W.Frag) : V → V → Hp → VK → Prop := fun o i H Q => ∃ (p : Addr) (xs : List V) (j : Nat) (v : V), o = .ref p ∧ i = .int (j : Nat) ∧ SqL K H p xs ∧ xs[j]? = some v ∧ Q v H
theorem get_list {X : Cx} : PGet X (rGetL X.K) := by
  intro pins st σ H o i ov iv Q J ro ri asked
  obtain ⟨p, xs, j, v, rfl, rfl, hq, hj, now⟩ := asked
  cases ro
  obtain ⟨t, rfl⟩ := ri
  obtain ⟨its, r, pl, hz⟩ := J.list hq
  obtain ⟨u, eu, ru⟩ := r.get hj
  have n1 := (List.getElem?_eq_some_iff.mp hj).1
  have n2 := line63
  exact wpAny_getItem_list pl.isList (by omega) (by omega) (by simpa using eu) ⟨v, H, J, ru, now⟩
/-! ### the same rules, the written part named (so that they fit within comprehensions) -/
section
variable {X : Cx}
theorem ix_listK (K : PySem.W.Frag) (h : X.K = K) : IxR X (rIxL K) := by subst h; exact ix_list
theorem ix_tupK (K : PySem.W.Frag) (h : X.K = K) : IxR X (rIxT K) := by subst h; exact ix_tup
def rLenK (K : PySem.W.Frag) : List V → Hp → VK → Prop := fun xs H Q => ∃ (p : Addr) (ys : List V), xs = [.ref p] ∧ (SqL K H p ys ∨ SqT K H p ys) ∧ Q (.int (ys.length : Nat)) H
theorem call_len_seqK (K : PySem.W.Frag) (h : X.K = K) : CallR X (.builtin "len") (rLenK K) := by subst h; exact call_len_seq
def rListOfK (K : PySem.W.Frag) : List V → Hp → VK → Prop := fun xs H Q => ∃ (p : Addr) (ys : List V), xs = [.ref p] ∧ (SqL K H p ys ∨ SqT K H p ys) ∧ ∀ l, H l = none → Q (.ref l) (upd H l (.lst ys))
theorem call_list_ofK (K : PySem.W.Frag) (h : X.K = K) : CallR X (.type "list") (rListOfK K) := by subst h; exact call_list_of
def rTupOfK (K : PySem.W.Frag) : List V → Hp → VK → Prop := fun xs H Q => ∃ (p : Addr) (ys : List V), xs = [.ref p] ∧ ((SqL K H p ys ∧ ∀ l, H l = none → Q (.ref l) (upd H l (.tup ys))) ∨ (SqT K H p ys ∧ Q (.ref p) H))
theorem call_tuple_ofK (K : PySem.W.Frag) (h : X.K = K) : CallR X (.type "tuple") (rTupOfK K) := by subst h; exact call_tuple_of
theorem op_in_seqK (K : PySem.W.Frag) (h : X.K = K) : OpR X (compareOp .In) (rIn K false) := by subst h; exact op_in_seq
theorem op_notIn_seqK (K : PySem.W.Frag) (h : X.K = K) : OpR X (compareOp .NotIn) (rIn K true) := by subst h; exact op_notIn_seq
theorem sl_listK (K : PySem.W.Frag) (h : X.K = K) : SlR X (rSlL K) := by subst h; exact sl_list
theorem sl_tupAK (K : PySem.W.Frag) (h : X.K = K) : SlR X (rSlA K) := by subst h; exact sl_tupA
theorem op_eqDK (K : PySem.W.Frag) (h : X.K = K) (hu : X.A.units + 64 < cLine) : OpR X (compareOp .Eq) (rEqD K) := by subst h; exact op_eqD hu
theorem op_neDK (K : PySem.W.Frag) (h : X.K = K) (hu : X.A.units + 64 < cLine) : OpR X (compareOp .NotEq) (rNeD K) := by subst h; exact op_neD hu
theorem call_isiKK (K : PySem.W.Frag) (h : X.K = K) : CallR X (.builtin "isinstance") (rIsi K) := by subst h; exact call_isi
theorem cr_allK (K : PySem.W.Frag) (h : X.K = K) (hc : X.calm = true) : CallR X (.builtin "all") (rAll K) := by subst h; exact cr_all hc
theorem cr_anyK (K : PySem.W.Frag) (h : X.K = K) (hc : X.calm = true) : CallR X (.builtin "any") (rAny K) := by subst h; exact cr_any hc
theorem cr_minKK (K : PySem.W.Frag) (h : X.K = K) (hc : X.calm = true) : CallR X (.builtin "min") (rMin K) := by subst h; exact cr_min hc
theorem cr_maxKK (K : PySem.W.Frag) (h : X.K = K) (hc : X.calm = true) : CallR X (.builtin "max") (rMax K) := by subst h; exact cr_max hc
def tTruK (K : PySem.W.Frag) (ta : TE) : TT := fun σ H Q => ta σ H fun x H' => ∃ k, TruV K x H' k ∧ Q k H'
theorem pt_truthK (K : PySem.W.Frag) (h : X.K = K) {a : Expr} {ta : TE} (ha : PE X a ta) (he : ∀ whole, isTrue a X.env whole = (do let v ← whole; standAt a.pos; holding [v] (truthy v))) : PT X a (tTruK K ta) := by subst h; exact pt_truth ha he
theorem get_listK (K : PySem.W.Frag) (h : X.K = K) : PGet X (rGetL K) := by subst h; exact get_list
theorem pg_tupK (K : PySem.W.Frag) (h : X.K = K) {es : List Expr} {k n : Nat} {t : TGs} {pos : Pos} (hc : X.calm = true) (g : PGs X es t)
    (hn : (assignEach es X.env).length = n := by rfl) (hst : (assignEach es X.env).findIdx? (·.1) = none := by rfl) : PG X (.Tuple es k pos) (gTup K n t) := by subst h; exact pg_tup hc g hn hst
theorem pg_unlK (K : PySem.W.Frag) (h : X.K = K) {es : List Expr} {k n : Nat} {t : TGs} {pos : Pos} (hc : X.calm = true) (g : PGs X es t)
    (hn : (assignEach es X.env).length = n := by rfl) (hst : (assignEach es X.env).findIdx? (·.1) = none := by rfl) : PG X (.Tuple es k pos) (gUnl K n t) := by subst h; exact pg_unl hc g hn hst
theorem pi_listK (K : PySem.W.Frag) (h : X.K = K) {tg e : Expr} {te : TE} (he : PE X e te) : PI X tg e (iList K te) := by subst h; exact pi_list he
theorem pi_tupK (K : PySem.W.Frag) (h : X.K = K) {tg e : Expr} {te : TE} (he : PE X e te) : PI X tg e (iTup K te) := by subst h; exact pi_tup he
theorem pe_revLK (K : PySem.W.Frag) (h : X.K = K) {e : Expr} {te : TE} {k : Nat} {p1 p2 p3 pos : Pos} (he : PE X e te) : PE X (.Subscript e (.Slice none none (some (.UnaryOp .USub (.Constant (.int 1) k p1) p2)) p3) pos) (tRevL K te) := by subst h; exact pe_revL he
theorem pe_bmK (K : PySem.W.Frag) (h : X.K = K) {o e : Expr} {es : List Expr} {to : TE} {t : TA} {name : Str} {apos cpos : Pos} {T id : String} {r : V → List V → Hp → VK → Prop}
    (pa : PlainAttrs T) (slot : Slot T name id) (hty : typeOf (.builtin id) = pure (.type "method_descriptor")) (hm : MtR X id r) (ho : PE X o to) (ha : PA X (e :: es) t)
    (n1 : attributeBase o name X.env (eval o X.env) = eval o X.env := by rfl)
    (n2 : ((backTo cpos (starEach (e :: es) X.env)).all (fun x => !x.1) && (backToKw cpos (keywordEach [] X.env)).all (fun x => x.1.isSome) && decide ((e :: es).length + ([] : List Keyword).length + (if ([] : List Keyword).isEmpty then 0 else 1) < 30)) = true := by rfl)
    (n3 : (apos.endLine == cpos.line) = true := by rfl) (n4 : starEach (e :: es) X.env = (false, eval e X.env) :: starEach es X.env := by rfl) (n5 : (backTo cpos (starEach es X.env)).any (·.1) = false := by rfl) :
    PE X (.Call (.Attribute o name apos) (e :: es) [] cpos) (tBM K T r to t) := by subst h; exact pe_bm pa slot hty hm ho ha n1 n2 n3 n4 n5
theorem pe_bm0K (K : PySem.W.Frag) (h : X.K = K) {o : Expr} {to : TE} {name : Str} {apos cpos : Pos} {T id : String} {r : V → List V → Hp → VK → Prop}
    (pa : PlainAttrs T) (slot : Slot T name id) (hty : typeOf (.builtin id) = pure (.type "method_descriptor")) (hm : MtR X id r) (ho : PE X o to)
    (n1 : attributeBase o name X.env (eval o X.env) = eval o X.env := by rfl) (n3 : (apos.endLine == cpos.line) = true := by rfl) : PE X (.Call (.Attribute o name apos) [] [] cpos) (tBM0 K T r to) := by subst h; exact pe_bm0 pa slot hty hm ho n1 n3
theorem op_catAK (K : PySem.W.Frag) (h : X.K = K) : OpR X (binaryOp .Add) (rCatA K) := by subst h; exact op_catA
theorem call_isiTK (K : PySem.W.Frag) (h : X.K = K) : CallR X (.builtin "isinstance") (rIsiT K) := by subst h; exact call_isiT
theorem pi_zipAK (K : PySem.W.Frag) (h : X.K = K) {e e2 : Expr} {ta : TA} {p pos tpos : Pos} {elts : List Expr} {kk : Nat} (hg : Gl X "zip") (hm : X.mg "zip" = none) (ha : PA X [e, e2] ta)
    (hs : starEach [e, e2] X.env = (false, eval e X.env) :: starEach [e2] X.env := by rfl) (hpl : (backTo pos (starEach [e2] X.env)).any (·.1) = false := by rfl) :
    PI X (.Tuple elts kk tpos) (.Call (.Name "zip" p) [e, e2] [] pos) (RZ.iZipA K ta) := by subst h; exact RZ.pi_zipA hg hm ha hs hpl
theorem pi_or {tg e : Expr} {t1 t2 : TI} (h1 : PI X tg e t1) (h2 : PI X tg e t2) : PI X tg e (fun σ H R => t1 σ H R ∨ t2 σ H R) := ⟨fun pins s σ H R I h => h.elim (h1.run pins s σ H R I) (h2.run pins s σ H R I)⟩
end
section
variable {X : Cx}
theorem cr_sumK (K : PySem.W.Frag) (h : X.K = K) (hc : X.calm = true) : CallR X (.builtin "sum") (rSum K) := by subst h; exact cr_sum hc
end
section
variable {X : Cx}
theorem op_ltTK (K : PySem.W.Frag) (h : X.K = K) (hu : X.A.units < cLine) : OpR X (compareOp .Lt) (rLtT K) := by subst h; exact op_ltT hu
end
/-! ### for i, x in enumerate(t), t a tuple -/
section
open Sem (wp)
open AutoSeq1 (wpAny_loadPart')
theorem enum_of_tup (t : Addr) (its : Array Value) (n : Nat) (dct : Option Addr) (sl : Array (Option Value)) :
    Meets (Builtin.«enumerate.__new__» ⟨[.type "enumerate", .ref t], []⟩) (fun _ R st => st.heap.get? t = some { cls := .type "tuple", dict := dct, data := .seq its n, slots := sl } ∧
      R (.ok (.ret (.ref (st.heap.push { cls := .type "tuple_iterator", data := .fields #[.ref t, .int 0 0] }).objs.size)))
        { st with heap := (st.heap.push { cls := .type "tuple_iterator", data := .fields #[.ref t, .int 0 0] }).push { cls := .type "enumerate", data := .fields #[.none, .bool false, .ref st.heap.objs.size, rawInt 0, .none, .none] } }) :=
  .of_wp fun prog w A R st asked => by
    obtain ⟨hp, g, d, tk, os⟩ := st; obtain ⟨at_, asked⟩ := asked
    have sub := sub_enumerate
    have hT : Heap.IsTuple (Shared.heap ⟨hp, g, d, tk, os⟩) t its := ⟨_, at_, rfl, n, rfl⟩
    wp_walk using wpAny_loadPart' at_
    refine wpAny_stack_any fun stk => wpAny_pure ?_
    split
    · rename_i c _ _ _ _ _
      cases (c == Value.type "enumerate")
      · wp_walk using wpAny_loadPart' at_, wpAny_pyIter_tuple hT
        exact ⟨_, rfl, asked⟩
      · wp_walk using wpAny_loadPart' at_, wpAny_pyIter_tuple hT
        exact ⟨_, rfl, asked⟩
    · wp_walk using wpAny_loadPart' at_, wpAny_pyIter_tuple hT
      exact ⟨_, rfl, asked⟩
theorem call_enum_tup {prog : Program} {w : World} {A : Around} {E : Value → Shared → Prop} {st : Shared} {t : Addr} {its : Array Value} {Q : Value → Shared → Prop} (hT : st.heap.IsTuple t its)
    (now : ∀ h', IsEnum h' (st.heap.objs.size + 1) st.heap.objs.size 0 .none → h'.IsTupleIter st.heap.objs.size t 0 → h'.objs.size = st.heap.objs.size + 2 →
      (∀ b o, st.heap.get? b = some o → h'.get? b = some o) → Q (.ref (st.heap.objs.size + 1)) { st with heap := h' }) :
    wpAny (model prog w) A (call (.type "enumerate") [.ref t]) Q E st := by
  obtain ⟨⟨c, dct, dt, sl⟩, at_, hc, n, hd⟩ := hT
  replace hc : c = .type "tuple" := hc
  replace hd : dt = .seq its n := hd
  subst hc hd
  refine callType_new F.called_enumerate (by decide) (F.typeCall_enumerate_1 _) (F.newCall_enumerate_1 _) (fun obj => F.args_object_init_2 obj _) F.entry_enumerate_new (enum_of_tup t its n dct sl) ⟨at_, ?_⟩
  have size1 : (st.heap.push { cls := .type "tuple_iterator", data := .fields #[.ref t, .int 0 0] }).objs.size = st.heap.objs.size + 1 := Heap.size_push ..
  show _ ∧ _
  rw [size1]
  have made := Heap.get?_push_size (st.heap.push { cls := .type "tuple_iterator", data := .fields #[.ref t, .int 0 0] }) (o := { cls := .type "enumerate", data := .fields #[.none, .bool false, .ref st.heap.objs.size, rawInt 0, .none, .none] }) rfl
  rw [size1] at made
  exact ⟨⟨_, made, rfl⟩, now _ made ⟨_, Heap.get?_push_of_some _ (Heap.get?_push_size _ rfl), rfl, rfl⟩ (by rw [Heap.size_push, size1]) fun b o e => Heap.get?_push_of_some _ (Heap.get?_push_of_some _ e)⟩
end
/-- the tuple at a, each item in a new pair -/
def IteT (K : PySem.W.Frag) (a : Addr) (xs : List V) : It :=
  ⟨fun i H => SqT K H a xs ∧ i < xs.length, fun i H v H' => ∃ T x, v = .ref T ∧ H T = none ∧ H' = upd H T (.tup [.int (i : Nat), x]) ∧ xs[i]? = some x, fun i H => SqT K H a xs ∧ i = xs.length⟩
theorem turn_enumT {P : Program} {w : World} {K : PySem.W.Frag} {elts : List Expr} {kk : Nat} {tpos : Pos} (a e it : Addr) (xs : List V) :
    Turn P w K (.Tuple elts kk tpos) (IteT K a xs) [e, it] e (fun i h => (∃ old, IsEnum h e it ((i : Nat) : Int) old) ∧ h.IsTupleIter it a i ∧ e ≠ it ∧ a ≠ it ∧ a ≠ e) where
  mem := by simp
  obj := fun i h st b hb => by
    obtain ⟨⟨old, he⟩, ⟨o, ho, hc, hd⟩, _⟩ := st
    have either : b = e ∨ b = it := by simpa using hb
    rcases either with z | z
    · rw [z]; exact ⟨_, he, fun v q => nomatch q⟩
    · rw [z]; exact ⟨o, ho, fun v q => by rw [hd] at q; cases q⟩
  keep := fun i h h' st k => let ⟨⟨old, he⟩, hi, apart⟩ := st; ⟨⟨old, k e (by simp) _ he⟩, hi.at fun o q => k it (by simp) o q, apart⟩
  item := by
    intro X hP hw hK hc i pins st σ H E J hf stt going
    subst hP hw hK
    obtain ⟨⟨old, he⟩, hit, n1, n2, n3⟩ := stt
    obtain ⟨hq, hi⟩ := going
    obtain ⟨its, rv, tup, hz⟩ := J.tuple hq
    have len := rv.length
    have el : e < st.heap.objs.size := Heap.lt_size he
    have il : it < st.heap.objs.size := by obtain ⟨_, q, _⟩ := hit; exact Heap.lt_size q
    have D := Draws.tuple (prog := X.prog) (w := X.w) (A := X.A.in1) (J.ok.hd hc) it a n2 its.toArray
    refine wpAny_pyNext_enum_itemD D he ⟨hit, tup⟩ (by rw [List.size_toArray]; omega) n1 (by simp [n1, n3.symm]) fun u h' tk px out stt' new size kp => ?_
    refine ⟨_, rfl, wpAny_letOwnedTupleGo_enum (s := { st with heap := h', toks := tk + 1 }) out fun h'' he' sb => ?_⟩
    obtain ⟨x, hx⟩ : ∃ x, xs[i]? = some x := ⟨_, List.getElem?_eq_getElem hi⟩
    obtain ⟨u', hu', ru⟩ := rv.get hx
    have eu : u' = u := by
      have px : its.toArray[i]? = some u := px
      rw [List.getElem?_toArray, hu'] at px
      exact Option.some.inj px
    subst eu
    have there : h''.get? st.heap.objs.size = some { cls := .type "tuple", data := .seq #[.int i tk, u'] } := (sb.2 _ (Nat.ne_of_gt el)).trans new
    have ok2 : ObjOk X.prog X.w (upd H st.heap.objs.size (.tup [.int (i : Nat), x])) h'' st.heap.objs.size (.tup [.int (i : Nat), x]) :=
      ⟨by show 2 ≤ sizeLine; decide, [.int i tk, u'], .cons ⟨_, rfl⟩ (.cons ru .nil), ⟨_, there, rfl, _, rfl⟩⟩
    have J1 : Inv X pins σ (upd H st.heap.objs.size (.tup [.int (i : Nat), x])) { st with heap := h'', toks := tk + 1 } :=
      J.turnedNew (ch := [e, it]) (fun b ob hb q => (sb.2 b (fun z => hb (by simp [z]))).trans (kp b ob (fun z => hb (by simp [z])) (fun z => hb (by simp [z])) q)) hf (Nat.le_refl _) ok2
    refine ⟨.ref st.heap.objs.size, _, J1, rfl, ⟨_, x, rfl, J.hok.fresh (Nat.le_refl _), rfl, hx⟩, ⟨⟨u', ?_⟩, stt'.1.at fun o q => (sb.2 it (Ne.symm n1)).trans q, n1, n2, n3⟩, fun b hb => ?_⟩
    · rw [show ((i + 1 : Nat) : Int) = (i : Int) + 1 by omega]
      exact he'
    · have bl : b < st.heap.objs.size := by
        have either : b = e ∨ b = it := by simpa using hb
        rcases either with z | z
        · rw [z]; exact el
        · rw [z]; exact il
      rw [upd_ne (Nat.ne_of_lt bl)]
      exact (hf b hb).1
  done := by
    intro X hP hw hK hc i pins st σ H E J hf stt over
    subst hP hw hK
    obtain ⟨⟨old, he⟩, hit, n1, n2, n3⟩ := stt
    obtain ⟨hq, hi⟩ := over
    obtain ⟨its, rv, tup, hz⟩ := J.tuple hq
    obtain ⟨f0, f1, f2, f3, f4, f5⟩ := hf it (by simp)
    have len := rv.length
    have D := Draws.tuple (prog := X.prog) (w := X.w) (A := X.A.in1) (J.ok.hd hc) it a n2 its.toArray
    have ei : its.toArray.size = i := by rw [List.size_toArray]; omega
    exact wpAny_pyNext_enum_endD D he ⟨by rw [ei]; exact hit, tup⟩ fun h' eb => ⟨rfl, J.turned (t' := st.toks) (fun b o hb q => eb b o hb q) f0 f1 f3 f4 f5⟩
  self := fun A i st Q E stt now => let ⟨⟨_, he⟩, _⟩ := stt; wpAny_pyIter_enum he now
def iEnumT (K : PySem.W.Frag) (ta : TA) : TI := fun σ H R => ta σ H fun vs H1 => ∃ a xs, vs = [.ref a] ∧ SqT K H1 a xs ∧ R (IteT K a xs) H1
theorem pi_enumT (K : PySem.W.Frag) {X : Cx} (hk : X.K = K) {e : Expr} {ta : TA} {p pos tpos : Pos} {elts : List Expr} {kk : Nat} (hg : Gl X "enumerate") (hm : X.mg "enumerate" = none) (ha : PA X [e] ta) (hs : starEach [e] X.env = [(false, eval e X.env)] := by rfl) :
    PI X (.Tuple elts kk tpos) (.Call (.Name "enumerate" p) [e] [] pos) (iEnumT K ta) := by
  subst hk
  refine ⟨fun pins st σ H R J asked => ?_⟩
  refine Call_ (ld_blt J hg hm boot_enumerate (PyProof.Rows.callWith_type1 (thn (ha.run pos pins st σ H _ J asked) fun us st1 ⟨vs, H1, J1, rel, now⟩ => ?_) hs rfl))
  obtain ⟨a, xs, ex, hq, now⟩ := now
  subst ex
  obtain ⟨u, rfl, ru⟩ := vals1 rel
  obtain rfl : u = Value.ref a := ru
  obtain ⟨its, rv, tup, hz⟩ := J1.tuple hq
  have al : a < st1.heap.objs.size := by obtain ⟨o, ho, _⟩ := tup; exact Heap.lt_size ho
  refine call_enum_tup tup fun h' he hit size kp => wpAny_pyIter_enum he ?_
  have J2 : Inv X pins σ H1 { st1 with heap := h' } := J1.kept (t' := st1.toks) kp
  refine ⟨st1.heap.objs.size + 1, [st1.heap.objs.size + 1, st1.heap.objs.size], _, _, H1, rfl, J2, turn_enumT a (st1.heap.objs.size + 1) st1.heap.objs.size xs, ⟨⟨.none, he⟩, hit, Nat.succ_ne_self _, Nat.ne_of_lt al, Nat.ne_of_lt (Nat.lt_succ_of_lt al)⟩, fun b hb => ?_, now⟩
  have either : b = st1.heap.objs.size + 1 ∨ b = st1.heap.objs.size := by simpa using hb
  have low : st1.heap.objs.size ≤ b := by
    rcases either with z | z
    · rw [z]; exact Nat.le_add_right _ _
    · rw [z]; exact Nat.le_refl _
  exact J1.fpOk low (J1.hok.fresh low)
theorem one_at {K : PySem.W.Frag} {a : Addr} {od : Option Addr} {z : Str} {t1 : Tok} {n : Nat} {sl : Array (Option Value)} (l : K.lookup a = some ⟨.type "tuple", od, .seq #[.str z t1] n, sl⟩) (H : Hp) : SqT K H a [.str z] :=
  .inr ⟨_, _, _, l, rfl, rfl, (show 1 ≤ sizeLine by decide), .cons ⟨_, rfl⟩ .nil⟩
section
variable {P : Program} {w : World} {K : PySem.W.Frag} {mg : Str → Option Value} {base : Heap}
def sp_law_flow (K : PySem.W.Frag) : Sp := fun vs H Q _ => ∃ (a : Addr) (ns : List Int), vs = [.ref a] ∧ SqL K H a (ns.map V.int) ∧ ∀ (f c : Addr) (H' : Hp), H f = none → H c = none → Flow H' f c → Same H H' → Q (.ref f) H'
theorem ok_law_flow {f : Addr} {fd : FuncData} (F : Fun K "_law_flow" "_law_flow" s_law_flow f fd) (T : Top K mg) : FnOk P w K mg base CX0 1 f fd ["_law_script"] (sp_law_flow K) := by
  refine F.ok sc_law_flow (fun vs H Q E h => ?_) (fun cdv A outer s H vs Q E hr h => ?_)
  · obtain ⟨a, ns, rfl, _⟩ := h
    rfl
  obtain ⟨a, ns, rfl, hS, q⟩ := h
  refine ⟨_, (pss_one (ps_ret (pe_lst (pa_cons (pe_callTy (call_list_ofK K rfl) (by rfl) T.m_list (by decide +kernel) (pa_cons (pv 0) pa_nil)) (pa_cons pe_int (pa_cons pe_int (pa_cons pe_int (pa_cons pe_int pa_nil)))))))), ?_⟩
  refine ⟨_, rfl, a, _, rfl, .inl hS, fun c hc => ?_⟩
  refine ⟨(by show 5 ≤ sizeLine; decide), fun f hf => ?_⟩
  have nf : H f = none := by
    cases e : H f with
    | none => rfl
    | some o => rw [same_new hc _ _ e] at hf; cases hf
  have s1 := same_new (o := .lst (ns.map V.int)) hc
  refine q f c _ nf hc ⟨ns, 0, 0, 1, 0, upd_same, same_new hf _ _ upd_same, by decide, by decide, by decide, by decide⟩ fun b o e => same_new hf _ _ (s1 _ _ e)
def sp_law_pick (K : PySem.W.Frag) : Sp := fun vs H Q _ => ∃ (f c : Addr) (m : Int), vs = [.ref f, .int m] ∧ 0 < m ∧ m.natAbs.log2 < 9000 ∧ Flow H f c ∧
  ∀ (v : Int) (H' : Hp), 0 ≤ v → v < m → Flow H' f c → But f H H' → Q (.int v) H'
theorem ok_law_pick {f : Addr} {fd : FuncData} (F : Fun K "_law_pick" "_law_pick" s_law_pick f fd) (T : Top K mg) : FnOk P w K mg base CX0 1 f fd ["_law_flow_here", "_law_many"] (sp_law_pick K) := by
  refine F.ok sc_law_pick (fun vs H Q E h => ?_) (fun cdv A outer s H vs Q E hr h => ?_)
  · obtain ⟨f, c, m, rfl, _⟩ := h
    rfl
  obtain ⟨f, c, m, rfl, m0, m9, hF, q⟩ := h
  obtain ⟨ns, i, p, z, r, hf, hc, hi, hp, hz, hz2⟩ := hF
  have ncf : c ≠ f := ne_of hc hf (by intro e; injection e with e; cases ns with | nil => cases e | cons x l => cases e)
  let R1 : TS := fun D' σ' H' => D'.rt = Q ∧ ∃ x2 : Option V, σ' = [some (.ref f), some (.int m), x2, none] ∧ (∃ (i p z r : Int), H' f = some (.lst [.ref c, .int i, .int p, .int z, .int r]) ∧ H' c = some (.lst (ns.map V.int)) ∧ 0 ≤ i ∧ 0 ≤ p ∧ 0 ≤ z ∧ z < 2147483647) ∧ But f H H'
  refine ⟨_, (pss_cons (ps_if (PW.pt (pw_and (pt_cmpR op_eq (pe_ix (ix_listK K rfl) (pv 0) pe_int (fun _ _ => rfl)) pe_int (nomark _)) (pw_and1 (pt_cmpR op_lt (pe_ix (ix_listK K rfl) (pv 0) pe_int (fun _ _ => rfl)) (pe_callB (call_len_seqK K rfl) (by rfl) T.m_len (by decide +kernel) (pa_cons (pe_ix (ix_listK K rfl) (pv 0) pe_int (fun _ _ => rfl)) pa_nil)) (nomark _))))) (pss_cons (ps_set (i := 2) sc_law_pick.nd rfl (Or.inl rfl) (pe_ix (ix_listK K rfl) (pe_ix (ix_listK K rfl) (pv 0) pe_int (fun _ _ => rfl)) (pe_ix (ix_listK K rfl) (pv 0) pe_int (fun _ _ => rfl)) (fun _ _ => rfl)))
      (pss_cons (ps_asg (pe_op op_add (pe_ix (ix_listK K rfl) (pv 0) pe_int (fun _ _ => rfl)) pe_int) (pg_sub (pv 0) pe_int set_list))
      (pss_one (ps_if (pt_cmpR op_ge (pv 2) (pe_op op_pow pe_int pe_int) (nomark _)) (pss_one (ps_asg (pv 2) (pg_sub (pv 0) pe_int set_list))) (pss_one (ps_asg (pe_op op_mod (pe_op op_add (pe_op op_add (pe_op op_mul (pe_ix (ix_listK K rfl) (pv 0) pe_int (fun _ _ => rfl)) pe_int) (pe_op op_mod (pv 2) pe_int)) pe_int) pe_int) (pg_sub (pv 0) pe_int set_list))))))) pss_nil)
      (PSs.to (pss_cons (ps_if (pt_cmpR op_gt (pe_ix (ix_listK K rfl) (pv 0) pe_int (fun _ _ => rfl)) pe_int (nomark _)) (pss_cons (ps_set (i := 3) sc_law_pick.nd rfl (Or.inl rfl) (pe_op op_mod (pe_ix (ix_listK K rfl) (pv 0) pe_int (fun _ _ => rfl)) (pv 1)))
      (pss_cons (ps_asg (pe_op op_fdivW (pe_ix (ix_listK K rfl) (pv 0) pe_int (fun _ _ => rfl)) (pv 1)) (pg_sub (pv 0) pe_int set_list))
      (pss_one (ps_ret (pv 3))))) pss_nil)
      (pss_cons (ps_asg (pe_op op_add (pe_ix (ix_listK K rfl) (pv 0) pe_int (fun _ _ => rfl)) pe_int) (pg_sub (pv 0) pe_int set_list))
      (pss_cons (ps_asg (pe_op op_mod (pe_op op_add (pe_op op_add (pe_op op_mul (pe_ix (ix_listK K rfl) (pv 0) pe_int (fun _ _ => rfl)) pe_int) pe_int) (pe_ix (ix_listK K rfl) (pv 0) pe_int (fun _ _ => rfl))) pe_int) (pg_sub (pv 0) pe_int set_list))
      (pss_one (ps_ret (pe_op op_mod (pe_op op_fdiv (pe_op op_mod (pe_op op_mul (pe_op op_add (pe_op op_mod (pe_ix (ix_listK K rfl) (pv 0) pe_int (fun _ _ => rfl)) pe_int) pe_int) (pe_op op_add (pe_op op_fdiv (pe_ix (ix_listK K rfl) (pv 0) pe_int (fun _ _ => rfl)) pe_int) pe_int)) pe_int) pe_int) (pv 1))))))) R1 ?tail1)), ?_⟩
  case tail1 =>
    rintro D' σ' H1 ⟨eD, x2, rfl, ⟨i, p, z, r, hf, hc, hi, hp, hz, hz2⟩, bt⟩
    refine ⟨_, rfl, f, _, _, _, rfl, rfl, SqL.of hf, atI_nat (j := 2) rfl, _, _, rfl, rfl, _, rfl, if_bl (fun c1 => ?_) (fun c1 => ?_)⟩
    · refine ⟨_, rfl, f, _, _, _, rfl, rfl, SqL.of hf, atI_nat (j := 2) rfl, _, rfl, _, _, rfl, rfl, m0, ?_⟩
      refine ⟨_, rfl, f, _, _, _, rfl, rfl, SqL.of hf, atI_nat (j := 2) rfl, _, rfl, _, _, rfl, rfl, ⟨m0, m9⟩, _, rfl, f, _, _, 2, rfl, rfl, hf, rfl, ?_⟩
      refine ⟨_, rfl, ?_⟩
      rw [eD]
      exact q _ _ (Int.emod_nonneg _ (by omega)) (Int.emod_lt_of_pos _ m0) ⟨ns, i, p / m, z, r, upd_same, (by rw [upd_ne ncf]; exact hc), hi, Int.ediv_nonneg hp (by omega), hz, hz2⟩ bt.upd
    · refine ⟨_, rfl, f, _, _, _, rfl, rfl, SqL.of hf, atI_nat (j := 4) rfl, _, _, rfl, rfl, _, rfl, f, _, _, 4, rfl, rfl, hf, rfl, ?_⟩
      have hf2 : upd H1 f (.lst ([V.ref c, V.int i, V.int p, V.int z, V.int r].set 4 (V.int (r + 1)))) f = some (.lst [.ref c, .int i, .int p, .int z, .int (r + 1)]) := upd_same
      refine ⟨_, rfl, f, _, _, _, rfl, rfl, SqL.of hf2, atI_nat (j := 3) rfl, _, _, rfl, rfl, .inl ⟨by omega, by omega⟩, _, _, rfl, rfl, _, rfl, f, _, _, _, rfl, rfl, SqL.of hf2, atI_nat (j := 4) rfl, _, _, rfl, rfl, _, _, rfl, rfl, (by show (0 : Int) < 2147483647; decide), _, rfl, f, _, _, 3, rfl, rfl, hf2, rfl, ?_⟩
      have z0 : 0 ≤ (z * 48271 + 12820163 + (r + 1)) % 2147483647 := Int.emod_nonneg _ (by decide)
      have z1 : (z * 48271 + 12820163 + (r + 1)) % 2147483647 < 2147483647 := Int.emod_lt_of_pos _ (by decide)
      have hf3 : upd (upd H1 f (.lst ([V.ref c, V.int i, V.int p, V.int z, V.int r].set 4 (V.int (r + 1))))) f (.lst ([V.ref c, V.int i, V.int p, V.int z, V.int (r + 1)].set 3 (V.int ((z * 48271 + 12820163 + (r + 1)) % 2147483647)))) f =
        some (.lst [.ref c, .int i, .int p, .int ((z * 48271 + 12820163 + (r + 1)) % 2147483647), .int (r + 1)]) := upd_same
      have hc3 : upd (upd H1 f (.lst ([V.ref c, V.int i, V.int p, V.int z, V.int r].set 4 (V.int (r + 1))))) f (.lst ([V.ref c, V.int i, V.int p, V.int z, V.int (r + 1)].set 3 (V.int ((z * 48271 + 12820163 + (r + 1)) % 2147483647)))) c = some (.lst (ns.map V.int)) := by
        rw [upd_ne ncf, upd_ne ncf]
        exact hc
      refine ⟨_, rfl, f, _, _, _, rfl, rfl, SqL.of hf3, atI_nat (j := 3) rfl, _, _, rfl, rfl, (by show (0 : Int) < 65521; decide), _, _, rfl, rfl, _, rfl, f, _, _, _, rfl, rfl, SqL.of hf3, atI_nat (j := 3) rfl, _, _, rfl, rfl, ⟨by decide, by decide⟩, _, _, rfl, rfl, _, _, rfl, rfl, .inl ⟨?_, ?_⟩, _, _, rfl, rfl, (by show (0 : Int) < 1000003; decide), _, _, rfl, rfl, ⟨by decide, by decide⟩, _, rfl, _, _, rfl, rfl, m0, ?_⟩
      · omega
      · omega
      · rw [eD]
        exact q _ _ (Int.emod_nonneg _ (by omega)) (Int.emod_lt_of_pos _ m0) ⟨ns, i, p, _, r + 1, hf3, hc3, hi, hp, z0, z1⟩ bt.upd.upd
  refine ⟨_, rfl, f, _, _, _, rfl, rfl, SqL.of hf, atI_nat (j := 2) rfl, rfl, _, rfl, if_bl (fun c1 => ?_) (fun c1 => ?_)⟩
  · refine ⟨_, rfl, f, _, _, _, rfl, rfl, SqL.of hf, atI_nat (j := 1) rfl, _, rfl, f, _, _, _, rfl, rfl, SqL.of hf, atI_nat (j := 0) rfl, c, _, rfl, .inl (SqL.of hc), _, _, rfl, rfl, _, rfl, if_bl (fun c2 => ?_) (fun c2 => ?_)⟩
    · have c3 : i < ((ns.map V.int).length : Int) := of_decide_eq_true c2
      rw [List.length_map] at c3
      obtain ⟨v, hv⟩ := at_ints hi c3
      refine ⟨_, rfl, f, _, _, _, rfl, rfl, SqL.of hf, atI_nat (j := 0) rfl, _, rfl, f, _, _, _, rfl, rfl, SqL.of hf, atI_nat (j := 1) rfl, c, _, i, _, rfl, rfl, SqL.of hc, hv, ?_⟩
      refine ⟨_, rfl, f, _, _, _, rfl, rfl, SqL.of hf, atI_nat (j := 1) rfl, _, _, rfl, rfl, _, rfl, f, _, _, 1, rfl, rfl, hf, rfl, ?_⟩
      have hf2 : upd H f (.lst ([V.ref c, V.int i, V.int p, V.int z, V.int r].set 1 (V.int (i + 1)))) f = some (.lst [.ref c, .int (i + 1), .int p, .int z, .int r]) := upd_same
      refine ⟨_, rfl, _, _, rfl, rfl, ⟨by decide, by decide, by decide⟩, _, _, rfl, rfl, _, rfl, if_bl (fun c4 => ?_) (fun c4 => ?_)⟩
      · have c5 : (10 : Int) ^ (18 : Int).toNat ≤ v := of_decide_eq_true c4
        have c6 : (0 : Int) ≤ (10 : Int) ^ (18 : Int).toNat := by decide
        refine ⟨_, rfl, _, rfl, f, _, _, 2, rfl, rfl, hf2, rfl, rfl, _, rfl, ⟨i + 1, v, z, r, upd_same, ?_, by omega, by omega, hz, hz2⟩, But.refl.upd.upd⟩
        rw [upd_ne ncf, upd_ne ncf]
        exact hc
      · refine ⟨_, rfl, f, _, _, _, rfl, rfl, SqL.of hf2, atI_nat (j := 3) rfl, _, _, rfl, rfl, .inl ⟨by omega, by omega⟩, _, rfl, _, _, rfl, rfl, (by show (0 : Int) < 1000003; decide), _, _, rfl, rfl, _, _, rfl, rfl, _, _, rfl, rfl, (by show (0 : Int) < 2147483647; decide), _, rfl, f, _, _, 3, rfl, rfl, hf2, rfl, rfl, _, rfl, ⟨i + 1, p, _, r, upd_same, ?_, by omega, hp, Int.emod_nonneg _ (by decide), Int.emod_lt_of_pos _ (by decide)⟩, But.refl.upd.upd⟩
        rw [upd_ne ncf, upd_ne ncf]
        exact hc
    · exact ⟨rfl, _, rfl, ⟨i, p, z, r, hf, hc, hi, hp, hz, hz2⟩, But.refl⟩
  · exact ⟨rfl, _, rfl, ⟨i, p, z, r, hf, hc, hi, hp, hz, hz2⟩, But.refl⟩
end
/-! ### rooms: what they are -/
/-- a hand: its rule's word, its number if it has one, its moments -/
structure HR where
  wd : Str
  no : Option Int
  mom : Int
/-- a belt -/
structure BR where
  one : Nat
  to : Nat
  th : List Int
abbrev ruleL (h : HR) : List V := .str h.wd :: (match h.no with | none => [] | some n => [.int n])
def HandAt (H : Hp) (v : V) (h : HR) : Prop := ∃ t r : Addr, v = .ref t ∧ H t = some (.tup [.ref r, .int h.mom]) ∧ H r = some (.tup (ruleL h))
def BeltAt (H : Hp) (v : V) (b : BR) : Prop := ∃ t g : Addr, v = .ref t ∧ H t = some (.tup [.int (b.one : Nat), .int (b.to : Nat), .ref g]) ∧ H g = some (.tup (b.th.map V.int))
theorem HandAt.keep {H H' : Hp} {v : V} {h : HR} (a : HandAt H v h) (k : TK H H') : HandAt H' v h := by
  obtain ⟨t, r, e, e1, e2⟩ := a
  exact ⟨t, r, e, k _ _ e1, k _ _ e2⟩
theorem BeltAt.keep {H H' : Hp} {v : V} {b : BR} (a : BeltAt H v b) (k : TK H H') : BeltAt H' v b := by
  obtain ⟨t, r, e, e1, e2⟩ := a
  exact ⟨t, r, e, k _ _ e1, k _ _ e2⟩
def nine : List Str := ["always", "same", "times", "sum", "gap", "below", "most", "least", "pick"]
def needs (wd : Str) : Int := if wd ∈ (["in", "always"] : List Str) then 0 else if wd ∈ (["out", "same", "times"] : List Str) then 1 else 2 + (if wd = "pick" then 1 else 0)
/-- a rule of one of the nine words -/
structure GoodRule (h : HR) : Prop where
  wd : h.wd ∈ nine
  no : h.no.isSome = true ↔ h.wd = "times" ∨ h.wd = "always"
  big : ∀ n, h.no = some n → -1000000 ≤ n ∧ n ≤ 1000000
def GoodHand (h : HR) : Prop := (GoodRule h ∨ ((h.wd = "in" ∨ h.wd = "out") ∧ h.no = none)) ∧ 0 ≤ h.mom ∧ h.mom ≤ 30
def Small (v : Int) : Prop := -1000000 ≤ v ∧ v ≤ 1000000
section
variable {P : Program} {w : World} {K : PySem.W.Frag} {mg : Str → Option Value} {base : Heap}
def sp_law_thing (K : PySem.W.Frag) : Sp := fun vs H Q _ => ∃ f c : Addr, vs = [.ref f] ∧ Flow H f c ∧ ∀ (v : Int) (H' : Hp), Small v → Flow H' f c → But f H H' → Q (.int v) H'
theorem ok_law_thing {f : Addr} {fd : FuncData} (F : Fun K "_law_thing" "_law_thing" s_law_thing f fd) (T : Top K mg) : FnOk P w K mg base CX0 2 f fd ["_law_flow_here"] (sp_law_thing K) := by
  obtain ⟨f_law_pick, fd_law_pick, F_law_pick, b_law_pick, m_law_pick⟩ := T.d_law_pick
  have G_law_pick := ok_law_pick (P := P) (w := w) (base := base) F_law_pick T
  refine F.ok sc_law_thing (fun vs H Q E h => ?_) (fun cdv A outer s H vs Q E hr h => ?_)
  · obtain ⟨f, c, rfl, _⟩ := h
    rfl
  obtain ⟨f, c, rfl, hF, q⟩ := h
  refine ⟨_, (pss_cons (ps_if (pt_cmpR op_gt (pe_call G_law_pick (hr.mono (by decide)) (by rfl) m_law_pick F_law_pick.kp b_law_pick .nil pass0 (pa_cons (pv 0) (pa_cons pe_int pa_nil))) pe_int (nomark _)) (pss_one (ps_ret (pe_op op_sub (pe_call G_law_pick (hr.mono (by decide)) (by rfl) m_law_pick F_law_pick.kp b_law_pick .nil pass0 (pa_cons (pv 0) (pa_cons pe_int pa_nil))) pe_int))) pss_nil)
      (pss_one (ps_ret (pe_op op_sub (pe_call G_law_pick (hr.mono (by decide)) (by rfl) m_law_pick F_law_pick.kp b_law_pick .nil pass0 (pa_cons (pv 0) (pa_cons pe_int pa_nil))) pe_int)))), ?_⟩
  refine ⟨_, rfl, f, c, 3, rfl, by decide, by decide +kernel, hF, fun v1 H1 a1 b1 F1 B1 => ⟨_, _, rfl, rfl, _, rfl, if_bl (fun _ => ?_) (fun _ => ?_)⟩⟩
  · exact ⟨_, rfl, f, c, 7, rfl, by decide, by decide +kernel, F1, fun v2 H2 a2 b2 F2 B2 => ⟨_, _, rfl, rfl, q _ _ ⟨by omega, by omega⟩ F2 (B1.trans B2)⟩⟩
  · exact ⟨_, rfl, f, c, 2000001, rfl, by decide, by decide +kernel, F1, fun v2 H2 a2 b2 F2 B2 => ⟨_, _, rfl, rfl, q _ _ ⟨by omega, by omega⟩ F2 (B1.trans B2)⟩⟩
def sp_law_needs (K : PySem.W.Frag) : Sp := fun vs H Q _ => ∃ (r : Addr) (wd : Str) (l : List V), vs = [.ref r] ∧ SqT K H r (.str wd :: l) ∧ ∀ H', Same H H' → Q (.int (needs wd)) H'
theorem ok_law_needs {f : Addr} {fd : FuncData} (F : Fun K "_law_needs" "_law_needs" s_law_needs f fd) (T : Top K mg) : FnOk P w K mg base CX0 1 f fd ["_law_rule_here"] (sp_law_needs K) := by
  refine F.ok sc_law_needs (fun vs H Q E h => ?_) (fun cdv A outer s H vs Q E hr h => ?_)
  · obtain ⟨r, wd, l, rfl, _⟩ := h
    rfl
  obtain ⟨r, wd, l, rfl, hR, q⟩ := h
  unfold needs at q
  refine ⟨_, (pss_cons (ps_if (pt_cmpR (op_in_seqK K rfl) (pe_ix (ix_tupK K rfl) (pv 0) pe_int (fun _ _ => rfl)) (pe_tup (pa_cons pe_str (pa_cons pe_str pa_nil))) (by with_unfolding_all rfl)) (pss_one (ps_ret pe_int)) pss_nil)
      (pss_cons (ps_if (pt_cmpR (op_in_seqK K rfl) (pe_ix (ix_tupK K rfl) (pv 0) pe_int (fun _ _ => rfl)) (pe_tup (pa_cons pe_str (pa_cons pe_str (pa_cons pe_str pa_nil)))) (by with_unfolding_all rfl)) (pss_one (ps_ret pe_int)) pss_nil)
      (pss_one (ps_ret (pe_op op_add pe_int (pe_callTy call_int1 (by rfl) T.m_int (by decide +kernel) (pa_cons (pe_cmpR op_eq (pe_ix (ix_tupK K rfl) (pv 0) pe_int (fun _ _ => rfl)) pe_str (nomark _)) pa_nil))))))), ?_⟩
  refine ⟨_, rfl, r, _, _, _, rfl, rfl, hR, atI_nat (j := 0) rfl, (by show 2 ≤ sizeLine; decide), fun p np => ⟨p, _, rfl, .inr (SqT.of upd_same), rfl, rfl, _, rfl, if_in (zs := ["in", "always"]) (fun e => ?_) (fun e => ?_)⟩⟩
  · have q := q _ (same_new (o := .tup [V.str "in", V.str "always"]) np)
    rw [if_pos e] at q
    exact q
  have s1 := same_new (o := .tup [V.str "in", V.str "always"]) np
  refine ⟨_, rfl, r, _, _, _, rfl, rfl, same_seqT s1 hR, atI_nat (j := 0) rfl, (by show 3 ≤ sizeLine; decide), fun p2 np2 => ⟨p2, _, rfl, .inr (SqT.of upd_same), rfl, rfl, _, rfl, if_in (zs := ["out", "same", "times"]) (fun e2 => ?_) (fun e2 => ?_)⟩⟩
  · have q := q _ (s1.trans (same_new (o := .tup [V.str "out", V.str "same", V.str "times"]) np2))
    rw [if_neg e, if_pos e2] at q
    exact q
  have s2 := s1.trans (same_new (o := .tup [V.str "out", V.str "same", V.str "times"]) np2)
  have q := q _ s2
  rw [if_neg e, if_neg e2] at q
  refine ⟨_, rfl, r, _, _, _, rfl, rfl, same_seqT s2 hR, atI_nat (j := 0) rfl, rfl, .inr ⟨_, rfl, _, _, rfl, rfl, ?_⟩⟩
  by_cases k : wd = "pick"
  · rw [if_pos k] at q
    rw [decide_eq_true (show V.str wd = V.str "pick" by rw [k])]
    exact q
  · rw [if_neg k] at q
    rw [decide_eq_false (show ¬ V.str wd = V.str "pick" from fun z => k (V.str.inj z))]
    exact q
theorem nine_at {m : Int} (h0 : 0 ≤ m) (h9 : m < 9) : ∃ wd : Str, wd ∈ nine ∧ atI (nine.map V.str) m = some (.str wd) ∧ (m < 1 → needs wd ≤ 0) ∧ (m < 3 → needs wd ≤ 1) ∧ (m < 8 → needs wd ≤ 2) ∧ needs wd ≤ 3 ∧ 0 ≤ needs wd := by
  have : m = 0 ∨ m = 1 ∨ m = 2 ∨ m = 3 ∨ m = 4 ∨ m = 5 ∨ m = 6 ∨ m = 7 ∨ m = 8 := by omega
  rcases this with rfl | rfl | rfl | rfl | rfl | rfl | rfl | rfl | rfl
  · exact ⟨"always", by decide +kernel, rfl, by decide +kernel, by decide +kernel, by decide +kernel, by decide +kernel, by decide +kernel⟩
  · exact ⟨"same", by decide +kernel, rfl, by decide +kernel, by decide +kernel, by decide +kernel, by decide +kernel, by decide +kernel⟩
  · exact ⟨"times", by decide +kernel, rfl, by decide +kernel, by decide +kernel, by decide +kernel, by decide +kernel, by decide +kernel⟩
  · exact ⟨"sum", by decide +kernel, rfl, by decide +kernel, by decide +kernel, by decide +kernel, by decide +kernel, by decide +kernel⟩
  · exact ⟨"gap", by decide +kernel, rfl, by decide +kernel, by decide +kernel, by decide +kernel, by decide +kernel, by decide +kernel⟩
  · exact ⟨"below", by decide +kernel, rfl, by decide +kernel, by decide +kernel, by decide +kernel, by decide +kernel, by decide +kernel⟩
  · exact ⟨"most", by decide +kernel, rfl, by decide +kernel, by decide +kernel, by decide +kernel, by decide +kernel, by decide +kernel⟩
  · exact ⟨"least", by decide +kernel, rfl, by decide +kernel, by decide +kernel, by decide +kernel, by decide +kernel, by decide +kernel⟩
  · exact ⟨"pick", by decide +kernel, rfl, by decide +kernel, by decide +kernel, by decide +kernel, by decide +kernel, by decide +kernel⟩
def sp_law_rule (K : PySem.W.Frag) : Sp := fun vs H Q _ => ∃ (f c : Addr) (m : Int), vs = [.ref f, .int m] ∧ 0 ≤ m ∧ Flow H f c ∧
  ∀ (r : Addr) (h : HR) (H' : Hp), H' r = some (.tup (ruleL h)) → GoodRule h → needs h.wd ≤ m → 0 ≤ needs h.wd → h.mom = 0 → Flow H' f c → But f H H' → Q (.ref r) H'
theorem ok_law_rule {f : Addr} {fd : FuncData} (F : Fun K "_law_rule" "_law_rule" s_law_rule f fd) (T : Top K mg) : FnOk P w K mg base CX0 3 f fd ["_law_flow_here", "_law_most"] (sp_law_rule K) := by
  obtain ⟨f_law_pick, fd_law_pick, F_law_pick, b_law_pick, m_law_pick⟩ := T.d_law_pick
  have G_law_pick := ok_law_pick (P := P) (w := w) (base := base) F_law_pick T
  obtain ⟨f_law_thing, fd_law_thing, F_law_thing, b_law_thing, m_law_thing⟩ := T.d_law_thing
  have G_law_thing := ok_law_thing (P := P) (w := w) (base := base) F_law_thing T
  refine F.ok sc_law_rule (fun vs H Q E h => ?_) (fun cdv A outer s H vs Q E hr h => ?_)
  · obtain ⟨f, c, m, rfl, _⟩ := h
    rfl
  obtain ⟨f, c, m, rfl, m0, hF, q⟩ := h
  refine ⟨_, (pss_cons (ps_set (i := 2) sc_law_rule.nd rfl (Or.inl rfl) (pe_lst (pa_cons pe_str (pa_cons pe_str (pa_cons pe_str (pa_cons pe_str (pa_cons pe_str (pa_cons pe_str (pa_cons pe_str (pa_cons pe_str (pa_cons pe_str pa_nil)))))))))))
      (pss_cons (ps_set (i := 3) sc_law_rule.nd rfl (Or.inl rfl) (pe_ix (ix_listK K rfl) (pv 2) (pe_call G_law_pick (hr.mono (by decide)) (by rfl) m_law_pick F_law_pick.kp b_law_pick .nil pass0 (pa_cons (pv 0) (pa_cons (pe_ix (ix_listK K rfl) (pe_lst (pa_cons pe_int (pa_cons pe_int (pa_cons pe_int (pa_cons pe_int pa_nil))))) (pe_callB (call_min2 rfl) (by rfl) T.m_min (by decide +kernel) (pa_cons pe_int (pa_cons (pv 1) pa_nil))) (fun _ _ => rfl)) pa_nil))) (fun _ _ => rfl)))
      (pss_cons (ps_if (pt_cmpR op_eq (pv 3) pe_str (nomark _)) (pss_one (ps_ret (pe_tup (pa_cons (pv 3) (pa_cons (pe_op op_sub (pe_call G_law_pick (hr.mono (by decide)) (by rfl) m_law_pick F_law_pick.kp b_law_pick .nil pass0 (pa_cons (pv 0) (pa_cons pe_int pa_nil))) pe_int) pa_nil))))) pss_nil)
      (pss_cons (ps_if (pt_cmpR op_eq (pv 3) pe_str (nomark _)) (pss_one (ps_ret (pe_tup (pa_cons (pv 3) (pa_cons (pe_call G_law_thing (hr.mono (by decide)) (by rfl) m_law_thing F_law_thing.kp b_law_thing .nil pass0 (pa_cons (pv 0) pa_nil)) pa_nil))))) pss_nil)
      (pss_one (ps_ret (pe_tup (pa_cons (pv 3) pa_nil)))))))), ?_⟩
  refine ⟨(by show 9 ≤ sizeLine; decide), fun wl nwl => ?_⟩
  have F1 : Flow (upd H wl (.lst (nine.map V.str))) f c := hF.new nwl
  refine ⟨_, rfl, _, rfl, (by show 4 ≤ sizeLine; decide), fun cl ncl => ?_⟩
  have F2 : Flow (upd (upd H wl (.lst (nine.map V.str))) cl (.lst [V.int 1, V.int 3, V.int 8, V.int 9])) f c := F1.new ncl
  have B2 : But f H (upd (upd H wl (.lst (nine.map V.str))) cl (.lst [V.int 1, V.int 3, V.int 8, V.int 9])) := (But.refl.new nwl).new ncl
  obtain ⟨j, hj, j1, j9, jn⟩ : ∃ j : Int, atI [V.int 1, V.int 3, V.int 8, V.int 9] (if m < 3 then m else 3) = some (.int j) ∧ 1 ≤ j ∧ j ≤ 9 ∧ ((j = 1 ∧ m = 0) ∨ (j = 3 ∧ m = 1) ∨ (j = 8 ∧ m = 2) ∨ (j = 9 ∧ 3 ≤ m)) := by
    by_cases k : m < 3
    · rw [if_pos k]
      have : m = 0 ∨ m = 1 ∨ m = 2 := by omega
      rcases this with rfl | rfl | rfl
      · exact ⟨1, rfl, by decide, by decide, by decide⟩
      · exact ⟨3, rfl, by decide, by decide, by decide⟩
      · exact ⟨8, rfl, by decide, by decide, by decide⟩
    · rw [if_neg k]
      exact ⟨9, rfl, by decide, by decide, by omega⟩
  refine ⟨_, rfl, _, _, rfl, cl, _, _, _, rfl, rfl, SqL.of upd_same, hj, f, c, j, rfl, by omega, ?_, F2, fun v H1 v0 v1 F3 B3 => ?_⟩
  · have : j = 1 ∨ j = 3 ∨ j = 8 ∨ j = 9 := by omega
    rcases this with rfl | rfl | rfl | rfl <;> decide +kernel
  obtain ⟨wd, hw, hat, n1, n3, n8, n9, n0⟩ := nine_at v0 (by omega)
  have hn : needs wd ≤ m := by
    rcases jn with ⟨rfl, rfl⟩ | ⟨rfl, rfl⟩ | ⟨rfl, rfl⟩ | ⟨rfl, k⟩
    · exact n1 v1
    · exact n3 v1
    · exact n8 v1
    · omega
  have hwl : H1 wl = some (.lst (nine.map V.str)) := B3 _ _ (same_new ncl _ _ upd_same) (hF.ne nwl)
  refine ⟨wl, _, _, _, rfl, rfl, SqL.of hwl, hat, ?_⟩
  have BB := B2.trans B3
  refine ⟨_, rfl, rfl, _, rfl, if_str (fun e => ?_) (fun e => ?_)⟩
  · refine ⟨_, rfl, _, rfl, f, c, 19, rfl, by decide, by decide +kernel, F3, fun v2 H2 a2 b2 F4 B4 => ⟨_, _, rfl, rfl, (by show 2 ≤ sizeLine; decide), fun r nr => ?_⟩⟩
    exact q r ⟨wd, some (v2 - 9), 0⟩ _ upd_same ⟨hw, ⟨fun _ => .inl e, fun _ => rfl⟩, fun n en => by cases en; exact ⟨by omega, by omega⟩⟩ hn n0 rfl (F4.new nr) ((BB.trans B4).new nr)
  refine ⟨_, rfl, rfl, _, rfl, if_str (fun e2 => ?_) (fun e2 => ?_)⟩
  · refine ⟨_, rfl, _, rfl, f, c, rfl, F3, fun v2 H2 s2 F4 B4 => ⟨(by show 2 ≤ sizeLine; decide), fun r nr => ?_⟩⟩
    exact q r ⟨wd, some v2, 0⟩ _ upd_same ⟨hw, ⟨fun _ => .inr e2, fun _ => rfl⟩, fun n en => by cases en; exact s2⟩ hn n0 rfl (F4.new nr) ((BB.trans B4).new nr)
  · refine ⟨_, rfl, (by show 1 ≤ sizeLine; decide), fun r nr => ?_⟩
    exact q r ⟨wd, none, 0⟩ _ upd_same ⟨hw, ⟨(fun z => nomatch z), fun z => absurd z (fun z => z.elim e e2)⟩, (fun n en => nomatch en)⟩ hn n0 rfl (F3.new nr) (BB.new nr)
def sp_law_shuffled (K : PySem.W.Frag) : Sp := fun vs H Q _ => ∃ (f c l : Addr) (xs : List V), vs = [.ref f, .ref l] ∧ SqL K H l xs ∧ l ≠ f ∧ xs.length ≤ 500 ∧ Flow H f c ∧
  ∀ (p : Addr) (ys : List V) (H' : Hp), ys.Perm xs → H p = none → H' p = some (.lst ys) → Flow H' f c → But f H H' → Q (.ref p) H'
theorem But.seqL {K : PySem.W.Frag} {f a : Addr} {H H1 : Hp} {xs : List V} (b : But f H H1) (h : SqL K H a xs) (n : a ≠ f) : SqL K H1 a xs := by
  rcases h with h | h
  · left
    rcases h with h | ⟨o, h⟩
    · exact .inl (b _ _ h n)
    · exact .inr ⟨o, b _ _ h n⟩
  · exact .inr h
theorem same_seqL {K : PySem.W.Frag} {a : Addr} {H H1 : Hp} {xs : List V} (b : Same H H1) (h : SqL K H a xs) : SqL K H1 a xs := by
  rcases h with h | h
  · left
    rcases h with h | ⟨o, h⟩
    · exact .inl (b _ _ h)
    · exact .inr ⟨o, b _ _ h⟩
  · exact .inr h
theorem log_small {m : Nat} (h : m ≤ 500) : ((m : Int)).natAbs.log2 < 9000 := by
  rw [Int.natAbs_natCast]
  exact Nat.lt_of_le_of_lt (Nat.log2_le_self m) (by omega)
theorem perm_erase {α : Type} : ∀ {l : List α} {j : Nat} {y : α}, l[j]? = some y → (y :: l.eraseIdx j).Perm l
  | [], _, _, h => nomatch h
  | a :: l, 0, y, h => by
    cases h
    exact List.Perm.refl _
  | a :: l, j + 1, y, h => by
    have ih : (y :: l.eraseIdx j).Perm l := perm_erase h
    exact (List.Perm.swap a y _).trans (ih.cons a)
theorem ok_law_shuffled {f : Addr} {fd : FuncData} (F : Fun K "_law_shuffled" "_law_shuffled" s_law_shuffled f fd) (T : Top K mg) : FnOk P w K mg base CX0 2 f fd ["_law_flow_here", "_law_some"] (sp_law_shuffled K) := by
  obtain ⟨f_law_pick, fd_law_pick, F_law_pick, b_law_pick, m_law_pick⟩ := T.d_law_pick
  have G_law_pick := ok_law_pick (P := P) (w := w) (base := base) F_law_pick T
  refine F.ok sc_law_shuffled (fun vs H Q E h => ?_) (fun cdv A outer s H vs Q E hr h => ?_)
  · obtain ⟨f, c, l, xs, rfl, _⟩ := h
    rfl
  obtain ⟨f, c, l, xs, rfl, hL, nl, hlen, hF, q⟩ := h
  refine ⟨_, (pss_cons (ps_set (i := 2) sc_law_shuffled.nd rfl (Or.inr rfl) (pe_callTy (call_list_ofK K rfl) (by rfl) T.m_list (by decide +kernel) (pa_cons (pv 1) pa_nil)))
      (pss_one (ps_ret (pe_lc (own := [("_law_k", 3)]) (g := gName 3) (tt := tYes) (by rfl) sc_law_shuffled.nd (pi_range1 (by rfl) T.m_range (pa_cons (pe_callB (call_len_seqK K rfl) (by rfl) T.m_len (by decide +kernel) (pa_cons (pv 1) pa_nil)) pa_nil)) (blkOk_by (own := [("_law_k", 3)]) (N := N_law_shuffled) (sc := defScope s_law_shuffled) (by decide +kernel)) (fun _ _ _ _ _ => (pg_name (i := 3) sc_law_shuffled.nd rfl (Or.inl rfl))) (fun _ _ _ _ _ => pts_nil) (fun _ _ _ _ _ => (pe_bmK K rfl PySem.F.plainAttrs_list PySem.F.slot_list_pop PySem.F.type_list_pop mt_popAt (pv 2) (pa_cons (pe_call G_law_pick (hr.mono (by decide)) (by rfl) m_law_pick F_law_pick.kp b_law_pick .nil pass0 (pa_cons (pv 0) (pa_cons (pe_callB (call_len_seqK K rfl) (by rfl) T.m_len (by decide +kernel) (pa_cons (pv 2) pa_nil)) pa_nil))) pa_nil))))))), ?_⟩
  refine ⟨_, rfl, l, _, rfl, .inl hL, fun lf nlf => ?_⟩
  refine ⟨_, rfl, l, _, rfl, .inl (same_seqL (same_new nlf) hL), _, rfl, by omega, (by omega), fun D nD => ?_⟩
  have F1 : Flow (upd H lf (.lst xs)) f c := hF.new nlf
  have dl : D ≠ lf := (ne_of_none upd_same nD).symm
  refine lc_range (lo := 0) (n := xs.length) (fun i H5 => ∃ acc rest : List V, H5 D = some (.lst acc) ∧ H5 lf = some (.lst rest) ∧ acc.length = i ∧ rest.length + i = xs.length ∧ (acc ++ rest).Perm xs ∧ Flow H5 f c ∧ But f H H5)
    ⟨[], xs, upd_same, by rw [upd_ne dl.symm]; exact upd_same, rfl, by omega, List.Perm.refl _, F1.new nD, (But.refl.new nlf).new nD⟩ ?_ ?_
  · rintro i H5 hi ⟨acc, rest, hD, hl, ha, hr2, hp, F5, B5⟩
    refine ⟨rfl, yes_in ?_⟩
    refine ⟨_, rfl, .inl ⟨rfl, _, SqL.of hl⟩, _, rfl, _, rfl, lf, _, rfl, .inl (SqL.of hl), f, c, ((rest.length : Nat) : Int), rfl, by omega, log_small (by omega), F5, fun v H6 v0 v1 F6 B6 => ?_⟩
    have hl6 := B6 _ _ hl (hF.ne nlf)
    have hv : v.toNat < rest.length := by omega
    have e1 : seqIndex? v rest.length = some v.toNat := by
      rw [seqIndex_of v0 (by omega)]
    refine ⟨lf, rest, v, v.toNat, rest[v.toNat], rfl, rfl, hl6, by omega, by omega, e1, List.getElem?_eq_getElem hv, ?_⟩
    have hD6 := B6 _ _ hD (fun e => by rw [e] at nD; rw [show upd H lf (.lst xs) f = H f from upd_ne (hF.ne nlf).symm] at nD; obtain ⟨_, _, _, _, _, e1, _⟩ := hF; rw [e1] at nD; cases nD)
    refine ⟨acc, by rw [upd_ne dl]; exact hD6, small1000 (by omega), acc ++ [rest[v.toNat]], rest.eraseIdx v.toNat, upd_same, by rw [upd_ne dl.symm]; exact upd_same, by rw [List.length_append, ha]; rfl, ?_, ?_, ?_, ?_⟩
    · rw [List.length_eraseIdx, if_pos hv]
      omega
    · refine List.Perm.trans ?_ hp
      rw [List.append_assoc]
      exact List.Perm.append_left acc (perm_erase (List.getElem?_eq_getElem hv))
    · have dc : D ≠ c := fun e => by
        rw [e] at nD
        obtain ⟨_, _, _, _, _, _, e1, _⟩ := F1
        rw [e1] at nD
        cases nD
      exact (F6.lst (hF.ne nlf) (hF.nec nlf)).lst (F1.ne nD) dc
    · exact ((B5.trans B6).own nlf).own (same_none (same_new nlf) nD)
  · rintro H5 ⟨acc, rest, hD, hl, ha, hr2, hp, F5, B5⟩
    have er : rest = [] := by
      cases rest with
      | nil => rfl
      | cons a l => simp at hr2
    subst er
    rw [List.append_nil] at hp
    exact q D acc H5 hp (same_none (same_new nlf) nD) hD F5 B5
end
/-! ### the hands of a drawn room -/
def unS : V → Str
  | .str s => s
  | _ => ""
theorem perm_strs {ys : List V} {zs : List Str} (h : ys.Perm (zs.map V.str)) : ∃ ss : List Str, ys = ss.map V.str ∧ ss.Perm zs := by
  refine ⟨ys.map unS, ?_, ?_⟩
  · rw [List.map_map]
    symm
    refine (List.map_congr_left (g := id) fun y hy => ?_).trans (List.map_id _)
    obtain ⟨z, _, e⟩ := List.mem_map.mp (h.mem_iff.mp hy)
    subst e
    rfl
  · have q := h.map unS
    rw [List.map_map] at q
    have e : zs.map (unS ∘ V.str) = zs := (List.map_congr_left (g := id) fun z _ => rfl).trans (List.map_id _)
    rw [e] at q
    exact q
theorem flat_rep {α : Type} (x : α) : ∀ n : Nat, (List.replicate n [x]).flatten = List.replicate n x
  | 0 => rfl
  | n + 1 => by
    rw [List.replicate_succ, List.flatten_cons, flat_rep x n]
    rfl
def cnt (ss : List Str) : Nat := (ss.filter fun s => !decide (s = ("in" : Str))).length
theorem cnt_le (ss : List Str) : cnt ss ≤ ss.length := List.length_filter_le ..
theorem cut_drop (xs : List V) (k : Nat) : cutV xs (some ((k : Nat) : Int)) none = xs.drop k := by
  unfold cutV
  rw [HT.sIx_nat, HT.sIx_none]
  by_cases h : k ≤ xs.length
  · rw [Nat.min_eq_left h]
    exact List.take_of_length_le (by rw [List.length_drop]; exact Nat.le_refl _)
  · rw [Nat.min_eq_right (by omega), Nat.sub_self, List.take_zero, List.drop_eq_nil_of_le (by omega)]
structure HInv (f c sl hh : Addr) (ss : List Str) (H0 H : Hp) (i : Nat) (vs : List V) (hs : List HR) (left : Int) : Prop where
  fl : Flow H f c
  bt : But f H0 H
  hsl : H sl = some (.lst (ss.map V.str))
  hhh : H hh = some (.lst vs)
  al : All2 (HandAt H) vs hs
  len : hs.length = i
  good : ∀ h ∈ hs, GoodHand h
  lf : (cnt (ss.drop i) : Int) ≤ left
  sum : (hs.map fun h => needs h.wd).sum + left = 20
  nz : ∀ h ∈ hs, 0 ≤ needs h.wd
  one : ("hand" : Str) ∈ ss.take i → ∃ h ∈ hs, h.wd ≠ "out"
  n1 : sl ≠ f
  n2 : sl ≠ hh
  n3 : hh ≠ f
  n4 : hh ≠ c
  n5 : H0 hh = none
section
variable {f c sl hh : Addr} {ss : List Str} {H0 H H' : Hp} {i : Nat} {vs : List V} {hs : List HR} {left : Int}
theorem HInv.but (s : HInv f c sl hh ss H0 H i vs hs left) (F : Flow H' f c) (b : But f H H') : HInv f c sl hh ss H0 H' i vs hs left :=
  { s with fl := F, bt := s.bt.trans b, hsl := b _ _ s.hsl s.n1, hhh := b _ _ s.hhh s.n3, al := s.al.imp fun _ _ k => k.keep (TK.but s.fl b) }
theorem HInv.new {p : Addr} {o : HO} (s : HInv f c sl hh ss H0 H i vs hs left) (n : H p = none) : HInv f c sl hh ss H0 (upd H p o) i vs hs left :=
  { s with fl := s.fl.new n, bt := s.bt.new n, hsl := same_new n _ _ s.hsl, hhh := same_new n _ _ s.hhh, al := s.al.imp fun _ _ k => k.keep (TK.new n) }
theorem HInv.same (s : HInv f c sl hh ss H0 H i vs hs left) (k : Same H H') : HInv f c sl hh ss H0 H' i vs hs left :=
  { s with fl := s.fl.same k, bt := s.bt.same k, hsl := k _ _ s.hsl, hhh := k _ _ s.hhh, al := s.al.imp fun _ _ z => z.keep (TK.same k) }
theorem HInv.step {x : V} {h : HR} {sd : Str} (s : HInv f c sl hh ss H0 H i vs hs left) (hx : HandAt H x h) (g : GoodHand h) (z : 0 ≤ needs h.wd) (k : needs h.wd + (cnt (ss.drop (i + 1)) : Int) ≤ left) (e : ss[i]? = some sd) (o : sd = "hand" → h.wd ≠ "out") :
    HInv f c sl hh ss H0 (upd H hh (.lst (vs ++ [x]))) (i + 1) (vs ++ [x]) (hs ++ [h]) (left - needs h.wd) := by
  refine { s with fl := s.fl.lst s.n3 s.n4, bt := s.bt.own s.n5, hsl := by rw [upd_ne s.n2]; exact s.hsl, hhh := upd_same, al := (s.al.snoc hx).imp fun _ _ z => z.keep (TK.lst s.hhh), len := by rw [List.length_append, s.len]; rfl, good := ?_, lf := by omega, sum := ?_, nz := ?_, one := ?_ }
  · intro y hy
    rcases List.mem_append.mp hy with hy | hy
    · exact s.good y hy
    · obtain rfl : y = h := by simpa using hy
      exact g
  · have := s.sum
    rw [List.map_append, List.sum_append]
    simp only [List.map_cons, List.map_nil, List.sum_cons, List.sum_nil]
    omega
  · intro y hy
    rcases List.mem_append.mp hy with hy | hy
    · exact s.nz y hy
    · obtain rfl : y = h := by simpa using hy
      exact z
  · intro hm
    rw [List.take_add_one, e] at hm
    rcases List.mem_append.mp hm with hm | hm
    · obtain ⟨y, h1, h2⟩ := s.one hm
      exact ⟨y, List.mem_append_left _ h1, h2⟩
    · have e2 : ("hand" : Str) = sd := by simpa using hm
      exact ⟨h, List.mem_append_right _ (by simp), o e2.symm⟩
end
theorem cnt_cons {ss : List Str} {i : Nat} {sd : Str} (e : ss[i]? = some sd) : cnt (ss.drop i) = (if sd = "in" then 0 else 1) + cnt (ss.drop (i + 1)) := by
  have hi := (List.getElem?_eq_some_iff.mp e).1
  have e2 : ss.drop i = sd :: ss.drop (i + 1) := by
    rw [List.drop_eq_getElem_cons hi, (List.getElem?_eq_some_iff.mp e).2]
  rw [e2]
  unfold cnt
  rw [List.filter_cons]
  by_cases k : sd = "in"
  · rw [if_pos k, decide_eq_true k]
    simp
  · rw [if_neg k, decide_eq_false k]
    simp only [Bool.not_false, if_true, List.length_cons]
    omega
section
variable {P : Program} {w : World} {K : PySem.W.Frag} {mg : Str → Option Value} {base : Heap}
structure HandsOk (hs : List HR) : Prop where
  len : hs.length ≤ 12
  good : ∀ h ∈ hs, GoodHand h
  sum : (hs.map fun h => needs h.wd).sum ≤ 20
  nz : ∀ h ∈ hs, 0 ≤ needs h.wd
  one : ∃ h ∈ hs, h.wd ≠ "out"
def sp_law_hands (K : PySem.W.Frag) : Sp := fun vs H Q _ => ∃ (f c : Addr) (m : Int), vs = [.ref f, .int m] ∧ 1 ≤ m ∧ m ≤ 8 ∧ Flow H f c ∧
  ∀ (p : Addr) (xs : List V) (hs : List HR) (H' : Hp), H p = none → H' p = some (.lst xs) → All2 (HandAt H') xs hs → HandsOk hs → Flow H' f c → But f H H' → Q (.ref p) H'
theorem ok_law_hands {f : Addr} {fd : FuncData} (F : Fun K "_law_hands" "_law_hands" s_law_hands f fd) (T : Top K mg) : FnOk P w K mg base CX0 4 f fd ["_law_flow_here", "_law_many"] (sp_law_hands K) := by
  obtain ⟨f_law_shuffled, fd_law_shuffled, F_law_shuffled, b_law_shuffled, m_law_shuffled⟩ := T.d_law_shuffled
  have G_law_shuffled := ok_law_shuffled (P := P) (w := w) (base := base) F_law_shuffled T
  obtain ⟨f_law_rule, fd_law_rule, F_law_rule, b_law_rule, m_law_rule⟩ := T.d_law_rule
  have G_law_rule := ok_law_rule (P := P) (w := w) (base := base) F_law_rule T
  obtain ⟨f_law_needs, fd_law_needs, F_law_needs, b_law_needs, m_law_needs⟩ := T.d_law_needs
  have G_law_needs := ok_law_needs (P := P) (w := w) (base := base) F_law_needs T
  obtain ⟨f_law_pick, fd_law_pick, F_law_pick, b_law_pick, m_law_pick⟩ := T.d_law_pick
  have G_law_pick := ok_law_pick (P := P) (w := w) (base := base) F_law_pick T
  refine F.ok sc_law_hands (fun vs H Q E h => ?_) (fun cdv A outer s H vs Q E hr h => ?_)
  · obtain ⟨f, c, m, rfl, _⟩ := h
    rfl
  obtain ⟨f, c, m, rfl, m1, m8, hF, q⟩ := h
  let R1 : TS := fun D' σ' H' => D'.rt = Q ∧ ∃ (sl : Addr) (ss : List Str), σ' = [some (.ref f), some (.int m), some (.ref sl), none, none, none, none, none, none, none] ∧ H' sl = some (.lst (ss.map V.str)) ∧ sl ≠ f ∧ ss.length ≤ 12 ∧ ("hand" : Str) ∈ ss ∧ (∀ s ∈ ss, s = "in" ∨ s = "out" ∨ s = "hand") ∧ Flow H' f c ∧ But f H H'
  refine ⟨_, (pss_cons (ps_set (i := 2) sc_law_hands.nd rfl (Or.inl rfl) (pe_op op_cat (pe_op op_cat (pe_op op_rep (pe_lst (pa_cons pe_str pa_nil)) (pe_call G_law_pick (hr.mono (by decide)) (by rfl) m_law_pick F_law_pick.kp b_law_pick .nil pass0 (pa_cons (pv 0) (pa_cons pe_int pa_nil)))) (pe_op op_rep (pe_lst (pa_cons pe_str pa_nil)) (pe_call G_law_pick (hr.mono (by decide)) (by rfl) m_law_pick F_law_pick.kp b_law_pick .nil pass0 (pa_cons (pv 0) (pa_cons pe_int pa_nil))))) (pe_op op_rep (pe_lst (pa_cons pe_str pa_nil)) (pv 1))))
      (pss_cons (ps_set (i := 2) sc_law_hands.nd rfl (Or.inl rfl) (pe_call G_law_shuffled (hr.mono (by decide)) (by rfl) m_law_shuffled F_law_shuffled.kp b_law_shuffled .nil pass0 (pa_cons (pv 0) (pa_cons (pv 2) pa_nil))))
      (PSs.to (pss_cons (ps_set (i := 3) sc_law_hands.nd rfl (Or.inl rfl) pe_int)
      (pss_cons (ps_set (i := 4) sc_law_hands.nd rfl (Or.inl rfl) (pe_lst pa_nil))
      (pss_cons (ps_for PassesOwn.never rfl (pi_enum (by rfl) T.m_enumerate (pa_cons (pv 2) pa_nil)) (pg_tupK K rfl rfl (pgs_cons (pg_name (i := 5) sc_law_hands.nd rfl (Or.inl rfl)) (pgs_cons (pg_name (i := 6) sc_law_hands.nd rfl (Or.inl rfl)) pgs_nil)))
        (pss_cons (ps_if (pt_cmpR op_eq (pv 6) pe_str (nomark _)) (pss_cons (ps_set (i := 7) sc_law_hands.nd rfl (Or.inl rfl) (pe_callB (call_len_seqK K rfl) (by rfl) T.m_len (by decide +kernel) (pa_cons (pe_lc (own := [("_law_other", 8)]) (g := gName 8) (by rfl) sc_law_hands.nd (pi_listK K rfl (pe_slice (sl_listK K rfl) (pv 2) (po_some (pe_op op_add (pv 5) pe_int)) po_none)) (blkOk_by (own := [("_law_other", 8)]) (N := N_law_hands) (sc := defScope s_law_hands) (by decide +kernel)) (fun _ _ _ _ _ => (pg_name (i := 8) sc_law_hands.nd rfl (Or.inl rfl))) (fun _ _ _ _ _ => pts_one (pt_cmpR op_ne (pv 8) pe_str (nomark _))) (fun _ _ _ _ _ => (pv 8))) pa_nil)))
      (pss_cons (ps_set (i := 9) sc_law_hands.nd rfl (Or.inl rfl) (pe_call G_law_rule (hr.mono (by decide)) (by rfl) m_law_rule F_law_rule.kp b_law_rule .nil pass0 (pa_cons (pv 0) (pa_cons (pe_op op_sub (pv 3) (pv 7)) pa_nil))))
      (pss_one (ps_expr (pe_bmK K rfl PySem.F.plainAttrs_list PySem.F.slot_list_append PySem.F.type_list_append mt_append (pv 4) (pa_cons (pe_tup (pa_cons (pv 9) (pa_cons (pe_call G_law_pick (hr.mono (by decide)) (by rfl) m_law_pick F_law_pick.kp b_law_pick .nil pass0 (pa_cons (pv 0) (pa_cons (pe_ix (ix_listK K rfl) (pe_lst (pa_cons pe_int (pa_cons pe_int (pa_cons pe_int pa_nil)))) (pe_call G_law_pick (hr.mono (by decide)) (by rfl) m_law_pick F_law_pick.kp b_law_pick .nil pass0 (pa_cons (pv 0) (pa_cons pe_int pa_nil))) (fun _ _ => rfl)) pa_nil))) pa_nil))) pa_nil)))))) (pss_one (ps_expr (pe_bmK K rfl PySem.F.plainAttrs_list PySem.F.slot_list_append PySem.F.type_list_append mt_append (pv 4) (pa_cons (pe_tup (pa_cons (pe_tup (pa_cons (pv 6) pa_nil)) (pa_cons pe_int pa_nil))) pa_nil)))))
      (pss_one (ps_set (i := 3) sc_law_hands.nd rfl (Or.inl rfl) (pe_op op_sub (pv 3) (pe_call G_law_needs (hr.mono (by decide)) (by rfl) m_law_needs F_law_needs.kp b_law_needs .nil pass0 (pa_cons (pe_ix (ix_tupK K rfl) (pe_ix (ix_listK K rfl) (pv 4) (pe_un un_neg pe_int) (fun _ _ => rfl)) pe_int (fun _ _ => rfl)) pa_nil)))))))
      (pss_one (ps_ret (pv 4)))))) R1 ?tail1))), ?_⟩
  case tail1 =>
    rintro D' σ' H1 ⟨eD, sl, ss, rfl, hsl, nsl, hlen, hhand, hall, F1, B1⟩
    refine ⟨(by show 0 ≤ sizeLine; decide), fun hh nhh => ?_⟩
    have I0 : HInv f c sl hh ss H (upd H1 hh (.lst [])) 0 [] [] 20 :=
      { fl := F1.new nhh, bt := B1.new nhh, hsl := same_new nhh _ _ hsl, hhh := upd_same, al := .nil, len := rfl, good := (fun _ h => nomatch h), lf := by have := cnt_le (ss.drop 0); rw [List.length_drop] at this; omega, sum := rfl, nz := (fun _ h => nomatch h), one := (fun h => nomatch h), n1 := nsl, n2 := ne_of_none hsl nhh, n3 := F1.ne nhh, n4 := F1.nec nhh, n5 := B1.none nhh (F1.ne nhh) }
    refine ⟨_, rfl, sl, _, rfl, SqL.of I0.hsl, for_it (n := ss.length) (fun i σ H2 => ∃ (vs : List V) (hs : List HR) (left : Int) (v5 v6 v7 v8 v9 : Option V), σ = [some (.ref f), some (.int m), some (.ref sl), some (.int left), some (.ref hh), v5, v6, v7, v8, v9] ∧ HInv f c sl hh ss H H2 i vs hs left)
      ⟨[], [], 20, none, none, none, none, none, rfl, I0⟩ ?_ ?_ ?_ ?_⟩
    · rintro i σ H2 hi ⟨vs, hs, left, v5, v6, v7, v8, v9, rfl, I⟩
      exact ⟨_, _, SqL.of I.hsl, by rw [List.getElem?_map, List.getElem?_eq_getElem hi]; rfl⟩
    · rintro σ H2 ⟨vs, hs, left, v5, v6, v7, v8, v9, rfl, I⟩
      exact ⟨_, SqL.of I.hsl, by rw [List.length_map]; exact Nat.le_refl _⟩
    · rintro i x σ H2 H3 hi ⟨vs, hs, left, v5, v6, v7, v8, v9, rfl, I⟩ ⟨t, y, rfl, nt, rfl, fy⟩
      have ei : ss[i]? = some ss[i] := List.getElem?_eq_getElem hi
      obtain ⟨sd, hsd⟩ : ∃ sd, sd = ss[i] := ⟨_, rfl⟩
      rw [← hsd] at ei
      have ey : y = V.str sd := by
        have := fy _ (SqL.of I.hsl)
        rw [List.getElem?_map, ei] at this
        exact (Option.some.inj this).symm
      subst ey
      have I1 := I.new (o := .tup [V.int ((i : Nat) : Int), V.str sd]) nt
      have hc1 := cnt_cons ei
      have hl := I.lf
      have sz : vs.length < sizeLine := small1000 (by rw [I.al.length, I.len]; omega)
      refine ⟨t, _, rfl, SqT.of upd_same, rfl, _, _, rfl, _, _, rfl, rfl, ?_⟩
      refine ⟨_, rfl, rfl, _, rfl, if_str (fun e => ?_) (fun e => ?_)⟩
      · -- a hand
        refine ⟨_, rfl, _, rfl, _, _, rfl, rfl, _, rfl, sl, _, rfl, SqL.of I1.hsl, fun cp ncp => ?_⟩
        have I2 := I1.new (o := .lst (cutV (ss.map V.str) (some (((i : Nat) : Int) + 1)) none)) ncp
        have ecut : cutV (ss.map V.str) (some (((i : Nat) : Int) + 1)) none = (ss.drop (i + 1)).map V.str := by
          rw [show ((i : Nat) : Int) + 1 = ((i + 1 : Nat) : Int) by omega, cut_drop, List.map_drop]
        refine ⟨cp, rfl, ⟨_, SqL.of upd_same⟩, fun D nD => lc_list (K := K) (a := cp) (xs := cutV (ss.map V.str) (some (((i : Nat) : Int) + 1)) none) (fun j H5 => ∃ acc : List V, H5 D = some (.lst acc) ∧ acc.length = cnt ((ss.drop (i + 1)).take j) ∧ H5 cp = some (.lst (cutV (ss.map V.str) (some (((i : Nat) : Int) + 1)) none)) ∧ HInv f c sl hh ss H H5 i vs hs left ∧ D ≠ cp ∧ D ≠ f ∧ D ≠ c ∧ D ≠ sl ∧ D ≠ hh ∧ H D = Option.none)
          ⟨[], upd_same, rfl, same_new nD _ _ upd_same, I2.new nD, (ne_of_none upd_same nD).symm, I2.fl.ne nD, I2.fl.nec nD, (ne_of_none I2.hsl nD).symm, (ne_of_none I2.hhh nD).symm, I2.bt.none nD (I2.fl.ne nD)⟩ (fun j H5 _ ⟨_, _, _, h, _⟩ => SqL.of h) ?_ ?_⟩
        · rintro j z H5 hz ⟨acc, hD, hacc, hcp, I5, d1, d2, d3, d4, d5, d6⟩
          rw [ecut, List.getElem?_map] at hz
          cases ez : (ss.drop (i + 1))[j]? with
          | none => rw [ez] at hz; cases hz
          | some so =>
            rw [ez] at hz
            obtain rfl : V.str so = z := Option.some.inj hz
            refine ⟨rfl, _, rfl, rfl, _, rfl, if_bl (fun k => ?_) (fun k => ?_)⟩
            · have k2 : ¬ so = "in" := fun y => by
                rw [y] at k
                exact absurd k (by decide +kernel)
              refine ⟨_, rfl, acc, hD, ?_, acc ++ [V.str so], upd_same, ?_, by rw [upd_ne d1.symm]; exact hcp, ?_, d1, d2, d3, d4, d5, d6⟩
              · rw [hacc]
                have := cnt_le ((ss.drop (i + 1)).take j)
                rw [List.length_take, List.length_drop] at this
                exact small1000 (by omega)
              · rw [List.length_append, hacc, List.take_add_one, ez]
                unfold cnt
                rw [List.filter_append, List.length_append]
                simp [k2]
              · exact { I5 with fl := I5.fl.lst d2 d3, bt := I5.bt.own d6, hsl := by rw [upd_ne d4.symm]; exact I5.hsl, hhh := by rw [upd_ne d5.symm]; exact I5.hhh, al := I5.al.imp fun _ _ y => y.keep (TK.lst hD) }
            · have k2 : so = "in" := by
                by_cases y : so = "in"
                · exact y
                · have k3 : (!decide (V.str so = V.str "in")) = false := k
                  rw [decide_eq_false (fun y2 => y (V.str.inj y2))] at k3
                  cases k3
              refine ⟨acc, hD, ?_, hcp, I5, d1, d2, d3, d4, d5, d6⟩
              rw [hacc, List.take_add_one, ez]
              unfold cnt
              rw [List.filter_append, List.length_append]
              simp [k2]
        · rintro H5 ⟨acc, hD, hacc, hcp, I5, d1, d2, d3, d4, d5, d6⟩
          have hacc2 : acc.length = cnt (ss.drop (i + 1)) := by
            rw [hacc, List.take_of_length_le]
            rw [ecut, List.length_map]
            exact Nat.le_refl _
          have hm0 : 0 ≤ left - ((acc.length : Nat) : Int) := by
            have hne : ¬ sd = "in" := by rw [e]; decide +kernel
            rw [hacc2]
            rw [hc1, if_neg hne] at hl
            omega
          refine ⟨D, _, rfl, .inl (SqL.of hD), ?_⟩
          refine ⟨_, rfl, _, rfl, _, rfl, _, _, rfl, rfl, f, c, _, rfl, hm0, I5.fl, fun r hR H6 hr6 gR n1 n0 mo F6 B6 => ?_⟩
          have I6 := I5.but F6 B6
          refine ⟨_, rfl, .inl ⟨rfl, _, SqL.of I6.hhh⟩, _, rfl, _, rfl, (by show 3 ≤ sizeLine; decide), fun ml nml => ?_⟩
          have I7 := I6.new (o := .lst [V.int 5, V.int 5, V.int 31]) nml
          refine ⟨_, rfl, f, c, 3, rfl, by decide, by decide +kernel, I7.fl, fun z H8 z0 z3 F8 B8 => ?_⟩
          have I8 := I7.but F8 B8
          have hml := B8 _ _ upd_same (I6.fl.ne nml)
          obtain ⟨mm, hmm, mk⟩ : ∃ mm : Int, atI [V.int 5, V.int 5, V.int 31] z = some (.int mm) ∧ (mm = 5 ∨ mm = 31) := by
            have : z = 0 ∨ z = 1 ∨ z = 2 := by omega
            rcases this with rfl | rfl | rfl
            · exact ⟨5, rfl, .inl rfl⟩
            · exact ⟨5, rfl, .inl rfl⟩
            · exact ⟨31, rfl, .inr rfl⟩
          refine ⟨ml, _, _, _, rfl, rfl, SqL.of hml, hmm, f, c, mm, rfl, by omega, (by rcases mk with rfl | rfl <;> decide +kernel), I8.fl, fun mo2 H9 o0 o1 F9 B9 => ?_⟩
          have I9 := I8.but F9 B9
          refine ⟨(by show 2 ≤ sizeLine; decide), fun t2 nt2 => ?_⟩
          have I10 := I9.new (o := .tup [V.ref r, V.int mo2]) nt2
          have sz10 : vs.length < sizeLine := sz
          refine ⟨hh, _, _, rfl, rfl, I10.hhh, sz10, ?_⟩
          have k9 : TK H6 H9 := ((TK.new nml).trans (TK.but I7.fl B8)).trans (TK.but I8.fl B9)
          have hx : HandAt (upd H9 t2 (.tup [V.ref r, V.int mo2])) (V.ref t2) ⟨hR.wd, hR.no, mo2⟩ := ⟨t2, r, rfl, upd_same, TK.new nt2 _ _ (k9 _ _ hr6)⟩
          have gd : GoodHand ⟨hR.wd, hR.no, mo2⟩ := ⟨.inl ⟨gR.wd, gR.no, gR.big⟩, o0, (show mo2 ≤ 30 by omega)⟩
          have nout : hR.wd ≠ "out" := fun y => by
            have := gR.wd
            rw [y] at this
            exact absurd this (by decide +kernel)
          have I11 := I10.step (h := ⟨hR.wd, hR.no, mo2⟩) hx gd n0 (by show needs hR.wd + _ ≤ left; rw [hacc2] at n1; omega) ei (fun _ => nout)
          refine ⟨_, rfl, _, rfl, 1, rfl, hh, _, -1, _, rfl, rfl, SqL.of I11.hhh, atI_last _ _, t2, _, _, _, rfl, rfl, SqT.of (TK.lst I10.hhh _ _ upd_same), atI_nat (j := 0) rfl, r, hR.wd, _, rfl, SqT.of (TK.lst I10.hhh _ _ (TK.new nt2 _ _ (k9 _ _ hr6))), fun H12 s12 => ⟨_, _, rfl, rfl, ?_⟩⟩
          exact ⟨_, _, _, _, _, _, _, _, rfl, I11.same s12⟩
      · -- a door
        refine ⟨_, rfl, .inl ⟨rfl, _, SqL.of I1.hhh⟩, _, rfl, (by show 1 ≤ sizeLine; decide), fun r nr => ⟨(by show 2 ≤ sizeLine; decide), fun t2 nt2 => ?_⟩⟩
        have I2 := (I1.new (o := .tup [V.str sd]) nr).new (o := .tup [V.ref r, V.int 0]) nt2
        refine ⟨hh, _, _, rfl, rfl, I2.hhh, sz, ?_⟩
        have hsd2 : sd = "in" ∨ sd = "out" := by
          rcases hall sd (List.mem_of_getElem? ei) with y | y | y
          · exact .inl y
          · exact .inr y
          · exact absurd y e
        have hn : needs sd = (if sd = "in" then 0 else 1) := by
          rcases hsd2 with y | y <;> rw [y] <;> decide +kernel
        have hx : HandAt (upd (upd (upd H2 t (.tup [V.int ((i : Nat) : Int), V.str sd])) r (.tup [V.str sd])) t2 (.tup [V.ref r, V.int 0])) (V.ref t2) ⟨sd, none, 0⟩ := ⟨t2, r, rfl, upd_same, same_new nt2 _ _ upd_same⟩
        have I3 := I2.step (h := ⟨sd, none, 0⟩) hx ⟨.inr ⟨hsd2, rfl⟩, (show (0 : Int) ≤ 0 by decide), (show (0 : Int) ≤ 30 by decide)⟩ (by show 0 ≤ needs sd; rw [hn]; split <;> decide) (by
          show needs sd + _ ≤ left
          rw [hn]
          rw [hc1] at hl
          by_cases y : sd = "in"
          · rw [if_pos y] at hl ⊢; omega
          · rw [if_neg y] at hl ⊢; omega) ei (fun y => absurd y e)
        refine ⟨_, rfl, _, rfl, 1, rfl, hh, _, -1, _, rfl, rfl, SqL.of I3.hhh, atI_last _ _, t2, _, _, _, rfl, rfl, SqT.of (TK.lst I2.hhh _ _ upd_same), atI_nat (j := 0) rfl, r, sd, _, rfl, SqT.of (TK.lst I2.hhh _ _ (same_new nt2 _ _ upd_same)), fun H12 s12 => ⟨_, _, rfl, rfl, ?_⟩⟩
        exact ⟨_, _, _, _, _, _, _, _, rfl, I3.same s12⟩
    · rintro σ H2 ⟨vs, hs, left, v5, v6, v7, v8, v9, rfl, I⟩
      refine ⟨_, rfl, ?_⟩
      rw [eD]
      refine q hh vs hs H2 I.n5 I.hhh I.al ⟨by rw [I.len]; exact hlen, I.good, ?_, I.nz, I.one (by rw [List.take_length]; exact hhand)⟩ I.fl I.bt
      have := I.sum
      have := I.lf
      omega
  refine ⟨(by show 1 ≤ sizeLine; decide), fun l1 nl1 => ?_⟩
  refine ⟨_, rfl, f, c, 3, rfl, by decide, by decide +kernel, hF.new nl1, fun v1 H1 a1 b1 F1 B1 => ?_⟩
  have g1 := B1 _ _ upd_same (hF.ne nl1)
  have small : ∀ v : Int, 0 ≤ v → v ≤ 8 → [V.str "in"].length * v.toNat ≤ sizeLine := fun v v0 v8 => little (by show 1 * v.toNat ≤ 1000; omega)
  refine ⟨l1, v1, _, rfl, rfl, g1, by omega, by omega, small v1 a1 (by omega), fun p1 np1 => ?_⟩
  rw [flat_rep]
  have F2 := F1.new (o := .lst (List.replicate v1.toNat (V.str "in"))) np1
  refine ⟨(by show 1 ≤ sizeLine; decide), fun l2 nl2 => ?_⟩
  refine ⟨_, rfl, f, c, 3, rfl, by decide, by decide +kernel, F2.new nl2, fun v2 H3 a2 b2 F3 B3 => ?_⟩
  have g2 := B3 _ _ upd_same (F2.ne nl2)
  have h1 := B3 _ _ (same_new nl2 _ _ upd_same) (F1.ne np1)
  refine ⟨l2, v2, _, rfl, rfl, g2, by omega, by omega, small v2 a2 (by omega), fun p2 np2 => ?_⟩
  rw [flat_rep]
  have F4 := F3.new (o := .lst (List.replicate v2.toNat (V.str "out"))) np2
  refine ⟨p1, p2, _, _, rfl, rfl, same_new np2 _ _ h1, upd_same, ?_, fun p3 np3 => ?_⟩
  · rw [List.length_replicate, List.length_replicate]; exact little (by omega)
  have F5 := F4.new (o := .lst (List.replicate v1.toNat (V.str "in") ++ List.replicate v2.toNat (V.str "out"))) np3
  refine ⟨(by show 1 ≤ sizeLine; decide), fun l4 nl4 => ⟨_, rfl, l4, m, _, rfl, rfl, upd_same, by omega, by omega, small m (by omega) m8, fun p5 np5 => ?_⟩⟩
  rw [flat_rep]
  have F6 := F5.new (o := .lst [V.str "hand"]) nl4
  have F7 := F6.new (o := .lst (List.replicate m.toNat (V.str "hand"))) np5
  refine ⟨p3, p5, _, _, rfl, rfl, same_new np5 _ _ (same_new nl4 _ _ upd_same), upd_same, ?_, fun p6 np6 => ?_⟩
  · rw [List.length_append, List.length_replicate, List.length_replicate, List.length_replicate]; exact little (by omega)
  refine ⟨_, rfl, _, rfl, f, c, p6, _, rfl, SqL.of upd_same, F7.ne np6, ?_, F7.new np6, fun p ys H8 hp np hy F8 B8 => ?_⟩
  · rw [List.length_append, List.length_append, List.length_replicate, List.length_replicate, List.length_replicate]; omega
  have ez : (List.replicate v1.toNat (V.str "in") ++ List.replicate v2.toNat (V.str "out")) ++ List.replicate m.toNat (V.str "hand") = ((List.replicate v1.toNat ("in" : Str) ++ List.replicate v2.toNat ("out" : Str)) ++ List.replicate m.toNat ("hand" : Str)).map V.str := by
    rw [List.map_append, List.map_append, List.map_replicate, List.map_replicate, List.map_replicate]
  rw [ez] at hp
  obtain ⟨ss, rfl, hss⟩ := perm_strs hp
  have pf : p ≠ f := fun y => by
    rw [y] at np
    obtain ⟨_, _, _, _, _, e1, _⟩ := F7.new (o := .lst ((List.replicate v1.toNat (V.str "in") ++ List.replicate v2.toNat (V.str "out")) ++ List.replicate m.toNat (V.str "hand"))) np6
    rw [e1] at np
    cases np
  refine ⟨rfl, p, ss, rfl, hy, pf, ?_, ?_, ?_, F8, But.trans ((((((((((But.refl.new nl1).trans B1).new np1).new nl2).trans B3).new np2).new np3).new nl4).new np5).new np6) B8⟩
  · rw [hss.length_eq, List.length_append, List.length_append, List.length_replicate, List.length_replicate, List.length_replicate]; omega
  · refine hss.mem_iff.mpr (List.mem_append_right _ (List.mem_replicate.mpr ⟨by omega, rfl⟩))
  · intro s hs
    rcases List.mem_append.mp (hss.mem_iff.mp hs) with hs | hs
    · rcases List.mem_append.mp hs with hs | hs
      · exact .inl (List.mem_replicate.mp hs).2
      · exact .inr (.inl (List.mem_replicate.mp hs).2)
    · exact .inr (.inr (List.mem_replicate.mp hs).2)
end
/-! ### rules as data -/
abbrev ruleD (h : HR) : List PyData := .str h.wd :: (match h.no with | none => [] | some n => [.int n])
theorem rule_dp {K : PySem.W.Frag} {H : Hp} {r : Addr} {h : HR} (e : H r = some (.tup (ruleL h))) : Dp K H (.ref r) (.tuple (ruleD h)) := by
  obtain ⟨wd, no, mom⟩ := h
  cases no with
  | none => exact .tup (SqT.of e) (.cons (.str _) .nil)
  | some n => exact .tup (SqT.of e) (.cons (.str _) (.cons (.int _) .nil))
theorem rule_shaped {h : HR} (k : PyData.canLay0 (.str h.wd) = true) : SeqAt.shaped (.tuple (ruleD h)) = true := by
  obtain ⟨wd, no, mom⟩ := h
  have k : PyData.canLay0 (.str wd) = true := k
  cases no <;> simp [SeqAt.shaped, PyData.canLay0, PyData.canLayAll0, PyData.depth, PyData.depthAll] <;> simpa [PyData.canLay0] using k
theorem GoodHand.lay {h : HR} (g : GoodHand h) : PyData.canLay0 (.str h.wd) = true := by
  have : h.wd ∈ nine ∨ h.wd = "in" ∨ h.wd = "out" := g.1.elim (fun k => .inl k.wd) (fun k => .inr k.1)
  rcases this with k | k | k
  · unfold nine at k
    simp only [List.mem_cons, List.not_mem_nil, or_false] at k
    rcases k with k | k | k | k | k | k | k | k | k <;> rw [k] <;> decide +kernel
  · rw [k]; decide +kernel
  · rw [k]; decide +kernel
theorem one_shaped {z : Str} (k : PyData.canLay0 (.str z) = true) : SeqAt.shaped (.tuple [.str z]) = true := rule_shaped (h := ⟨z, none, 0⟩) k
theorem at0 {xs : List V} {i : Nat} {v : V} (h : xs[i]? = some v) : atI xs (0 + ((i : Nat) : Int)) = some v := by
  rw [Int.zero_add]
  exact atI_nat h
theorem rule_eqv (h : HR) (z : Str) : PyData.eqv (.tuple (ruleD h)) (.tuple [.str z]) = (decide (h.wd = z) && h.no.isNone) := by
  obtain ⟨wd, no, mom⟩ := h
  have e : (wd == z) = decide (wd = z) := by
    by_cases k : wd = z
    · rw [k, decide_eq_true rfl]; exact beq_self_eq_true z
    · rw [decide_eq_false k]; exact beq_eq_false_iff_ne.mpr k
  cases no with
  | none =>
    show (wd == z && true) = (decide (wd = z) && true)
    rw [e]
  | some n =>
    show (wd == z && false) = (decide (wd = z) && false)
    rw [Bool.and_false, Bool.and_false]
theorem GoodHand.door {h : HR} (g : GoodHand h) (z : Str) (hz : z = "in" ∨ z = "out") : (decide (h.wd = z) && h.no.isNone) = decide (h.wd = z) := by
  by_cases k : h.wd = z
  · rw [decide_eq_true k, Bool.true_and]
    rcases g.1 with g | g
    · have := g.wd
      rw [k] at this
      rcases hz with rfl | rfl <;> exact absurd this (by decide +kernel)
    · rw [g.2]; rfl
  · rw [decide_eq_false k]; rfl
/-! ### numbers in lists -/
abbrev nV (n : Nat) : V := .int (n : Nat)
def unN : V → Nat
  | .int i => i.toNat
  | _ => 0
def unI : V → Int
  | .int i => i
  | _ => 0
theorem perm_inv {α : Type} {f : α → V} {g : V → α} (k : ∀ a, g (f a) = a) {ys : List V} {zs : List α} (h : ys.Perm (zs.map f)) : ∃ ss : List α, ys = ss.map f ∧ ss.Perm zs := by
  refine ⟨ys.map g, ?_, ?_⟩
  · rw [List.map_map]
    symm
    refine (List.map_congr_left (g := id) fun y hy => ?_).trans (List.map_id _)
    obtain ⟨z, _, e⟩ := List.mem_map.mp (h.mem_iff.mp hy)
    subst e
    show f (g (f z)) = f z
    rw [k]
  · have q := h.map g
    rw [List.map_map] at q
    have e : zs.map (g ∘ f) = zs := (List.map_congr_left (g := id) fun z _ => k z).trans (List.map_id _)
    rw [e] at q
    exact q
def nd (hs : List HR) (j : Nat) : Nat := match hs[j]? with | some h => (needs h.wd).toNat | none => 0
def tkTo (hs : List HR) : Nat → List Nat
  | 0 => []
  | n + 1 => tkTo hs n ++ List.replicate (nd hs n) n
theorem tk_count (hs : List HR) (k : Nat) : ∀ n, (tkTo hs n).count k = if k < n then nd hs k else 0
  | 0 => by simp [tkTo]
  | n + 1 => by
    unfold tkTo
    rw [List.count_append, tk_count hs k n, List.count_replicate]
    by_cases h1 : k < n
    · have h2 : ¬ (n == k) = true := by simp; omega
      rw [if_pos h1, if_neg h2, if_pos (show k < n + 1 by omega), Nat.add_zero]
    · by_cases h2 : n = k
      · subst h2
        rw [if_neg h1, if_pos (beq_self_eq_true n), if_pos (show n < n + 1 by omega), Nat.zero_add]
      · have h3 : ¬ (n == k) = true := by simpa using h2
        rw [if_neg h1, if_neg h3, if_neg (show ¬ k < n + 1 by omega)]
theorem tk_mem (hs : List HR) : ∀ n k, k ∈ tkTo hs n → k < n
  | 0, k, h => nomatch h
  | n + 1, k, h => by
    rcases List.mem_append.mp h with h | h
    · exact Nat.lt_succ_of_lt (tk_mem hs n k h)
    · rw [(List.mem_replicate.mp h).2]; exact Nat.lt_succ_self n
theorem tk_len (hs : List HR) (z : ∀ h ∈ hs, 0 ≤ needs h.wd) : ∀ n, n ≤ hs.length → ((tkTo hs n).length : Int) = ((hs.take n).map fun h => needs h.wd).sum
  | 0, _ => rfl
  | n + 1, hn => by
    have e : hs[n]? = some hs[n] := List.getElem?_eq_getElem (by omega)
    unfold tkTo
    rw [List.length_append, List.length_replicate, List.take_add_one, e, List.map_append, List.sum_append, Int.natCast_add, tk_len hs z n (by omega)]
    unfold nd
    rw [e]
    have := z hs[n] (List.getElem_mem _)
    simp only [Option.toList, List.map_cons, List.map_nil, List.sum_cons, List.sum_nil]
    omega
structure RoomOk (hs : List HR) (bs : List BR) : Prop where
  hands : hs.length ≤ 12
  good : ∀ h ∈ hs, GoodHand h
  ends : ∀ b ∈ bs, b.one < hs.length ∧ b.to < hs.length
  out : ∀ b ∈ bs, ∀ h, hs[b.one]? = some h → h.wd ≠ "out"
  th : ∀ b ∈ bs, b.th.length ≤ 6 ∧ ∀ x ∈ b.th, Small x
  rank : ∃ rk : Nat → Int, ∀ b ∈ bs, b.th = [] → rk b.one < rk b.to
  count : ∀ k h, hs[k]? = some h → (((bs.map BR.to).count k : Nat) : Int) = needs h.wd
  many : bs.length ≤ 20
structure RoomAt (H : Hp) (r : Addr) (hs : List HR) (bs : List BR) : Prop where
  ex : ∃ (ha ba : Addr) (hv bv : List V), H r = some (.tup [.ref ha, .ref ba]) ∧ H ha = some (.tup hv) ∧ H ba = some (.tup bv) ∧ All2 (HandAt H) hv hs ∧ All2 (BeltAt H) bv bs
theorem RoomAt.keep {H H' : Hp} {r : Addr} {hs : List HR} {bs : List BR} (a : RoomAt H r hs bs) (k : TK H H') : RoomAt H' r hs bs := by
  obtain ⟨ha, ba, hv, bv, e1, e2, e3, a1, a2⟩ := a.ex
  exact ⟨ha, ba, hv, bv, k _ _ e1, k _ _ e2, k _ _ e3, a1.imp fun _ _ z => z.keep k, a2.imp fun _ _ z => z.keep k⟩
section
variable {P : Program} {w : World} {K : PySem.W.Frag} {mg : Str → Option Value} {base : Heap}
def sp_law_room (K : PySem.W.Frag) : Sp := fun vs H Q _ => ∃ (f c : Addr) (m : Int), vs = [.ref f, .int m] ∧ 1 ≤ m ∧ m ≤ 8 ∧ Flow H f c ∧
  ∀ (r : Addr) (hs : List HR) (bs : List BR) (H' : Hp), RoomAt H' r hs bs → RoomOk hs bs → 0 < hs.length → Flow H' f c → But f H H' → Q (.ref r) H'
/-- what stands while a room is drawn: the draws, the list of its hands -/
structure RI (f c hh : Addr) (H0 H : Hp) (xs : List V) (hs : List HR) : Prop where
  fl : Flow H f c
  bt : But f H0 H
  lh : H hh = some (.lst xs)
  al : All2 (HandAt H) xs hs
  n1 : hh ≠ f
  n2 : H0 hh = none
section
variable {f c hh : Addr} {H0 H H' : Hp} {xs : List V} {hs : List HR}
theorem RI.but (s : RI f c hh H0 H xs hs) (F : Flow H' f c) (b : But f H H') : RI f c hh H0 H' xs hs :=
  { s with fl := F, bt := s.bt.trans b, lh := b _ _ s.lh s.n1, al := s.al.imp fun _ _ k => k.keep (TK.but s.fl b) }
theorem RI.new {p : Addr} {o : HO} (s : RI f c hh H0 H xs hs) (n : H p = none) : RI f c hh H0 (upd H p o) xs hs :=
  { s with fl := s.fl.new n, bt := s.bt.new n, lh := same_new n _ _ s.lh, al := s.al.imp fun _ _ k => k.keep (TK.new n) }
theorem RI.same (s : RI f c hh H0 H xs hs) (k : Same H H') : RI f c hh H0 H' xs hs :=
  { s with fl := s.fl.same k, bt := s.bt.same k, lh := k _ _ s.lh, al := s.al.imp fun _ _ z => z.keep (TK.same k) }
theorem RI.lst {D : Addr} {as bs : List V} (s : RI f c hh H0 H xs hs) (h : H D = some (.lst as)) (d1 : D ≠ f) (d2 : D ≠ c) (d3 : D ≠ hh) (d4 : H0 D = none) : RI f c hh H0 (upd H D (.lst bs)) xs hs :=
  { s with fl := s.fl.lst d1 d2, bt := s.bt.own d4, lh := by rw [upd_ne d3.symm]; exact s.lh, al := s.al.imp fun _ _ z => z.keep (TK.lst h) }
end
theorem ok_law_room {f : Addr} {fd : FuncData} (F : Fun K "_law_room" "_law_room" s_law_room f fd) (T : Top K mg) : FnOk P w K mg base CX0 5 f fd ["_law_flow_here", "_law_most"] (sp_law_room K) := by
  obtain ⟨f_law_hands, fd_law_hands, F_law_hands, b_law_hands, m_law_hands⟩ := T.d_law_hands
  have G_law_hands := ok_law_hands (P := P) (w := w) (base := base) F_law_hands T
  obtain ⟨f_law_shuffled, fd_law_shuffled, F_law_shuffled, b_law_shuffled, m_law_shuffled⟩ := T.d_law_shuffled
  have G_law_shuffled := ok_law_shuffled (P := P) (w := w) (base := base) F_law_shuffled T
  obtain ⟨f_law_pick, fd_law_pick, F_law_pick, b_law_pick, m_law_pick⟩ := T.d_law_pick
  have G_law_pick := ok_law_pick (P := P) (w := w) (base := base) F_law_pick T
  obtain ⟨f_law_needs, fd_law_needs, F_law_needs, b_law_needs, m_law_needs⟩ := T.d_law_needs
  have G_law_needs := ok_law_needs (P := P) (w := w) (base := base) F_law_needs T
  obtain ⟨f_law_thing, fd_law_thing, F_law_thing, b_law_thing, m_law_thing⟩ := T.d_law_thing
  have G_law_thing := ok_law_thing (P := P) (w := w) (base := base) F_law_thing T
  refine F.ok sc_law_room (fun vs H Q E h => ?_) (fun cdv A outer s H vs Q E hr h => ?_)
  · obtain ⟨f, c, m, rfl, _⟩ := h
    rfl
  obtain ⟨f, c, m, rfl, m1, m8, hF, q⟩ := h
  have hm9 : m.natAbs.log2 < 9000 := by
    obtain ⟨j, rfl⟩ : ∃ j : Nat, m = (j : Int) := ⟨m.toNat, by omega⟩
    exact log_small (by omega)
  let R1 : TS := fun D' σ' H' => D'.rt = Q ∧ ∃ (hh rk gv : Addr) (xs : List V) (hs : List HR) (is : List Int) (gs : List Nat), σ' = [some (.ref f), some (.int m), some (.ref hh), some (.ref rk), some (.ref gv), none, none, none, none, none, none] ∧ RI f c hh H H' xs hs ∧ HandsOk hs ∧ H' rk = some (.lst (is.map V.int)) ∧ is.length = hs.length ∧ H' gv = some (.lst (gs.map nV)) ∧ gs ≠ [] ∧ gs.length ≤ 12 ∧ (∀ k ∈ gs, ∃ h, hs[k]? = some h ∧ h.wd ≠ "out") ∧ rk ≠ f ∧ gv ≠ f
  let R2 : TS := fun D' σ' H' => D'.rt = Q ∧ ∃ (hh rk gv tk : Addr) (xs : List V) (hs : List HR) (is : List Int) (gs ts : List Nat) (v5 : Option V), σ' = [some (.ref f), some (.int m), some (.ref hh), some (.ref rk), some (.ref gv), v5, some (.ref tk), none, none, none, none] ∧ RI f c hh H H' xs hs ∧ HandsOk hs ∧ H' rk = some (.lst (is.map V.int)) ∧ is.length = hs.length ∧ H' gv = some (.lst (gs.map nV)) ∧ gs ≠ [] ∧ gs.length ≤ 12 ∧ (∀ k ∈ gs, ∃ h, hs[k]? = some h ∧ h.wd ≠ "out") ∧ rk ≠ f ∧ gv ≠ f ∧ tk ≠ f ∧ H' tk = some (.lst (ts.map nV)) ∧ ts = tkTo hs hs.length
  refine ⟨_, (pss_cons (ps_set (i := 2) sc_law_room.nd rfl (Or.inr rfl) (pe_call G_law_hands (hr.mono (by decide)) (by rfl) m_law_hands F_law_hands.kp b_law_hands .nil pass0 (pa_cons (pv 0) (pa_cons (pe_op op_add pe_int (pe_call G_law_pick (hr.mono (by decide)) (by rfl) m_law_pick F_law_pick.kp b_law_pick .nil pass0 (pa_cons (pv 0) (pa_cons (pv 1) pa_nil)))) pa_nil))))
      (pss_cons (ps_set (i := 3) sc_law_room.nd rfl (Or.inl rfl) (pe_call G_law_shuffled (hr.mono (by decide)) (by rfl) m_law_shuffled F_law_shuffled.kp b_law_shuffled .nil pass0 (pa_cons (pv 0) (pa_cons (pe_listRg rfl (by rfl) T.m_list (prg_1 (by rfl) T.m_range (pe_callB (call_len_seqK K rfl) (by rfl) T.m_len (by decide +kernel) (pa_cons (pv 2) pa_nil)))) pa_nil))))
      (pss_cons (ps_setLc (i := 4) (own := [("_law_k", 5)]) (g := gName 5) (by rfl) sc_law_room.nd rfl rfl (sw_true rfl rfl rfl (by decide +kernel)) (pi_range1 (by rfl) T.m_range (pa_cons (pe_callB (call_len_seqK K rfl) (by rfl) T.m_len (by decide +kernel) (pa_cons (pv 2) pa_nil)) pa_nil)) (blkOk_by (own := [("_law_k", 5)]) (N := N_law_room) (sc := defScope s_law_room) (by decide +kernel)) (fun _ _ _ _ _ => (pg_name (i := 5) sc_law_room.nd rfl (Or.inl rfl))) (fun _ _ _ _ _ => pts_one (pt_cmpR (op_neDK K rfl hr.units) (pe_ix (ix_tupK K rfl) (pe_ix (ix_listK K rfl) (pv 2) (pv 5) (fun _ _ => rfl)) pe_int (fun _ _ => rfl)) (pe_tup (pa_cons pe_str pa_nil)) (nomark _))) (fun _ _ _ _ _ => (pv 5)))
      (PSs.to (pss_cons (ps_set (i := 6) sc_law_room.nd rfl (Or.inl rfl) (pe_lst pa_nil))
      (pss_cons (ps_for PassesOwn.never rfl (pi_range1 (by rfl) T.m_range (pa_cons (pe_callB (call_len_seqK K rfl) (by rfl) T.m_len (by decide +kernel) (pa_cons (pv 2) pa_nil)) pa_nil)) (pg_name (i := 5) sc_law_room.nd rfl (Or.inl rfl))
        (pss_one (ps_set (i := 6) sc_law_room.nd rfl (Or.inl rfl) (pe_op op_cat (pv 6) (pe_op op_rep (pe_lst (pa_cons (pv 5) pa_nil)) (pe_call G_law_needs (hr.mono (by decide)) (by rfl) m_law_needs F_law_needs.kp b_law_needs .nil pass0 (pa_cons (pe_ix (ix_tupK K rfl) (pe_ix (ix_listK K rfl) (pv 2) (pv 5) (fun _ _ => rfl)) pe_int (fun _ _ => rfl)) pa_nil)))))))
      (PSs.to (pss_cons (ps_set (i := 7) sc_law_room.nd rfl (Or.inl rfl) (pe_lst pa_nil))
      (pss_cons (ps_for PassesOwn.never rfl (pi_listK K rfl (pe_call G_law_shuffled (hr.mono (by decide)) (by rfl) m_law_shuffled F_law_shuffled.kp b_law_shuffled .nil pass0 (pa_cons (pv 0) (pa_cons (pv 6) pa_nil)))) (pg_name (i := 8) sc_law_room.nd rfl (Or.inl rfl))
        (pss_cons (ps_set (i := 9) sc_law_room.nd rfl (Or.inl rfl) (pe_ix (ix_listK K rfl) (pv 4) (pe_call G_law_pick (hr.mono (by decide)) (by rfl) m_law_pick F_law_pick.kp b_law_pick .nil pass0 (pa_cons (pv 0) (pa_cons (pe_callB (call_len_seqK K rfl) (by rfl) T.m_len (by decide +kernel) (pa_cons (pv 4) pa_nil)) pa_nil))) (fun _ _ => rfl)))
      (pss_cons (ps_set (i := 10) sc_law_room.nd rfl (Or.inl rfl) (pe_ix (ix_listK K rfl) (pe_lst (pa_cons pe_int (pa_cons pe_int (pa_cons pe_int (pa_cons pe_int (pa_cons pe_int (pa_cons pe_int (pa_cons pe_int (pa_cons pe_int pa_nil))))))))) (pe_call G_law_pick (hr.mono (by decide)) (by rfl) m_law_pick F_law_pick.kp b_law_pick .nil pass0 (pa_cons (pv 0) (pa_cons pe_int pa_nil))) (fun _ _ => rfl)))
      (pss_cons (ps_if (pt_cmpR op_ge (pe_ix (ix_listK K rfl) (pv 3) (pv 9) (fun _ _ => rfl)) (pe_ix (ix_listK K rfl) (pv 3) (pv 8) (fun _ _ => rfl)) (nomark _)) (pss_one (ps_set (i := 10) sc_law_room.nd rfl (Or.inl rfl) (pe_callB (call_max2 rfl) (by rfl) T.m_max (by decide +kernel) (pa_cons pe_int (pa_cons (pv 10) pa_nil))))) pss_nil)
      (pss_one (ps_expr (pe_bmK K rfl PySem.F.plainAttrs_list PySem.F.slot_list_append PySem.F.type_list_append mt_append (pv 7) (pa_cons (pe_tup (pa_cons (pv 9) (pa_cons (pv 8) (pa_cons (pe_callTy (call_tuple_ofK K rfl) (by rfl) T.m_tuple (by decide +kernel) (pa_cons (pe_lc (own := [("_law_k", 5)]) (g := gName 5) (tt := tYes) (by rfl) sc_law_room.nd (pi_range1 (by rfl) T.m_range (pa_cons (pv 10) pa_nil)) (blkOk_by (own := [("_law_k", 5)]) (N := N_law_room) (sc := defScope s_law_room) (by decide +kernel)) (fun _ _ _ _ _ => (pg_name (i := 5) sc_law_room.nd rfl (Or.inl rfl))) (fun _ _ _ _ _ => pts_nil) (fun _ _ _ _ _ => (pe_call G_law_thing (hr.mono (by decide)) (by rfl) m_law_thing F_law_thing.kp b_law_thing .nil pass0 (pa_cons (pv 0) pa_nil)))) pa_nil)) pa_nil)))) pa_nil))))))))
      (pss_one (ps_ret (pe_tup (pa_cons (pe_callTy (call_tuple_ofK K rfl) (by rfl) T.m_tuple (by decide +kernel) (pa_cons (pv 2) pa_nil)) (pa_cons (pe_callTy (call_tuple_ofK K rfl) (by rfl) T.m_tuple (by decide +kernel) (pa_cons (pv 7) pa_nil)) pa_nil))))))) R2 ?tail2))) R1 ?tail1)))), ?_⟩
  case tail2 =>
    rintro D' σ' H1 ⟨eD, hh, rk, gv, tk, xs, hs, is, gs, ts, v5, rfl, I1, ok, hrk, lis, hgv, gne, glen, gok, nrk, ngv, ntk, htk, ets⟩
    have hx : xs.length = hs.length := I1.al.length
    have len12 := ok.len
    have lts : ts.length ≤ 20 := by
      have a := tk_len hs ok.nz hs.length (Nat.le_refl _)
      rw [List.take_length, ← ets] at a
      have := ok.sum
      omega
    refine ⟨(by show 0 ≤ sizeLine; decide), fun bl nbl => ?_⟩
    have I2 := I1.new (o := .lst []) nbl
    refine ⟨_, rfl, _, rfl, f, c, tk, _, rfl, SqL.of (same_new nbl _ _ htk), ntk, by rw [List.length_map]; omega, I2.fl, fun sh ys H3 hp nsh hsh F3 B3 => ?_⟩
    obtain ⟨tt, rfl, htt⟩ := perm_inv (f := nV) (g := unN) (fun n => by show ((n : Nat) : Int).toNat = n; omega) hp
    have I3 := I2.but F3 B3
    have bf : bl ≠ f := I1.fl.ne nbl
    have bc : bl ≠ c := I1.fl.nec nbl
    have hbl3 := B3 _ _ upd_same bf
    have bsh : bl ≠ sh := fun e => by rw [← e, upd_same] at nsh; cases nsh
    have bnone : H bl = Option.none := I1.bt.none nbl bf
    have rank : Nat → Int := fun k => is.getD k 0
    refine ⟨sh, rfl, ⟨_, SqL.of hsh⟩, for_list (K := K) (a := sh) (xs := tt.map nV) (fun i σ H4 => ∃ (bv : List V) (bs : List BR) (v5 v8 v9 v10 : Option V), σ = [some (.ref f), some (.int m), some (.ref hh), some (.ref rk), some (.ref gv), v5, some (.ref tk), some (.ref bl), v8, v9, v10] ∧ RI f c hh H H4 xs hs ∧ H4 rk = some (.lst (is.map V.int)) ∧ H4 gv = some (.lst (gs.map nV)) ∧ H4 sh = some (.lst (tt.map nV)) ∧ H4 bl = some (.lst bv) ∧ All2 (BeltAt H4) bv bs ∧ bs.map BR.to = tt.take i ∧
        (∀ b ∈ bs, b.one < hs.length ∧ (∀ h, hs[b.one]? = some h → h.wd ≠ "out") ∧ b.th.length ≤ 6 ∧ (∀ x ∈ b.th, Small x) ∧ (b.th = [] → is.getD b.one 0 < is.getD b.to 0)))
      ⟨[], [], v5, none, none, none, rfl, I3, B3 _ _ (same_new nbl _ _ hrk) nrk, B3 _ _ (same_new nbl _ _ hgv) ngv, hsh, hbl3, .nil, rfl, (fun _ h => nomatch h)⟩ (fun i σ H4 _ ⟨_, _, _, _, _, _, _, _, _, _, h, _⟩ => SqL.of h) ?_ ?_⟩
    · rintro i y σ H4 hi ⟨bv, bs, v5, v8, v9, v10, rfl, I4, hrk4, hgv4, hsh4, hbl4, al, em, hb⟩
      rw [List.getElem?_map] at hi
      cases et : tt[i]? with
      | none => rw [et] at hi; cases hi
      | some to =>
      rw [et] at hi
      obtain rfl : nV to = y := Option.some.inj hi
      have toL : to < hs.length := tk_mem hs _ _ (by rw [← ets]; exact htt.mem_iff.mp (List.mem_of_getElem? et))
      have il : i < 20 := by have := (List.getElem?_eq_some_iff.mp et).1; rw [htt.length_eq] at this; omega
      have lb : bs.length = i := by
        have := congrArg List.length em
        rw [List.length_map, List.length_take, Nat.min_eq_left (Nat.le_of_lt (List.getElem?_eq_some_iff.mp et).1)] at this
        exact this
      have g0 : 0 < gs.length := List.length_pos_iff.mpr gne
      refine ⟨_, rfl, _, rfl, _, rfl, gv, _, rfl, .inl (SqL.of hgv4), f, c, _, rfl, (by rw [List.length_map]; omega), (by rw [List.length_map]; exact log_small (by omega)), I4.fl, fun z H5 z0 z1 F5 B5 => ?_⟩
      rw [List.length_map] at z1
      have I5 := I4.but F5 B5
      have hgv5 := B5 _ _ hgv4 ngv
      obtain ⟨one, eo, ho⟩ : ∃ one, atI (gs.map nV) z = some (nV one) ∧ one ∈ gs := by
        have hk : z.toNat < gs.length := by omega
        have ek : z = ((z.toNat : Nat) : Int) := by omega
        refine ⟨gs[z.toNat], ?_, List.getElem_mem _⟩
        have q2 : atI (gs.map nV) ((z.toNat : Nat) : Int) = some (nV gs[z.toNat]) := atI_nat (by rw [List.getElem?_map, List.getElem?_eq_getElem hk]; rfl)
        rw [← ek] at q2
        exact q2
      obtain ⟨ho1, eh1, hout⟩ := gok one ho
      have oneL : one < hs.length := (List.getElem?_eq_some_iff.mp eh1).1
      refine ⟨gv, _, _, _, rfl, rfl, SqL.of hgv5, eo, ?_⟩
      refine ⟨(by show 8 ≤ sizeLine; decide), fun tl ntl => ?_⟩
      have I6 := I5.new (o := .lst [V.int 0, V.int 0, V.int 0, V.int 1, V.int 1, V.int 2, V.int 3, V.int 6]) ntl
      refine ⟨_, rfl, f, c, 8, rfl, by decide, by decide +kernel, I6.fl, fun y2 H7 y0 y8 F7 B7 => ?_⟩
      have I7 := I6.but F7 B7
      have htl := B7 _ _ upd_same (I5.fl.ne ntl)
      obtain ⟨tr, htr, tr0, tr6⟩ : ∃ tr : Int, atI [V.int 0, V.int 0, V.int 0, V.int 1, V.int 1, V.int 2, V.int 3, V.int 6] y2 = some (.int tr) ∧ 0 ≤ tr ∧ tr ≤ 6 := by
        have : y2 = 0 ∨ y2 = 1 ∨ y2 = 2 ∨ y2 = 3 ∨ y2 = 4 ∨ y2 = 5 ∨ y2 = 6 ∨ y2 = 7 := by omega
        rcases this with rfl | rfl | rfl | rfl | rfl | rfl | rfl | rfl
        · exact ⟨0, rfl, by decide, by decide⟩
        · exact ⟨0, rfl, by decide, by decide⟩
        · exact ⟨0, rfl, by decide, by decide⟩
        · exact ⟨1, rfl, by decide, by decide⟩
        · exact ⟨1, rfl, by decide, by decide⟩
        · exact ⟨2, rfl, by decide, by decide⟩
        · exact ⟨3, rfl, by decide, by decide⟩
        · exact ⟨6, rfl, by decide, by decide⟩
      refine ⟨tl, _, _, _, rfl, rfl, SqL.of htl, htr, ?_⟩
      have k7 : But f H4 H7 := (B5.new ntl).trans B7
      have hrk7 := k7 _ _ hrk4 nrk
      have hgv7 := k7 _ _ hgv4 ngv
      have shf : sh ≠ f := fun e => by rw [e] at nsh; obtain ⟨_, _, _, _, _, e1, _⟩ := I2.fl; rw [e1] at nsh; cases nsh
      have hsh7 := k7 _ _ hsh4 shf
      have hbl7 := k7 _ _ hbl4 bf
      have tk7 : TK H4 H7 := (TK.but I4.fl B5).trans ((TK.new ntl).trans (TK.but I6.fl B7))
      have al7 : All2 (BeltAt H7) bv bs := al.imp fun _ _ z => z.keep tk7
      have r1 : (is.map V.int)[one]? = some (.int (is.getD one 0)) := by
        rw [List.getElem?_map, List.getD_eq_getElem?_getD, List.getElem?_eq_getElem (by omega)]; rfl
      have r2 : (is.map V.int)[to]? = some (.int (is.getD to 0)) := by
        rw [List.getElem?_map, List.getD_eq_getElem?_getD, List.getElem?_eq_getElem (by omega)]; rfl
      have bvl : bv.length = i := by rw [al.length, lb]
      -- the end of a turn, with so many trays
      refine ⟨_, rfl, _, rfl, rk, _, _, _, rfl, rfl, SqL.of hrk7, atI_nat r1, _, rfl, _, rfl, rk, _, _, _, rfl, rfl, SqL.of hrk7, atI_nat r2, _, _, rfl, rfl, _, rfl, if_bl (fun kk => ?_) (fun kk => ?_)⟩
      · refine ⟨_, rfl, _, _, rfl, ?_⟩
        generalize ht : (if tr > 1 then tr else 1) = tn
        have tn0 : 0 ≤ tn := by rw [← ht]; split <;> omega
        have tn6 : tn ≤ 6 := by rw [← ht]; split <;> omega
        have ttt : tn.toNat = 0 → is.getD one 0 < is.getD to 0 := fun e => by
          exfalso
          have : 1 ≤ tn := by rw [← ht]; split <;> omega
          omega
        refine ⟨_, rfl, .inl ⟨rfl, _, SqL.of hbl7⟩, _, rfl, _, rfl, _, rfl, _, rfl, by omega, by omega, fun D nD => lc_range (lo := 0) (n := tn.toNat) (fun j H8 => ∃ vs : List Int, vs.length = j ∧ H8 D = some (.lst (vs.map V.int)) ∧ (∀ x ∈ vs, Small x) ∧ RI f c hh H H8 xs hs ∧ But f H7 H8 ∧ TK H7 H8 ∧ D ≠ f ∧ D ≠ c ∧ D ≠ hh ∧ H D = Option.none ∧ H7 D = Option.none)
          ⟨[], rfl, upd_same, (fun _ h => nomatch h), I7.new nD, But.refl.new nD, TK.new nD, I7.fl.ne nD, I7.fl.nec nD, (ne_of_none I7.lh nD).symm, I7.bt.none nD (I7.fl.ne nD), nD⟩ ?_ ?_⟩
        · rintro j H8 hj ⟨vs, lv, hD, sm, I8, b8, t8, d1, d2, d3, d4, d5⟩
          refine ⟨rfl, yes_in ⟨_, rfl, f, c, rfl, I8.fl, fun x H9 sx F9 B9 => ⟨_, B9 _ _ hD d1, ?_, vs ++ [x], by rw [List.length_append, lv]; rfl, ?_, ?_, (I8.but F9 B9).lst (B9 _ _ hD d1) d1 d2 d3 d4, (b8.trans B9).own d5, (t8.trans (TK.but I8.fl B9)).trans (TK.lst (B9 _ _ hD d1)), d1, d2, d3, d4, d5⟩⟩⟩
          · rw [List.length_map, lv]; exact small1000 (by omega)
          · rw [upd_same, List.map_append]; rfl
          · intro y hy
            rcases List.mem_append.mp hy with hy | hy
            · exact sm y hy
            · obtain rfl : y = x := by simpa using hy
              exact sx
        · rintro H8 ⟨vs, lv, hD, sm, I8, b8, t8, d1, d2, d3, d4, d5⟩
          refine ⟨D, _, rfl, .inl ⟨SqL.of hD, fun g ng => ⟨(by show 3 ≤ sizeLine; decide), fun t nt => ?_⟩⟩⟩
          have I9 := (I8.new (o := .tup (vs.map V.int)) ng).new (o := .tup [nV one, nV to, V.ref g]) nt
          have hbl8 := same_new (o := .tup [nV one, nV to, V.ref g]) nt _ _ (same_new (o := .tup (vs.map V.int)) ng _ _ (b8 _ _ hbl7 bf))
          have t9 : TK H7 (upd (upd H8 g (.tup (vs.map V.int))) t (.tup [nV one, nV to, V.ref g])) := (t8.trans (TK.new ng)).trans (TK.new nt)
          have s9 : ∀ b o, H7 b = some o → b ≠ f → (upd (upd H8 g (.tup (vs.map V.int))) t (.tup [nV one, nV to, V.ref g])) b = some o := fun b o e n => same_new nt _ _ (same_new ng _ _ (b8 _ _ e n))
          have bh : bl ≠ hh := fun e => by
            have h1 := I1.lh
            rw [← e, nbl] at h1
            cases h1
          have brk : bl ≠ rk := fun e => by
            have h1 := hrk
            rw [← e, nbl] at h1
            cases h1
          have bgv : bl ≠ gv := fun e => by
            have h1 := hgv
            rw [← e, nbl] at h1
            cases h1
          refine ⟨bl, _, _, rfl, rfl, hbl8, small1000 (by rw [bvl]; omega), ?_⟩
          refine ⟨bv ++ [V.ref t], bs ++ [⟨one, to, vs⟩], _, _, _, _, rfl, I9.lst hbl8 bf bc bh bnone, ?_, ?_, ?_, upd_same, ?_, ?_, ?_⟩
          · rw [upd_ne brk.symm]; exact s9 _ _ hrk7 nrk
          · rw [upd_ne bgv.symm]; exact s9 _ _ hgv7 ngv
          · rw [upd_ne bsh.symm]; exact s9 _ _ hsh7 shf
          · exact ((al7.imp fun _ _ z => z.keep t9).snoc ⟨t, g, rfl, upd_same, same_new nt _ _ upd_same⟩).imp fun _ _ z => z.keep (TK.lst hbl8)
          · rw [List.map_append, em, List.take_add_one, et]; rfl
          · intro b hb2
            rcases List.mem_append.mp hb2 with hb2 | hb2
            · exact hb b hb2
            · obtain rfl : b = ⟨one, to, vs⟩ := by simpa using hb2
              refine ⟨oneL, fun h e => ?_, by show vs.length ≤ 6; omega, sm, fun e => ?_⟩
              · have e : hs[one]? = some h := e
                rw [eh1] at e
                cases e
                exact hout
              · have e : vs = [] := e
                rw [e] at lv
                exact ttt (by simpa using lv.symm)
      · obtain ⟨tn, ht⟩ : ∃ tn, tn = tr := ⟨_, rfl⟩
        rw [← ht]
        have tn0 : 0 ≤ tn := by omega
        have tn6 : tn ≤ 6 := by omega
        have ttt : tn.toNat = 0 → is.getD one 0 < is.getD to 0 := fun _ => by
          have : ¬ is.getD to 0 ≤ is.getD one 0 := of_decide_eq_false kk
          omega
        refine ⟨_, rfl, .inl ⟨rfl, _, SqL.of hbl7⟩, _, rfl, _, rfl, _, rfl, _, rfl, by omega, by omega, fun D nD => lc_range (lo := 0) (n := tn.toNat) (fun j H8 => ∃ vs : List Int, vs.length = j ∧ H8 D = some (.lst (vs.map V.int)) ∧ (∀ x ∈ vs, Small x) ∧ RI f c hh H H8 xs hs ∧ But f H7 H8 ∧ TK H7 H8 ∧ D ≠ f ∧ D ≠ c ∧ D ≠ hh ∧ H D = Option.none ∧ H7 D = Option.none)
          ⟨[], rfl, upd_same, (fun _ h => nomatch h), I7.new nD, But.refl.new nD, TK.new nD, I7.fl.ne nD, I7.fl.nec nD, (ne_of_none I7.lh nD).symm, I7.bt.none nD (I7.fl.ne nD), nD⟩ ?_ ?_⟩
        · rintro j H8 hj ⟨vs, lv, hD, sm, I8, b8, t8, d1, d2, d3, d4, d5⟩
          refine ⟨rfl, yes_in ⟨_, rfl, f, c, rfl, I8.fl, fun x H9 sx F9 B9 => ⟨_, B9 _ _ hD d1, ?_, vs ++ [x], by rw [List.length_append, lv]; rfl, ?_, ?_, (I8.but F9 B9).lst (B9 _ _ hD d1) d1 d2 d3 d4, (b8.trans B9).own d5, (t8.trans (TK.but I8.fl B9)).trans (TK.lst (B9 _ _ hD d1)), d1, d2, d3, d4, d5⟩⟩⟩
          · rw [List.length_map, lv]; exact small1000 (by omega)
          · rw [upd_same, List.map_append]; rfl
          · intro y hy
            rcases List.mem_append.mp hy with hy | hy
            · exact sm y hy
            · obtain rfl : y = x := by simpa using hy
              exact sx
        · rintro H8 ⟨vs, lv, hD, sm, I8, b8, t8, d1, d2, d3, d4, d5⟩
          refine ⟨D, _, rfl, .inl ⟨SqL.of hD, fun g ng => ⟨(by show 3 ≤ sizeLine; decide), fun t nt => ?_⟩⟩⟩
          have I9 := (I8.new (o := .tup (vs.map V.int)) ng).new (o := .tup [nV one, nV to, V.ref g]) nt
          have hbl8 := same_new (o := .tup [nV one, nV to, V.ref g]) nt _ _ (same_new (o := .tup (vs.map V.int)) ng _ _ (b8 _ _ hbl7 bf))
          have t9 : TK H7 (upd (upd H8 g (.tup (vs.map V.int))) t (.tup [nV one, nV to, V.ref g])) := (t8.trans (TK.new ng)).trans (TK.new nt)
          have s9 : ∀ b o, H7 b = some o → b ≠ f → (upd (upd H8 g (.tup (vs.map V.int))) t (.tup [nV one, nV to, V.ref g])) b = some o := fun b o e n => same_new nt _ _ (same_new ng _ _ (b8 _ _ e n))
          have bh : bl ≠ hh := fun e => by
            have h1 := I1.lh
            rw [← e, nbl] at h1
            cases h1
          have brk : bl ≠ rk := fun e => by
            have h1 := hrk
            rw [← e, nbl] at h1
            cases h1
          have bgv : bl ≠ gv := fun e => by
            have h1 := hgv
            rw [← e, nbl] at h1
            cases h1
          refine ⟨bl, _, _, rfl, rfl, hbl8, small1000 (by rw [bvl]; omega), ?_⟩
          refine ⟨bv ++ [V.ref t], bs ++ [⟨one, to, vs⟩], _, _, _, _, rfl, I9.lst hbl8 bf bc bh bnone, ?_, ?_, ?_, upd_same, ?_, ?_, ?_⟩
          · rw [upd_ne brk.symm]; exact s9 _ _ hrk7 nrk
          · rw [upd_ne bgv.symm]; exact s9 _ _ hgv7 ngv
          · rw [upd_ne bsh.symm]; exact s9 _ _ hsh7 shf
          · exact ((al7.imp fun _ _ z => z.keep t9).snoc ⟨t, g, rfl, upd_same, same_new nt _ _ upd_same⟩).imp fun _ _ z => z.keep (TK.lst hbl8)
          · rw [List.map_append, em, List.take_add_one, et]; rfl
          · intro b hb2
            rcases List.mem_append.mp hb2 with hb2 | hb2
            · exact hb b hb2
            · obtain rfl : b = ⟨one, to, vs⟩ := by simpa using hb2
              refine ⟨oneL, fun h e => ?_, by show vs.length ≤ 6; omega, sm, fun e => ?_⟩
              · have e : hs[one]? = some h := e
                rw [eh1] at e
                cases e
                exact hout
              · have e : vs = [] := e
                rw [e] at lv
                exact ttt (by simpa using lv.symm)
    · rintro σ H4 ⟨bv, bs, v5, v8, v9, v10, rfl, I4, hrk4, hgv4, hsh4, hbl4, al, em, hb⟩
      rw [List.length_map, List.take_length] at em
      have lb : bs.length = ts.length := by
        have := congrArg List.length em
        rw [List.length_map] at this
        rw [this, htt.length_eq]
      refine ⟨_, rfl, hh, _, rfl, .inl ⟨SqL.of I4.lh, fun a1 na1 => ⟨_, rfl, bl, _, rfl, .inl ⟨SqL.of (same_new na1 _ _ hbl4), fun a2 na2 => ⟨(by show 2 ≤ sizeLine; decide), fun a3 na3 => ?_⟩⟩⟩⟩⟩
      rw [eD]
      have k1 : TK H4 (upd (upd (upd H4 a1 (.tup xs)) a2 (.tup bv)) a3 (.tup [V.ref a1, V.ref a2])) := ((TK.new na1).trans (TK.new na2)).trans (TK.new na3)
      refine q a3 hs bs _ ⟨a1, a2, xs, bv, upd_same, same_new na3 _ _ (same_new na2 _ _ upd_same), same_new na3 _ _ upd_same, I4.al.imp fun _ _ z => z.keep k1, al.imp fun _ _ z => z.keep k1⟩ ⟨ok.len, ok.good, fun b hb2 => ⟨(hb b hb2).1, ?_⟩, fun b hb2 => (hb b hb2).2.1, fun b hb2 => ⟨(hb b hb2).2.2.1, (hb b hb2).2.2.2.1⟩, ⟨fun k => is.getD k 0, fun b hb2 => (hb b hb2).2.2.2.2⟩, fun k h hk => ?_, by omega⟩ (by obtain ⟨h1, hm1, _⟩ := ok.one; exact List.length_pos_of_mem hm1) (((I4.fl.new na1).new na2).new na3) (((I4.bt.new na1).new na2).new na3)
      · have : b.to ∈ bs.map BR.to := List.mem_map.mpr ⟨b, hb2, rfl⟩
        rw [em] at this
        exact tk_mem hs _ _ (by rw [← ets]; exact htt.mem_iff.mp this)
      · rw [em, htt.count_eq, ets, tk_count, if_pos (List.getElem?_eq_some_iff.mp hk).1]
        unfold nd
        rw [hk]
        have := ok.nz h (List.mem_of_getElem? hk)
        show (((needs h.wd).toNat : Nat) : Int) = needs h.wd
        omega
  case tail1 =>
    rintro D' σ' H1 ⟨eD, hh, rk, gv, xs, hs, is, gs, rfl, I1, ok, hrk, lis, hgv, gne, glen, gok, nrk, ngv⟩
    refine ⟨(by show 0 ≤ sizeLine; decide), fun tk ntk => ?_⟩
    have I2 := I1.new (o := .lst []) ntk
    have hx : xs.length = hs.length := I1.al.length
    refine ⟨_, rfl, hh, _, rfl, .inl (SqL.of I2.lh), _, rfl, by omega, (by rw [hx]; have := ok.len; omega), for_range (lo := 0) (n := xs.length) (fun i σ H2 => ∃ (tk : Addr) (v5 : Option V), σ = [some (.ref f), some (.int m), some (.ref hh), some (.ref rk), some (.ref gv), v5, some (.ref tk), none, none, none, none] ∧ RI f c hh H H2 xs hs ∧ H2 rk = some (.lst (is.map V.int)) ∧ H2 gv = some (.lst (gs.map nV)) ∧ tk ≠ f ∧ H2 tk = some (.lst ((tkTo hs i).map nV)))
      ⟨tk, none, rfl, I2, same_new ntk _ _ hrk, same_new ntk _ _ hgv, I1.fl.ne ntk, upd_same⟩ ?_ ?_⟩
    · rintro i σ H2 hi ⟨tk, v5, rfl, I3, hrk3, hgv3, tf, htk⟩
      have eh : hs[i]? = some hs[i] := List.getElem?_eq_getElem (by omega)
      obtain ⟨x, ex, ⟨t, r, rfl, e1, e2⟩⟩ := I3.al.get eh
      have z0 := ok.nz _ (List.mem_of_getElem? eh)
      have zs : needs hs[i].wd ≤ 3 := by
        unfold needs
        split
        · decide
        · split
          · decide
          · split <;> decide
      have sz : (tkTo hs i).length ≤ 20 := by
        have a := tk_len hs ok.nz i (by omega)
        have b : ((hs.take i).map fun h => needs h.wd).sum ≤ (hs.map fun h => needs h.wd).sum := by
          have e : hs.map (fun h => needs h.wd) = (hs.take i).map (fun h => needs h.wd) ++ (hs.drop i).map (fun h => needs h.wd) := by rw [← List.map_append, List.take_append_drop]
          rw [e, List.sum_append]
          have : 0 ≤ ((hs.drop i).map fun h => needs h.wd).sum := by
            have hz : ∀ h ∈ hs.drop i, 0 ≤ needs h.wd := fun h hh => ok.nz h (List.mem_of_mem_drop hh)
            revert hz
            generalize hs.drop i = l
            intro hz
            induction l with
            | nil => decide
            | cons a l ih =>
              have := hz a (List.mem_cons_self ..)
              have := ih fun h hh => hz h (List.mem_cons_of_mem _ hh)
              rw [List.map_cons, List.sum_cons]
              omega
          omega
        have := ok.sum
        omega
      refine ⟨_, rfl, _, rfl, (by show 1 ≤ sizeLine; decide), fun l1 nl1 => ?_⟩
      have I4 := I3.new (o := .lst [V.int (0 + ((i : Nat) : Int))]) nl1
      refine ⟨_, rfl, _, rfl, hh, _, _, _, rfl, rfl, SqL.of I4.lh, at0 ex, t, _, _, _, rfl, rfl, SqT.of (same_new nl1 _ _ e1), atI_nat (j := 0) rfl, r, hs[i].wd, _, rfl, SqT.of (same_new nl1 _ _ e2), fun H5 s5 => ?_⟩
      have I5 := I4.same s5
      have g1 := s5 _ _ upd_same
      have g2 := s5 _ _ (same_new nl1 _ _ htk)
      refine ⟨l1, _, _, rfl, rfl, g1, by omega, by omega, little (by show 1 * (needs hs[i].wd).toNat ≤ 1000; omega), fun l2 nl2 => ?_⟩
      rw [flat_rep]
      have I6 := I5.new (o := .lst (List.replicate (needs hs[i].wd).toNat (V.int (0 + ((i : Nat) : Int))))) nl2
      refine ⟨tk, l2, _, _, rfl, rfl, same_new nl2 _ _ g2, upd_same, ?_, fun l3 nl3 => ?_⟩
      · rw [List.length_map, List.length_replicate]; exact little (by omega)
      refine ⟨l3, _, rfl, I6.new nl3, same_new nl3 _ _ (same_new nl2 _ _ (s5 _ _ (same_new nl1 _ _ hrk3))), same_new nl3 _ _ (same_new nl2 _ _ (s5 _ _ (same_new nl1 _ _ hgv3))), I6.fl.ne nl3, ?_⟩
      rw [upd_same]
      have e : nd hs i = (needs hs[i].wd).toNat := by unfold nd; rw [eh]
      rw [show tkTo hs (i + 1) = tkTo hs i ++ List.replicate (nd hs i) i from rfl, List.map_append, List.map_replicate, e, Int.zero_add]
    · rintro σ H2 ⟨tk, v5, rfl, I3, hrk3, hgv3, tf, htk⟩
      exact ⟨eD, hh, rk, gv, tk, xs, hs, is, gs, _, v5, rfl, I3, ok, hrk3, lis, hgv3, gne, glen, gok, nrk, ngv, tf, htk, by rw [hx]⟩
  refine ⟨_, rfl, _, rfl, _, rfl, f, c, m, rfl, by omega, hm9, hF, fun v1 H1 a1 b1 F1 B1 => ?_⟩
  refine ⟨_, _, rfl, rfl, f, c, _, rfl, by omega, by omega, F1, fun hh xs hs H2 nhh hhh al ok F2 B2 => ?_⟩
  have hx : xs.length = hs.length := al.length
  have len12 := ok.len
  have nf : hh ≠ f := F1.ne nhh
  have I2 : RI f c hh H H2 xs hs := ⟨F2, B1.trans B2, hhh, al, nf, B1.none nhh nf⟩
  -- ranks
  refine ⟨_, rfl, _, rfl, hh, _, rfl, .inl (SqL.of I2.lh), _, rfl, ⟨by omega, by omega, by omega, by omega, by omega⟩, fun rg nrg => ?_⟩
  have I3 := I2.new (o := .lst (rgV 0 ((xs.length : Nat) : Int))) nrg
  refine ⟨f, c, rg, _, rfl, SqL.of upd_same, I2.fl.ne nrg, ?_, I3.fl, fun rk ys H4 hp nrk hrk F4 B4 => ?_⟩
  · rw [rgV_length]; omega
  have erg : rgV 0 ((xs.length : Nat) : Int) = ((List.range xs.length).map fun i => ((i : Nat) : Int)).map V.int := by
    unfold rgV
    rw [List.map_map, show (((xs.length : Nat) : Int) - 0).toNat = xs.length by omega]
    refine List.map_congr_left fun i _ => ?_
    show V.int (0 + ((i : Nat) : Int)) = V.int ((i : Nat) : Int)
    rw [Int.zero_add]
  rw [erg] at hp
  obtain ⟨is, rfl, his⟩ := perm_inv (f := V.int) (g := unI) (fun _ => rfl) hp
  have lis : is.length = hs.length := by rw [his.length_eq, List.length_map, List.length_range, hx]
  have I4 := I3.but F4 B4
  have rkf : rk ≠ f := I3.fl.ne nrk
  -- givers
  refine ⟨_, rfl, hh, _, rfl, .inl (SqL.of I4.lh), _, rfl, by omega, by omega, fun D nD => lc_range (lo := 0) (n := xs.length) (fun i H5 => ∃ gs : List Nat, H5 D = some (.lst (gs.map nV)) ∧ gs.length ≤ i ∧ RI f c hh H H5 xs hs ∧ H5 rk = some (.lst (is.map V.int)) ∧ (∀ k ∈ gs, ∃ h, hs[k]? = some h ∧ h.wd ≠ "out") ∧ (∀ k h, k < i → hs[k]? = some h → h.wd ≠ "out" → gs ≠ []) ∧ D ≠ f ∧ D ≠ c ∧ D ≠ hh ∧ D ≠ rk ∧ H D = Option.none)
    ⟨[], upd_same, Nat.le_refl _, I4.new nD, same_new nD _ _ hrk, (fun _ h => nomatch h), (fun k h hk => absurd hk (Nat.not_lt_zero _)), I4.fl.ne nD, I4.fl.nec nD, (ne_of_none I4.lh nD).symm, (ne_of_none hrk nD).symm, I4.bt.none nD (I4.fl.ne nD)⟩ ?_ ?_⟩
  · rintro i H5 hi ⟨gs, hD, lg, I5, hrk5, g1, g2, d1, d2, d3, d4, d5⟩
    have eh : hs[i]? = some hs[i] := List.getElem?_eq_getElem (by omega)
    obtain ⟨x, ex, ⟨t, r, rfl, e1, e2⟩⟩ := I5.al.get eh
    have gh := ok.good _ (List.mem_of_getElem? eh)
    refine ⟨rfl, _, rfl, _, rfl, hh, _, _, _, rfl, rfl, SqL.of I5.lh, at0 ex, t, _, _, _, rfl, rfl, SqT.of e1, atI_nat (j := 0) rfl, (by show 1 ≤ sizeLine; decide), fun o1 no1 => ?_⟩
    have I6 := I5.new (o := .tup [V.str "out"]) no1
    have hD6 : (upd H5 o1 (.tup [V.str "out"])) D = some (.lst (gs.map nV)) := same_new no1 _ _ hD
    refine ⟨_, _, rule_dp (same_new no1 _ _ e2), .tup (SqT.of upd_same) (.cons (.str _) .nil), rule_shaped gh.lay, one_shaped (by decide +kernel), _, rfl, ?_⟩
    rw [rule_eqv, gh.door "out" (.inr rfl)]
    by_cases k : hs[i].wd = "out"
    · rw [decide_eq_true k]
      refine if_bl (fun z => absurd z (by decide)) (fun _ => ⟨gs, hD6, by omega, I6, same_new no1 _ _ hrk5, g1, fun k' h' hk hk2 hk3 => ?_, d1, d2, d3, d4, d5⟩)
      by_cases y : k' = i
      · subst y
        rw [eh] at hk2
        cases hk2
        exact absurd k hk3
      · exact g2 k' h' (by omega) hk2 hk3
    · rw [decide_eq_false k]
      refine if_bl (fun _ => ⟨_, rfl, _, hD6, ?_, gs ++ [i], ?_, ?_, I6.lst hD6 d1 d2 d3 d5, ?_, ?_, fun _ _ _ _ _ z => by simp at z, d1, d2, d3, d4, d5⟩) (fun z => absurd z (by decide))
      · rw [List.length_map]; exact small1000 (by omega)
      · rw [upd_same, List.map_append, Int.zero_add]; rfl
      · rw [List.length_append]; show gs.length + 1 ≤ i + 1; omega
      · rw [upd_ne d4.symm]; exact same_new no1 _ _ hrk5
      · intro k' hk
        rcases List.mem_append.mp hk with hk | hk
        · exact g1 k' hk
        · obtain rfl : k' = i := by simpa using hk
          exact ⟨_, eh, k⟩
  · rintro H5 ⟨gs, hD, lg, I5, hrk5, g1, g2, d1, d2, d3, d4, d5⟩
    obtain ⟨h1, hm1, hm2⟩ := ok.one
    obtain ⟨k1, hk1⟩ := List.getElem?_of_mem hm1
    have k1l := (List.getElem?_eq_some_iff.mp hk1).1
    exact ⟨rfl, hh, rk, D, xs, hs, is, gs, rfl, I5, ok, hrk5, lis, hD, g2 k1 h1 (by omega) hk1 hm2, by omega, g1, rkf, d1⟩
end
theorem filt_succ {p : Nat → Bool} (i : Nat) : (List.range (i + 1)).filter p = (List.range i).filter p ++ (if p i = true then [i] else []) := by
  rw [List.range_succ, List.filter_append]
  cases h : p i <;> simp [h]
theorem filt_len {p : Nat → Bool} (i : Nat) : ((List.range i).filter p).length ≤ i := by
  refine Nat.le_trans (List.length_filter_le ..) ?_
  rw [List.length_range]
  exact Nat.le_refl _
/-! ### slices and sums of tuples, whatever they are -/
theorem slA_of {K : PySem.W.Frag} {H : Hp} {a : Addr} {xs : List V} {lo hi : Option Int} {Q : VK} (h : H a = some (.tup xs)) (k : ∀ (p : Addr) (H' : Hp), H' p = some (.tup (cutV xs lo hi)) → Same H H' → Q (.ref p) H') : rSlA K (.ref a) lo hi H Q := by
  refine ⟨a, xs, rfl, SqT.of h, fun z => k a H ?_ (Same.refl _), fun _ p np => k p _ upd_same (same_new np)⟩
  unfold cutV
  rw [z.1, z.2, List.drop_zero, Nat.sub_zero, List.take_length]
  exact h
theorem catA_of {K : PySem.W.Frag} {H : Hp} {a b : Addr} {xs ys : List V} {Q : VK} (h : H a = some (.tup xs)) (g : H b = some (.tup ys)) (l : xs.length + ys.length ≤ 1000) (k : ∀ (p : Addr) (H' : Hp), H' p = some (.tup (xs ++ ys)) → Same H H' → Q (.ref p) H') : rCatA K (.ref a) (.ref b) H Q := by
  refine ⟨a, b, xs, ys, rfl, rfl, SqT.of h, SqT.of g, little l, fun e => k b H ?_ (Same.refl _), fun _ e => k a H ?_ (Same.refl _), fun _ _ p np => k p _ upd_same (same_new np)⟩
  · rw [e]; exact g
  · rw [e, List.append_nil]; exact h
theorem cut_take (xs : List V) (k : Nat) : cutV xs none (some ((k : Nat) : Int)) = xs.take k := by
  unfold cutV
  rw [HT.sIx_nat, HT.sIx_none, List.drop_zero, Nat.sub_zero]
  by_cases h : k ≤ xs.length
  · rw [Nat.min_eq_left h]
  · rw [Nat.min_eq_right (by omega), List.take_length, List.take_of_length_le (by omega)]
theorem cut_part {xs : List V} {lo hi : Option Int} : ∀ x ∈ cutV xs lo hi, x ∈ xs := fun x hx => List.mem_of_mem_drop (List.mem_of_mem_take hx)
theorem cut_nats {ns : List Nat} {lo hi : Option Int} : ∃ ms : List Nat, cutV (ns.map nV) lo hi = ms.map nV ∧ ms.length ≤ ns.length ∧ ∀ x ∈ ms, x ∈ ns := by
  refine ⟨(ns.drop (HT.sIx (ns.map nV).length 0 lo)).take (HT.sIx (ns.map nV).length (ns.map nV).length hi - HT.sIx (ns.map nV).length 0 lo), ?_, ?_, fun x hx => List.mem_of_mem_drop (List.mem_of_mem_take hx)⟩
  · unfold cutV
    rw [List.map_take, List.map_drop]
  · rw [List.length_take, List.length_drop]
    omega
/-! ### ways -/
def PairAt (H : Hp) (t : Addr) (k : Nat) (ns : List Nat) : Prop := ∃ g : Addr, H t = some (.tup [nV k, .ref g]) ∧ H g = some (.tup (ns.map nV))
theorem PairAt.keep {H H' : Hp} {t : Addr} {k : Nat} {ns : List Nat} (h : PairAt H t k ns) (s : TK H H') : PairAt H' t k ns := by
  obtain ⟨g, e1, e2⟩ := h
  exact ⟨g, s _ _ e1, s _ _ e2⟩
def momH (hs : List HR) (k : Nat) : Int := match hs[k]? with | some h => h.mom | none => 0
def trB (bs : List BR) (n : Nat) : Int := match bs[n]? with | some b => (b.th.length : Int) | none => 0
def toB (bs : List BR) (n : Nat) : Nat := match bs[n]? with | some b => b.to | none => 0
def wayEnd (bs : List BR) : Nat → List Nat → Option Nat
  | k, [] => some k
  | k, n :: ns => match bs[n]? with | some b => if b.one = k then wayEnd bs b.to ns else none | none => none
theorem wayEnd_cons {bs : List BR} {n k : Nat} {b : BR} {ns : List Nat} (e : bs[n]? = some b) : wayEnd bs k (n :: ns) = if b.one = k then wayEnd bs b.to ns else none := by
  show (match bs[n]? with | some b => if b.one = k then wayEnd bs b.to ns else none | none => none) = _
  rw [e]
theorem drop_at {α : Type} {ns : List α} {i : Nat} {n : α} (e : ns[i]? = some n) : ns.drop i = n :: ns.drop (i + 1) := by
  obtain ⟨h, z⟩ := List.getElem?_eq_some_iff.mp e
  rw [List.drop_eq_getElem_cons h, z]
def onV : Option Nat → V
  | none => .non
  | some k => nV k
theorem nats_at {ns : List Nat} {i : Nat} {x : V} (h : (ns.map nV)[i]? = some x) : ∃ n : Nat, ns[i]? = some n ∧ x = nV n := by
  rw [List.getElem?_map] at h
  cases e : ns[i]? with
  | none => rw [e] at h; cases h
  | some n => rw [e] at h; exact ⟨n, rfl, (Option.some.inj h).symm⟩
section
variable {P : Program} {w : World} {K : PySem.W.Frag} {mg : Str → Option Value} {base : Heap}
def sp_way_end (K : PySem.W.Frag) : Sp := fun vs H Q _ => ∃ (r t : Addr) (hs : List HR) (bs : List BR) (k : Nat) (ns : List Nat), vs = [.ref r, .ref t] ∧ RoomAt H r hs bs ∧ PairAt H t k ns ∧ k < hs.length ∧ (∀ n ∈ ns, n < bs.length) ∧ ∀ H', Same H H' → Q (onV (wayEnd bs k ns)) H'
def sp_law_end (K : PySem.W.Frag) : Sp := sp_way_end K
theorem ok_law_end {f : Addr} {fd : FuncData} (F : Fun K "_law_end" "_law_end" s_law_end f fd) (T : Top K mg) : FnOk P w K mg base CX0 1 f fd ["_law_room_here", "_law_pair"] (sp_law_end K) := by
  refine F.ok sc_law_end (fun vs H Q E h => ?_) (fun cdv A outer s H vs Q E hr h => ?_)
  · obtain ⟨r, t, hs, bs, k, ns, rfl, _⟩ := h
    rfl
  obtain ⟨r, t, hs, bs, k, ns, rfl, hR, ⟨g, et, eg⟩, hk, hn, q⟩ := h
  obtain ⟨ha, ba, hv, bv, er, eh, eb, alh, alb⟩ := hR.ex
  have lbv := alb.length
  refine ⟨_, (pss_cons (ps_set (i := 2) sc_law_end.nd rfl (Or.inl rfl) (pe_ix (ix_tupK K rfl) (pv 1) pe_int (fun _ _ => rfl)))
      (pss_cons (ps_for PassesOwn.never rfl (pi_tupK K rfl (pe_ix (ix_tupK K rfl) (pv 1) pe_int (fun _ _ => rfl))) (pg_name (i := 3) sc_law_end.nd rfl (Or.inl rfl))
        (pss_cons (ps_asg (pe_ix (ix_tupK K rfl) (pe_ix (ix_tupK K rfl) (pv 0) pe_int (fun _ _ => rfl)) (pv 3) (fun _ _ => rfl)) (pg_tupK K rfl rfl (pgs_cons (pg_name (i := 4) sc_law_end.nd rfl (Or.inl rfl)) (pgs_cons (pg_name (i := 5) sc_law_end.nd rfl (Or.inl rfl)) (pgs_cons (pg_name (i := 6) sc_law_end.nd rfl (Or.inl rfl)) pgs_nil)))))
      (pss_cons (ps_if (pt_cmpR op_ne (pv 4) (pv 2) (nomark _)) (pss_one (ps_ret pe_non)) pss_nil)
      (pss_one (ps_set (i := 2) sc_law_end.nd rfl (Or.inl rfl) (pv 5))))))
      (pss_one (ps_ret (pv 2))))), ?_⟩
  refine ⟨_, rfl, t, _, _, _, rfl, rfl, SqT.of et, atI_nat (j := 0) rfl, ?_⟩
  refine ⟨_, rfl, t, _, _, _, rfl, rfl, SqT.of et, atI_nat (j := 1) rfl, g, rfl, ⟨_, SqT.of eg⟩, for_tup (K := K) (a := g) (xs := ns.map nV) (fun i σ H2 => ∃ (cur : Nat) (v3 v4 v5 v6 : Option V), σ = [some (.ref r), some (.ref t), some (nV cur), v3, v4, v5, v6] ∧ wayEnd bs k ns = wayEnd bs cur (ns.drop i) ∧ Same H H2)
    ⟨k, none, none, none, none, rfl, rfl, Same.refl _⟩ (fun i σ H2 _ ⟨_, _, _, _, _, _, _, s2⟩ => SqT.of (s2 _ _ eg)) ?_ ?_⟩
  · rintro i x σ H2 hx ⟨cur, v3, v4, v5, v6, rfl, hw, s2⟩
    obtain ⟨n, en, rfl⟩ := nats_at hx
    have nb := hn n (List.mem_of_getElem? en)
    have ebn : bs[n]? = some bs[n] := List.getElem?_eq_getElem nb
    obtain ⟨x, ex, ⟨t2, g2, rfl, e1, e2⟩⟩ := alb.get ebn
    rw [drop_at en, wayEnd_cons ebn] at hw
    refine ⟨_, rfl, r, _, _, _, rfl, rfl, SqT.of (s2 _ _ er), atI_nat (j := 1) rfl, _, rfl, ba, _, _, _, rfl, rfl, SqT.of (s2 _ _ eb), atI_nat ex, t2, _, rfl, SqT.of (s2 _ _ e1), rfl, _, _, rfl, _, _, rfl, _, _, rfl, rfl, ?_⟩
    refine ⟨_, rfl, _, rfl, rfl, _, rfl, ?_⟩
    by_cases c : bs[n].one = cur
    · rw [decide_eq_true (show nV bs[n].one = nV cur by rw [c])]
      rw [if_pos c] at hw
      exact if_bl (fun z => nomatch z) (fun _ => ⟨_, rfl, _, _, _, _, _, rfl, hw, s2⟩)
    · rw [decide_eq_false (show ¬ nV bs[n].one = nV cur from fun z => c (by have := V.int.inj z; omega))]
      rw [if_neg c] at hw
      refine if_bl (fun _ => ?_) (fun z => nomatch z)
      have := q _ s2
      rw [hw] at this
      exact this
  · rintro σ H2 ⟨cur, v3, v4, v5, v6, rfl, hw, s2⟩
    rw [List.length_map, List.drop_length] at hw
    have := q _ s2
    rw [hw] at this
    exact ⟨_, rfl, this⟩
def sp_trays_on (K : PySem.W.Frag) : Sp := fun vs H Q _ => ∃ (r t : Addr) (hs : List HR) (bs : List BR) (k : Nat) (ns : List Nat), vs = [.ref r, .ref t] ∧ RoomAt H r hs bs ∧ PairAt H t k ns ∧ (∀ n ∈ ns, n < bs.length) ∧ ns.length ≤ 400 ∧ ∀ H', Same H H' → Q (.int (ns.map (trB bs)).sum) H'
def sp_law_trays (K : PySem.W.Frag) : Sp := sp_trays_on K
theorem ok_law_trays {f : Addr} {fd : FuncData} (F : Fun K "_law_trays" "_law_trays" s_law_trays f fd) (T : Top K mg) : FnOk P w K mg base CX0 1 f fd ["_law_room_here", "_law_way"] (sp_law_trays K) := by
  refine F.ok sc_law_trays (fun vs H Q E h => ?_) (fun cdv A outer s H vs Q E hr h => ?_)
  · obtain ⟨r, t, hs, bs, k, ns, rfl, _⟩ := h
    rfl
  obtain ⟨r, t, hs, bs, k, ns, rfl, hR, ⟨g, et, eg⟩, hn, ln, q⟩ := h
  obtain ⟨ha, ba, hv, bv, er, eh, eb, alh, alb⟩ := hR.ex
  refine ⟨_, (pss_one (ps_ret (pe_callB (cr_sumK K rfl rfl) (by rfl) T.m_sum (by decide +kernel) (pa_cons (pe_lc (own := [("_law_b", 2)]) (g := gName 2) (tt := tYes) (by rfl) sc_law_trays.nd (pi_tupK K rfl (pe_ix (ix_tupK K rfl) (pv 1) pe_int (fun _ _ => rfl))) (blkOk_by (own := [("_law_b", 2)]) (N := N_law_trays) (sc := defScope s_law_trays) (by decide +kernel)) (fun _ _ _ _ _ => (pg_name (i := 2) sc_law_trays.nd rfl (Or.inl rfl))) (fun _ _ _ _ _ => pts_nil) (fun _ _ _ _ _ => (pe_callB (call_len_seqK K rfl) (by rfl) T.m_len (by decide +kernel) (pa_cons (pe_ix (ix_tupK K rfl) (pe_ix (ix_tupK K rfl) (pe_ix (ix_tupK K rfl) (pv 0) pe_int (fun _ _ => rfl)) (pv 2) (fun _ _ => rfl)) pe_int (fun _ _ => rfl)) pa_nil)))) pa_nil)))), ?_⟩
  refine ⟨_, rfl, t, _, _, _, rfl, rfl, SqT.of et, atI_nat (j := 1) rfl, g, rfl, ⟨_, SqT.of eg⟩, fun D nD => lc_tup (K := K) (a := g) (xs := ns.map nV) (fun i H5 => H5 D = some (.lst (((ns.take i).map (trB bs)).map V.int)) ∧ Same H H5) ⟨upd_same, same_new nD⟩ (fun i H5 _ ⟨_, s5⟩ => SqT.of (s5 _ _ eg)) ?_ ?_⟩
  · rintro i x H5 hx ⟨hD, s5⟩
    obtain ⟨n, en, rfl⟩ := nats_at hx
    have il := (List.getElem?_eq_some_iff.mp en).1
    have nb := hn n (List.mem_of_getElem? en)
    have ebn : bs[n]? = some bs[n] := List.getElem?_eq_getElem nb
    obtain ⟨x, ex, ⟨t2, g2, rfl, e1, e2⟩⟩ := alb.get ebn
    refine ⟨rfl, yes_in ⟨_, rfl, r, _, _, _, rfl, rfl, SqT.of (s5 _ _ er), atI_nat (j := 1) rfl, _, rfl, ba, _, _, _, rfl, rfl, SqT.of (s5 _ _ eb), atI_nat ex, t2, _, _, _, rfl, rfl, SqT.of (s5 _ _ e1), atI_nat (j := 2) rfl, g2, _, rfl, .inr (SqT.of (s5 _ _ e2)), _, hD, ?_, ?_, Same.own s5 nD⟩⟩
    · rw [List.length_map, List.length_map, List.length_take]; exact small1000 (by omega)
    · rw [upd_same, List.take_add_one, en, List.map_append, List.map_append, List.length_map]
      show _ = some (HO.lst (_ ++ [V.int (trB bs n)]))
      unfold trB
      rw [ebn]
  · rintro H5 ⟨hD, s5⟩
    rw [List.length_map, List.take_length] at hD
    exact ⟨D, _, rfl, SqL.of hD, q _ s5⟩
def momW (hs : List HR) (bs : List BR) (k : Nat) (ns : List Nat) : Int := momH hs k + (ns.map fun n => momH hs (toB bs n)).sum
def sp_moments_on (K : PySem.W.Frag) : Sp := fun vs H Q _ => ∃ (r t : Addr) (hs : List HR) (bs : List BR) (k : Nat) (ns : List Nat), vs = [.ref r, .ref t] ∧ RoomAt H r hs bs ∧ (∀ b ∈ bs, b.to < hs.length) ∧ PairAt H t k ns ∧ k < hs.length ∧ (∀ n ∈ ns, n < bs.length) ∧ ns.length ≤ 400 ∧ ∀ H', Same H H' → Q (.int (momW hs bs k ns)) H'
def sp_law_moments (K : PySem.W.Frag) : Sp := sp_moments_on K
theorem ok_law_moments {f : Addr} {fd : FuncData} (F : Fun K "_law_moments" "_law_moments" s_law_moments f fd) (T : Top K mg) : FnOk P w K mg base CX0 1 f fd ["_law_room_here", "_law_way"] (sp_law_moments K) := by
  refine F.ok sc_law_moments (fun vs H Q E h => ?_) (fun cdv A outer s H vs Q E hr h => ?_)
  · obtain ⟨r, t, hs, bs, k, ns, rfl, _⟩ := h
    rfl
  obtain ⟨r, t, hs, bs, k, ns, rfl, hR, hto, ⟨g, et, eg⟩, hk, hn, ln, q⟩ := h
  obtain ⟨ha, ba, hv, bv, er, eh, eb, alh, alb⟩ := hR.ex
  refine ⟨_, (pss_one (ps_ret (pe_callB (cr_sumK K rfl rfl) (by rfl) T.m_sum (by decide +kernel) (pa_cons (pe_lc (own := [("_law_k", 2)]) (g := gName 2) (tt := tYes) (by rfl) sc_law_moments.nd (pi_listK K rfl (pe_op op_cat (pe_lst (pa_cons (pe_ix (ix_tupK K rfl) (pv 1) pe_int (fun _ _ => rfl)) pa_nil)) (pe_lc (own := [("_law_b", 3)]) (g := gName 3) (tt := tYes) (by rfl) sc_law_moments.nd (pi_tupK K rfl (pe_ix (ix_tupK K rfl) (pv 1) pe_int (fun _ _ => rfl))) (blkOk_by (own := [("_law_b", 3)]) (N := N_law_moments) (sc := defScope s_law_moments) (by decide +kernel)) (fun _ _ _ _ _ => (pg_name (i := 3) sc_law_moments.nd rfl (Or.inl rfl))) (fun _ _ _ _ _ => pts_nil) (fun _ _ _ _ _ => (pe_ix (ix_tupK K rfl) (pe_ix (ix_tupK K rfl) (pe_ix (ix_tupK K rfl) (pv 0) pe_int (fun _ _ => rfl)) (pv 3) (fun _ _ => rfl)) pe_int (fun _ _ => rfl)))))) (blkOk_by (own := [("_law_k", 2)]) (N := N_law_moments) (sc := defScope s_law_moments) (by decide +kernel)) (fun _ _ _ _ _ => (pg_name (i := 2) sc_law_moments.nd rfl (Or.inl rfl))) (fun _ _ _ _ _ => pts_nil) (fun _ _ _ _ _ => (pe_ix (ix_tupK K rfl) (pe_ix (ix_tupK K rfl) (pe_ix (ix_tupK K rfl) (pv 0) pe_int (fun _ _ => rfl)) (pv 2) (fun _ _ => rfl)) pe_int (fun _ _ => rfl)))) pa_nil)))), ?_⟩
  refine ⟨_, rfl, t, _, _, _, rfl, rfl, SqT.of et, atI_nat (j := 0) rfl, (by show 1 ≤ sizeLine; decide), fun l1 nl1 => ?_⟩
  have s1 := same_new (o := .lst [nV k]) nl1
  refine ⟨_, rfl, t, _, _, _, rfl, rfl, SqT.of (s1 _ _ et), atI_nat (j := 1) rfl, g, rfl, ⟨_, SqT.of (s1 _ _ eg)⟩, fun D nD => lc_tup (K := K) (a := g) (xs := ns.map nV) (fun i H5 => H5 D = some (.lst (((ns.take i).map (toB bs)).map nV)) ∧ Same (upd H l1 (.lst [nV k])) H5) ⟨upd_same, same_new nD⟩ (fun i H5 _ ⟨_, s5⟩ => SqT.of (s5 _ _ (s1 _ _ eg))) ?_ ?_⟩
  · rintro i x H5 hx ⟨hD, s5⟩
    obtain ⟨n, en, rfl⟩ := nats_at hx
    have il := (List.getElem?_eq_some_iff.mp en).1
    have nb := hn n (List.mem_of_getElem? en)
    have ebn : bs[n]? = some bs[n] := List.getElem?_eq_getElem nb
    obtain ⟨x, ex, ⟨t2, g2, rfl, e1, e2⟩⟩ := alb.get ebn
    have s6 := s1.trans s5
    refine ⟨rfl, yes_in ⟨_, rfl, r, _, _, _, rfl, rfl, SqT.of (s6 _ _ er), atI_nat (j := 1) rfl, _, rfl, ba, _, _, _, rfl, rfl, SqT.of (s6 _ _ eb), atI_nat ex, t2, _, _, _, rfl, rfl, SqT.of (s6 _ _ e1), atI_nat (j := 1) rfl, _, hD, ?_, ?_, Same.own s5 nD⟩⟩
    · rw [List.length_map, List.length_map, List.length_take]; exact small1000 (by omega)
    · rw [upd_same, List.take_add_one, en, List.map_append, List.map_append]
      show _ = some (HO.lst (_ ++ [nV (toB bs n)]))
      unfold toB
      rw [ebn]
  · rintro H5 ⟨hD, s5⟩
    rw [List.length_map, List.take_length] at hD
    refine ⟨l1, D, _, _, rfl, rfl, s5 _ _ upd_same, hD, ?_, fun l2 nl2 => ?_⟩
    · rw [List.length_map, List.length_map]; exact little (by show 1 + _ ≤ _; omega)
    have s7 := (s1.trans s5).trans (same_new (o := .lst ([nV k] ++ (ns.map (toB bs)).map nV)) nl2)
    refine ⟨l2, rfl, ⟨_, SqL.of upd_same⟩, fun D2 nD2 => lc_list (K := K) (a := l2) (xs := (k :: ns.map (toB bs)).map nV) (fun i H6 => H6 D2 = some (.lst ((((k :: ns.map (toB bs)).take i).map (momH hs)).map V.int)) ∧ Same (upd H5 l2 (.lst ([nV k] ++ (ns.map (toB bs)).map nV))) H6) ⟨upd_same, same_new nD2⟩ (fun i H6 _ ⟨_, s6⟩ => SqL.of (s6 _ _ upd_same)) ?_ ?_⟩
    · rintro i x H6 hx ⟨hD2, s6⟩
      obtain ⟨n, en, rfl⟩ := nats_at hx
      have il := (List.getElem?_eq_some_iff.mp en).1
      have nl : n < hs.length := by
        rcases List.mem_cons.mp (List.mem_of_getElem? en) with z | z
        · rw [z]; exact hk
        · obtain ⟨b, hb, rfl⟩ := List.mem_map.mp z
          unfold toB
          rw [List.getElem?_eq_getElem (hn b hb)]
          exact hto _ (List.getElem_mem _)
      have ehn : hs[n]? = some hs[n] := List.getElem?_eq_getElem nl
      obtain ⟨y, ey, ⟨t3, r3, rfl, e31, e32⟩⟩ := alh.get ehn
      have s8 := s7.trans s6
      refine ⟨rfl, yes_in ⟨_, rfl, r, _, _, _, rfl, rfl, SqT.of (s8 _ _ er), atI_nat (j := 0) rfl, _, rfl, ha, _, _, _, rfl, rfl, SqT.of (s8 _ _ eh), atI_nat ey, t3, _, _, _, rfl, rfl, SqT.of (s8 _ _ e31), atI_nat (j := 1) rfl, _, hD2, ?_, ?_, Same.own s6 nD2⟩⟩
      · rw [List.length_map, List.length_map, List.length_take]
        rw [List.length_cons, List.length_map] at il
        exact small1000 (by omega)
      · rw [upd_same, List.take_add_one, en, List.map_append, List.map_append]
        show _ = some (HO.lst (_ ++ [V.int (momH hs n)]))
        unfold momH
        rw [ehn]
    · rintro H6 ⟨hD2, s6⟩
      rw [List.length_map, List.take_length] at hD2
      refine ⟨D2, _, rfl, SqL.of hD2, ?_⟩
      have := q _ (s7.trans s6)
      unfold momW at this
      rw [List.map_cons, List.sum_cons, List.map_map]
      exact this
end
/-! ### the least ways: mathematics -/
abbrev Co := Int × Int
def coLe (a b : Co) : Prop := a.1 < b.1 ∨ (a.1 = b.1 ∧ b.2 ≤ a.2)
def coLt (a b : Co) : Prop := a.1 < b.1 ∨ (a.1 = b.1 ∧ b.2 < a.2)
instance {a b : Co} : Decidable (coLt a b) := by unfold coLt; infer_instance
theorem coLe.refl (a : Co) : coLe a a := .inr ⟨rfl, Int.le_refl _⟩
theorem coLe.trans {a b c : Co} (h : coLe a b) (g : coLe b c) : coLe a c := by
  unfold coLe at *
  omega
theorem coLe.antisymm {a b : Co} (h : coLe a b) (g : coLe b a) : a = b := by
  unfold coLe at *
  have : a.1 = b.1 ∧ a.2 = b.2 := by omega
  exact Prod.ext this.1 this.2
theorem coLe_of_not {a b : Co} (h : ¬ coLt a b) : coLe b a := by
  unfold coLe coLt at *
  omega
theorem coLt.le {a b : Co} (h : coLt a b) : coLe a b := by
  unfold coLe coLt at *
  omega
theorem coLt.not_le {a b : Co} (h : coLt a b) : ¬ coLe b a := by
  unfold coLe coLt at *
  omega
def coAdd (hs : List HR) (c : Co) (b : BR) : Co := (c.1 + (b.th.length : Int), c.2 + momH hs b.to)
theorem coAdd_mono {hs : List HR} {c d : Co} {b : BR} (h : coLe c d) : coLe (coAdd hs c b) (coAdd hs d b) := by
  unfold coLe coAdd at *
  dsimp only
  omega
def wayCo (hs : List HR) (bs : List BR) (k : Nat) (ns : List Nat) : Co := ((ns.map (trB bs)).sum, momW hs bs k ns)
theorem wayEnd_append {bs : List BR} : ∀ {k : Nat} {ns ms : List Nat}, wayEnd bs k (ns ++ ms) = (wayEnd bs k ns).bind fun e => wayEnd bs e ms
  | k, [], ms => rfl
  | k, n :: ns, ms => by
    show (match bs[n]? with | some b => if b.one = k then wayEnd bs b.to (ns ++ ms) else none | none => none) = Option.bind (match bs[n]? with | some b => if b.one = k then wayEnd bs b.to ns else none | none => none) _
    cases bs[n]? with
    | none => rfl
    | some b =>
      dsimp only
      by_cases h : b.one = k
      · rw [if_pos h, if_pos h, wayEnd_append]
      · rw [if_neg h, if_neg h]; rfl
theorem wayEnd_snoc {bs : List BR} {k e n : Nat} {ns : List Nat} {b : BR} (h : wayEnd bs k ns = some e) (eb : bs[n]? = some b) (ho : b.one = e) : wayEnd bs k (ns ++ [n]) = some b.to := by
  rw [wayEnd_append, h]
  show wayEnd bs e [n] = _
  rw [wayEnd_cons eb, if_pos ho]
  rfl
theorem wayEnd_unsnoc {bs : List BR} {k e n : Nat} {ns : List Nat} (h : wayEnd bs k (ns ++ [n]) = some e) : ∃ b, bs[n]? = some b ∧ wayEnd bs k ns = some b.one ∧ b.to = e := by
  rw [wayEnd_append] at h
  cases hk : wayEnd bs k ns with
  | none => rw [hk] at h; cases h
  | some d =>
    rw [hk] at h
    have h : wayEnd bs d [n] = some e := h
    cases eb : bs[n]? with
    | none =>
      have : wayEnd bs d [n] = none := by
        show (match bs[n]? with | some b => if b.one = d then wayEnd bs b.to [] else none | none => none) = none
        rw [eb]
      rw [this] at h; cases h
    | some b =>
      rw [wayEnd_cons eb] at h
      by_cases z : b.one = d
      · rw [if_pos z] at h
        exact ⟨b, rfl, by rw [z], Option.some.inj h⟩
      · rw [if_neg z] at h; cases h
theorem wayCo_snoc {hs : List HR} {bs : List BR} {k n : Nat} {ns : List Nat} {b : BR} (eb : bs[n]? = some b) : wayCo hs bs k (ns ++ [n]) = coAdd hs (wayCo hs bs k ns) b := by
  unfold wayCo coAdd momW
  rw [List.map_append, List.map_append, List.sum_append, List.sum_append]
  have h1 : trB bs n = (b.th.length : Int) := by unfold trB; rw [eb]
  have h2 : toB bs n = b.to := by unfold toB; rw [eb]
  simp only [List.map_cons, List.map_nil, List.sum_cons, List.sum_nil]
  rw [h1, h2]
  refine Prod.ext ?_ ?_
  · show _ + (_ + 0) = _ + _
    omega
  · show _ + (_ + (_ + 0)) = _ + _ + _
    omega
/-- a way without trays goes up in rank -/
theorem way_rank {bs : List BR} {rk : Nat → Int} (hrk : ∀ b ∈ bs, b.th = [] → rk b.one < rk b.to) : ∀ {ns : List Nat} {k e : Nat}, wayEnd bs k ns = some e → 0 ≤ (ns.map (trB bs)).sum ∧ ((ns.map (trB bs)).sum = 0 → (ns = [] ∧ e = k) ∨ rk k < rk e)
  | [], k, e, h => ⟨Int.le_refl _, fun _ => .inl ⟨rfl, (Option.some.inj h).symm⟩⟩
  | n :: ns, k, e, h => by
    cases eb : bs[n]? with
    | none =>
      have : wayEnd bs k (n :: ns) = none := by
        show (match bs[n]? with | some b => if b.one = k then wayEnd bs b.to ns else none | none => none) = none
        rw [eb]
      rw [this] at h; cases h
    | some b =>
      rw [wayEnd_cons eb] at h
      by_cases z : b.one = k
      · rw [if_pos z] at h
        have ih := way_rank hrk h
        have h1 : trB bs n = (b.th.length : Int) := by unfold trB; rw [eb]
        rw [List.map_cons, List.sum_cons, h1]
        refine ⟨by omega, fun t => .inr ?_⟩
        have bt : b.th = [] := List.length_eq_zero_iff.mp (by omega)
        have r1 := hrk b (List.mem_of_getElem? eb) bt
        rw [z] at r1
        rcases ih.2 (by omega) with ⟨_, r2⟩ | r2
        · rw [r2]; exact r1
        · omega
      · rw [if_neg z] at h; cases h
theorem way_closed {bs : List BR} {rk : Nat → Int} (hrk : ∀ b ∈ bs, b.th = [] → rk b.one < rk b.to) {ns : List Nat} {k : Nat} (h : wayEnd bs k ns = some k) (hn : ns ≠ []) : 1 ≤ (ns.map (trB bs)).sum := by
  obtain ⟨h0, h1⟩ := way_rank hrk h
  by_cases z : (ns.map (trB bs)).sum = 0
  · rcases h1 z with ⟨e, _⟩ | e
    · exact absurd e hn
    · omega
  · omega
theorem nodup_len : ∀ (n : Nat) (l : List Nat), l.Nodup → (∀ x ∈ l, x < n) → l.length ≤ n
  | 0, l, _, h => by
    cases l with
    | nil => exact Nat.le_refl _
    | cons a l => exact absurd (h a (List.mem_cons_self ..)) (Nat.not_lt_zero _)
  | n + 1, l, nd, h => by
    by_cases m : n ∈ l
    · have ih := nodup_len n (l.erase n) (nd.erase n) fun x hx => by
        have hx := (List.Nodup.mem_erase_iff nd).mp hx
        have := h x hx.2
        have := hx.1
        omega
      rw [List.length_erase_of_mem m] at ih
      omega
    · have ih := nodup_len n l nd fun x hx => by
        have h1 := h x hx
        have : x ≠ n := fun z => m (z ▸ hx)
        omega
      omega
theorem pigeon {n : Nat} {g : Nat → Nat} {m : Nat} (h : ∀ i, i < m → g i < n) (hm : n < m) : ∃ i j, i < j ∧ j < m ∧ g i = g j := by
  refine Classical.byContradiction fun no => ?_
  have nd : ((List.range m).map g).Nodup := by
    unfold List.Nodup
    rw [List.pairwise_map]
    exact List.Pairwise.imp_of_mem (fun ha hb lt e => no ⟨_, _, lt, List.mem_range.mp hb, e⟩) List.pairwise_lt_range
  have := nodup_len n _ nd fun x hx => by
    obtain ⟨i, hi, rfl⟩ := List.mem_map.mp hx
    exact h i (List.mem_range.mp hi)
  rw [List.length_map, List.length_range] at this
  omega
theorem way_lt {bs : List BR} {n : Nat} (hto : ∀ b ∈ bs, b.to < n) : ∀ {ns : List Nat} {k e : Nat}, k < n → wayEnd bs k ns = some e → e < n
  | [], k, e, hk, h => by cases h; exact hk
  | m :: ns, k, e, hk, h => by
    cases eb : bs[m]? with
    | none =>
      have : wayEnd bs k (m :: ns) = none := by
        show (match bs[m]? with | some b => if b.one = k then wayEnd bs b.to ns else none | none => none) = none
        rw [eb]
      rw [this] at h; cases h
    | some b =>
      rw [wayEnd_cons eb] at h
      by_cases z : b.one = k
      · rw [if_pos z] at h; exact way_lt hto (hto b (List.mem_of_getElem? eb)) h
      · rw [if_neg z] at h; cases h
/-- each way has one with few belts that is no worse -/
theorem way_short {hs : List HR} {bs : List BR} {rk : Nat → Int} {n one : Nat} (hrk : ∀ b ∈ bs, b.th = [] → rk b.one < rk b.to) (hto : ∀ b ∈ bs, b.to < n) (ho : one < n) : ∀ (m : Nat) (ns : List Nat) (k : Nat), ns.length ≤ m → wayEnd bs one ns = some k → ∃ ms : List Nat, ms.length ≤ n ∧ wayEnd bs one ms = some k ∧ coLe (wayCo hs bs one ms) (wayCo hs bs one ns)
  | 0, ns, k, hm, h => ⟨ns, by omega, h, coLe.refl _⟩
  | m + 1, ns, k, hm, h => by
    by_cases short : ns.length ≤ n
    · exact ⟨ns, short, h, coLe.refl _⟩
    have ends : ∀ i, ∃ e, wayEnd bs one (ns.take i) = some e ∧ wayEnd bs e (ns.drop i) = some k := fun i => by
      have := h
      rw [← List.take_append_drop i ns, wayEnd_append] at this
      cases z : wayEnd bs one (ns.take i) with
      | none => rw [z] at this; cases this
      | some e => rw [z] at this; exact ⟨e, rfl, this⟩
    obtain ⟨i, j, ij, jl, e⟩ := pigeon (n := n) (g := fun i => (wayEnd bs one (ns.take i)).getD 0) (m := ns.length) (fun i _ => by
      obtain ⟨e, h1, _⟩ := ends i
      rw [h1]
      exact way_lt hto ho h1) (by omega)
    obtain ⟨e1, a1, a2⟩ := ends i
    obtain ⟨e2, b1, b2⟩ := ends j
    rw [a1, b1] at e
    have e : e1 = e2 := e
    subst e
    -- the ring between
    have part : ns.take j = ns.take i ++ (ns.drop i).take (j - i) := by
      rw [show j = i + (j - i) by omega, List.take_add, show i + (j - i) - i = j - i by omega]
    have ring : wayEnd bs e1 ((ns.drop i).take (j - i)) = some e1 := by
      rw [part, wayEnd_append, a1] at b1
      exact b1
    have rne : (ns.drop i).take (j - i) ≠ [] := fun z => by
      have := congrArg List.length z
      rw [List.length_take, List.length_drop] at this
      have : min (j - i) (ns.length - i) = 0 := this
      omega
    have r1 := way_closed hrk ring rne
    have new : wayEnd bs one (ns.take i ++ ns.drop j) = some k := by
      rw [wayEnd_append, a1]
      exact b2
    obtain ⟨ms, l1, l2, l3⟩ := way_short hrk hto ho m (ns.take i ++ ns.drop j) k (by rw [List.length_append, List.length_take, List.length_drop]; omega) new
    refine ⟨ms, l1, l2, l3.trans (.inl ?_)⟩
    show ((ns.take i ++ ns.drop j).map (trB bs)).sum < (ns.map (trB bs)).sum
    have : (ns.map (trB bs)).sum = ((ns.take i).map (trB bs)).sum + (((ns.drop i).take (j - i)).map (trB bs)).sum + ((ns.drop j).map (trB bs)).sum := by
      rw [← List.sum_append, ← List.map_append, ← part, ← List.sum_append, ← List.map_append, List.take_append_drop]
    rw [this, List.map_append, List.sum_append]
    omega
/-- one belt looked at -/
def relax (hs : List HR) (cf : Nat → Option Co) (b : BR) : Nat → Option Co := match cf b.one with
  | none => cf
  | some c => match cf b.to with
    | none => fun k => if k = b.to then some (coAdd hs c b) else cf k
    | some d => if coLt (coAdd hs c b) d then fun k => if k = b.to then some (coAdd hs c b) else cf k else cf
theorem relax_none {hs : List HR} {cf : Nat → Option Co} {b : BR} (h : cf b.one = none) : relax hs cf b = cf := by unfold relax; rw [h]
theorem relax_new {hs : List HR} {cf : Nat → Option Co} {b : BR} {c : Co} (h : cf b.one = some c) (g : cf b.to = none) : relax hs cf b = fun k => if k = b.to then some (coAdd hs c b) else cf k := by unfold relax; rw [h]; dsimp only; rw [g]
theorem relax_lt {hs : List HR} {cf : Nat → Option Co} {b : BR} {c d : Co} (h : cf b.one = some c) (g : cf b.to = some d) (l : coLt (coAdd hs c b) d) : relax hs cf b = fun k => if k = b.to then some (coAdd hs c b) else cf k := by unfold relax; rw [h]; dsimp only; rw [g]; dsimp only; rw [if_pos l]
theorem relax_ge {hs : List HR} {cf : Nat → Option Co} {b : BR} {c d : Co} (h : cf b.one = some c) (g : cf b.to = some d) (l : ¬ coLt (coAdd hs c b) d) : relax hs cf b = cf := by unfold relax; rw [h]; dsimp only; rw [g]; dsimp only; rw [if_neg l]
/-- what is set, or nothing -/
theorem relax_cases (hs : List HR) (cf : Nat → Option Co) (b : BR) : (relax hs cf b = cf ∧ ∀ c, cf b.one = some c → ∃ d, cf b.to = some d ∧ coLe d (coAdd hs c b)) ∨
    ∃ c, cf b.one = some c ∧ (relax hs cf b = fun k => if k = b.to then some (coAdd hs c b) else cf k) ∧ ∀ d, cf b.to = some d → coLt (coAdd hs c b) d := by
  cases h : cf b.one with
  | none => exact .inl ⟨relax_none h, fun c z => nomatch z⟩
  | some c =>
    cases g : cf b.to with
    | none => exact .inr ⟨c, rfl, relax_new h g, fun d z => nomatch z⟩
    | some d =>
      by_cases l : coLt (coAdd hs c b) d
      · exact .inr ⟨c, rfl, relax_lt h g l, fun d' z => by cases z; exact l⟩
      · exact .inl ⟨relax_ge h g l, fun c' z => ⟨d, rfl, by cases z; exact coLe_of_not l⟩⟩
theorem relax_mono {hs : List HR} {cf : Nat → Option Co} {b : BR} {k : Nat} {c : Co} (h : cf k = some c) : ∃ d, relax hs cf b k = some d ∧ coLe d c := by
  rcases relax_cases hs cf b with ⟨e, _⟩ | ⟨c', h1, e, l⟩
  · rw [e]; exact ⟨c, h, coLe.refl _⟩
  · rw [e]
    by_cases z : k = b.to
    · exact ⟨_, if_pos z, (l c (z ▸ h)).le⟩
    · exact ⟨c, (if_neg z).trans h, coLe.refl _⟩
theorem relax_done {hs : List HR} {cf : Nat → Option Co} {b : BR} {c : Co} (h : cf b.one = some c) : ∃ d, relax hs cf b b.to = some d ∧ coLe d (coAdd hs c b) := by
  rcases relax_cases hs cf b with ⟨e, g⟩ | ⟨c', h1, e, l⟩
  · rw [e]; exact g c h
  · rw [h] at h1
    cases h1
    rw [e]
    exact ⟨_, if_pos rfl, coLe.refl _⟩
abbrev roundF (hs : List HR) (bs : List BR) (cf : Nat → Option Co) : Nat → Option Co := bs.foldl (relax hs) cf
theorem fold_mono {hs : List HR} {k : Nat} : ∀ {l : List BR} {cf : Nat → Option Co} {c : Co}, cf k = some c → ∃ d, l.foldl (relax hs) cf k = some d ∧ coLe d c
  | [], cf, c, h => ⟨c, h, coLe.refl _⟩
  | b :: l, cf, c, h => by
    obtain ⟨d, h1, h2⟩ := relax_mono (hs := hs) (b := b) h
    obtain ⟨e, h3, h4⟩ := fold_mono (l := l) h1
    exact ⟨e, h3, h4.trans h2⟩
theorem fold_done {hs : List HR} {b : BR} : ∀ {l : List BR} {cf : Nat → Option Co} {c : Co}, b ∈ l → cf b.one = some c → ∃ d, l.foldl (relax hs) cf b.to = some d ∧ coLe d (coAdd hs c b)
  | a :: l, cf, c, hb, h => by
    rcases List.mem_cons.mp hb with rfl | hb
    · obtain ⟨d, h1, h2⟩ := relax_done (hs := hs) h
      obtain ⟨e, h3, h4⟩ := fold_mono (l := l) h1
      exact ⟨e, h3, h4.trans h2⟩
    · obtain ⟨d, h1, h2⟩ := relax_mono (hs := hs) (b := a) h
      obtain ⟨e, h3, h4⟩ := fold_done hb h1
      exact ⟨e, h3, h4.trans (coAdd_mono h2)⟩
def Snd (hs : List HR) (bs : List BR) (one : Nat) (cf : Nat → Option Co) : Prop := ∀ k c, cf k = some c → ∃ ns, wayEnd bs one ns = some k ∧ wayCo hs bs one ns = c
def Cpl (hs : List HR) (bs : List BR) (one : Nat) (cf : Nat → Option Co) (i : Nat) : Prop := ∀ ns k, ns.length ≤ i → wayEnd bs one ns = some k → ∃ c, cf k = some c ∧ coLe c (wayCo hs bs one ns)
def Stab (hs : List HR) (bs : List BR) (cf : Nat → Option Co) : Prop := ∀ b ∈ bs, ∀ c, cf b.one = some c → ∃ d, cf b.to = some d ∧ coLe d (coAdd hs c b)
theorem Snd.relax {hs : List HR} {bs : List BR} {one : Nat} {cf : Nat → Option Co} {b : BR} (s : Snd hs bs one cf) (hb : b ∈ bs) : Snd hs bs one (Mine.relax hs cf b) := fun k c h => by
  rcases relax_cases hs cf b with ⟨e, _⟩ | ⟨c', h1, e, l⟩
  · rw [e] at h; exact s k c h
  · rw [e] at h
    by_cases z : k = b.to
    · have h : some (coAdd hs c' b) = some c := by rw [← h]; exact (if_pos z).symm
      cases h
      obtain ⟨ns, w1, w2⟩ := s b.one c' h1
      obtain ⟨n, hn⟩ := List.getElem?_of_mem hb
      exact ⟨ns ++ [n], by rw [z]; exact wayEnd_snoc w1 hn rfl, by rw [wayCo_snoc hn, w2]⟩
    · exact s k c (by rw [← h]; exact (if_neg z).symm)
theorem Snd.fold {hs : List HR} {bs : List BR} {one : Nat} : ∀ {l : List BR} {cf : Nat → Option Co}, (∀ b ∈ l, b ∈ bs) → Snd hs bs one cf → Snd hs bs one (l.foldl (Mine.relax hs) cf)
  | [], _, _, s => s
  | b :: l, _, h, s => Snd.fold (l := l) (fun x hx => h x (List.mem_cons_of_mem _ hx)) (s.relax (h b (List.mem_cons_self ..)))
theorem Cpl.round {hs : List HR} {bs : List BR} {one : Nat} {cf : Nat → Option Co} {i : Nat} (c : Cpl hs bs one cf i) : Cpl hs bs one (roundF hs bs cf) (i + 1) := fun ns k hl h => by
  rcases List.eq_nil_or_concat ns with rfl | ⟨ms, n, rfl⟩
  · obtain ⟨d, h1, h2⟩ := c [] k (Nat.zero_le _) h
    obtain ⟨e, h3, h4⟩ := fold_mono (hs := hs) (l := bs) h1
    exact ⟨e, h3, h4.trans h2⟩
  · rw [List.concat_eq_append] at h hl ⊢
    obtain ⟨b, eb, h1, rfl⟩ := wayEnd_unsnoc h
    rw [List.length_append] at hl
    obtain ⟨d, h2, h3⟩ := c ms b.one (by have : ms.length + 1 ≤ i + 1 := hl; omega) h1
    obtain ⟨e, h4, h5⟩ := fold_done (hs := hs) (List.mem_of_getElem? eb) h2
    exact ⟨e, h4, by rw [wayCo_snoc eb]; exact h5.trans (coAdd_mono h3)⟩
def cf0 (hs : List HR) (one : Nat) : Nat → Option Co := fun k => if k = one then some (0, momH hs one) else none
def cfI (hs : List HR) (bs : List BR) (one : Nat) : Nat → (Nat → Option Co)
  | 0 => cf0 hs one
  | i + 1 => roundF hs bs (cfI hs bs one i)
theorem wayCo_nil {hs : List HR} {bs : List BR} {one : Nat} : wayCo hs bs one [] = (0, momH hs one) := by
  refine Prod.ext rfl ?_
  show momH hs one + 0 = momH hs one
  omega
theorem cfI_snd {hs : List HR} {bs : List BR} {one : Nat} : ∀ i, Snd hs bs one (cfI hs bs one i)
  | 0 => fun k c h => by
    by_cases z : k = one
    · have h : some ((0 : Int), momH hs one) = some c := by rw [← h]; exact (if_pos z).symm
      exact ⟨[], by rw [z]; rfl, by rw [wayCo_nil]; exact Option.some.inj h⟩
    · have h : none = some c := by rw [← h]; exact (if_neg z).symm
      cases h
  | i + 1 => Snd.fold (fun _ h => h) (cfI_snd i)
theorem cfI_cpl {hs : List HR} {bs : List BR} {one : Nat} : ∀ i, Cpl hs bs one (cfI hs bs one i) i
  | 0 => fun ns k hl h => by
    obtain rfl : ns = [] := List.length_eq_zero_iff.mp (by omega)
    obtain rfl : one = k := Option.some.inj h
    exact ⟨(0, momH hs one), if_pos rfl, by rw [wayCo_nil]; exact coLe.refl _⟩
  | i + 1 => (cfI_cpl i).round
theorem stab_relax {hs : List HR} {bs : List BR} {cf : Nat → Option Co} {b : BR} (s : Stab hs bs cf) (hb : b ∈ bs) : relax hs cf b = cf := by
  rcases relax_cases hs cf b with ⟨e, _⟩ | ⟨c', h1, e, l⟩
  · exact e
  · obtain ⟨d, h2, h3⟩ := s b hb c' h1
    exact absurd h3 (l d h2).not_le
theorem stab_fold {hs : List HR} {bs : List BR} {cf : Nat → Option Co} (s : Stab hs bs cf) : ∀ {l : List BR}, (∀ b ∈ l, b ∈ bs) → l.foldl (relax hs) cf = cf
  | [], _ => rfl
  | b :: l, h => by
    rw [List.foldl_cons, stab_relax s (h b (List.mem_cons_self ..))]
    exact stab_fold s fun x hx => h x (List.mem_cons_of_mem _ hx)
theorem stab_at {hs : List HR} {bs : List BR} {rk : Nat → Int} {n one : Nat} (hrk : ∀ b ∈ bs, b.th = [] → rk b.one < rk b.to) (hto : ∀ b ∈ bs, b.to < n) (ho : one < n) {i : Nat} (hi : n ≤ i) : Stab hs bs (cfI hs bs one i) := fun b hb c h => by
  obtain ⟨ns, w1, w2⟩ := cfI_snd i b.one c h
  obtain ⟨m, hm⟩ := List.getElem?_of_mem hb
  obtain ⟨ms, l1, l2, l3⟩ := way_short (hs := hs) hrk hto ho _ (ns ++ [m]) b.to (Nat.le_refl _) (wayEnd_snoc w1 hm rfl)
  obtain ⟨d, h1, h2⟩ := cfI_cpl (hs := hs) i ms b.to (by omega) l2
  refine ⟨d, h1, h2.trans ?_⟩
  rw [wayCo_snoc hm, w2] at l3
  exact l3
theorem cfI_stay {hs : List HR} {bs : List BR} {one i : Nat} (s : Stab hs bs (cfI hs bs one i)) : ∀ j, cfI hs bs one (i + j) = cfI hs bs one i
  | 0 => rfl
  | j + 1 => by
    show roundF hs bs (cfI hs bs one (i + j)) = _
    rw [cfI_stay s j]
    exact stab_fold s fun _ h => h
/-- the least ways of all, by rounds -/
abbrev best (hs : List HR) (bs : List BR) (one : Nat) : Nat → Option Co := cfI hs bs one hs.length
theorem cfI_best {hs : List HR} {bs : List BR} {rk : Nat → Int} {one i : Nat} (hrk : ∀ b ∈ bs, b.th = [] → rk b.one < rk b.to) (hto : ∀ b ∈ bs, b.to < hs.length) (ho : one < hs.length) (s : Stab hs bs (cfI hs bs one i)) : cfI hs bs one i = best hs bs one := by
  by_cases h : i ≤ hs.length
  · show cfI hs bs one i = cfI hs bs one hs.length
    have := cfI_stay s (hs.length - i)
    rw [show i + (hs.length - i) = hs.length by omega] at this
    exact this.symm
  · have := cfI_stay (hs := hs) (stab_at (hs := hs) (n := hs.length) hrk hto ho (Nat.le_refl _)) (i - hs.length)
    rw [show hs.length + (i - hs.length) = i by omega] at this
    exact this
/-- the last belts: from each hand that is come to one leads on to it -/
structure LaOk (hs : List HR) (bs : List BR) (one : Nat) (cf : Nat → Option Co) (la : Nat → Option Nat) : Prop where
  go : ∀ k n, la k = some n → ∃ b c d, bs[n]? = some b ∧ b.to = k ∧ cf b.one = some c ∧ cf k = some d ∧ coLe (coAdd hs c b) d
  fst : la one = none
  has : ∀ k c, cf k = some c → k = one ∨ (la k).isSome = true
theorem cf_one {hs : List HR} {bs : List BR} {rk : Nat → Int} {one : Nat} {cf : Nat → Option Co} (hrk : ∀ b ∈ bs, b.th = [] → rk b.one < rk b.to) (s : Snd hs bs one cf) (h1 : cf one = some (0, momH hs one)) {b : BR} (hb : b ∈ bs) {c : Co} (h : cf b.one = some c) (e : b.to = one) : ¬ coLt (coAdd hs c b) (0, momH hs one) := by
  obtain ⟨ns, w1, w2⟩ := s _ _ h
  obtain ⟨m, hm⟩ := List.getElem?_of_mem hb
  have w := wayEnd_snoc w1 hm rfl
  rw [e] at w
  have t := way_closed hrk w (by simp)
  have e2 := wayCo_snoc (hs := hs) (k := one) (ns := ns) hm
  rw [w2] at e2
  have e3 : (coAdd hs c b).1 = ((ns ++ [m]).map (trB bs)).sum := by rw [← e2]; rfl
  unfold coLt
  rw [e3]
  show ¬ (_ < (0 : Int) ∨ (_ = (0 : Int) ∧ _))
  omega
/-- along the last belts something falls -/
def redLt (rk : Nat → Int) (cf : Nat → Option Co) (j k : Nat) : Prop := ∃ c d, cf j = some c ∧ cf k = some d ∧ (c.1 < d.1 ∨ (c.1 = d.1 ∧ -c.2 + 31 * rk j < -d.2 + 31 * rk k))
theorem redLt_irr {rk : Nat → Int} {cf : Nat → Option Co} {k : Nat} : ¬ redLt rk cf k k := fun ⟨c, d, h1, h2, h3⟩ => by
  rw [h1] at h2
  cases h2
  omega
theorem redLt_tr {rk : Nat → Int} {cf : Nat → Option Co} {i j k : Nat} (a : redLt rk cf i j) (b : redLt rk cf j k) : redLt rk cf i k := by
  obtain ⟨c, d, h1, h2, h3⟩ := a
  obtain ⟨d', e, h4, h5, h6⟩ := b
  rw [h2] at h4
  cases h4
  exact ⟨c, e, h1, h5, by omega⟩
open Classical in
noncomputable def meas (rk : Nat → Int) (cf : Nat → Option Co) (n k : Nat) : Nat := ((List.range n).filter fun j => decide (redLt rk cf j k)).length
theorem filter_lt {α : Type} {p q : α → Bool} (h : ∀ x, p x = true → q x = true) {x : α} (qx : q x = true) (px : p x = false) : ∀ {l : List α}, x ∈ l → (l.filter p).length < (l.filter q).length
  | a :: l, hx => by
    have le : ∀ l : List α, (l.filter p).length ≤ (l.filter q).length := fun l => by
      induction l with
      | nil => exact Nat.le_refl _
      | cons a l ih =>
        rw [List.filter_cons, List.filter_cons]
        by_cases pa : p a = true
        · rw [if_pos pa, if_pos (h a pa), List.length_cons, List.length_cons]; omega
        · rw [if_neg pa]
          by_cases qa : q a = true
          · rw [if_pos qa, List.length_cons]; omega
          · rw [if_neg qa]; exact ih
    rw [List.filter_cons, List.filter_cons]
    rcases List.mem_cons.mp hx with e | hx
    · subst e
      rw [if_neg (by rw [px]; exact Bool.false_ne_true), if_pos qx, List.length_cons]
      have := le l
      omega
    · have ih := filter_lt h qx px hx
      by_cases pa : p a = true
      · rw [if_pos pa, if_pos (h a pa), List.length_cons, List.length_cons]; omega
      · rw [if_neg pa]
        by_cases qa : q a = true
        · rw [if_pos qa, List.length_cons]; omega
        · rw [if_neg qa]; exact ih
open Classical in
theorem meas_lt {rk : Nat → Int} {cf : Nat → Option Co} {n j k : Nat} (hj : j < n) (h : redLt rk cf j k) : meas rk cf n j < meas rk cf n k := by
  unfold meas
  exact filter_lt (p := fun x => decide (redLt rk cf x j)) (q := fun x => decide (redLt rk cf x k)) (fun x hx => decide_eq_true (redLt_tr (of_decide_eq_true hx) h)) (decide_eq_true h) (decide_eq_false redLt_irr) (List.mem_range.mpr hj)
theorem meas_le {rk : Nat → Int} {cf : Nat → Option Co} {n k : Nat} : meas rk cf n k ≤ n := by
  unfold meas
  refine Nat.le_trans (List.length_filter_le ..) ?_
  rw [List.length_range]
  exact Nat.le_refl _
theorem last_lt {hs : List HR} {bs : List BR} {rk : Nat → Int} {cf : Nat → Option Co} {b : BR} {k : Nat} {c d : Co} (hrk : ∀ b ∈ bs, b.th = [] → rk b.one < rk b.to) (mom : ∀ k, momH hs k ≤ 30) (hb : b ∈ bs) (e : b.to = k) (h1 : cf b.one = some c) (h2 : cf k = some d) (l : coLe (coAdd hs c b) d) : redLt rk cf b.one k := by
  refine ⟨c, d, h1, h2, ?_⟩
  have m := mom b.to
  unfold coLe coAdd at l
  dsimp only at l
  by_cases z : b.th = []
  · have r := hrk b hb z
    rw [z] at l
    rw [e] at r l m
    have l : c.1 + (0 : Int) < d.1 ∨ c.1 + (0 : Int) = d.1 ∧ d.2 ≤ c.2 + momH hs k := l
    omega
  · have : 0 < b.th.length := List.length_pos_iff.mpr z
    omega
abbrev kN (k : Nat) : Key := .inl ((k : Nat) : Int)
theorem kN_inj {a b : Nat} (h : kN a = kN b) : a = b := by
  have : ((a : Nat) : Int) = ((b : Nat) : Int) := Sum.inl.inj h
  omega
theorem dget_of {H : Hp} {a : Addr} {kvs : List (Key × V)} {k : Nat} {o : Option V} (e : H a = some (.dK kvs)) (h : valV kvs (kN k) = o) : DGet H a (nV k) o := h ▸ DGet.k (k := kN k) e
def CoAt (H : Hp) (v : V) (c : Co) : Prop := ∃ t : Addr, v = .ref t ∧ H t = some (.tup [.int c.1, .int (-c.2)])
def DC (H : Hp) (kvs : List (Key × V)) (cf : Nat → Option Co) : Prop := ∀ k : Nat, (cf k = none ∧ valV kvs (kN k) = none) ∨ ∃ c v, cf k = some c ∧ valV kvs (kN k) = some v ∧ CoAt H v c
theorem DC.keep {H H' : Hp} {kvs : List (Key × V)} {cf : Nat → Option Co} (d : DC H kvs cf) (s : TK H H') : DC H' kvs cf := fun k => by
  rcases d k with h | ⟨c, v, h1, h2, t, h3, h4⟩
  · exact .inl h
  · exact .inr ⟨c, v, h1, h2, t, h3, s _ _ h4⟩
theorem DC.put {H : Hp} {kvs : List (Key × V)} {cf : Nat → Option Co} (d : DC H kvs cf) {k : Nat} {v : V} {c : Co} (h : CoAt H v c) : DC H (putK kvs (kN k) v) (fun j => if j = k then some c else cf j) := fun j => by
  rw [valV_put]
  show ((if j = k then some c else cf j) = none ∧ _) ∨ ∃ c' v', (if j = k then some c else cf j) = some c' ∧ _
  by_cases e : j = k
  · rw [if_pos e, if_pos (show kN j = kN k by rw [e])]
    exact .inr ⟨c, v, rfl, rfl, h⟩
  · rw [if_neg e, if_neg (show ¬ kN j = kN k from fun z => e (kN_inj z))]
    exact d j
theorem DL.put {lvs : List (Key × V)} {la : Nat → Option Nat} (d : ∀ k, valV lvs (kN k) = (la k).map nV) (k n : Nat) : ∀ j, valV (putK lvs (kN k) (nV n)) (kN j) = ((fun j => if j = k then some n else la j) j).map nV := fun j => by
  rw [valV_put]
  by_cases e : j = k
  · rw [if_pos (by rw [e])]
    show _ = Option.map nV (if j = k then some n else la j)
    rw [if_pos e]; rfl
  · rw [if_neg (fun z => e (kN_inj z))]
    show _ = Option.map nV (if j = k then some n else la j)
    rw [if_neg e]; exact d j
theorem putK_le (c : List (Key × V)) (k : Key) (x : V) : (putK c k x).length ≤ c.length + 1 := by
  unfold putK
  split
  · rw [List.length_map]; omega
  · rw [List.length_append]; exact Nat.le_refl _
theorem lex_co (c d : Co) : HT.lexLt [c.1, -c.2] [d.1, -d.2] = decide (coLt c d) := by
  rw [HT.lexLt_cons, HT.lexLt_cons, HT.lexLt_nil_nil]
  unfold coLt
  by_cases e : c.1 = d.1
  · rw [if_pos e]
    by_cases e2 : -c.2 = -d.2
    · rw [if_pos e2]
      exact (decide_eq_false (by omega)).symm
    · rw [if_neg e2]
      by_cases e3 : -c.2 < -d.2
      · rw [decide_eq_true e3]; exact (decide_eq_true (by omega)).symm
      · rw [decide_eq_false e3]; exact (decide_eq_false (by omega)).symm
  · rw [if_neg e]
    by_cases e3 : c.1 < d.1
    · rw [decide_eq_true e3]; exact (decide_eq_true (by omega)).symm
    · rw [decide_eq_false e3]; exact (decide_eq_false (by omega)).symm
theorem LaOk.put {hs : List HR} {bs : List BR} {rk : Nat → Int} {one : Nat} {cf : Nat → Option Co} {la : Nat → Option Nat} (L : LaOk hs bs one cf la) (hrk : ∀ b ∈ bs, b.th = [] → rk b.one < rk b.to) (s : Snd hs bs one cf) (h1 : cf one = some (0, momH hs one)) {j : Nat} {b : BR} {c : Co} (eb : bs[j]? = some b) (h : cf b.one = some c) (l : ∀ d, cf b.to = some d → coLt (coAdd hs c b) d) :
    LaOk hs bs one (fun k => if k = b.to then some (coAdd hs c b) else cf k) (fun k => if k = b.to then some j else la k) ∧ b.to ≠ one := by
  have hb := List.mem_of_getElem? eb
  have ne1 : b.to ≠ one := fun z => cf_one hrk s h1 hb h z (l _ (by rw [z]; exact h1))
  have ne2 : b.one ≠ b.to := fun z => by
    have := l c (by rw [← z]; exact h)
    unfold coLt coAdd at this
    dsimp only at this
    by_cases y : b.th = []
    · have := hrk b hb y
      rw [z] at this
      omega
    · have : 0 < b.th.length := List.length_pos_iff.mpr y
      omega
  have newc : ∀ k c2, cf k = some c2 → ∃ c3, (fun k => if k = b.to then some (coAdd hs c b) else cf k) k = some c3 ∧ coLe c3 c2 := fun k c2 e => by
    by_cases z : k = b.to
    · exact ⟨_, if_pos z, (l c2 (z ▸ e)).le⟩
    · exact ⟨c2, (if_neg z).trans e, coLe.refl _⟩
  refine ⟨⟨fun k n e => ?_, ?_, fun k d e => ?_⟩, ne1⟩
  · by_cases z : k = b.to
    · have e : some j = some n := by rw [← e]; exact (if_pos z).symm
      cases e
      exact ⟨b, c, coAdd hs c b, eb, z.symm, (if_neg ne2).trans h, if_pos z, coLe.refl _⟩
    · have e : la k = some n := by rw [← e]; exact (if_neg z).symm
      obtain ⟨b2, c2, d2, g1, g2, g3, g4, g5⟩ := L.go k n e
      obtain ⟨c3, g6, g7⟩ := newc _ _ g3
      exact ⟨b2, c3, d2, g1, g2, g6, (if_neg z).trans g4, (coAdd_mono g7).trans g5⟩
  · exact (if_neg ne1.symm).trans L.fst
  · by_cases z : k = b.to
    · exact .inr (by show (if k = b.to then some j else la k).isSome = true; rw [if_pos z]; rfl)
    · have e : cf k = some d := by rw [← e]; exact (if_neg z).symm
      rcases L.has k d e with y | y
      · exact .inl y
      · exact .inr (by show (if k = b.to then some j else la k).isSome = true; rw [if_neg z]; exact y)
theorem TK.dic {H : Hp} {p : Addr} {kvs lvs : List (Key × V)} (h : H p = some (.dK kvs)) : TK H (upd H p (.dK lvs)) := fun x zs e => by
  rw [upd_ne (ne_of e h (fun z => nomatch z))]
  exact e
section
variable {P : Program} {w : World} {K : PySem.W.Frag} {mg : Str → Option Value} {base : Heap}
def sp_least_costs (K : PySem.W.Frag) : Sp := fun vs H Q _ => ∃ (r : Addr) (hs : List HR) (bs : List BR) (one : Nat), vs = [.ref r, nV one] ∧ RoomAt H r hs bs ∧ RoomOk hs bs ∧ one < hs.length ∧
  ∀ (p cd ld : Addr) (kvs lvs : List (Key × V)) (la : Nat → Option Nat) (H' : Hp), H' p = some (.tup [.ref cd, .ref ld]) → H' cd = some (.dK kvs) → DC H' kvs (best hs bs one) → H' ld = some (.dK lvs) → (∀ k, valV lvs (kN k) = (la k).map nV) → LaOk hs bs one (best hs bs one) la → Same H H' → Q (.ref p) H'
theorem ok_least_costs {f : Addr} {fd : FuncData} (F : Fun K "least_costs" "least_costs" s_least_costs f fd) (T : Top K mg) : FnOk P w K mg base CX0 1 f fd ["room", "one"] (sp_least_costs K) := by
  refine F.ok sc_least_costs (fun vs H Q E h => ?_) (fun cdv A outer s H vs Q E hr h => ?_)
  · obtain ⟨r, hs, bs, one, rfl, _⟩ := h
    rfl
  obtain ⟨r, hs, bs, one, rfl, hR, ok, ho, q⟩ := h
  obtain ⟨ha, ba, hv, bv, er, eh, eb, alh, alb⟩ := hR.ex
  have lhv := alh.length
  have lbv := alb.length
  have lh := ok.hands
  have lb := ok.many
  obtain ⟨rk, hrk⟩ := ok.rank
  have hto : ∀ b ∈ bs, b.to < hs.length := fun b hb => (ok.ends b hb).2
  have ehk : hs[one]? = some hs[one] := List.getElem?_eq_getElem ho
  have mom1 : momH hs one = hs[one].mom := by unfold momH; rw [ehk]
  obtain ⟨x0, ex0, ⟨t0, r0, rfl, e01, e02⟩⟩ := alh.get ehk
  refine ⟨_, (pss_cons (ps_asg (pv 0) (pg_tupK K rfl rfl (pgs_cons (pg_name (i := 2) sc_least_costs.nd rfl (Or.inl rfl)) (pgs_cons (pg_name (i := 3) sc_least_costs.nd rfl (Or.inl rfl)) pgs_nil))))
      (pss_cons (ps_set (i := 4) sc_least_costs.nd rfl (Or.inl rfl) (pe_disp (pps_cons (pv 1) (pe_tup (pa_cons pe_int (pa_cons (pe_un un_neg (pe_ix (ix_tupK K rfl) (pe_ix (ix_tupK K rfl) (pv 2) (pv 1) (fun _ _ => rfl)) pe_int (fun _ _ => rfl))) pa_nil))) pps_nil) (by rfl) (by rfl) (fun z => by cases z) (by decide)))
      (pss_cons (ps_set (i := 5) sc_least_costs.nd rfl (Or.inl rfl) pe_dnewK)
      (pss_cons (ps_set (i := 6) sc_least_costs.nd rfl (Or.inl rfl) pe_bl)
      (pss_cons (ps_while PassesOwn.never (pt_val (pv 6))
        (pss_cons (ps_set (i := 6) sc_least_costs.nd rfl (Or.inl rfl) pe_bl)
      (pss_one (ps_for PassesOwn.never rfl (pi_enumT K rfl (by rfl) T.m_enumerate (pa_cons (pv 3) pa_nil)) (pg_tupK K rfl rfl (pgs_cons (pg_name (i := 7) sc_least_costs.nd rfl (Or.inl rfl)) (pgs_cons (pg_tupK K rfl rfl (pgs_cons (pg_name (i := 8) sc_least_costs.nd rfl (Or.inl rfl)) (pgs_cons (pg_name (i := 9) sc_least_costs.nd rfl (Or.inl rfl)) (pgs_cons (pg_name (i := 10) sc_least_costs.nd rfl (Or.inl rfl)) pgs_nil)))) pgs_nil)))
        (pss_one (ps_if (pt_cmp (pc_din (hu_of hr) (pv 8) (pv 4)) (by with_unfolding_all rfl)) (pss_cons (ps_asg (pe_dget (hu_of hr) (pv 4) (pv 8) (fun _ _ => rfl)) (pg_tupK K rfl rfl (pgs_cons (pg_name (i := 11) sc_least_costs.nd rfl (Or.inl rfl)) (pgs_cons (pg_name (i := 12) sc_least_costs.nd rfl (Or.inl rfl)) pgs_nil))))
      (pss_cons (ps_set (i := 13) sc_least_costs.nd rfl (Or.inl rfl) (pe_tup (pa_cons (pe_op op_add (pv 11) (pe_callB (call_len_seqK K rfl) (by rfl) T.m_len (by decide +kernel) (pa_cons (pv 10) pa_nil))) (pa_cons (pe_op op_sub (pv 12) (pe_ix (ix_tupK K rfl) (pe_ix (ix_tupK K rfl) (pv 2) (pv 9) (fun _ _ => rfl)) pe_int (fun _ _ => rfl))) pa_nil))))
      (pss_one (ps_if (PW.pt (pw_or (pt_cmp (pc_dnotin (hu_of hr) (pv 9) (pv 4)) (by with_unfolding_all rfl)) (pw_or1 (pt_cmpR (op_ltTK K rfl (Nat.lt_of_succ_lt (hu_of hr))) (pv 13) (pe_dget (hu_of hr) (pv 4) (pv 9) (fun _ _ => rfl)) (nomark _))))) (pss_cons (ps_dput (hu_of hr) (pv 4) (pv 9) (pv 13) (by rfl))
      (pss_cons (ps_dput (hu_of hr) (pv 5) (pv 9) (pv 7) (by rfl))
      (pss_one (ps_set (i := 6) sc_least_costs.nd rfl (Or.inl rfl) pe_bl)))) pss_nil)))) pss_nil))))))
      (pss_one (ps_ret (pe_tup (pa_cons (pv 4) (pa_cons (pv 5) pa_nil)))))))))), ?_⟩
  refine ⟨_, rfl, r, _, rfl, SqT.of er, rfl, _, _, rfl, _, _, rfl, rfl, ?_⟩
  refine fun cd ncd => ?_
  have s1 := same_new (o := .dK []) ncd
  refine ⟨_, rfl, _, rfl, _, rfl, ha, _, _, _, rfl, rfl, SqT.of (s1 _ _ eh), atI_nat ex0, t0, _, _, _, rfl, rfl, SqT.of (s1 _ _ e01), atI_nat (j := 1) rfl, _, rfl, (by show 2 ≤ sizeLine; decide), fun t nt => ?_⟩
  have hcd1 := same_new (o := .tup [V.int 0, V.int (-hs[one].mom)]) nt _ _ (upd_same (H := H) (a := cd) (o := .dK []))
  refine ⟨hcd1, [(kN one, V.ref t)], rfl, (by show 1 ≤ 15; decide), ?_⟩
  have k1 := TK.dic (lvs := mergeK [] [(kN one, V.ref t)]) hcd1
  have ht : upd (upd (upd H cd (.dK [])) t (.tup [V.int 0, V.int (-hs[one].mom)])) cd (.dK (mergeK [] [(kN one, V.ref t)])) t = some (.tup [V.int 0, V.int (-hs[one].mom)]) := k1 _ _ upd_same
  have s2 : Same H (upd (upd (upd H cd (.dK [])) t (.tup [V.int 0, V.int (-hs[one].mom)])) cd (.dK (mergeK [] [(kN one, V.ref t)]))) := Same.own (s1.trans (same_new nt)) ncd
  refine fun ld nld => ?_
  have s3 := s2.trans (same_new (o := .dK []) nld)
  have cdld : cd ≠ ld := fun z => by rw [← z, upd_same] at nld; cases nld
  have ld0 : H ld = none := same_none s2 nld
  have L0 : LaOk hs bs one (cfI hs bs one 0) (fun _ => none) := ⟨(fun _ _ z => nomatch z), rfl, fun k c e => by
    by_cases z : k = one
    · exact .inl z
    · have e : none = some c := by rw [← e]; exact (if_neg z).symm
      cases e⟩
  have D0 : DC (upd (upd (upd (upd H cd (.dK [])) t (.tup [V.int 0, V.int (-hs[one].mom)])) cd (.dK (mergeK [] [(kN one, V.ref t)]))) ld (.dK [])) (mergeK [] [(kN one, V.ref t)]) (cfI hs bs one 0) := by
    have : DC (upd (upd (upd (upd H cd (.dK [])) t (.tup [V.int 0, V.int (-hs[one].mom)])) cd (.dK (mergeK [] [(kN one, V.ref t)]))) ld (.dK [])) [] (fun _ => none) := fun k => .inl ⟨rfl, rfl⟩
    exact this.put (k := one) (v := V.ref t) (c := (0, momH hs one)) ⟨t, rfl, by rw [mom1]; exact same_new nld _ _ ht⟩
  refine ⟨fun m σ H2 => ∃ (i : Nat) (ch : Bool) (kvs lvs : List (Key × V)) (la : Nat → Option Nat) (v7 v8 v9 v10 v11 v12 v13 : Option V), σ = [some (.ref r), some (nV one), some (.ref ha), some (.ref ba), some (.ref cd), some (.ref ld), some (.bl ch), v7, v8, v9, v10, v11, v12, v13] ∧ H2 cd = some (.dK kvs) ∧ DC H2 kvs (cfI hs bs one i) ∧ kvs.length ≤ 1 + 20 * i ∧ H2 ld = some (.dK lvs) ∧ lvs.length ≤ 20 * i ∧ (∀ k, valV lvs (kN k) = (la k).map nV) ∧ LaOk hs bs one (cfI hs bs one i) la ∧ cfI hs bs one i one = some (0, momH hs one) ∧ Same H H2 ∧ ((ch = true ∧ i ≤ hs.length ∧ m = hs.length + 1 - i) ∨ (ch = false ∧ Stab hs bs (cfI hs bs one i) ∧ m = 0)),
    ⟨_, 0, true, _, _, fun _ => none, _, _, _, _, _, _, _, rfl, same_new nld _ _ upd_same, D0, (by show 1 ≤ 1; decide), upd_same, (by show 0 ≤ 0; decide), (fun _ => rfl), L0, if_pos rfl, s3, .inl ⟨rfl, Nat.zero_le _, rfl⟩⟩, ?_⟩
  rintro m σ H2 ⟨i, ch, kvs, lvs, la, v7, v8, v9, v10, v11, v12, v13, rfl, hcd, dc, lk, hld, ll, dl, L, c1, s, flag⟩
  refine ⟨_, rfl, _, rfl, ?_⟩
  rcases flag with ⟨rfl, hi, rfl⟩ | ⟨rfl, st, rfl⟩
  · refine if_bl (fun _ => ?_) (fun z => nomatch z)
    refine ⟨_, fun σ' H' h => h, ?_⟩
    refine ⟨_, rfl, ba, bv, rfl, SqT.of (s _ _ eb), for_it (J := IteT K ba bv) (n := bv.length) (fun j σ H3 => ∃ (ch : Bool) (kvs lvs : List (Key × V)) (la : Nat → Option Nat) (v7 v8 v9 v10 v11 v12 v13 : Option V), σ = [some (.ref r), some (nV one), some (.ref ha), some (.ref ba), some (.ref cd), some (.ref ld), some (.bl ch), v7, v8, v9, v10, v11, v12, v13] ∧ H3 cd = some (.dK kvs) ∧ DC H3 kvs ((bs.take j).foldl (relax hs) (cfI hs bs one i)) ∧ kvs.length ≤ 1 + 20 * i + j ∧ H3 ld = some (.dK lvs) ∧ lvs.length ≤ 20 * i + j ∧ (∀ k, valV lvs (kN k) = (la k).map nV) ∧ LaOk hs bs one ((bs.take j).foldl (relax hs) (cfI hs bs one i)) la ∧ (bs.take j).foldl (relax hs) (cfI hs bs one i) one = some (0, momH hs one) ∧ Same H H3 ∧ (ch = false → (bs.take j).foldl (relax hs) (cfI hs bs one i) = cfI hs bs one i ∧ ∀ b ∈ bs.take j, ∀ c, cfI hs bs one i b.one = some c → ∃ d, cfI hs bs one i b.to = some d ∧ coLe d (coAdd hs c b)) ∧ (ch = true → ¬ Stab hs bs (cfI hs bs one i)))
      ⟨false, kvs, lvs, la, _, _, _, _, _, _, _, rfl, hcd, dc, by omega, hld, by omega, dl, L, c1, s, (fun _ => ⟨rfl, (fun _ z => nomatch z)⟩), (fun z => nomatch z)⟩ ?_ ?_ ?_ ?_⟩
    · rintro j σ H3 hj ⟨ch, kvs, lvs, la, v7, v8, v9, v10, v11, v12, v13, rfl, hcd, dc, lk, hld, ll, dl, L, c1, s, f1, f2⟩
      exact ⟨SqT.of (s _ _ eb), hj⟩
    · rintro σ H3 ⟨ch, kvs, lvs, la, v7, v8, v9, v10, v11, v12, v13, rfl, hcd, dc, lk, hld, ll, dl, L, c1, s, f1, f2⟩
      exact ⟨SqT.of (s _ _ eb), rfl⟩
    · rintro j x σ H3 H4 hj ⟨ch, kvs, lvs, la, v7, v8, v9, v10, v11, v12, v13, rfl, hcd, dc, lk, hld, ll, dl, L, c1, s, f1, f2⟩ ⟨tt, y, rfl, ntt, rfl, ey⟩
      obtain ⟨b, ebj, ⟨t2, g, rfl, e1, e2⟩⟩ := alb.getL ey
      have hb := List.mem_of_getElem? ebj
      have nx : (bs.take (j + 1)).foldl (relax hs) (cfI hs bs one i) = relax hs ((bs.take j).foldl (relax hs) (cfI hs bs one i)) b := by
        rw [List.take_add_one, ebj, List.foldl_append]; rfl
      have sound : Snd hs bs one ((bs.take j).foldl (relax hs) (cfI hs bs one i)) := Snd.fold (fun _ h => List.mem_of_mem_take h) (cfI_snd i)
      obtain ⟨cf, ecf⟩ : ∃ cf, cf = (bs.take j).foldl (relax hs) (cfI hs bs one i) := ⟨_, rfl⟩
      rw [← ecf] at dc L c1 f1 nx sound
      have s4 := s.trans (same_new (o := .tup [V.int ((j : Nat) : Int), V.ref t2]) ntt)
      have hcd4 := same_new (o := .tup [V.int ((j : Nat) : Int), V.ref t2]) ntt _ _ hcd
      have hld4 := same_new (o := .tup [V.int ((j : Nat) : Int), V.ref t2]) ntt _ _ hld
      have dc4 := dc.keep (TK.new (o := .tup [V.int ((j : Nat) : Int), V.ref t2]) ntt)
      refine ⟨tt, _, rfl, SqT.of upd_same, rfl, _, _, rfl, _, _, rfl, t2, _, rfl, SqT.of (s4 _ _ e1), rfl, _, _, rfl, _, _, rfl, _, _, rfl, rfl, rfl, ?_⟩
      -- nothing changes
      have idle : ∀ (v11 v12 v13 : Option V) (H5 : Hp), relax hs cf b = cf → (∀ c, cf b.one = some c → ∃ d, cf b.to = some d ∧ coLe d (coAdd hs c b)) → Same (upd H3 tt (.tup [V.int ((j : Nat) : Int), V.ref t2])) H5 → ∃ (ch' : Bool) (kvs' lvs' : List (Key × V)) (la' : Nat → Option Nat) (w7 w8 w9 w10 w11 w12 w13 : Option V), [some (.ref r), some (nV one), some (.ref ha), some (.ref ba), some (.ref cd), some (.ref ld), some (.bl ch), some (V.int ((j : Nat) : Int)), some (nV b.one), some (nV b.to), some (.ref g), v11, v12, v13] = [some (.ref r), some (nV one), some (.ref ha), some (.ref ba), some (.ref cd), some (.ref ld), some (.bl ch'), w7, w8, w9, w10, w11, w12, w13] ∧ H5 cd = some (.dK kvs') ∧ DC H5 kvs' ((bs.take (j + 1)).foldl (relax hs) (cfI hs bs one i)) ∧ kvs'.length ≤ 1 + 20 * i + (j + 1) ∧ H5 ld = some (.dK lvs') ∧ lvs'.length ≤ 20 * i + (j + 1) ∧ (∀ k, valV lvs' (kN k) = (la' k).map nV) ∧ LaOk hs bs one ((bs.take (j + 1)).foldl (relax hs) (cfI hs bs one i)) la' ∧ (bs.take (j + 1)).foldl (relax hs) (cfI hs bs one i) one = some (0, momH hs one) ∧ Same H H5 ∧ (ch' = false → (bs.take (j + 1)).foldl (relax hs) (cfI hs bs one i) = cfI hs bs one i ∧ ∀ b ∈ bs.take (j + 1), ∀ c, cfI hs bs one i b.one = some c → ∃ d, cfI hs bs one i b.to = some d ∧ coLe d (coAdd hs c b)) ∧ (ch' = true → ¬ Stab hs bs (cfI hs bs one i)) := fun v11 v12 v13 H5 er1 er2 s5 => by
        rw [er1] at nx
        rw [nx]
        refine ⟨ch, kvs, lvs, la, _, _, _, _, _, _, _, rfl, s5 _ _ hcd4, dc4.keep (TK.same s5), by omega, s5 _ _ hld4, by omega, dl, L, c1, s4.trans s5, fun z => ?_, f2⟩
        obtain ⟨g1, g2⟩ := f1 z
        refine ⟨g1, fun b' hb' => ?_⟩
        rw [List.take_add_one, ebj] at hb'
        rcases List.mem_append.mp hb' with hb' | hb'
        · exact g2 b' hb'
        · obtain rfl : b' = b := by simpa using hb'
          rw [← g1]
          exact er2
      rcases dc4 b.one with ⟨d1, d2⟩ | ⟨c, v, d1, d2, tc, rfl, htc⟩
      · refine ⟨_, rfl, _, rfl, cd, _, rfl, dget_of hcd4 d2, _, rfl, if_bl (fun z => nomatch z) (fun _ => ?_)⟩
        exact idle _ _ _ _ (relax_none d1) (fun c z => by rw [d1] at z; cases z) (Same.refl _)
      refine ⟨_, rfl, _, rfl, cd, _, rfl, dget_of hcd4 d2, _, rfl, if_bl (fun _ => ?_) (fun z => nomatch z)⟩
      have tb := hto b hb
      have eht : hs[b.to]? = some hs[b.to] := List.getElem?_eq_getElem tb
      have mom2 : momH hs b.to = hs[b.to].mom := by unfold momH; rw [eht]
      obtain ⟨x3, ex3, ⟨t3, r3, rfl, e31, e32⟩⟩ := alh.get eht
      refine ⟨_, rfl, _, rfl, cd, _, rfl, dget_of hcd4 d2, tc, _, rfl, SqT.of htc, rfl, _, _, rfl, _, _, rfl, rfl, ?_⟩
      refine ⟨_, rfl, _, rfl, g, _, rfl, .inr (SqT.of (s4 _ _ e2)), _, _, rfl, rfl, _, rfl, _, rfl, _, rfl, ha, _, _, _, rfl, rfl, SqT.of (s4 _ _ eh), atI_nat ex3, t3, _, _, _, rfl, rfl, SqT.of (s4 _ _ e31), atI_nat (j := 1) rfl, _, _, rfl, rfl, (by show 2 ≤ sizeLine; decide), fun tn ntn => ?_⟩
      have enew : [V.int (c.1 + (((b.th.map V.int).length : Nat) : Int)), V.int (-c.2 - hs[b.to].mom)] = [V.int (coAdd hs c b).1, V.int (-(coAdd hs c b).2)] := by
        unfold coAdd
        dsimp only
        rw [List.length_map, mom2, show -c.2 - hs[b.to].mom = -(c.2 + hs[b.to].mom) by omega]
      rw [enew]
      have s5 := same_new (o := .tup [V.int (coAdd hs c b).1, V.int (-(coAdd hs c b).2)]) ntn
      have hcd5 := s5 _ _ hcd4
      have hld5 := s5 _ _ hld4
      have dc5 := dc4.keep (TK.same s5)
      -- something changes
      have put : (∀ d, cf b.to = some d → coLt (coAdd hs c b) d) → (relax hs cf b = fun k => if k = b.to then some (coAdd hs c b) else cf k) → ∃ (ch' : Bool) (kvs' lvs' : List (Key × V)) (la' : Nat → Option Nat) (w7 w8 w9 w10 w11 w12 w13 : Option V), [some (.ref r), some (nV one), some (.ref ha), some (.ref ba), some (.ref cd), some (.ref ld), some (.bl true), some (V.int ((j : Nat) : Int)), some (nV b.one), some (nV b.to), some (.ref g), some (V.int c.1), some (V.int (-c.2)), some (.ref tn)] = [some (.ref r), some (nV one), some (.ref ha), some (.ref ba), some (.ref cd), some (.ref ld), some (.bl ch'), w7, w8, w9, w10, w11, w12, w13] ∧ (upd (upd (upd (upd H3 tt (.tup [V.int ((j : Nat) : Int), V.ref t2])) tn (.tup [V.int (coAdd hs c b).1, V.int (-(coAdd hs c b).2)])) cd (.dK (putK kvs (kN b.to) (V.ref tn)))) ld (.dK (putK lvs (kN b.to) (nV j)))) cd = some (.dK kvs') ∧ DC (upd (upd (upd (upd H3 tt (.tup [V.int ((j : Nat) : Int), V.ref t2])) tn (.tup [V.int (coAdd hs c b).1, V.int (-(coAdd hs c b).2)])) cd (.dK (putK kvs (kN b.to) (V.ref tn)))) ld (.dK (putK lvs (kN b.to) (nV j)))) kvs' ((bs.take (j + 1)).foldl (relax hs) (cfI hs bs one i)) ∧ kvs'.length ≤ 1 + 20 * i + (j + 1) ∧ (upd (upd (upd (upd H3 tt (.tup [V.int ((j : Nat) : Int), V.ref t2])) tn (.tup [V.int (coAdd hs c b).1, V.int (-(coAdd hs c b).2)])) cd (.dK (putK kvs (kN b.to) (V.ref tn)))) ld (.dK (putK lvs (kN b.to) (nV j)))) ld = some (.dK lvs') ∧ lvs'.length ≤ 20 * i + (j + 1) ∧ (∀ k, valV lvs' (kN k) = (la' k).map nV) ∧ LaOk hs bs one ((bs.take (j + 1)).foldl (relax hs) (cfI hs bs one i)) la' ∧ (bs.take (j + 1)).foldl (relax hs) (cfI hs bs one i) one = some (0, momH hs one) ∧ Same H (upd (upd (upd (upd H3 tt (.tup [V.int ((j : Nat) : Int), V.ref t2])) tn (.tup [V.int (coAdd hs c b).1, V.int (-(coAdd hs c b).2)])) cd (.dK (putK kvs (kN b.to) (V.ref tn)))) ld (.dK (putK lvs (kN b.to) (nV j)))) ∧ (ch' = false → (bs.take (j + 1)).foldl (relax hs) (cfI hs bs one i) = cfI hs bs one i ∧ ∀ b ∈ bs.take (j + 1), ∀ c, cfI hs bs one i b.one = some c → ∃ d, cfI hs bs one i b.to = some d ∧ coLe d (coAdd hs c b)) ∧ (ch' = true → ¬ Stab hs bs (cfI hs bs one i)) := fun l er1 => by
        rw [er1] at nx
        obtain ⟨L', ne1⟩ := L.put hrk sound c1 ebj d1 l
        rw [nx]
        have pl := putK_le kvs (kN b.to) (V.ref tn)
        have pl2 := putK_le lvs (kN b.to) (nV j)
        have hld6 : upd (upd (upd H3 tt (.tup [V.int ((j : Nat) : Int), V.ref t2])) tn (.tup [V.int (coAdd hs c b).1, V.int (-(coAdd hs c b).2)])) cd (.dK (putK kvs (kN b.to) (V.ref tn))) ld = some (.dK lvs) := by rw [upd_ne cdld.symm]; exact hld5
        refine ⟨true, putK kvs (kN b.to) (V.ref tn), putK lvs (kN b.to) (nV j), fun k => if k = b.to then some j else la k, _, _, _, _, _, _, _, rfl, by rw [upd_ne cdld, upd_same], ?_, by omega, upd_same, by omega, DL.put dl b.to j, L', (if_neg ne1.symm).trans c1, Same.own (Same.own (s4.trans s5) ncd) ld0, (fun z => nomatch z), fun _ stb => ?_⟩
        · exact ((dc5.put (k := b.to) ⟨tn, rfl, upd_same⟩).keep (TK.dic hcd5)).keep (TK.dic hld6)
        · -- the state ahead was not at rest
          have rest := stab_fold stb (l := bs.take j) fun x hx => List.mem_of_mem_take hx
          rw [rest] at ecf
          obtain ⟨d, y1, y2⟩ := stb b hb c (by rw [← ecf]; exact d1)
          exact absurd y2 (l d (by rw [ecf]; exact y1)).not_le
      rcases dc5 b.to with ⟨f3, f4⟩ | ⟨d, v, f3, f4, td, rfl, htd⟩
      · refine ⟨_, rfl, _, rfl, cd, _, rfl, dget_of hcd5 f4, _, rfl, if_bl (fun _ => if_bl (fun _ => ?_) (fun z => nomatch z)) (fun z => nomatch z)⟩
        refine ⟨_, rfl, _, rfl, _, rfl, cd, _, rfl, DPut.k (k := kN b.to) hcd5 (small1000 (by omega)), ?_⟩
        refine ⟨_, rfl, _, rfl, _, rfl, ld, _, rfl, DPut.k (k := kN b.to) (by rw [upd_ne cdld.symm]; exact hld5) (small1000 (by omega)), ?_⟩
        exact put (fun d z => by rw [f3] at z; cases z) (relax_new d1 f3)
      · refine ⟨_, rfl, _, rfl, cd, _, rfl, dget_of hcd5 f4, _, rfl, if_bl (fun z => nomatch z) (fun _ => ?_)⟩
        refine ⟨_, rfl, _, rfl, _, rfl, cd, _, rfl, dget_of hcd5 f4, tn, td, [(coAdd hs c b).1, -(coAdd hs c b).2], [d.1, -d.2], rfl, rfl, SqT.of upd_same, SqT.of htd, _, rfl, ?_⟩
        rw [lex_co]
        by_cases l : coLt (coAdd hs c b) d
        · rw [decide_eq_true l]
          refine if_bl (fun _ => ?_) (fun z => nomatch z)
          refine ⟨_, rfl, _, rfl, _, rfl, cd, _, rfl, DPut.k (k := kN b.to) hcd5 (small1000 (by omega)), ?_⟩
          refine ⟨_, rfl, _, rfl, _, rfl, ld, _, rfl, DPut.k (k := kN b.to) (by rw [upd_ne cdld.symm]; exact hld5) (small1000 (by omega)), ?_⟩
          exact put (fun d' z => by rw [f3] at z; cases z; exact l) (relax_lt d1 f3 l)
        · rw [decide_eq_false l]
          refine if_bl (fun z => nomatch z) (fun _ => ?_)
          exact idle _ _ _ _ (relax_ge d1 f3 l) (fun c' z => ⟨d, f3, by rw [d1] at z; cases z; exact coLe_of_not l⟩) s5
    · rintro σ H3 ⟨ch, kvs, lvs, la, v7, v8, v9, v10, v11, v12, v13, rfl, hcd, dc, lk, hld, ll, dl, L, c1, s, f1, f2⟩
      rw [lbv, List.take_length] at dc L c1 f1
      cases ch with
      | false =>
        obtain ⟨g1, g2⟩ := f1 rfl
        refine ⟨0, by omega, i + 1, false, kvs, lvs, la, _, _, _, _, _, _, _, rfl, hcd, dc, by omega, hld, by omega, dl, L, c1, s, .inr ⟨rfl, ?_, rfl⟩⟩
        show Stab hs bs (bs.foldl (relax hs) (cfI hs bs one i))
        rw [g1]
        exact g2
      | true =>
        have := f2 rfl
        have il : i < hs.length := by
          refine Nat.lt_of_not_le fun z => this (stab_at hrk hto ho z)
        exact ⟨hs.length + 1 - (i + 1), by omega, i + 1, true, kvs, lvs, la, _, _, _, _, _, _, _, rfl, hcd, dc, by omega, hld, by omega, dl, L, c1, s, .inl ⟨rfl, by omega, rfl⟩⟩
  · refine if_bl (fun z => nomatch z) (fun _ => ?_)
    have eb2 := cfI_best hrk hto ho st
    rw [eb2] at dc L
    refine ⟨_, rfl, _, rfl, (by show 2 ≤ sizeLine; decide), fun p np => ?_⟩
    exact q p cd ld kvs lvs la _ upd_same (same_new np _ _ hcd) (dc.keep (TK.new np)) (same_new np _ _ hld) dl L (s.trans (same_new np))
end
theorem wayCo_cons {hs : List HR} {bs : List BR} {k n : Nat} {ns : List Nat} {b : BR} (eb : bs[n]? = some b) : ((n :: ns).map (trB bs)).sum = (b.th.length : Int) + (ns.map (trB bs)).sum ∧ ((n :: ns).map fun n => momH hs (toB bs n)).sum = momH hs b.to + (ns.map fun n => momH hs (toB bs n)).sum := by
  have h1 : trB bs n = (b.th.length : Int) := by unfold trB; rw [eb]
  have h2 : toB bs n = b.to := by unfold toB; rw [eb]
  rw [List.map_cons, List.map_cons, List.sum_cons, List.sum_cons, h1, h2]
  exact ⟨rfl, rfl⟩
/-- what least_costs tells -/
structure Told (hs : List HR) (bs : List BR) (one : Nat) (H : Hp) (ld : Addr) (lvs : List (Key × V)) (la : Nat → Option Nat) : Prop where
  dic : H ld = some (.dK lvs)
  dl : ∀ k, valV lvs (kN k) = (la k).map nV
  la : LaOk hs bs one (best hs bs one) la
theorem best_lt {hs : List HR} {bs : List BR} {one k : Nat} {c : Co} (hto : ∀ b ∈ bs, b.to < hs.length) (ho : one < hs.length) (h : best hs bs one k = some c) : k < hs.length := by
  obtain ⟨ns, w1, _⟩ := cfI_snd _ k c h
  exact way_lt hto ho w1
theorem best_one {hs : List HR} {bs : List BR} {rk : Nat → Int} {one : Nat} (hrk : ∀ b ∈ bs, b.th = [] → rk b.one < rk b.to) : best hs bs one one = some (0, momH hs one) := by
  obtain ⟨c, h1, h2⟩ := cfI_cpl (hs := hs) (bs := bs) hs.length [] one (Nat.zero_le _) rfl
  obtain ⟨ns, w1, w2⟩ := cfI_snd _ one c h1
  rw [wayCo_nil] at h2
  have : c = (0, momH hs one) := by
    by_cases e : ns = []
    · rw [← w2, e, wayCo_nil]
    · have t := way_closed hrk w1 e
      have t2 : c.1 = (ns.map (trB bs)).sum := by rw [← w2]; rfl
      unfold coLe at h2
      dsimp only at h2
      omega
  show cfI hs bs one hs.length one = _
  rw [h1, this]
theorem mom_le {hs : List HR} (good : ∀ h ∈ hs, GoodHand h) (k : Nat) : momH hs k ≤ 30 := by
  unfold momH
  cases e : hs[k]? with
  | none => exact (by decide)
  | some h => exact (good h (List.mem_of_getElem? e)).2.2
section
variable {P : Program} {w : World} {K : PySem.W.Frag} {mg : Str → Option Value} {base : Heap}
def sp_way_back (K : PySem.W.Frag) : Sp := fun vs H Q _ => ∃ (r ld : Addr) (hs : List HR) (bs : List BR) (one e : Nat) (c : Co) (lvs : List (Key × V)) (la : Nat → Option Nat), vs = [.ref r, nV e, .ref ld] ∧ RoomAt H r hs bs ∧ RoomOk hs bs ∧ one < hs.length ∧ Told hs bs one H ld lvs la ∧ best hs bs one e = some c ∧
  ∀ (p : Addr) (ns : List Nat) (H' : Hp), PairAt H' p one ns → wayEnd bs one ns = some e → wayCo hs bs one ns = c → ns.length ≤ hs.length → Same H H' → Q (.ref p) H'
theorem ok_way_back {f : Addr} {fd : FuncData} (F : Fun K "way_back" "way_back" s_way_back f fd) (T : Top K mg) : FnOk P w K mg base CX0 1 f fd ["room", "end", "last"] (sp_way_back K) := by
  refine F.ok sc_way_back (fun vs H Q E h => ?_) (fun cdv A outer s H vs Q E hr h => ?_)
  · obtain ⟨r, ld, hs, bs, one, e, c, lvs, la, rfl, _⟩ := h
    rfl
  obtain ⟨r, ld, hs, bs, one, e, ce, lvs, la, rfl, hR, ok, ho, ⟨hld, dl, L⟩, he, q⟩ := h
  obtain ⟨ha, ba, hv, bv, er, eh, eb, alh, alb⟩ := hR.ex
  have lh := ok.hands
  obtain ⟨rk, hrk⟩ := ok.rank
  have hto : ∀ b ∈ bs, b.to < hs.length := fun b hb => (ok.ends b hb).2
  have stb := stab_at (hs := hs) hrk hto ho (Nat.le_refl _)
  refine ⟨_, (pss_cons (ps_set (i := 3) sc_way_back.nd rfl (Or.inl rfl) (pe_lst pa_nil))
      (pss_cons (ps_set (i := 4) sc_way_back.nd rfl (Or.inl rfl) (pv 1))
      (pss_cons (ps_while PassesOwn.never (pt_cmp (pc_din (hu_of hr) (pv 4) (pv 2)) (by with_unfolding_all rfl))
        (pss_cons (ps_expr (pe_bmK K rfl PySem.F.plainAttrs_list PySem.F.slot_list_append PySem.F.type_list_append mt_append (pv 3) (pa_cons (pe_dget (hu_of hr) (pv 2) (pv 4) (fun _ _ => rfl)) pa_nil)))
      (pss_one (ps_set (i := 4) sc_way_back.nd rfl (Or.inl rfl) (pe_ix (ix_tupK K rfl) (pe_ix (ix_tupK K rfl) (pe_ix (ix_tupK K rfl) (pv 0) pe_int (fun _ _ => rfl)) (pe_dget (hu_of hr) (pv 2) (pv 4) (fun _ _ => rfl)) (fun _ _ => rfl)) pe_int (fun _ _ => rfl))))))
      (pss_one (ps_ret (pe_tup (pa_cons (pv 4) (pa_cons (pe_callTy (call_tuple_ofK K rfl) (by rfl) T.m_tuple (by decide +kernel) (pa_cons (pe_revLK K rfl (pv 3)) pa_nil)) pa_nil)))))))), ?_⟩
  refine ⟨(by show 0 ≤ sizeLine; decide), fun nl nnl => ?_⟩
  refine ⟨_, rfl, ?_⟩
  refine ⟨fun m σ H2 => ∃ (k : Nat) (ns : List Nat) (c : Co), σ = [some (.ref r), some (nV e), some (.ref ld), some (.ref nl), some (nV k)] ∧ H2 nl = some (.lst (ns.reverse.map nV)) ∧ wayEnd bs k ns = some e ∧ best hs bs one k = some c ∧ c.1 + (ns.map (trB bs)).sum = ce.1 ∧ c.2 + (ns.map fun n => momH hs (toB bs n)).sum = ce.2 ∧ ns.length + m ≤ hs.length ∧ m = meas rk (best hs bs one) hs.length k ∧ Same H H2,
    ⟨_, e, [], ce, rfl, upd_same, rfl, he, by show ce.1 + 0 = ce.1; omega, by show ce.2 + 0 = ce.2; omega, by show 0 + _ ≤ _; have := meas_le (rk := rk) (cf := best hs bs one) (n := hs.length) (k := e); omega, rfl, same_new nnl⟩, ?_⟩
  rintro m σ H2 ⟨k, ns, c, rfl, hnl, we, hk, t1, t2, ln, rfl, s2⟩
  refine ⟨_, rfl, _, rfl, ld, _, rfl, dget_of (s2 _ _ hld) (dl k), _, rfl, ?_⟩
  cases elk : la k with
  | none =>
    refine if_bl (fun z => nomatch z) (fun _ => ?_)
    have k1 : k = one := by
      rcases L.has k c hk with z | z
      · exact z
      · rw [elk] at z; cases z
    subst k1
    rw [best_one hrk] at hk
    cases hk
    refine ⟨_, rfl, _, rfl, nl, _, rfl, SqL.of hnl, fun l2 nl2 => ⟨l2, _, rfl, .inl ⟨SqL.of upd_same, fun p np => ⟨(by show 2 ≤ sizeLine; decide), fun p2 np2 => ?_⟩⟩⟩⟩
    refine q p2 ns _ ⟨p, upd_same, ?_⟩ we ?_ (by omega) (((s2.trans (same_new nl2)).trans (same_new np)).trans (same_new np2))
    · rw [same_new np2 _ _ upd_same, ← List.map_reverse, List.reverse_reverse]
    · refine Prod.ext ?_ ?_
      · show (ns.map (trB bs)).sum = ce.1
        omega
      · show momH hs k + _ = ce.2
        omega
  | some n =>
    refine if_bl (fun _ => ?_) (fun z => nomatch z)
    obtain ⟨b, c', d, ebn, ebt, h1, h2, h3⟩ := L.go k n elk
    have hb := List.mem_of_getElem? ebn
    rw [hk] at h2
    cases h2
    obtain ⟨d', h4, h5⟩ := stb b hb c' h1
    rw [ebt] at h4
    have h4 : best hs bs one k = some d' := h4
    rw [hk] at h4
    cases h4
    have ec := h5.antisymm h3
    have dn : valV lvs (kN k) = some (nV n) := by rw [dl k, elk]; rfl
    have lt := meas_lt (n := hs.length) (best_lt hto ho h1) (last_lt hrk (mom_le ok.good) hb ebt h1 hk h3)
    refine ⟨_, fun σ' H' h => h, ?_⟩
    refine ⟨_, rfl, .inl ⟨rfl, _, SqL.of hnl⟩, _, rfl, _, rfl, ld, _, rfl, dget_of (s2 _ _ hld) dn, nl, _, _, rfl, rfl, hnl, by rw [List.length_map, List.length_reverse]; exact small1000 (by omega), ?_⟩
    have s3 : Same H (upd H2 nl (.lst (ns.reverse.map nV ++ [nV n]))) := Same.own s2 nnl
    obtain ⟨x, ex, ⟨t2', g2, rfl, e1, e2⟩⟩ := alb.get ebn
    refine ⟨_, rfl, r, _, _, _, rfl, rfl, SqT.of (s3 _ _ er), atI_nat (j := 1) rfl, _, rfl, _, rfl, ld, _, rfl, dget_of (s3 _ _ hld) dn, ba, _, _, _, rfl, rfl, SqT.of (s3 _ _ eb), atI_nat ex, t2', _, _, _, rfl, rfl, SqT.of (s3 _ _ e1), atI_nat (j := 0) rfl, ?_⟩
    obtain ⟨w1, w2⟩ := wayCo_cons (hs := hs) (k := k) (ns := ns) ebn
    have ec1 : c.1 = c'.1 + (b.th.length : Int) := by rw [ec]; rfl
    have ec2 : c.2 = c'.2 + momH hs b.to := by rw [ec]; rfl
    refine ⟨_, lt, b.one, n :: ns, c', rfl, ?_, ?_, h1, by rw [w1]; omega, by rw [w2]; omega, by rw [List.length_cons]; omega, rfl, s3⟩
    · rw [upd_same, List.reverse_cons, List.map_append]; rfl
    · rw [wayEnd_cons ebn, if_pos rfl, ebt]; exact we
def sp_least_between (K : PySem.W.Frag) : Sp := fun vs H Q _ => ∃ (r : Addr) (hs : List HR) (bs : List BR) (one e : Nat), vs = [.ref r, nV one, nV e] ∧ RoomAt H r hs bs ∧ RoomOk hs bs ∧ one < hs.length ∧
  (∀ H', best hs bs one e = none → Same H H' → Q .non H') ∧ ∀ (p : Addr) (c : Co) (H' : Hp), best hs bs one e = some c → H' p = some (.tup [.int c.1, .int c.2]) → Same H H' → Q (.ref p) H'
theorem ok_least_between {f : Addr} {fd : FuncData} (F : Fun K "least_between" "least_between" s_least_between f fd) (T : Top K mg) : FnOk P w K mg base CX0 2 f fd ["room", "one", "other"] (sp_least_between K) := by
  obtain ⟨f_least_costs, fd_least_costs, F_least_costs, b_least_costs, m_least_costs⟩ := T.d_least_costs
  have G_least_costs := ok_least_costs (P := P) (w := w) (base := base) F_least_costs T
  refine F.ok sc_least_between (fun vs H Q E h => ?_) (fun cdv A outer s H vs Q E hr h => ?_)
  · obtain ⟨r, hs, bs, one, e, rfl, _⟩ := h
    rfl
  obtain ⟨r, hs, bs, one, e, rfl, hR, ok, ho, q1, q2⟩ := h
  refine ⟨_, (pss_cons (ps_asg (pe_call G_least_costs (hr.mono (by decide)) (by rfl) m_least_costs F_least_costs.kp b_least_costs .nil pass0 (pa_cons (pv 0) (pa_cons (pv 1) pa_nil))) (pg_tupK K rfl rfl (pgs_cons (pg_name (i := 3) sc_least_between.nd rfl (Or.inl rfl)) (pgs_cons (pg_name (i := 4) sc_least_between.nd rfl (Or.inl rfl)) pgs_nil))))
      (pss_cons (ps_if (pt_cmp (pc_dnotin (hu_of hr) (pv 2) (pv 3)) (by with_unfolding_all rfl)) (pss_one (ps_ret pe_non)) pss_nil)
      (pss_cons (ps_asg (pe_dget (hu_of hr) (pv 3) (pv 2) (fun _ _ => rfl)) (pg_tupK K rfl rfl (pgs_cons (pg_name (i := 5) sc_least_between.nd rfl (Or.inl rfl)) (pgs_cons (pg_name (i := 6) sc_least_between.nd rfl (Or.inl rfl)) pgs_nil))))
      (pss_one (ps_ret (pe_tup (pa_cons (pv 5) (pa_cons (pe_un un_neg (pv 6)) pa_nil)))))))), ?_⟩
  refine ⟨_, rfl, _, rfl, r, hs, bs, one, rfl, hR, ok, ho, fun p cd ld kvs lvs la H1 hp hcd dc hld dl L s1 => ?_⟩
  refine ⟨p, _, rfl, SqT.of hp, rfl, _, _, rfl, _, _, rfl, rfl, ?_⟩
  rcases dc e with ⟨d1, d2⟩ | ⟨c, v, d1, d2, tc, rfl, htc⟩
  · exact ⟨_, rfl, _, rfl, cd, _, rfl, dget_of hcd d2, _, rfl, if_bl (fun _ => q1 _ d1 s1) (fun z => nomatch z)⟩
  · refine ⟨_, rfl, _, rfl, cd, _, rfl, dget_of hcd d2, _, rfl, if_bl (fun z => nomatch z) (fun _ => ?_)⟩
    refine ⟨_, rfl, _, rfl, cd, _, rfl, dget_of hcd d2, tc, _, rfl, SqT.of htc, rfl, _, _, rfl, _, _, rfl, rfl, ?_⟩
    refine ⟨_, rfl, _, rfl, _, rfl, (by show 2 ≤ sizeLine; decide), fun p2 np2 => q2 p2 c _ d1 ?_ (s1.trans (same_new np2))⟩
    rw [upd_same]
    show some (HO.tup [V.int c.1, V.int (- -c.2)]) = _
    rw [Int.neg_neg]
def sp_way_between (K : PySem.W.Frag) : Sp := fun vs H Q _ => ∃ (r : Addr) (hs : List HR) (bs : List BR) (one e : Nat), vs = [.ref r, nV one, nV e] ∧ RoomAt H r hs bs ∧ RoomOk hs bs ∧ one < hs.length ∧
  (∀ H', best hs bs one e = none → Same H H' → Q .non H') ∧ ∀ (p : Addr) (c : Co) (ns : List Nat) (H' : Hp), best hs bs one e = some c → PairAt H' p one ns → wayEnd bs one ns = some e → wayCo hs bs one ns = c → ns.length ≤ hs.length → Same H H' → Q (.ref p) H'
theorem ok_way_between {f : Addr} {fd : FuncData} (F : Fun K "way_between" "way_between" s_way_between f fd) (T : Top K mg) : FnOk P w K mg base CX0 2 f fd ["room", "one", "other"] (sp_way_between K) := by
  obtain ⟨f_least_costs, fd_least_costs, F_least_costs, b_least_costs, m_least_costs⟩ := T.d_least_costs
  have G_least_costs := ok_least_costs (P := P) (w := w) (base := base) F_least_costs T
  obtain ⟨f_way_back, fd_way_back, F_way_back, b_way_back, m_way_back⟩ := T.d_way_back
  have G_way_back := ok_way_back (P := P) (w := w) (base := base) F_way_back T
  refine F.ok sc_way_between (fun vs H Q E h => ?_) (fun cdv A outer s H vs Q E hr h => ?_)
  · obtain ⟨r, hs, bs, one, e, rfl, _⟩ := h
    rfl
  obtain ⟨r, hs, bs, one, e, rfl, hR, ok, ho, q1, q2⟩ := h
  refine ⟨_, (pss_cons (ps_asg (pe_call G_least_costs (hr.mono (by decide)) (by rfl) m_least_costs F_least_costs.kp b_least_costs .nil pass0 (pa_cons (pv 0) (pa_cons (pv 1) pa_nil))) (pg_tupK K rfl rfl (pgs_cons (pg_name (i := 3) sc_way_between.nd rfl (Or.inl rfl)) (pgs_cons (pg_name (i := 4) sc_way_between.nd rfl (Or.inl rfl)) pgs_nil))))
      (pss_one (ps_ret (pe_ifExp (pt_cmp (pc_din (hu_of hr) (pv 2) (pv 3)) (by with_unfolding_all rfl)) (pe_call G_way_back (hr.mono (by decide)) (by rfl) m_way_back F_way_back.kp b_way_back .nil pass0 (pa_cons (pv 0) (pa_cons (pv 2) (pa_cons (pv 4) pa_nil)))) pe_non)))), ?_⟩
  refine ⟨_, rfl, _, rfl, r, hs, bs, one, rfl, hR, ok, ho, fun p cd ld kvs lvs la H1 hp hcd dc hld dl L s1 => ?_⟩
  refine ⟨p, _, rfl, SqT.of hp, rfl, _, _, rfl, _, _, rfl, rfl, ?_⟩
  rcases dc e with ⟨d1, d2⟩ | ⟨c, v, d1, d2, tc, rfl, htc⟩
  · exact ⟨_, rfl, _, rfl, cd, _, rfl, dget_of hcd d2, _, rfl, if_bl (fun z => nomatch z) (fun _ => q1 _ d1 s1)⟩
  · refine ⟨_, rfl, _, rfl, cd, _, rfl, dget_of hcd d2, _, rfl, if_bl (fun _ => ?_) (fun z => nomatch z)⟩
    refine ⟨_, rfl, _, rfl, _, rfl, r, ld, hs, bs, one, e, c, lvs, la, rfl, hR.keep (TK.same s1), ok, ho, ⟨hld, dl, L⟩, d1, fun p2 ns H2 h1 h2 h3 h4 s2 => q2 p2 c ns H2 d1 h1 h2 h3 h4 (s1.trans s2)⟩
end
/-! ### two things alike -/
def Leaf (v u : V) : Prop := (∃ a : Int, v = .int a ∧ u = .int a) ∨ (∃ z : Str, v = .str z ∧ u = .str z ∧ PyData.canLay0 (.str z) = true) ∨ (v = .non ∧ u = .non)
def Al : Nat → Hp → V → V → Prop
  | 0, _, v, u => Leaf v u
  | n + 1, H, v, u => Leaf v u ∨ ∃ (p q : Addr) (xs ys : List V), v = .ref p ∧ u = .ref q ∧ ((H p = some (.lst xs) ∧ H q = some (.lst ys)) ∨ (H p = some (.tup xs) ∧ H q = some (.tup ys))) ∧ xs.length ≤ 400 ∧ All2 (Al n H) xs ys
theorem Al.same {H H' : Hp} (s : Same H H') : ∀ {n : Nat} {v u : V}, Al n H v u → Al n H' v u
  | 0, _, _, h => h
  | n + 1, _, _, h => by
    rcases h with h | ⟨p, q, xs, ys, e1, e2, e3, e4, e5⟩
    · exact .inl h
    exact .inr ⟨p, q, xs, ys, e1, e2, e3.imp (fun z => ⟨s _ _ z.1, s _ _ z.2⟩) (fun z => ⟨s _ _ z.1, s _ _ z.2⟩), e4, e5.imp fun _ _ z => Al.same s z⟩
def spA : Nat → Sp
  | 0 => fun _ _ _ _ => False
  | n + 1 => fun vs H Q _ => ∃ v u : V, vs = [v, u] ∧ Al n H v u ∧ ∀ H', Same H H' → Q (.bl true) H'
theorem kit_lst {K : PySem.W.Frag} : PySem.W.kitAny K (.type "list") [.type "list", .type "tuple"] = some true := by
  unfold PySem.W.kitAny
  rw [kit_ty (show kitB "list" "list" = some true by decide +kernel)]
theorem kit_tup {K : PySem.W.Frag} : PySem.W.kitAny K (.type "tuple") [.type "list", .type "tuple"] = some true := by
  unfold PySem.W.kitAny
  rw [kit_ty (show kitB "tuple" "list" = some false by decide +kernel)]
  unfold PySem.W.kitAny
  rw [kit_ty (show kitB "tuple" "tuple" = some true by decide +kernel)]
theorem kit_int {K : PySem.W.Frag} : PySem.W.kitAny K (.type "int") [.type "list", .type "tuple"] = some false := by
  unfold PySem.W.kitAny
  rw [kit_ty (show kitB "int" "list" = some false by decide +kernel)]
  unfold PySem.W.kitAny
  rw [kit_ty (show kitB "int" "tuple" = some false by decide +kernel)]
  rfl
theorem kit_str {K : PySem.W.Frag} : PySem.W.kitAny K (.type "str") [.type "list", .type "tuple"] = some false := by
  unfold PySem.W.kitAny
  rw [kit_ty (show kitB "str" "list" = some false by decide +kernel)]
  unfold PySem.W.kitAny
  rw [kit_ty (show kitB "str" "tuple" = some false by decide +kernel)]
  rfl
theorem kit_non {K : PySem.W.Frag} : PySem.W.kitAny K (.type "NoneType") [.type "list", .type "tuple"] = some false := by
  unfold PySem.W.kitAny
  rw [kit_ty (show kitB "NoneType" "list" = some false by decide +kernel)]
  unfold PySem.W.kitAny
  rw [kit_ty (show kitB "NoneType" "tuple" = some false by decide +kernel)]
  rfl
theorem or_zip {K : PySem.W.Frag} {ta : TA} {σ : L2.St} {H : Hp} {R : It → Hp → Prop} {p q : Addr} {xs ys : List V} (ht : ∀ Q : List V → Hp → Prop, Q [.ref p, .ref q] H → ta σ H Q) (h : (H p = some (.lst xs) ∧ H q = some (.lst ys)) ∨ (H p = some (.tup xs) ∧ H q = some (.tup ys))) (hl : xs.length = ys.length)
    (k : ∀ J : It, (∀ i H', (H' p = H p ∧ H' q = H q) → i < xs.length → J.go i H') → (∀ H', (H' p = H p ∧ H' q = H q) → J.stop xs.length H') → (∀ i H' v H'', (H' p = H p ∧ H' q = H q) → J.yld i H' v H'' → ∃ T x y, v = .ref T ∧ H' T = none ∧ H'' = upd H' T (.tup [x, y]) ∧ xs[i]? = some x ∧ ys[i]? = some y) → R J H) :
    RZ.iZipA K ta σ H R := by
  rcases h with ⟨e1, e2⟩ | ⟨e1, e2⟩
  · refine ht _ ⟨p, q, xs, ys, rfl, .inl ⟨SqL.of e1, SqL.of e2, k _ (fun i H' st hi => ?_) (fun H' st => ?_) fun i H' v H'' st y => ?_⟩⟩
    · exact ⟨xs, ys, _, _, SqL.of (st.1.trans e1), SqL.of (st.2.trans e2), List.getElem?_eq_getElem hi, List.getElem?_eq_getElem (by omega)⟩
    · exact ⟨xs, ys, SqL.of (st.1.trans e1), SqL.of (st.2.trans e2), .inl (Nat.le_refl _)⟩
    · obtain ⟨T, x, z, q1, q2, q3, q4, q5⟩ := y
      exact ⟨T, x, z, q1, q2, q3, q4 _ (SqL.of (st.1.trans e1)), q5 _ (SqL.of (st.2.trans e2))⟩
  · refine ht _ ⟨p, q, xs, ys, rfl, .inr ⟨SqT.of e1, SqT.of e2, k _ (fun i H' st hi => ?_) (fun H' st => ?_) fun i H' v H'' st y => ?_⟩⟩
    · exact ⟨xs, ys, _, _, SqT.of (st.1.trans e1), SqT.of (st.2.trans e2), List.getElem?_eq_getElem hi, List.getElem?_eq_getElem (by omega)⟩
    · exact ⟨xs, ys, SqT.of (st.1.trans e1), SqT.of (st.2.trans e2), .inl (Nat.le_refl _)⟩
    · obtain ⟨T, x, z, q1, q2, q3, q4, q5⟩ := y
      exact ⟨T, x, z, q1, q2, q3, q4 _ (SqT.of (st.1.trans e1)), q5 _ (SqT.of (st.2.trans e2))⟩
section
variable {P : Program} {w : World} {K : PySem.W.Frag} {mg : Str → Option Value} {base : Heap}
theorem leaf_shaped {x : Str} (h : PyData.canLay0 (.str x) = true) : SeqAt.shaped (.str x) = true := by
  unfold SeqAt.shaped
  rw [h]
  rfl
theorem alike_step (T : Top K mg) (n : Nat) (below : ∀ (f : Addr) (fd : FuncData), Fun K "_law_alike" "_law_alike" s_law_alike f fd → FnOk P w K mg base CX0 n f fd ["_law_found", "_law_due"] (spA n)) {f : Addr} {fd : FuncData} (F : Fun K "_law_alike" "_law_alike" s_law_alike f fd) :
    FnOk P w K mg base CX0 (n + 1) f fd ["_law_found", "_law_due"] (spA (n + 1)) := by
  obtain ⟨f_law_alike, fd_law_alike, F_law_alike, b_law_alike, m_law_alike⟩ := T.d_law_alike
  have G_law_alike := below f_law_alike fd_law_alike F_law_alike
  refine F.ok sc_law_alike (fun vs H Q E h => ?_) (fun cdv A outer s H vs Q E hr h => ?_)
  · obtain ⟨v, u, rfl, _⟩ := h
    rfl
  obtain ⟨v, u, rfl, al, q⟩ := h
  refine ⟨_, (pss_cons (ps_if (pt_val (pe_callB (call_isiTK K rfl) (by rfl) T.m_isinstance (by decide +kernel) (pa_cons (pv 1) (pa_cons (pe_tup (pa_cons (pe_bltn (v := .ty "list") (by rfl) T.m_list (by decide +kernel) rfl) (pa_cons (pe_bltn (v := .ty "tuple") (by rfl) T.m_tuple (by decide +kernel) rfl) pa_nil))) pa_nil)))) (pss_cons (ps_if (PW.pt (pw_or (pt_cmpR op_ne (pe_callB (call_isiKK K rfl) (by rfl) T.m_isinstance (by decide +kernel) (pa_cons (pv 0) (pa_cons (pe_bltn (v := .ty "list") (by rfl) T.m_list (by decide +kernel) rfl) pa_nil))) (pe_callB (call_isiKK K rfl) (by rfl) T.m_isinstance (by decide +kernel) (pa_cons (pv 1) (pa_cons (pe_bltn (v := .ty "list") (by rfl) T.m_list (by decide +kernel) rfl) pa_nil))) (nomark _)) (pw_or1 (pt_cmpR op_ne (pe_callB (call_isiKK K rfl) (by rfl) T.m_isinstance (by decide +kernel) (pa_cons (pv 0) (pa_cons (pe_bltn (v := .ty "tuple") (by rfl) T.m_tuple (by decide +kernel) rfl) pa_nil))) (pe_callB (call_isiKK K rfl) (by rfl) T.m_isinstance (by decide +kernel) (pa_cons (pv 1) (pa_cons (pe_bltn (v := .ty "tuple") (by rfl) T.m_tuple (by decide +kernel) rfl) pa_nil))) (nomark _))))) (pss_one (ps_ret pe_bl)) pss_nil)
      (pss_cons (ps_if (pt_cmpR op_ne (pe_callB (call_len_seqK K rfl) (by rfl) T.m_len (by decide +kernel) (pa_cons (pv 0) pa_nil)) (pe_callB (call_len_seqK K rfl) (by rfl) T.m_len (by decide +kernel) (pa_cons (pv 1) pa_nil)) (nomark _)) (pss_one (ps_ret pe_bl)) pss_nil)
      (pss_one (ps_ret (pe_callB (cr_allK K rfl rfl) (by rfl) T.m_all (by decide +kernel) (pa_cons (pe_lc (own := [("_law_one", 2), ("_law_other", 3)]) (g := gTup K 2 (gCons (gName 2) (gCons (gName 3) gNil))) (tt := tYes) (by rfl) sc_law_alike.nd (pi_zipAK K rfl (by rfl) T.m_zip (pa_cons (pv 0) (pa_cons (pv 1) pa_nil))) (blkOk_by (own := [("_law_one", 2), ("_law_other", 3)]) (N := N_law_alike) (sc := defScope s_law_alike) (by decide +kernel)) (fun _ _ _ _ _ => (pg_tupK K rfl rfl (pgs_cons (pg_name (i := 2) sc_law_alike.nd rfl (Or.inl rfl)) (pgs_cons (pg_name (i := 3) sc_law_alike.nd rfl (Or.inl rfl)) pgs_nil)))) (fun _ _ _ _ _ => pts_nil) (fun _ _ _ _ _ => (pe_call G_law_alike (hr.mono (Nat.le_refl _)) (by rfl) m_law_alike F_law_alike.kp b_law_alike .nil pass0 (pa_cons (pv 2) (pa_cons (pv 3) pa_nil))))) pa_nil)))))) pss_nil)
      (pss_cons (ps_if (PW.pt (pw_or (pt_val (pe_callB (call_isiKK K rfl) (by rfl) T.m_isinstance (by decide +kernel) (pa_cons (pv 1) (pa_cons (pe_bltn (v := .ty "str") (by rfl) T.m_str (by decide +kernel) rfl) pa_nil)))) (pw_or1 (pt_cmpR op_isN (pv 1) pe_non (nomark _))))) (pss_one (ps_ret (pe_and (pe_cmpR op_eq (pe_callB (call_isiKK K rfl) (by rfl) T.m_isinstance (by decide +kernel) (pa_cons (pv 0) (pa_cons (pe_bltn (v := .ty "str") (by rfl) T.m_str (by decide +kernel) rfl) pa_nil))) (pe_callB (call_isiKK K rfl) (by rfl) T.m_isinstance (by decide +kernel) (pa_cons (pv 1) (pa_cons (pe_bltn (v := .ty "str") (by rfl) T.m_str (by decide +kernel) rfl) pa_nil))) (nomark _)) (pe_one (pe_cmpR (op_eqDK K rfl hr.units) (pv 0) (pv 1) (nomark _)))))) pss_nil)
      (pss_one (ps_ret (pe_and (pe_callB (call_isiKK K rfl) (by rfl) T.m_isinstance (by decide +kernel) (pa_cons (pv 0) (pa_cons (pe_bltn (v := .ty "int") (by rfl) T.m_int (by decide +kernel) rfl) pa_nil))) (pe_and (pe_cmpR op_eq (pe_callB (call_isiKK K rfl) (by rfl) T.m_isinstance (by decide +kernel) (pa_cons (pv 0) (pa_cons (pe_bltn (v := .ty "bool") (by rfl) T.m_bool (by decide +kernel) rfl) pa_nil))) (pe_callB (call_isiKK K rfl) (by rfl) T.m_isinstance (by decide +kernel) (pa_cons (pv 1) (pa_cons (pe_bltn (v := .ty "bool") (by rfl) T.m_bool (by decide +kernel) rfl) pa_nil))) (nomark _)) (pe_one (pe_cmpR (op_eqDK K rfl hr.units) (pv 0) (pv 1) (nomark _))))))))), ?_⟩
  refine ⟨_, rfl, (by show 2 ≤ sizeLine; decide), fun tp ntp => ?_⟩
  have cases2 : Leaf v u ∨ ∃ m, n = m + 1 ∧ ∃ (p q : Addr) (xs ys : List V), v = .ref p ∧ u = .ref q ∧ ((H p = some (.lst xs) ∧ H q = some (.lst ys)) ∨ (H p = some (.tup xs) ∧ H q = some (.tup ys))) ∧ xs.length ≤ 400 ∧ All2 (Al m H) xs ys := by
    cases n with
    | zero => exact .inl al
    | succ m => exact al.imp id fun z => ⟨m, rfl, z⟩
  rcases cases2 with (⟨a, rfl, rfl⟩ | ⟨x, rfl, rfl, lay⟩ | ⟨rfl, rfl⟩) | ⟨m, rfl, p, q2, xs, ys, rfl, rfl, kinds, few, al⟩
  · skip
    refine ⟨_, tp, _, _, _, false, rfl, upd_same, .cons (.ty "list") (.cons (.ty "tuple") .nil), .base (.int _), kit_int, _, rfl, if_bl (fun z => nomatch z) (fun _ => ?_)⟩
    refine ⟨_, rfl, _, _, _, _, false, rfl, .ty "str", .base (.int _), kit_ty (by decide +kernel), _, rfl, if_bl (fun z => nomatch z) (fun _ => ?_)⟩
    refine ⟨_, rfl, rfl, _, rfl, if_bl (fun z => absurd (of_decide_eq_true z) (fun y => nomatch y)) (fun _ => ?_)⟩
    refine ⟨_, rfl, _, _, _, _, true, rfl, .ty "int", .base (.int _), kit_ty (by decide +kernel), _, rfl, if_bl (fun _ => ?_) (fun z => nomatch z)⟩
    refine ⟨_, rfl, _, _, _, _, false, rfl, .ty "bool", .base (.int _), kit_ty (by decide +kernel), _, rfl, _, _, _, _, false, rfl, .ty "bool", .base (.int _), kit_ty (by decide +kernel), rfl, _, rfl, if_bl (fun _ => ?_) (fun z => nomatch z)⟩
    refine ⟨_, rfl, _, rfl, _, _, .int a, .int a, rfl, rfl, ?_⟩
    rw [show PyData.eqv (.int a) (.int a) = true by simp [PyData.eqv]]
    exact q _ (same_new ntp)
  · skip
    refine ⟨_, tp, _, _, _, false, rfl, upd_same, .cons (.ty "list") (.cons (.ty "tuple") .nil), .base (.str _), kit_str, _, rfl, if_bl (fun z => nomatch z) (fun _ => ?_)⟩
    refine ⟨_, rfl, _, _, _, _, true, rfl, .ty "str", .base (.str _), kit_ty (by decide +kernel), _, rfl, if_bl (fun _ => ?_) (fun z => nomatch z)⟩
    refine ⟨_, rfl, _, _, _, _, true, rfl, .ty "str", .base (.str _), kit_ty (by decide +kernel), _, rfl, _, _, _, _, true, rfl, .ty "str", .base (.str _), kit_ty (by decide +kernel), rfl, _, rfl, if_bl (fun _ => ?_) (fun z => nomatch z)⟩
    refine ⟨_, rfl, _, rfl, _, _, .str x, .str x, leaf_shaped lay, leaf_shaped lay, ?_⟩
    rw [PySem.SeqAt.eqv_refl (.str x) lay]
    exact q _ (same_new ntp)
  · skip
    refine ⟨_, tp, _, _, _, false, rfl, upd_same, .cons (.ty "list") (.cons (.ty "tuple") .nil), .base .non, kit_non, _, rfl, if_bl (fun z => nomatch z) (fun _ => ?_)⟩
    refine ⟨_, rfl, _, _, _, _, false, rfl, .ty "str", .base .non, kit_ty (by decide +kernel), _, rfl, if_bl (fun z => nomatch z) (fun _ => ?_)⟩
    refine ⟨_, rfl, rfl, _, rfl, if_bl (fun _ => ?_) (fun z => absurd rfl (of_decide_eq_false z))⟩
    refine ⟨_, rfl, _, _, _, _, false, rfl, .ty "str", .base .non, kit_ty (by decide +kernel), _, rfl, _, _, _, _, false, rfl, .ty "str", .base .non, kit_ty (by decide +kernel), rfl, _, rfl, if_bl (fun _ => ?_) (fun z => nomatch z)⟩
    refine ⟨_, rfl, _, rfl, _, _, .non, .non, rfl, rfl, ?_⟩
    rw [show PyData.eqv .none .none = true by simp [PyData.eqv]]
    exact q _ (same_new ntp)
  rcases kinds with ⟨hp, hq⟩ | ⟨hp, hq⟩
  · have hp1 := same_new (o := .tup [V.ty "list", V.ty "tuple"]) ntp _ _ hp
    have hq1 := same_new (o := .tup [V.ty "list", V.ty "tuple"]) ntp _ _ hq
    refine ⟨_, tp, _, _, _, true, rfl, upd_same, .cons (.ty "list") (.cons (.ty "tuple") .nil), .base (.lst hq1), kit_lst, _, rfl, if_bl (fun _ => ?_) (fun z => nomatch z)⟩
    refine ⟨_, rfl, _, _, _, _, true, rfl, .ty "list", .base (.lst hp1), kit_ty (by decide +kernel), _, rfl, _, _, _, _, true, rfl, .ty "list", .base (.lst hq1), kit_ty (by decide +kernel), rfl, _, rfl, if_bl (fun z => nomatch z) (fun _ => ?_)⟩
    refine ⟨_, rfl, _, _, _, _, false, rfl, .ty "tuple", .base (.lst hp1), kit_ty (by decide +kernel), _, rfl, _, _, _, _, false, rfl, .ty "tuple", .base (.lst hq1), kit_ty (by decide +kernel), rfl, _, rfl, if_bl (fun z => nomatch z) (fun _ => ?_)⟩
    refine ⟨_, rfl, p, _, rfl, .inl (SqL.of hp1), _, rfl, q2, _, rfl, .inl (SqL.of hq1), rfl, _, rfl, if_bl (fun z => ?_) (fun _ => ?_)⟩
    · rw [al.length, decide_eq_true rfl] at z
      cases z
    dsimp only [tNext, tRet, tCB, tCons, tLc]
    refine or_zip (p := p) (q := q2) (xs := xs) (ys := ys) (fun Q q => ⟨_, rfl, _, rfl, q⟩) (.inl ⟨hp1, hq1⟩) al.length (fun J gj sj yj D nD => lc_it (J := J) (n := xs.length) (fun i H5 => H5 D = some (.lst ((List.replicate i true).map V.bl)) ∧ Same (upd H tp (.tup [V.ty "list", V.ty "tuple"])) H5) ⟨upd_same, same_new nD⟩ ?_ ?_ ?_ ?_)
    · rintro i H5 hi ⟨hD, s5⟩
      exact gj i H5 ⟨(s5 _ _ hp1).trans hp1.symm, (s5 _ _ hq1).trans hq1.symm⟩ hi
    · rintro H5 ⟨hD, s5⟩
      exact sj H5 ⟨(s5 _ _ hp1).trans hp1.symm, (s5 _ _ hq1).trans hq1.symm⟩
    · rintro i v H5 H6 hi ⟨hD, s5⟩ y
      obtain ⟨t, x, z, rfl, nt, rfl, ex, ez⟩ := yj i H5 v H6 ⟨(s5 _ _ hp1).trans hp1.symm, (s5 _ _ hq1).trans hq1.symm⟩ y
      obtain ⟨z', ez', ha⟩ := al.getL ex
      rw [ez] at ez'
      cases ez'
      have s6 := s5.trans (same_new (o := .tup [x, z]) nt)
      refine ⟨t, _, rfl, SqT.of upd_same, rfl, _, _, rfl, _, _, rfl, rfl, rfl, yes_in ⟨_, rfl, _, rfl, x, z, rfl, ha.same ((same_new ntp).trans s6), fun H7 s7 => ⟨_, s7 _ _ (same_new nt _ _ hD), ?_, ?_, Same.own (s6.trans s7) nD⟩⟩⟩
      · rw [List.length_map, List.length_replicate]; exact small1000 (by omega)
      · rw [upd_same, List.replicate_succ', List.map_append]; rfl
    · rintro H5 ⟨hD, s5⟩
      refine ⟨D, _, rfl, SqL.of hD, ?_⟩
      rw [show (List.replicate xs.length true).all id = true by simp]
      exact q _ ((same_new ntp).trans s5)
  · have hp1 := same_new (o := .tup [V.ty "list", V.ty "tuple"]) ntp _ _ hp
    have hq1 := same_new (o := .tup [V.ty "list", V.ty "tuple"]) ntp _ _ hq
    refine ⟨_, tp, _, _, _, true, rfl, upd_same, .cons (.ty "list") (.cons (.ty "tuple") .nil), .base (.tup hq1), kit_tup, _, rfl, if_bl (fun _ => ?_) (fun z => nomatch z)⟩
    refine ⟨_, rfl, _, _, _, _, false, rfl, .ty "list", .base (.tup hp1), kit_ty (by decide +kernel), _, rfl, _, _, _, _, false, rfl, .ty "list", .base (.tup hq1), kit_ty (by decide +kernel), rfl, _, rfl, if_bl (fun z => nomatch z) (fun _ => ?_)⟩
    refine ⟨_, rfl, _, _, _, _, true, rfl, .ty "tuple", .base (.tup hp1), kit_ty (by decide +kernel), _, rfl, _, _, _, _, true, rfl, .ty "tuple", .base (.tup hq1), kit_ty (by decide +kernel), rfl, _, rfl, if_bl (fun z => nomatch z) (fun _ => ?_)⟩
    refine ⟨_, rfl, p, _, rfl, .inr (SqT.of hp1), _, rfl, q2, _, rfl, .inr (SqT.of hq1), rfl, _, rfl, if_bl (fun z => ?_) (fun _ => ?_)⟩
    · rw [al.length, decide_eq_true rfl] at z
      cases z
    dsimp only [tNext, tRet, tCB, tCons, tLc]
    refine or_zip (p := p) (q := q2) (xs := xs) (ys := ys) (fun Q q => ⟨_, rfl, _, rfl, q⟩) (.inr ⟨hp1, hq1⟩) al.length (fun J gj sj yj D nD => lc_it (J := J) (n := xs.length) (fun i H5 => H5 D = some (.lst ((List.replicate i true).map V.bl)) ∧ Same (upd H tp (.tup [V.ty "list", V.ty "tuple"])) H5) ⟨upd_same, same_new nD⟩ ?_ ?_ ?_ ?_)
    · rintro i H5 hi ⟨hD, s5⟩
      exact gj i H5 ⟨(s5 _ _ hp1).trans hp1.symm, (s5 _ _ hq1).trans hq1.symm⟩ hi
    · rintro H5 ⟨hD, s5⟩
      exact sj H5 ⟨(s5 _ _ hp1).trans hp1.symm, (s5 _ _ hq1).trans hq1.symm⟩
    · rintro i v H5 H6 hi ⟨hD, s5⟩ y
      obtain ⟨t, x, z, rfl, nt, rfl, ex, ez⟩ := yj i H5 v H6 ⟨(s5 _ _ hp1).trans hp1.symm, (s5 _ _ hq1).trans hq1.symm⟩ y
      obtain ⟨z', ez', ha⟩ := al.getL ex
      rw [ez] at ez'
      cases ez'
      have s6 := s5.trans (same_new (o := .tup [x, z]) nt)
      refine ⟨t, _, rfl, SqT.of upd_same, rfl, _, _, rfl, _, _, rfl, rfl, rfl, yes_in ⟨_, rfl, _, rfl, x, z, rfl, ha.same ((same_new ntp).trans s6), fun H7 s7 => ⟨_, s7 _ _ (same_new nt _ _ hD), ?_, ?_, Same.own (s6.trans s7) nD⟩⟩⟩
      · rw [List.length_map, List.length_replicate]; exact small1000 (by omega)
      · rw [upd_same, List.replicate_succ', List.map_append]; rfl
    · rintro H5 ⟨hD, s5⟩
      refine ⟨D, _, rfl, SqL.of hD, ?_⟩
      rw [show (List.replicate xs.length true).all id = true by simp]
      exact q _ ((same_new ntp).trans s5)
theorem ok_alike (T : Top K mg) : ∀ (n : Nat) (f : Addr) (fd : FuncData), Fun K "_law_alike" "_law_alike" s_law_alike f fd → FnOk P w K mg base CX0 n f fd ["_law_found", "_law_due"] (spA n)
  | 0, _, _, _ => ⟨fun _ _ _ _ h => h.elim, fun _ _ _ _ _ _ _ _ _ _ _ _ _ h => h.elim⟩
  | n + 1, _, _, F => alike_step T n (ok_alike T n) F
abbrev sp_law_alike (K : PySem.W.Frag) : Sp := spA 3
theorem ok_law_alike {f : Addr} {fd : FuncData} (F : Fun K "_law_alike" "_law_alike" s_law_alike f fd) (T : Top K mg) : FnOk P w K mg base CX0 3 f fd ["_law_found", "_law_due"] (sp_law_alike K) := ok_alike T 3 f fd F
end
theorem ixN_nat {n k : Nat} (h : k < n) : ixN n ((k : Nat) : Int) = some k := by
  unfold ixN
  rw [if_pos (by omega), if_pos (by omega)]
  simp
/-- a list of what is come to -/
def FC (H : Hp) (xs : List V) (cf : Nat → Option Co) : Prop := ∀ k, k < xs.length → (cf k = none ∧ xs[k]? = some .non) ∨ ∃ c t, cf k = some c ∧ xs[k]? = some (.ref t) ∧ H t = some (.tup [.int c.1, .int c.2])
theorem FC.keep {H H' : Hp} {xs : List V} {cf : Nat → Option Co} (d : FC H xs cf) (s : TK H H') : FC H' xs cf := fun k hk => by
  rcases d k hk with h | ⟨c, t, h1, h2, h3⟩
  · exact .inl h
  · exact .inr ⟨c, t, h1, h2, s _ _ h3⟩
theorem FC.set {H : Hp} {xs : List V} {cf : Nat → Option Co} (d : FC H xs cf) {j : Nat} {t : Addr} {c : Co} (h : H t = some (.tup [.int c.1, .int c.2])) : FC H (xs.set j (.ref t)) (fun k => if k = j then some c else cf k) := fun k hk => by
  rw [List.length_set] at hk
  show ((if k = j then some c else cf k) = none ∧ _) ∨ ∃ c' t', (if k = j then some c else cf k) = some c' ∧ _
  by_cases e : k = j
  · subst e
    rw [if_pos rfl]
    exact .inr ⟨c, t, rfl, List.getElem?_set_self hk, h⟩
  · rw [if_neg e, List.getElem?_set_ne (fun z => e z.symm)]
    exact d k hk
section
variable {P : Program} {w : World} {K : PySem.W.Frag} {mg : Str → Option Value} {base : Heap}
def sp_law_least_from (K : PySem.W.Frag) : Sp := fun vs H Q _ => ∃ (r : Addr) (hs : List HR) (bs : List BR) (one : Nat), vs = [.ref r, nV one] ∧ RoomAt H r hs bs ∧ RoomOk hs bs ∧ one < hs.length ∧
  ∀ (p : Addr) (xs : List V) (H' : Hp), H' p = some (.lst xs) → xs.length = hs.length → FC H' xs (best hs bs one) → Same H H' → Q (.ref p) H'
theorem ok_law_least_from {f : Addr} {fd : FuncData} (F : Fun K "_law_least_from" "_law_least_from" s_law_least_from f fd) (T : Top K mg) : FnOk P w K mg base CX0 1 f fd ["_law_room_here", "_law_hand"] (sp_law_least_from K) := by
  refine F.ok sc_law_least_from (fun vs H Q E h => ?_) (fun cdv A outer s H vs Q E hr h => ?_)
  · obtain ⟨r, hs, bs, one, rfl, _⟩ := h
    rfl
  obtain ⟨r, hs, bs, one, rfl, hR, ok, ho, q⟩ := h
  obtain ⟨ha, ba, hv, bv, er, eh, eb, alh, alb⟩ := hR.ex
  have lhv := alh.length
  have lbv := alb.length
  have lh := ok.hands
  have lb := ok.many
  have ehk : hs[one]? = some hs[one] := List.getElem?_eq_getElem ho
  have mom1 : momH hs one = hs[one].mom := by unfold momH; rw [ehk]
  obtain ⟨x0, ex0, ⟨t0, r0, rfl, e01, e02⟩⟩ := alh.get ehk
  refine ⟨_, (pss_cons (ps_asg (pv 0) (pg_tupK K rfl rfl (pgs_cons (pg_name (i := 2) sc_law_least_from.nd rfl (Or.inl rfl)) (pgs_cons (pg_name (i := 3) sc_law_least_from.nd rfl (Or.inl rfl)) pgs_nil))))
      (pss_cons (ps_setLc (i := 4) (own := [("_law_k", 5)]) (g := gName 5) (tt := tYes) (by rfl) sc_law_least_from.nd rfl rfl (sw_true rfl rfl rfl (by decide +kernel)) (pi_range1 (by rfl) T.m_range (pa_cons (pe_callB (call_len_seqK K rfl) (by rfl) T.m_len (by decide +kernel) (pa_cons (pv 2) pa_nil)) pa_nil)) (blkOk_by (own := [("_law_k", 5)]) (N := N_law_least_from) (sc := defScope s_law_least_from) (by decide +kernel)) (fun _ _ _ _ _ => (pg_name (i := 5) sc_law_least_from.nd rfl (Or.inl rfl))) (fun _ _ _ _ _ => pts_nil) (fun _ _ _ _ _ => pe_non))
      (pss_cons (ps_asg (pe_tup (pa_cons pe_int (pa_cons (pe_ix (ix_tupK K rfl) (pe_ix (ix_tupK K rfl) (pv 2) (pv 1) (fun _ _ => rfl)) pe_int (fun _ _ => rfl)) pa_nil))) (pg_sub (pv 4) (pv 1) set_list))
      (pss_cons (ps_for PassesOwn.never rfl (pi_range1 (by rfl) T.m_range (pa_cons (pe_callB (call_len_seqK K rfl) (by rfl) T.m_len (by decide +kernel) (pa_cons (pv 2) pa_nil)) pa_nil)) (pg_name (i := 6) sc_law_least_from.nd rfl (Or.inl rfl))
        (pss_one (ps_for PassesOwn.never rfl (pi_tupK K rfl (pv 3)) (pg_tupK K rfl rfl (pgs_cons (pg_name (i := 7) sc_law_least_from.nd rfl (Or.inl rfl)) (pgs_cons (pg_name (i := 8) sc_law_least_from.nd rfl (Or.inl rfl)) (pgs_cons (pg_name (i := 9) sc_law_least_from.nd rfl (Or.inl rfl)) pgs_nil))))
        (pss_one (ps_if (pt_cmpR op_notN (pe_ix (ix_listK K rfl) (pv 4) (pv 7) (fun _ _ => rfl)) pe_non (nomark _)) (pss_cons (ps_set (i := 10) sc_law_least_from.nd rfl (Or.inl rfl) (pe_op op_add (pe_ix (ix_tupK K rfl) (pe_ix (ix_listK K rfl) (pv 4) (pv 7) (fun _ _ => rfl)) pe_int (fun _ _ => rfl)) (pe_callB (call_len_seqK K rfl) (by rfl) T.m_len (by decide +kernel) (pa_cons (pv 9) pa_nil))))
      (pss_cons (ps_set (i := 11) sc_law_least_from.nd rfl (Or.inl rfl) (pe_op op_add (pe_ix (ix_tupK K rfl) (pe_ix (ix_listK K rfl) (pv 4) (pv 7) (fun _ _ => rfl)) pe_int (fun _ _ => rfl)) (pe_ix (ix_tupK K rfl) (pe_ix (ix_tupK K rfl) (pv 2) (pv 8) (fun _ _ => rfl)) pe_int (fun _ _ => rfl))))
      (pss_one (ps_if (PW.pt (pw_or (pt_cmpR op_isN (pe_ix (ix_listK K rfl) (pv 4) (pv 8) (fun _ _ => rfl)) pe_non (nomark _)) (pw_or1 (pt_cmpR op_lt (pv 10) (pe_ix (ix_tupK K rfl) (pe_ix (ix_listK K rfl) (pv 4) (pv 8) (fun _ _ => rfl)) pe_int (fun _ _ => rfl)) (nomark _))))) (pss_one (ps_asg (pe_tup (pa_cons (pv 10) (pa_cons (pv 11) pa_nil))) (pg_sub (pv 4) (pv 8) set_list))) (pss_one (ps_if (PW.pt (pw_and (pt_cmpR op_eq (pv 10) (pe_ix (ix_tupK K rfl) (pe_ix (ix_listK K rfl) (pv 4) (pv 8) (fun _ _ => rfl)) pe_int (fun _ _ => rfl)) (nomark _)) (pw_and1 (pt_cmpR op_gt (pv 11) (pe_ix (ix_tupK K rfl) (pe_ix (ix_listK K rfl) (pv 4) (pv 8) (fun _ _ => rfl)) pe_int (fun _ _ => rfl)) (nomark _))))) (pss_one (ps_asg (pe_tup (pa_cons (pv 10) (pa_cons (pv 11) pa_nil))) (pg_sub (pv 4) (pv 8) set_list))) pss_nil)))))) pss_nil)))))
      (pss_one (ps_ret (pv 4))))))), ?_⟩
  refine ⟨_, rfl, r, _, rfl, SqT.of er, rfl, _, _, rfl, _, _, rfl, rfl, ?_⟩
  refine ⟨_, rfl, ha, _, rfl, .inr (SqT.of eh), _, rfl, by omega, by omega, fun D nD => lc_range (lo := 0) (n := hv.length) (fun i H5 => H5 D = some (.lst (List.replicate i V.non)) ∧ Same H H5) ⟨upd_same, same_new nD⟩ ?_ ?_⟩
  · rintro i H5 hi ⟨hD, s5⟩
    refine ⟨rfl, yes_in ⟨_, hD, by rw [List.length_replicate]; exact small1000 (by omega), ?_, Same.own s5 nD⟩⟩
    rw [upd_same, List.replicate_succ']
  rintro H1 ⟨hD, s1⟩
  refine ⟨_, rfl, _, rfl, ha, _, _, _, rfl, rfl, SqT.of (s1 _ _ eh), atI_nat ex0, t0, _, _, _, rfl, rfl, SqT.of (s1 _ _ e01), atI_nat (j := 1) rfl, (by show 2 ≤ sizeLine; decide), fun t nt => ?_⟩
  have hD2 := same_new (o := .tup [V.int 0, V.int hs[one].mom]) nt _ _ hD
  refine ⟨_, rfl, _, rfl, D, _, _, one, rfl, rfl, hD2, ixN_nat (by rw [List.length_replicate]; omega), ?_⟩
  have s2 : Same H (upd (upd H1 t (.tup [V.int 0, V.int hs[one].mom])) D (.lst ((List.replicate hv.length V.non).set one (V.ref t)))) := Same.own (s1.trans (same_new nt)) nD
  have F0 : FC (upd (upd H1 t (.tup [V.int 0, V.int hs[one].mom])) D (.lst ((List.replicate hv.length V.non).set one (V.ref t)))) ((List.replicate hv.length V.non).set one (V.ref t)) (cfI hs bs one 0) := by
    have : FC (upd H1 t (.tup [V.int 0, V.int hs[one].mom])) (List.replicate hv.length V.non) (fun _ => none) := fun k hk => .inl ⟨rfl, by rw [List.getElem?_replicate, if_pos (by rw [List.length_replicate] at hk; exact hk)]⟩
    exact (this.set (j := one) (t := t) (c := (0, momH hs one)) (by rw [mom1]; exact upd_same)).keep (TK.lst hD2)
  refine ⟨_, rfl, ha, _, rfl, .inr (SqT.of (s2 _ _ eh)), _, rfl, by omega, by omega, for_range (lo := 0) (n := hv.length) (fun i σ H2 => ∃ (xs : List V) (v5 v6 v7 v8 v9 v10 v11 : Option V), σ = [some (.ref r), some (nV one), some (.ref ha), some (.ref ba), some (.ref D), v5, v6, v7, v8, v9, v10, v11] ∧ H2 D = some (.lst xs) ∧ xs.length = hs.length ∧ FC H2 xs (cfI hs bs one i) ∧ Same H H2)
    ⟨_, _, _, _, _, _, _, _, rfl, upd_same, by rw [List.length_set, List.length_replicate]; exact lhv, F0, s2⟩ ?_ ?_⟩
  · rintro i σ H2 hi ⟨xs, v5, v6, v7, v8, v9, v10, v11, rfl, hD, lx, fc, s⟩
    refine ⟨_, rfl, ba, rfl, ⟨_, SqT.of (s _ _ eb)⟩, for_tup (K := K) (a := ba) (xs := bv) (fun j σ H3 => ∃ (xs : List V) (v5 v6 v7 v8 v9 v10 v11 : Option V), σ = [some (.ref r), some (nV one), some (.ref ha), some (.ref ba), some (.ref D), v5, v6, v7, v8, v9, v10, v11] ∧ H3 D = some (.lst xs) ∧ xs.length = hs.length ∧ FC H3 xs ((bs.take j).foldl (relax hs) (cfI hs bs one i)) ∧ Same H H3)
      ⟨xs, _, _, _, _, _, _, _, rfl, hD, lx, fc, s⟩ (fun j σ H3 _ ⟨_, _, _, _, _, _, _, _, _, _, _, _, s⟩ => SqT.of (s _ _ eb)) ?_ ?_⟩
    · rintro j x σ H3 hx ⟨xs, v5, v6, v7, v8, v9, v10, v11, rfl, hD, lx, fc, s⟩
      obtain ⟨b, ebj, ⟨t2, g, rfl, e1, e2⟩⟩ := alb.getL hx
      have hb := List.mem_of_getElem? ebj
      have ob := (ok.ends b hb).1
      have tb := (ok.ends b hb).2
      have nx : (bs.take (j + 1)).foldl (relax hs) (cfI hs bs one i) = relax hs ((bs.take j).foldl (relax hs) (cfI hs bs one i)) b := by
        rw [List.take_add_one, ebj, List.foldl_append]; rfl
      obtain ⟨cf, ecf⟩ : ∃ cf, cf = (bs.take j).foldl (relax hs) (cfI hs bs one i) := ⟨_, rfl⟩
      rw [← ecf] at fc nx
      refine ⟨t2, _, rfl, SqT.of (s _ _ e1), rfl, _, _, rfl, _, _, rfl, _, _, rfl, rfl, ?_⟩
      rcases fc b.one (by omega) with ⟨d1, d2⟩ | ⟨c, tc, d1, d2, htc⟩
      · refine ⟨_, rfl, _, rfl, D, _, _, _, rfl, rfl, SqL.of hD, atI_nat d2, rfl, _, rfl, if_bl (fun z => nomatch z) (fun _ => ?_)⟩
        rw [relax_none d1] at nx
        exact ⟨xs, _, _, _, _, _, _, _, rfl, hD, lx, by rw [nx]; exact fc, s⟩
      have ntc : decide (V.ref tc = V.non) = false := decide_eq_false (fun z => nomatch z)
      refine ⟨_, rfl, _, rfl, D, _, _, _, rfl, rfl, SqL.of hD, atI_nat d2, rfl, _, rfl, if_bl (fun _ => ?_) (fun z => by rw [ntc] at z; cases z)⟩
      have eht : hs[b.to]? = some hs[b.to] := List.getElem?_eq_getElem tb
      have mom2 : momH hs b.to = hs[b.to].mom := by unfold momH; rw [eht]
      obtain ⟨x3, ex3, ⟨t3, r3, rfl, e31, e32⟩⟩ := alh.get eht
      refine ⟨_, rfl, _, rfl, D, _, _, _, rfl, rfl, SqL.of hD, atI_nat d2, tc, _, _, _, rfl, rfl, SqT.of htc, atI_nat (j := 0) rfl, _, rfl, g, _, rfl, .inr (SqT.of (s _ _ e2)), _, _, rfl, rfl, ?_⟩
      refine ⟨_, rfl, _, rfl, D, _, _, _, rfl, rfl, SqL.of hD, atI_nat d2, tc, _, _, _, rfl, rfl, SqT.of htc, atI_nat (j := 1) rfl, _, rfl, _, rfl, ha, _, _, _, rfl, rfl, SqT.of (s _ _ eh), atI_nat ex3, t3, _, _, _, rfl, rfl, SqT.of (s _ _ e31), atI_nat (j := 1) rfl, _, _, rfl, rfl, ?_⟩
      have en1 : c.1 + (((b.th.map V.int).length : Nat) : Int) = (coAdd hs c b).1 := by rw [List.length_map]; rfl
      have en2 : c.2 + hs[b.to].mom = (coAdd hs c b).2 := by rw [← mom2]; rfl
      have put : ∀ tn, H3 tn = none → (relax hs cf b = fun k => if k = b.to then some (coAdd hs c b) else cf k) → ∃ (xs' : List V) (w5 w6 w7 w8 w9 w10 w11 : Option V), [some (.ref r), some (nV one), some (.ref ha), some (.ref ba), some (.ref D), v5, v6, some (nV b.one), some (nV b.to), some (.ref g), some (V.int (c.1 + (((b.th.map V.int).length : Nat) : Int))), some (V.int (c.2 + hs[b.to].mom))] = [some (.ref r), some (nV one), some (.ref ha), some (.ref ba), some (.ref D), w5, w6, w7, w8, w9, w10, w11] ∧ (upd (upd H3 tn (.tup [V.int (c.1 + (((b.th.map V.int).length : Nat) : Int)), V.int (c.2 + hs[b.to].mom)])) D (.lst (xs.set b.to (V.ref tn)))) D = some (.lst xs') ∧ xs'.length = hs.length ∧ FC (upd (upd H3 tn (.tup [V.int (c.1 + (((b.th.map V.int).length : Nat) : Int)), V.int (c.2 + hs[b.to].mom)])) D (.lst (xs.set b.to (V.ref tn)))) xs' ((bs.take (j + 1)).foldl (relax hs) (cfI hs bs one i)) ∧ Same H (upd (upd H3 tn (.tup [V.int (c.1 + (((b.th.map V.int).length : Nat) : Int)), V.int (c.2 + hs[b.to].mom)])) D (.lst (xs.set b.to (V.ref tn)))) := fun tn ntn er1 => by
        rw [er1] at nx
        rw [nx]
        exact ⟨xs.set b.to (V.ref tn), _, _, _, _, _, _, _, rfl, upd_same, by rw [List.length_set]; exact lx, ((fc.keep (TK.new ntn)).set (c := coAdd hs c b) (by rw [← en1, ← en2]; exact upd_same)).keep (TK.lst (same_new ntn _ _ hD)), Same.own (s.trans (same_new ntn)) nD⟩
      rcases fc b.to (by omega) with ⟨f1, f2⟩ | ⟨d, td, f1, f2, htd⟩
      · refine ⟨_, rfl, _, rfl, D, _, _, _, rfl, rfl, SqL.of hD, atI_nat f2, rfl, _, rfl, if_bl (fun _ => if_bl (fun _ => ?_) (fun z => nomatch z)) (fun z => absurd rfl (of_decide_eq_false z))⟩
        exact ⟨_, rfl, _, rfl, (by show 2 ≤ sizeLine; decide), fun tn ntn => ⟨_, rfl, _, rfl, D, _, _, b.to, rfl, rfl, same_new ntn _ _ hD, ixN_nat (by omega), put tn ntn (relax_new d1 f1)⟩⟩
      have ntd : decide (V.ref td = V.non) = false := decide_eq_false (fun z => nomatch z)
      refine ⟨_, rfl, _, rfl, D, _, _, _, rfl, rfl, SqL.of hD, atI_nat f2, rfl, _, rfl, if_bl (fun z => by rw [ntd] at z; cases z) (fun _ => ?_)⟩
      refine ⟨_, rfl, _, rfl, _, rfl, D, _, _, _, rfl, rfl, SqL.of hD, atI_nat f2, td, _, _, _, rfl, rfl, SqT.of htd, atI_nat (j := 0) rfl, _, _, rfl, rfl, _, rfl, if_bl (fun l1 => ?_) (fun l1 => ?_)⟩
      · have l1 : (coAdd hs c b).1 < d.1 := by rw [← en1]; exact of_decide_eq_true l1
        exact ⟨_, rfl, _, rfl, (by show 2 ≤ sizeLine; decide), fun tn ntn => ⟨_, rfl, _, rfl, D, _, _, b.to, rfl, rfl, same_new ntn _ _ hD, ixN_nat (by omega), put tn ntn (relax_lt d1 f1 (.inl l1))⟩⟩
      have l1 : ¬ (coAdd hs c b).1 < d.1 := by rw [← en1]; exact of_decide_eq_false l1
      have idle : ¬ coLt (coAdd hs c b) d → ∃ (xs' : List V) (w5 w6 w7 w8 w9 w10 w11 : Option V), [some (.ref r), some (nV one), some (.ref ha), some (.ref ba), some (.ref D), v5, v6, some (nV b.one), some (nV b.to), some (.ref g), some (V.int (c.1 + (((b.th.map V.int).length : Nat) : Int))), some (V.int (c.2 + hs[b.to].mom))] = [some (.ref r), some (nV one), some (.ref ha), some (.ref ba), some (.ref D), w5, w6, w7, w8, w9, w10, w11] ∧ H3 D = some (.lst xs') ∧ xs'.length = hs.length ∧ FC H3 xs' ((bs.take (j + 1)).foldl (relax hs) (cfI hs bs one i)) ∧ Same H H3 := fun l => by
        rw [relax_ge d1 f1 l] at nx
        rw [nx]
        exact ⟨xs, _, _, _, _, _, _, _, rfl, hD, lx, fc, s⟩
      refine ⟨_, rfl, _, rfl, _, rfl, D, _, _, _, rfl, rfl, SqL.of hD, atI_nat f2, td, _, _, _, rfl, rfl, SqT.of htd, atI_nat (j := 0) rfl, rfl, _, rfl, if_bl (fun l2 => ?_) (fun l2 => if_bl (fun z => nomatch z) (fun _ => ?_))⟩
      · have l2 : (coAdd hs c b).1 = d.1 := by rw [← en1]; exact V.int.inj (of_decide_eq_true l2)
        refine ⟨_, rfl, _, rfl, _, rfl, D, _, _, _, rfl, rfl, SqL.of hD, atI_nat f2, td, _, _, _, rfl, rfl, SqT.of htd, atI_nat (j := 1) rfl, _, _, rfl, rfl, _, rfl, if_bl (fun l3 => ?_) (fun l3 => ?_)⟩
        · have l3 : d.2 < (coAdd hs c b).2 := by rw [← en2]; exact of_decide_eq_true l3
          exact ⟨_, rfl, _, rfl, (by show 2 ≤ sizeLine; decide), fun tn ntn => ⟨_, rfl, _, rfl, D, _, _, b.to, rfl, rfl, same_new ntn _ _ hD, ixN_nat (by omega), put tn ntn (relax_lt d1 f1 (.inr ⟨l2, l3⟩))⟩⟩
        · have l3 : ¬ d.2 < (coAdd hs c b).2 := by rw [← en2]; exact of_decide_eq_false l3
          exact idle fun z => by unfold coLt at z; omega
      · have l2 : ¬ (coAdd hs c b).1 = d.1 := fun z => of_decide_eq_false l2 (by rw [← en1] at z; exact congrArg V.int z)
        exact idle fun z => by unfold coLt at z; omega
    · rintro σ H3 ⟨xs, v5, v6, v7, v8, v9, v10, v11, rfl, hD, lx, fc, s⟩
      rw [lbv, List.take_length] at fc
      exact ⟨xs, _, _, _, _, _, _, _, rfl, hD, lx, fc, s⟩
  · rintro σ H2 ⟨xs, v5, v6, v7, v8, v9, v10, v11, rfl, hD, lx, fc, s⟩
    rw [lhv] at fc
    exact ⟨_, rfl, q D xs H2 hD lx fc s⟩
end
def thinB (m : Nat) (b : BR) : BR := { b with th := b.th.take m }
theorem RoomOk.thin {hs : List HR} {bs : List BR} (ok : RoomOk hs bs) {m : Nat} (hm : 1 ≤ m) : RoomOk hs (bs.map (thinB m)) := by
  obtain ⟨rk, hrk⟩ := ok.rank
  refine ⟨ok.hands, ok.good, fun b hb => ?_, fun b hb => ?_, fun b hb => ?_, ⟨rk, fun b hb e => ?_⟩, fun k h e => ?_, by rw [List.length_map]; exact ok.many⟩
  · obtain ⟨c, hc, rfl⟩ := List.mem_map.mp hb
    exact ok.ends c hc
  · obtain ⟨c, hc, rfl⟩ := List.mem_map.mp hb
    exact ok.out c hc
  · obtain ⟨c, hc, rfl⟩ := List.mem_map.mp hb
    refine ⟨?_, fun x hx => (ok.th c hc).2 x (List.mem_of_mem_take hx)⟩
    have := (ok.th c hc).1
    show (c.th.take m).length ≤ 6
    rw [List.length_take]
    omega
  · obtain ⟨c, hc, rfl⟩ := List.mem_map.mp hb
    refine hrk c hc ?_
    have e : c.th.take m = [] := e
    cases h : c.th with
    | nil => rfl
    | cons a l =>
      rw [h] at e
      have := congrArg List.length e
      rw [List.length_take, List.length_cons] at this
      have : min m (l.length + 1) = 0 := this
      omega
  · have : (bs.map (thinB m)).map BR.to = bs.map BR.to := by
      rw [List.map_map]; rfl
    rw [this]
    exact ok.count k h e
section
variable {P : Program} {w : World} {K : PySem.W.Frag} {mg : Str → Option Value} {base : Heap}
def sp_law_thin (K : PySem.W.Frag) : Sp := fun vs H Q _ => ∃ (r : Addr) (hs : List HR) (bs : List BR) (m : Nat), vs = [.ref r, nV m] ∧ RoomAt H r hs bs ∧ bs.length ≤ 400 ∧ ∀ (p : Addr) (H' : Hp), RoomAt H' p hs (bs.map (thinB m)) → Same H H' → Q (.ref p) H'
theorem ok_law_thin {f : Addr} {fd : FuncData} (F : Fun K "_law_thin" "_law_thin" s_law_thin f fd) (T : Top K mg) : FnOk P w K mg base CX0 1 f fd ["_law_room_here", "_law_most"] (sp_law_thin K) := by
  refine F.ok sc_law_thin (fun vs H Q E h => ?_) (fun cdv A outer s H vs Q E hr h => ?_)
  · obtain ⟨r, hs, bs, m, rfl, _⟩ := h
    rfl
  obtain ⟨r, hs, bs, m, rfl, hR, lb, q⟩ := h
  obtain ⟨ha, ba, hv, bv, er, eh, eb, alh, alb⟩ := hR.ex
  refine ⟨_, (pss_cons (ps_setLc (i := 2) (own := [("_law_one", 3), ("_law_to", 4), ("_law_things", 5)]) (g := gTup K 3 (gCons (gName 3) (gCons (gName 4) (gCons (gName 5) gNil)))) (tt := tYes) (by rfl) sc_law_thin.nd rfl rfl (sw_true rfl rfl rfl (by decide +kernel)) (pi_tupK K rfl (pe_ix (ix_tupK K rfl) (pv 0) pe_int (fun _ _ => rfl))) (blkOk_by (own := [("_law_one", 3), ("_law_to", 4), ("_law_things", 5)]) (N := N_law_thin) (sc := defScope s_law_thin) (by decide +kernel)) (fun _ _ _ _ _ => (pg_tupK K rfl rfl (pgs_cons (pg_name (i := 3) sc_law_thin.nd rfl (Or.inl rfl)) (pgs_cons (pg_name (i := 4) sc_law_thin.nd rfl (Or.inl rfl)) (pgs_cons (pg_name (i := 5) sc_law_thin.nd rfl (Or.inl rfl)) pgs_nil))))) (fun _ _ _ _ _ => pts_nil) (fun _ _ _ _ _ => (pe_tup (pa_cons (pv 3) (pa_cons (pv 4) (pa_cons (pe_slice (sl_tupAK K rfl) (pv 5) po_none (po_some (pv 1))) pa_nil))))))
      (pss_one (ps_ret (pe_tup (pa_cons (pe_ix (ix_tupK K rfl) (pv 0) pe_int (fun _ _ => rfl)) (pa_cons (pe_callTy (call_tuple_ofK K rfl) (by rfl) T.m_tuple (by decide +kernel) (pa_cons (pv 2) pa_nil)) pa_nil)))))), ?_⟩
  refine ⟨_, rfl, r, _, _, _, rfl, rfl, SqT.of er, atI_nat (j := 1) rfl, ba, rfl, ⟨_, SqT.of eb⟩, fun D nD => lc_tup (K := K) (a := ba) (xs := bv) (fun i H5 => ∃ cv : List V, H5 D = some (.lst cv) ∧ All2 (BeltAt H5) cv ((bs.take i).map (thinB m)) ∧ Same H H5) ⟨[], upd_same, .nil, same_new nD⟩ (fun i H5 _ ⟨_, _, _, s5⟩ => SqT.of (s5 _ _ eb)) ?_ ?_⟩
  · rintro i x H5 hx ⟨cv, hD, al, s5⟩
    obtain ⟨b, ebi, ⟨t, g, rfl, e1, e2⟩⟩ := alb.getL hx
    have il := (List.getElem?_eq_some_iff.mp ebi).1
    refine ⟨t, _, rfl, SqT.of (s5 _ _ e1), rfl, _, _, rfl, _, _, rfl, _, _, rfl, rfl, rfl, yes_in ⟨_, rfl, _, rfl, _, rfl, _, rfl, _, rfl, slA_of (s5 _ _ e2) fun p1 H6 h1 s6 => ⟨(by show 3 ≤ sizeLine; decide), fun p2 np2 => ?_⟩⟩⟩
    have s7 := s6.trans (same_new (o := .tup [nV b.one, nV b.to, V.ref p1]) np2)
    have hD7 := s7 _ _ hD
    refine ⟨cv, hD7, ?_, cv ++ [V.ref p2], upd_same, ?_, Same.own (s5.trans s7) nD⟩
    · have := al.length
      rw [List.length_map, List.length_take] at this
      exact small1000 (by omega)
    rw [show (bs.take (i + 1)).map (thinB m) = (bs.take i).map (thinB m) ++ [thinB m b] by rw [List.take_add_one, ebi, List.map_append]; rfl]
    refine ((al.imp fun _ _ z => z.keep (TK.same s7)).snoc ⟨p2, p1, rfl, upd_same, ?_⟩).imp fun _ _ z => z.keep (TK.lst hD7)
    rw [same_new np2 _ _ h1, cut_take, ← List.map_take]
    rfl
  · rintro H5 ⟨cv, hD, al, s5⟩
    rw [alb.length, List.take_length] at al
    refine ⟨_, rfl, r, _, _, _, rfl, rfl, SqT.of (s5 _ _ er), atI_nat (j := 0) rfl, _, rfl, D, _, rfl, .inl ⟨SqL.of hD, fun p np => ⟨(by show 2 ≤ sizeLine; decide), fun p2 np2 => ?_⟩⟩⟩
    have s6 := (s5.trans (same_new (o := .tup cv) np)).trans (same_new (o := .tup [V.ref ha, V.ref p]) np2)
    exact q p2 _ ⟨ha, p, hv, cv, upd_same, s6 _ _ eh, same_new np2 _ _ upd_same, alh.imp fun _ _ z => z.keep (TK.same s6), al.imp fun _ _ z => z.keep ((TK.new np).trans (TK.new np2))⟩ s6
def sp_law_is_way (K : PySem.W.Frag) : Sp := fun vs H Q _ => ∃ (r t : Addr) (hs : List HR) (bs : List BR) (k e : Nat) (ns : List Nat), vs = [.ref r, .ref t] ∧ RoomAt H r hs bs ∧ PairAt H t k ns ∧ k < hs.length ∧ (∀ n ∈ ns, n < bs.length) ∧ ns.length ≤ 300 ∧ wayEnd bs k ns = some e ∧ ∀ H', Same H H' → Q (.bl true) H'
theorem ok_law_is_way {f : Addr} {fd : FuncData} (F : Fun K "_law_is_way" "_law_is_way" s_law_is_way f fd) (T : Top K mg) : FnOk P w K mg base CX0 2 f fd ["_law_room_here", "_law_way"] (sp_law_is_way K) := by
  obtain ⟨f_law_end, fd_law_end, F_law_end, b_law_end, m_law_end⟩ := T.d_law_end
  have G_law_end := ok_law_end (P := P) (w := w) (base := base) F_law_end T
  refine F.ok sc_law_is_way (fun vs H Q E h => ?_) (fun cdv A outer s H vs Q E hr h => ?_)
  · obtain ⟨r, t, hs, bs, k, e, ns, rfl, _⟩ := h
    rfl
  obtain ⟨r, t, hs, bs, k, e, ns, rfl, hR, hP, hk, hn, ln, we, q⟩ := h
  obtain ⟨ha, ba, hv, bv, er, eh, eb, alh, alb⟩ := hR.ex
  obtain ⟨g, et, eg⟩ := _root_.id hP
  have lhv := alh.length
  have lbv := alb.length
  refine ⟨_, (pss_cons (ps_if (PW.pt (pw_or (pt_not (pt_val (pe_callB (call_isiKK K rfl) (by rfl) T.m_isinstance (by decide +kernel) (pa_cons (pv 1) (pa_cons (pe_bltn (v := .ty "tuple") (by rfl) T.m_tuple (by decide +kernel) rfl) pa_nil))))) (pw_or (pt_cmpR op_ne (pe_callB (call_len_seqK K rfl) (by rfl) T.m_len (by decide +kernel) (pa_cons (pv 1) pa_nil)) pe_int (nomark _)) (pw_or1 (pt_not (pt_val (pe_callB (call_isiKK K rfl) (by rfl) T.m_isinstance (by decide +kernel) (pa_cons (pe_ix (ix_tupK K rfl) (pv 1) pe_int (fun _ _ => rfl)) (pa_cons (pe_bltn (v := .ty "tuple") (by rfl) T.m_tuple (by decide +kernel) rfl) pa_nil))))))))) (pss_one (ps_ret pe_bl)) pss_nil)
      (pss_cons (ps_set (i := 2) sc_law_is_way.nd rfl (Or.inl rfl) (pe_op (op_catAK K rfl) (pe_tup (pa_cons (pe_ix (ix_tupK K rfl) (pv 1) pe_int (fun _ _ => rfl)) pa_nil)) (pe_ix (ix_tupK K rfl) (pv 1) pe_int (fun _ _ => rfl))))
      (pss_cons (ps_if (pt_not (pt_val (pe_callB (cr_allK K rfl rfl) (by rfl) T.m_all (by decide +kernel) (pa_cons (pe_lc (own := [("_law_one", 3)]) (g := gName 3) (tt := tYes) (by rfl) sc_law_is_way.nd (pi_tupK K rfl (pv 2)) (blkOk_by (own := [("_law_one", 3)]) (N := N_law_is_way) (sc := defScope s_law_is_way) (by decide +kernel)) (fun _ _ _ _ _ => (pg_name (i := 3) sc_law_is_way.nd rfl (Or.inl rfl))) (fun _ _ _ _ _ => pts_nil) (fun _ _ _ _ _ => (pe_and (pe_callB (call_isiKK K rfl) (by rfl) T.m_isinstance (by decide +kernel) (pa_cons (pv 3) (pa_cons (pe_bltn (v := .ty "int") (by rfl) T.m_int (by decide +kernel) rfl) pa_nil))) (pe_and (pe_not (pe_callB (call_isiKK K rfl) (by rfl) T.m_isinstance (by decide +kernel) (pa_cons (pv 3) (pa_cons (pe_bltn (v := .ty "bool") (by rfl) T.m_bool (by decide +kernel) rfl) pa_nil)))) (pe_one (pe_cmpR op_ge (pv 3) pe_int (nomark _))))))) pa_nil)))) (pss_one (ps_ret pe_bl)) pss_nil)
      (pss_cons (ps_if (PW.pt (pw_or (pt_cmpR op_ge (pe_ix (ix_tupK K rfl) (pv 1) pe_int (fun _ _ => rfl)) (pe_callB (call_len_seqK K rfl) (by rfl) T.m_len (by decide +kernel) (pa_cons (pe_ix (ix_tupK K rfl) (pv 0) pe_int (fun _ _ => rfl)) pa_nil)) (nomark _)) (pw_or1 (pt_not (pt_val (pe_callB (cr_allK K rfl rfl) (by rfl) T.m_all (by decide +kernel) (pa_cons (pe_lc (own := [("_law_b", 4)]) (g := gName 4) (tt := tYes) (by rfl) sc_law_is_way.nd (pi_tupK K rfl (pe_ix (ix_tupK K rfl) (pv 1) pe_int (fun _ _ => rfl))) (blkOk_by (own := [("_law_b", 4)]) (N := N_law_is_way) (sc := defScope s_law_is_way) (by decide +kernel)) (fun _ _ _ _ _ => (pg_name (i := 4) sc_law_is_way.nd rfl (Or.inl rfl))) (fun _ _ _ _ _ => pts_nil) (fun _ _ _ _ _ => (pe_cmpR op_lt (pv 4) (pe_callB (call_len_seqK K rfl) (by rfl) T.m_len (by decide +kernel) (pa_cons (pe_ix (ix_tupK K rfl) (pv 0) pe_int (fun _ _ => rfl)) pa_nil)) (nomark _)))) pa_nil))))))) (pss_one (ps_ret pe_bl)) pss_nil)
      (pss_one (ps_ret (pe_cmpR op_notN (pe_call G_law_end (hr.mono (by decide)) (by rfl) m_law_end F_law_end.kp b_law_end .nil pass0 (pa_cons (pv 0) (pa_cons (pv 1) pa_nil))) pe_non (nomark _)))))))), ?_⟩
  refine ⟨_, rfl, _, _, _, _, true, rfl, .ty "tuple", .base (.tup et), kit_ty (by decide +kernel), _, rfl, if_bl (fun z => nomatch z) (fun _ => ?_)⟩
  refine ⟨_, rfl, t, _, rfl, .inr (SqT.of et), rfl, _, rfl, ?_⟩
  rw [decide_eq_true (show V.int (([nV k, V.ref g].length : Nat) : Int) = V.int 2 from rfl)]
  refine if_bl (fun z => nomatch z) (fun _ => ?_)
  refine ⟨_, rfl, t, _, _, _, rfl, rfl, SqT.of et, atI_nat (j := 1) rfl, _, _, _, _, true, rfl, .ty "tuple", .base (.tup eg), kit_ty (by decide +kernel), _, rfl, if_bl (fun z => nomatch z) (fun _ => ?_)⟩
  refine ⟨_, rfl, t, _, _, _, rfl, rfl, SqT.of et, atI_nat (j := 0) rfl, (by show 1 ≤ sizeLine; decide), fun p1 np1 => ?_⟩
  have s1 := same_new (o := .tup [nV k]) np1
  refine ⟨_, rfl, t, _, _, _, rfl, rfl, SqT.of (s1 _ _ et), atI_nat (j := 1) rfl, catA_of upd_same (s1 _ _ eg) (by rw [List.length_map]; show 1 + _ ≤ _; omega) fun p2 H2 h2 s2 => ?_⟩
  have s2 := s1.trans s2
  have h2 : H2 p2 = some (.tup ((k :: ns).map nV)) := h2
  refine ⟨_, rfl, p2, rfl, ⟨_, SqT.of h2⟩, fun D nD => lc_tup (K := K) (a := p2) (xs := (k :: ns).map nV) (fun i H5 => H5 D = some (.lst ((List.replicate i true).map V.bl)) ∧ Same H2 H5) ⟨upd_same, same_new nD⟩ (fun i H5 _ ⟨_, s5⟩ => SqT.of (s5 _ _ h2)) ?_ ?_⟩
  · rintro i x H5 hx ⟨hD, s5⟩
    obtain ⟨n, en, rfl⟩ := nats_at hx
    have il := (List.getElem?_eq_some_iff.mp en).1
    rw [List.length_cons] at il
    refine ⟨rfl, yes_in ⟨_, rfl, _, _, _, _, true, rfl, .ty "int", .base (.int _), kit_ty (by decide +kernel), _, rfl, if_bl (fun _ => ?_) (fun z => nomatch z)⟩⟩
    refine ⟨_, rfl, _, _, _, _, false, rfl, .ty "bool", .base (.int _), kit_ty (by decide +kernel), _, rfl, _, rfl, if_bl (fun _ => ?_) (fun z => nomatch z)⟩
    refine ⟨_, rfl, _, _, rfl, rfl, _, hD, ?_, ?_, Same.own s5 nD⟩
    · rw [List.length_map, List.length_replicate]; exact small1000 (by omega)
    · rw [upd_same]
      show some (HO.lst (_ ++ [V.bl (decide ((0 : Int) ≤ ((n : Nat) : Int)))])) = _
      rw [decide_eq_true (show (0 : Int) ≤ ((n : Nat) : Int) by omega), List.replicate_succ', List.map_append]; rfl
  rintro H5 ⟨hD, s5⟩
  refine ⟨D, _, rfl, SqL.of hD, _, rfl, ?_⟩
  rw [show (List.replicate ((k :: ns).map nV).length true).all id = true by simp]
  refine if_bl (fun z => nomatch z) (fun _ => ?_)
  have s6 := s2.trans s5
  refine ⟨_, rfl, t, _, _, _, rfl, rfl, SqT.of (s6 _ _ et), atI_nat (j := 0) rfl, _, rfl, r, _, _, _, rfl, rfl, SqT.of (s6 _ _ er), atI_nat (j := 0) rfl, ha, _, rfl, .inr (SqT.of (s6 _ _ eh)), _, _, rfl, rfl, _, rfl, if_bl (fun z => ?_) (fun _ => ?_)⟩
  · have z : ((hv.length : Nat) : Int) ≤ ((k : Nat) : Int) := of_decide_eq_true z
    omega
  refine ⟨_, rfl, t, _, _, _, rfl, rfl, SqT.of (s6 _ _ et), atI_nat (j := 1) rfl, g, rfl, ⟨_, SqT.of (s6 _ _ eg)⟩, fun D2 nD2 => lc_tup (K := K) (a := g) (xs := ns.map nV) (fun i H7 => H7 D2 = some (.lst ((List.replicate i true).map V.bl)) ∧ Same H5 H7) ⟨upd_same, same_new nD2⟩ (fun i H7 _ ⟨_, s7⟩ => SqT.of (s7 _ _ (s6 _ _ eg))) ?_ ?_⟩
  · rintro i x H7 hx ⟨hD2, s7⟩
    obtain ⟨n, en, rfl⟩ := nats_at hx
    have il := (List.getElem?_eq_some_iff.mp en).1
    have nb := hn n (List.mem_of_getElem? en)
    have s8 := s6.trans s7
    refine ⟨rfl, yes_in ⟨_, rfl, _, rfl, r, _, _, _, rfl, rfl, SqT.of (s8 _ _ er), atI_nat (j := 1) rfl, ba, _, rfl, .inr (SqT.of (s8 _ _ eb)), _, _, rfl, rfl, _, hD2, ?_, ?_, Same.own s7 nD2⟩⟩
    · rw [List.length_map, List.length_replicate]; exact small1000 (by omega)
    · rw [upd_same]
      show some (HO.lst (_ ++ [V.bl (decide (((n : Nat) : Int) < ((bv.length : Nat) : Int)))])) = _
      rw [decide_eq_true (show ((n : Nat) : Int) < ((bv.length : Nat) : Int) by omega), List.replicate_succ', List.map_append]; rfl
  rintro H7 ⟨hD2, s7⟩
  refine ⟨D2, _, rfl, SqL.of hD2, _, rfl, ?_⟩
  rw [show (List.replicate (ns.map nV).length true).all id = true by simp]
  refine if_bl (fun z => nomatch z) (fun _ => ?_)
  have s8 := s6.trans s7
  refine ⟨_, rfl, _, rfl, r, t, hs, bs, k, ns, rfl, hR.keep (TK.same s8), hP.keep (TK.same s8), hk, hn, fun H9 s9 => ?_⟩
  rw [we]
  refine ⟨rfl, ?_⟩
  rw [decide_eq_false (show ¬ onV (some e) = V.non from fun z => nomatch z)]
  exact q _ (s8.trans s9)
theorem al_non {n : Nat} {H : Hp} : Al n H .non .non := by
  cases n with
  | zero => exact .inr (.inr ⟨rfl, rfl⟩)
  | succ n => exact .inl (.inr (.inr ⟨rfl, rfl⟩))
theorem way_belts {bs : List BR} : ∀ {ns : List Nat} {k e : Nat}, wayEnd bs k ns = some e → ∀ n ∈ ns, n < bs.length
  | m :: ns, k, e, h, n, hn => by
    cases eb : bs[m]? with
    | none =>
      have : wayEnd bs k (m :: ns) = none := by
        show (match bs[m]? with | some b => if b.one = k then wayEnd bs b.to ns else none | none => none) = none
        rw [eb]
      rw [this] at h; cases h
    | some b =>
      rw [wayEnd_cons eb] at h
      by_cases z : b.one = k
      · rw [if_pos z] at h
        rcases List.mem_cons.mp hn with rfl | hn
        · exact (List.getElem?_eq_some_iff.mp eb).1
        · exact way_belts h n hn
      · rw [if_neg z] at h; cases h
def sp_law_right (K : PySem.W.Frag) : Sp := fun vs H Q _ => ∃ (r ol : Addr) (hs : List HR) (bs : List BR) (one : Nat) (os : List Nat), vs = [.ref r, nV one, .ref ol] ∧ RoomAt H r hs bs ∧ RoomOk hs bs ∧ one < hs.length ∧ H ol = some (.lst (os.map nV)) ∧ (∀ x ∈ os, x < hs.length) ∧ ∀ H', Same H H' → Q (.bl true) H'
theorem ok_law_right {f : Addr} {fd : FuncData} (F : Fun K "_law_right" "_law_right" s_law_right f fd) (T : Top K mg) : FnOk P w K mg base CX0 4 f fd ["_law_room_here", "_law_one", "_law_others"] (sp_law_right K) := by
  obtain ⟨f_law_least_from, fd_law_least_from, F_law_least_from, b_law_least_from, m_law_least_from⟩ := T.d_law_least_from
  have G_law_least_from := ok_law_least_from (P := P) (w := w) (base := base) F_law_least_from T
  obtain ⟨f_way_between, fd_way_between, F_way_between, b_way_between, m_way_between⟩ := T.d_way_between
  have G_way_between := ok_way_between (P := P) (w := w) (base := base) F_way_between T
  obtain ⟨f_law_alike, fd_law_alike, F_law_alike, b_law_alike, m_law_alike⟩ := T.d_law_alike
  have G_law_alike := ok_law_alike (P := P) (w := w) (base := base) F_law_alike T
  obtain ⟨f_least_between, fd_least_between, F_least_between, b_least_between, m_least_between⟩ := T.d_least_between
  have G_least_between := ok_least_between (P := P) (w := w) (base := base) F_least_between T
  obtain ⟨f_law_is_way, fd_law_is_way, F_law_is_way, b_law_is_way, m_law_is_way⟩ := T.d_law_is_way
  have G_law_is_way := ok_law_is_way (P := P) (w := w) (base := base) F_law_is_way T
  obtain ⟨f_law_end, fd_law_end, F_law_end, b_law_end, m_law_end⟩ := T.d_law_end
  have G_law_end := ok_law_end (P := P) (w := w) (base := base) F_law_end T
  obtain ⟨f_law_trays, fd_law_trays, F_law_trays, b_law_trays, m_law_trays⟩ := T.d_law_trays
  have G_law_trays := ok_law_trays (P := P) (w := w) (base := base) F_law_trays T
  obtain ⟨f_law_moments, fd_law_moments, F_law_moments, b_law_moments, m_law_moments⟩ := T.d_law_moments
  have G_law_moments := ok_law_moments (P := P) (w := w) (base := base) F_law_moments T
  refine F.ok sc_law_right (fun vs H Q E h => ?_) (fun cdv A outer s H vs Q E hr h => ?_)
  · obtain ⟨r, ol, hs, bs, one, os, rfl, _⟩ := h
    rfl
  obtain ⟨r, ol, hs, bs, one, os, rfl, hR, ok, ho, hol, hos, q⟩ := h
  have lh := ok.hands
  have hto : ∀ b ∈ bs, b.to < hs.length := fun b hb => (ok.ends b hb).2
  refine ⟨_, (pss_cons (ps_set (i := 3) sc_law_right.nd rfl (Or.inl rfl) (pe_call G_law_least_from (hr.mono (by decide)) (by rfl) m_law_least_from F_law_least_from.kp b_law_least_from .nil pass0 (pa_cons (pv 0) (pa_cons (pv 1) pa_nil))))
      (pss_cons (ps_for PassesOwn.never rfl (pi_listK K rfl (pv 2)) (pg_name (i := 4) sc_law_right.nd rfl (Or.inl rfl))
        (pss_cons (ps_set (i := 5) sc_law_right.nd rfl (Or.inl rfl) (pe_call G_way_between (hr.mono (by decide)) (by rfl) m_way_between F_way_between.kp b_way_between .nil pass0 (pa_cons (pv 0) (pa_cons (pv 1) (pa_cons (pv 4) pa_nil)))))
      (pss_cons (ps_if (pt_not (pt_val (pe_call G_law_alike (hr.mono (by decide)) (by rfl) m_law_alike F_law_alike.kp b_law_alike .nil pass0 (pa_cons (pe_call G_least_between (hr.mono (by decide)) (by rfl) m_least_between F_least_between.kp b_least_between .nil pass0 (pa_cons (pv 0) (pa_cons (pv 1) (pa_cons (pv 4) pa_nil)))) (pa_cons (pe_ix (ix_listK K rfl) (pv 3) (pv 4) (fun _ _ => rfl)) pa_nil))))) (pss_one (ps_ret pe_bl)) pss_nil)
      (pss_one (ps_if (pt_cmpR op_isN (pe_ix (ix_listK K rfl) (pv 3) (pv 4) (fun _ _ => rfl)) pe_non (nomark _)) (pss_one (ps_if (pt_cmpR op_notN (pv 5) pe_non (nomark _)) (pss_one (ps_ret pe_bl)) pss_nil)) (pss_one (ps_if (PW.pt (pw_or (pt_not (pt_val (pe_call G_law_is_way (hr.mono (by decide)) (by rfl) m_law_is_way F_law_is_way.kp b_law_is_way .nil pass0 (pa_cons (pv 0) (pa_cons (pv 5) pa_nil))))) (pw_or (pt_cmpR op_ne (pe_ix (ix_tupK K rfl) (pv 5) pe_int (fun _ _ => rfl)) (pv 1) (nomark _)) (pw_or1 (pt_cmpR op_ne (pe_call G_law_end (hr.mono (by decide)) (by rfl) m_law_end F_law_end.kp b_law_end .nil pass0 (pa_cons (pv 0) (pa_cons (pv 5) pa_nil))) (pv 4) (nomark _)))))) (pss_one (ps_ret pe_bl)) (pss_one (ps_if (pt_cmpR (op_neDK K rfl hr.units) (pe_tup (pa_cons (pe_call G_law_trays (hr.mono (by decide)) (by rfl) m_law_trays F_law_trays.kp b_law_trays .nil pass0 (pa_cons (pv 0) (pa_cons (pv 5) pa_nil))) (pa_cons (pe_call G_law_moments (hr.mono (by decide)) (by rfl) m_law_moments F_law_moments.kp b_law_moments .nil pass0 (pa_cons (pv 0) (pa_cons (pv 5) pa_nil))) pa_nil))) (pe_ix (ix_listK K rfl) (pv 3) (pv 4) (fun _ _ => rfl)) (nomark _)) (pss_one (ps_ret pe_bl)) pss_nil)))))))))
      (pss_one (ps_ret pe_bl)))), ?_⟩
  refine ⟨_, rfl, _, rfl, r, hs, bs, one, rfl, hR, ok, ho, fun dl xs H1 hdl lx fc s1 => ?_⟩
  refine ⟨_, rfl, ol, rfl, ⟨_, SqL.of (s1 _ _ hol)⟩, for_list (K := K) (a := ol) (xs := os.map nV) (fun i σ H2 => ∃ (v4 v5 : Option V), σ = [some (.ref r), some (nV one), some (.ref ol), some (.ref dl), v4, v5] ∧ Same H1 H2) ⟨none, none, rfl, Same.refl _⟩ (fun i σ H2 _ ⟨_, _, _, s2⟩ => SqL.of (s2 _ _ (s1 _ _ hol))) ?_ ?_⟩
  · rintro i x σ H2 hx ⟨v4, v5, rfl, s2⟩
    obtain ⟨e, ee, rfl⟩ := nats_at hx
    have el := hos e (List.mem_of_getElem? ee)
    have s02 := s1.trans s2
    rcases fc e (by omega) with ⟨f1, f2⟩ | ⟨c, tc, f1, f2, htc⟩
    · refine ⟨_, rfl, _, rfl, _, rfl, r, hs, bs, one, e, rfl, hR.keep (TK.same s02), ok, ho, fun H3 _ s3 => ?_, fun p c ns H3 z => by rw [f1] at z; cases z⟩
      have s03 := s02.trans s3
      refine ⟨_, rfl, _, rfl, _, rfl, r, hs, bs, one, e, rfl, hR.keep (TK.same s03), ok, ho, fun H4 _ s4 => ?_, fun p c H4 z => by rw [f1] at z; cases z⟩
      have s14 := s2.trans (s3.trans s4)
      refine ⟨_, rfl, _, rfl, dl, _, _, _, rfl, rfl, SqL.of (s14 _ _ hdl), atI_nat f2, _, _, rfl, al_non, fun H5 s5 => ⟨_, rfl, if_bl (fun z => nomatch z) (fun _ => ?_)⟩⟩
      have s15 := s14.trans s5
      refine ⟨_, rfl, _, rfl, dl, _, _, _, rfl, rfl, SqL.of (s15 _ _ hdl), atI_nat f2, rfl, _, rfl, if_bl (fun _ => ?_) (fun z => absurd rfl (of_decide_eq_false z))⟩
      exact ⟨_, rfl, rfl, _, rfl, if_bl (fun z => nomatch z) (fun _ => ⟨_, _, rfl, s15⟩)⟩
    · refine ⟨_, rfl, _, rfl, _, rfl, r, hs, bs, one, e, rfl, hR.keep (TK.same s02), ok, ho, fun H3 z => (by rw [f1] at z; cases z), fun p c' ns H3 z hP we wc lns s3 => ?_⟩
      have z : best hs bs one e = some c' := z
      rw [f1] at z
      cases z
      have s03 := s02.trans s3
      refine ⟨_, rfl, _, rfl, _, rfl, r, hs, bs, one, e, rfl, hR.keep (TK.same s03), ok, ho, fun H4 z => (by rw [f1] at z; cases z), fun p2 c' H4 z hp2 s4 => ?_⟩
      have z : best hs bs one e = some c' := z
      rw [f1] at z
      cases z
      have s14 := s2.trans (s3.trans s4)
      have htc4 := s14 _ _ htc
      refine ⟨_, rfl, _, rfl, dl, _, _, _, rfl, rfl, SqL.of (s14 _ _ hdl), atI_nat f2, V.ref p2, V.ref tc, rfl, .inr ⟨p2, tc, _, _, rfl, rfl, .inr ⟨hp2, htc4⟩, (by show 2 ≤ 400; decide), .cons (.inl (.inl ⟨_, rfl, rfl⟩)) (.cons (.inl (.inl ⟨_, rfl, rfl⟩)) .nil)⟩, fun H5 s5 => ⟨_, rfl, if_bl (fun z => nomatch z) (fun _ => ?_)⟩⟩
      have s15 := s14.trans s5
      have s05 := s1.trans s15
      have ntc : decide (V.ref tc = V.non) = false := decide_eq_false (fun z => nomatch z)
      refine ⟨_, rfl, _, rfl, dl, _, _, _, rfl, rfl, SqL.of (s15 _ _ hdl), atI_nat f2, rfl, _, rfl, if_bl (fun z => by rw [ntc] at z; cases z) (fun _ => ?_)⟩
      have hP5 := hP.keep (TK.same (s4.trans s5))
      have R5 := hR.keep (TK.same s05)
      have wb := way_belts we
      refine ⟨_, rfl, _, rfl, r, p, hs, bs, one, e, ns, rfl, R5, hP5, ho, wb, by omega, we, fun H6 s6 => ⟨_, rfl, if_bl (fun z => nomatch z) (fun _ => ?_)⟩⟩
      obtain ⟨g, ep, eg⟩ := hP5.keep (TK.same s6)
      refine ⟨_, rfl, p, _, _, _, rfl, rfl, SqT.of ep, atI_nat (j := 0) rfl, _, rfl, rfl, _, rfl, ?_⟩
      rw [decide_eq_true (show nV one = nV one from rfl)]
      refine if_bl (fun z => nomatch z) (fun _ => ?_)
      have s06 := s05.trans s6
      refine ⟨_, rfl, _, rfl, r, p, hs, bs, one, ns, rfl, hR.keep (TK.same s06), ⟨g, ep, eg⟩, ho, wb, fun H7 s7 => ?_⟩
      rw [we]
      refine ⟨_, rfl, rfl, _, rfl, ?_⟩
      rw [decide_eq_true (show onV (some e) = nV e from rfl)]
      refine if_bl (fun z => nomatch z) (fun _ => ?_)
      have s07 := s06.trans s7
      have hP7 : PairAt H7 p one ns := ⟨g, s7 _ _ ep, s7 _ _ eg⟩
      refine ⟨_, rfl, _, rfl, r, p, hs, bs, one, ns, rfl, hR.keep (TK.same s07), hP7, wb, by omega, fun H8 s8 => ?_⟩
      have s08 := s07.trans s8
      refine ⟨_, rfl, _, rfl, r, p, hs, bs, one, ns, rfl, hR.keep (TK.same s08), hto, hP7.keep (TK.same s8), ho, wb, by omega, fun H9 s9 => ⟨(by show 2 ≤ sizeLine; decide), fun tn ntn => ?_⟩⟩
      have s19 := (((s15.trans s6).trans s7).trans s8).trans s9
      have s1t := s19.trans (same_new (o := .tup [V.int (ns.map (trB bs)).sum, V.int (momW hs bs one ns)]) ntn)
      have htc9 := s1t _ _ htc
      have ec : [V.int (ns.map (trB bs)).sum, V.int (momW hs bs one ns)] = [V.int c.1, V.int c.2] := by rw [← wc]; rfl
      refine ⟨_, rfl, _, rfl, dl, _, _, _, rfl, rfl, SqL.of (s1t _ _ hdl), atI_nat f2, _, _, .tup (SqT.of upd_same) (.cons (.int _) (.cons (.int _) .nil)), .tup (SqT.of htc9) (.cons (.int _) (.cons (.int _) .nil)), rfl, rfl, _, rfl, ?_⟩
      have e1 : (ns.map (trB bs)).sum = c.1 := by rw [← wc]; rfl
      have e2 : momW hs bs one ns = c.2 := by rw [← wc]; rfl
      rw [show PyData.eqv (.tuple [.int (ns.map (trB bs)).sum, .int (momW hs bs one ns)]) (.tuple [.int c.1, .int c.2]) = true by rw [e1, e2]; simp [PyData.eqv, PyData.eqvAll]]
      exact if_bl (fun z => nomatch z) (fun _ => ⟨_, _, rfl, s1t⟩)
  · rintro σ H2 ⟨v4, v5, rfl, s2⟩
    exact q _ (s1.trans s2)
end
/-- what is asked: a room, a hand, others -/
def Ask (H : Hp) (v : V) : Prop := ∃ (p r ol : Addr) (hs : List HR) (bs : List BR) (one : Nat) (os : List Nat), v = .ref p ∧ H p = some (.tup [.ref r, nV one, .ref ol]) ∧ RoomAt H r hs bs ∧ RoomOk hs bs ∧ one < hs.length ∧ H ol = some (.lst (os.map nV)) ∧ (∀ x ∈ os, x < hs.length)
theorem Ask.go {H H' : Hp} {v : V} (a : Ask H v) (k : TK H H') (l : ∀ b xs, H b = some (.lst xs) → (∃ os : List Nat, xs = os.map nV) → H' b = some (.lst xs)) : Ask H' v := by
  obtain ⟨p, r, ol, hs, bs, one, os, h1, h2, h3, h4, h5, h6, h7⟩ := a
  exact ⟨p, r, ol, hs, bs, one, os, h1, k _ _ h2, h3.keep k, h4, h5, l _ _ h6 ⟨os, rfl⟩, h7⟩
theorem Ask.same {H H' : Hp} {v : V} (a : Ask H v) (s : Same H H') : Ask H' v := a.go (TK.same s) fun b xs e _ => s _ _ e
def Rm (H : Hp) (v : V) : Prop := ∃ (r : Addr) (hs : List HR) (bs : List BR), v = .ref r ∧ RoomAt H r hs bs ∧ RoomOk hs bs ∧ 0 < hs.length
theorem Rm.keep {H H' : Hp} {v : V} (a : Rm H v) (k : TK H H') : Rm H' v := by
  obtain ⟨r, hs, bs, h1, h2, h3, h4⟩ := a
  exact ⟨r, hs, bs, h1, h2.keep k, h3, h4⟩
section
variable {P : Program} {w : World} {K : PySem.W.Frag} {mg : Str → Option Value} {base : Heap}
theorem rg_nats (n : Nat) : rgV 0 ((n : Nat) : Int) = (List.range n).map nV := by
  unfold rgV
  rw [show (((n : Nat) : Int) - 0).toNat = n by omega]
  refine List.map_congr_left fun i _ => ?_
  show V.int (0 + ((i : Nat) : Int)) = V.int ((i : Nat) : Int)
  rw [Int.zero_add]
def sp_law (K : PySem.W.Frag) : Sp := fun vs H Q _ => ∃ (a : Addr) (ns : List Int), vs = [.ref a] ∧ SqL K H a (ns.map V.int) ∧ ns.length ≤ 63 ∧ ∀ H', Q (.bl true) H'
theorem ok_law {f : Addr} {fd : FuncData} (F : Fun K "law" "law" s_law f fd) (T : Top K mg) : FnOk P w K mg base CX0 6 f fd ["_law_script"] (sp_law K) := by
  obtain ⟨f_law_flow, fd_law_flow, F_law_flow, b_law_flow, m_law_flow⟩ := T.d_law_flow
  have G_law_flow := ok_law_flow (P := P) (w := w) (base := base) F_law_flow T
  obtain ⟨f_law_room, fd_law_room, F_law_room, b_law_room, m_law_room⟩ := T.d_law_room
  have G_law_room := ok_law_room (P := P) (w := w) (base := base) F_law_room T
  obtain ⟨f_law_pick, fd_law_pick, F_law_pick, b_law_pick, m_law_pick⟩ := T.d_law_pick
  have G_law_pick := ok_law_pick (P := P) (w := w) (base := base) F_law_pick T
  obtain ⟨f_law_thin, fd_law_thin, F_law_thin, b_law_thin, m_law_thin⟩ := T.d_law_thin
  have G_law_thin := ok_law_thin (P := P) (w := w) (base := base) F_law_thin T
  obtain ⟨f_law_shuffled, fd_law_shuffled, F_law_shuffled, b_law_shuffled, m_law_shuffled⟩ := T.d_law_shuffled
  have G_law_shuffled := ok_law_shuffled (P := P) (w := w) (base := base) F_law_shuffled T
  obtain ⟨f_law_right, fd_law_right, F_law_right, b_law_right, m_law_right⟩ := T.d_law_right
  have G_law_right := ok_law_right (P := P) (w := w) (base := base) F_law_right T
  refine F.ok sc_law (fun vs H Q E h => ?_) (fun cdv A outer s H vs Q E hr h => ?_)
  · obtain ⟨a, ns, rfl, _⟩ := h
    rfl
  obtain ⟨a, ns, rfl, hS, hlen, q⟩ := h
  let R1 : TS := fun D' σ' H' => D'.rt = Q ∧ ∃ (f c sl : Addr) (rv : List V) (v3 v4 : Option V), σ' = [some (.ref a), some (.ref f), some (.ref sl), v3, v4, none, none, none] ∧ H' sl = some (.lst rv) ∧ rv.length ≤ 2 ∧ (∀ v ∈ rv, Rm H' v) ∧ Flow H' f c ∧ sl ≠ f
  let R2 : TS := fun D' σ' H' => D'.rt = Q ∧ ∃ (al : Addr) (av : List V) (f sl : Addr) (v3 v4 v6 : Option V), σ' = [some (.ref a), some (.ref f), some (.ref sl), v3, v4, some (.ref al), v6, none] ∧ H' al = some (.lst av) ∧ av.length ≤ 2 ∧ (∀ v ∈ av, Ask H' v)
  refine ⟨_, (pss_cons (ps_set (i := 1) sc_law.nd rfl (Or.inl rfl) (pe_call G_law_flow (hr.mono (by decide)) (by rfl) m_law_flow F_law_flow.kp b_law_flow .nil pass0 (pa_cons (pv 0) pa_nil)))
      (pss_cons (ps_set (i := 2) sc_law.nd rfl (Or.inl rfl) (pe_lst pa_nil))
      (pss_cons (ps_for PassesOwn.never rfl (pi_range1 (by rfl) T.m_range (pa_cons pe_int pa_nil)) (pg_name (i := 3) sc_law.nd rfl (Or.inl rfl))
        (pss_cons (ps_set (i := 4) sc_law.nd rfl (Or.inl rfl) (pe_call G_law_room (hr.mono (by decide)) (by rfl) m_law_room F_law_room.kp b_law_room .nil pass0 (pa_cons (pv 1) (pa_cons (pe_ix (ix_listK K rfl) (pe_lst (pa_cons pe_int (pa_cons pe_int (pa_cons pe_int (pa_cons pe_int pa_nil))))) (pe_call G_law_pick (hr.mono (by decide)) (by rfl) m_law_pick F_law_pick.kp b_law_pick .nil pass0 (pa_cons (pv 1) (pa_cons pe_int pa_nil))) (fun _ _ => rfl)) pa_nil))))
      (pss_cons (ps_if (pt_cmpR op_eq (pe_call G_law_pick (hr.mono (by decide)) (by rfl) m_law_pick F_law_pick.kp b_law_pick .nil pass0 (pa_cons (pv 1) (pa_cons pe_int pa_nil))) pe_int (nomark _)) (pss_one (ps_set (i := 4) sc_law.nd rfl (Or.inl rfl) (pe_call G_law_thin (hr.mono (by decide)) (by rfl) m_law_thin F_law_thin.kp b_law_thin .nil pass0 (pa_cons (pv 4) (pa_cons (pe_op op_add pe_int (pe_call G_law_pick (hr.mono (by decide)) (by rfl) m_law_pick F_law_pick.kp b_law_pick .nil pass0 (pa_cons (pv 1) (pa_cons pe_int pa_nil)))) pa_nil))))) pss_nil)
      (pss_one (ps_expr (pe_bmK K rfl PySem.F.plainAttrs_list PySem.F.slot_list_append PySem.F.type_list_append mt_append (pv 2) (pa_cons (pv 4) pa_nil)))))))
      (PSs.to (pss_cons (ps_set (i := 5) sc_law.nd rfl (Or.inl rfl) (pe_lst pa_nil))
      (pss_cons (ps_for PassesOwn.never rfl (pi_listK K rfl (pv 2)) (pg_name (i := 4) sc_law.nd rfl (Or.inl rfl))
        (pss_cons (ps_set (i := 6) sc_law.nd rfl (Or.inl rfl) (pe_slice (sl_listK K rfl) (pe_call G_law_shuffled (hr.mono (by decide)) (by rfl) m_law_shuffled F_law_shuffled.kp b_law_shuffled .nil pass0 (pa_cons (pv 1) (pa_cons (pe_listRg rfl (by rfl) T.m_list (prg_1 (by rfl) T.m_range (pe_callB (call_len_seqK K rfl) (by rfl) T.m_len (by decide +kernel) (pa_cons (pe_ix (ix_tupK K rfl) (pv 4) pe_int (fun _ _ => rfl)) pa_nil)))) pa_nil))) po_none (po_some pe_int)))
      (pss_one (ps_expr (pe_bmK K rfl PySem.F.plainAttrs_list PySem.F.slot_list_append PySem.F.type_list_append mt_append (pv 5) (pa_cons (pe_tup (pa_cons (pv 4) (pa_cons (pe_call G_law_pick (hr.mono (by decide)) (by rfl) m_law_pick F_law_pick.kp b_law_pick .nil pass0 (pa_cons (pv 1) (pa_cons (pe_callB (call_len_seqK K rfl) (by rfl) T.m_len (by decide +kernel) (pa_cons (pe_ix (ix_tupK K rfl) (pv 4) pe_int (fun _ _ => rfl)) pa_nil)) pa_nil))) (pa_cons (pv 6) pa_nil)))) pa_nil))))))
      (PSs.to (pss_one (ps_ret (pe_callB (cr_allK K rfl rfl) (by rfl) T.m_all (by decide +kernel) (pa_cons (pe_lc (own := [("_law_room_here", 4), ("_law_one", 7), ("_law_others", 6)]) (g := gTup K 3 (gCons (gName 4) (gCons (gName 7) (gCons (gName 6) gNil)))) (tt := tYes) (by rfl) sc_law.nd (pi_listK K rfl (pe_op op_cat (pv 5) (pe_slice (sl_listK K rfl) (pv 5) po_none (po_some pe_int)))) (blkOk_by (own := [("_law_room_here", 4), ("_law_one", 7), ("_law_others", 6)]) (N := N_law) (sc := defScope s_law) (by decide +kernel)) (fun _ _ _ _ _ => (pg_tupK K rfl rfl (pgs_cons (pg_name (i := 4) sc_law.nd rfl (Or.inl rfl)) (pgs_cons (pg_name (i := 7) sc_law.nd rfl (Or.inl rfl)) (pgs_cons (pg_name (i := 6) sc_law.nd rfl (Or.inl rfl)) pgs_nil))))) (fun _ _ _ _ _ => pts_nil) (fun _ _ _ _ _ => (pe_call G_law_right (hr.mono (by decide)) (by rfl) m_law_right F_law_right.kp b_law_right .nil pass0 (pa_cons (pv 4) (pa_cons (pv 7) (pa_cons (pv 6) pa_nil)))))) pa_nil)))) R2 ?tail2))) R1 ?tail1)))), ?_⟩
  case tail2 =>
    rintro D' σ' H4 ⟨eD, al, av, f, sl, v3, v4, v6, rfl, hal, lav, asks⟩
    refine ⟨_, rfl, _, rfl, _, rfl, al, _, rfl, SqL.of hal, fun l2 nl2 => ?_⟩
    have lcut := cutV_length av none (some 1)
    refine ⟨al, l2, _, _, rfl, rfl, same_new nl2 _ _ hal, upd_same, little (by omega), fun l3 nl3 => ?_⟩
    have s4 := (same_new (o := .lst (cutV av none (some 1))) nl2).trans (same_new (o := .lst (av ++ cutV av none (some 1))) nl3)
    refine ⟨l3, rfl, ⟨_, SqL.of upd_same⟩, fun D nD => lc_list (K := K) (a := l3) (xs := av ++ cutV av none (some 1)) (fun i H5 => H5 D = some (.lst ((List.replicate i true).map V.bl)) ∧ Same (upd (upd H4 l2 (.lst (cutV av none (some 1)))) l3 (.lst (av ++ cutV av none (some 1)))) H5) ⟨upd_same, same_new nD⟩ (fun i H5 _ ⟨_, s5⟩ => SqL.of (s5 _ _ upd_same)) ?_ ?_⟩
    · rintro i x H5 hx ⟨hD, s5⟩
      have il := (List.getElem?_eq_some_iff.mp hx).1
      have mx : x ∈ av := by
        rcases List.mem_append.mp (List.mem_of_getElem? hx) with z | z
        · exact z
        · exact cut_part x z
      obtain ⟨p, r, ol, hs, bs, one, os, rfl, h2, h3, h4, h5, h6, h7⟩ := (asks x mx).same (s4.trans s5)
      refine ⟨p, _, rfl, SqT.of h2, rfl, _, _, rfl, _, _, rfl, _, _, rfl, rfl, rfl, yes_in ⟨_, rfl, _, rfl, _, rfl, r, ol, hs, bs, one, os, rfl, h3, h4, h5, h6, h7, fun H7 s7 => ⟨_, s7 _ _ hD, ?_, ?_, Same.own (s5.trans s7) nD⟩⟩⟩
      · rw [List.length_append] at il
        rw [List.length_map, List.length_replicate]; exact small1000 (by omega)
      · rw [upd_same, List.replicate_succ', List.map_append]; rfl
    · rintro H5 ⟨hD, s5⟩
      refine ⟨D, _, rfl, SqL.of hD, ?_⟩
      rw [show (List.replicate (av ++ cutV av none (some 1)).length true).all id = true by simp, eD]
      exact q _
  case tail1 =>
    rintro D' σ' H1 ⟨eD, f, c, sl, rv, v3, v4, rfl, hsl, lrv, rms, F1, slf⟩
    refine ⟨(by show 0 ≤ sizeLine; decide), fun al nal => ?_⟩
    have af := F1.ne nal
    have ac := F1.nec nal
    have slal : sl ≠ al := ne_of_none hsl nal
    have hsl1 := same_new (o := .lst []) nal _ _ hsl
    refine ⟨_, rfl, sl, rfl, ⟨_, SqL.of hsl1⟩, for_list (K := K) (a := sl) (xs := rv) (fun i σ H2 => ∃ (av : List V) (v4 v6 : Option V), σ = [some (.ref a), some (.ref f), some (.ref sl), v3, v4, some (.ref al), v6, none] ∧ H2 sl = some (.lst rv) ∧ (∀ v ∈ rv, Rm H2 v) ∧ H2 al = some (.lst av) ∧ av.length = i ∧ (∀ v ∈ av, Ask H2 v ∧ ∃ (p r ol : Addr) (one : Nat), v = .ref p ∧ H2 p = some (.tup [.ref r, nV one, .ref ol]) ∧ ol ≠ al ∧ ol ≠ f) ∧ Flow H2 f c)
      ⟨[], v4, none, rfl, hsl1, fun v hv => (rms v hv).keep (TK.new nal), upd_same, rfl, (fun _ z => nomatch z), F1.new nal⟩ (fun i σ H2 _ ⟨_, _, _, _, h, _⟩ => SqL.of h) ?_ ?_⟩
    · rintro i x σ H2 hx ⟨av, v4, v6, rfl, hsl2, rms2, hal2, lav, asks, F2⟩
      have il := (List.getElem?_eq_some_iff.mp hx).1
      obtain ⟨r, hs, bs, rfl, hR, ok, pos⟩ := rms2 x (List.mem_of_getElem? hx)
      obtain ⟨ha, ba, hv, bv, er, eh, eb, alh, alb⟩ := hR.ex
      have lhv := alh.length
      have lh := ok.hands
      refine ⟨_, rfl, _, rfl, r, _, _, _, rfl, rfl, SqT.of er, atI_nat (j := 0) rfl, ha, _, rfl, .inr (SqT.of eh), _, rfl, ⟨by omega, by omega, by omega, by omega, by omega⟩, fun rg nrg => ?_⟩
      rw [rg_nats]
      have F3 := F2.new (o := .lst ((List.range hv.length).map nV)) nrg
      refine ⟨f, c, rg, _, rfl, SqL.of upd_same, F2.ne nrg, by rw [List.length_map, List.length_range]; omega, F3, fun sh ys H4 hp nsh hsh F4 B4 => ?_⟩
      have shf : sh ≠ f := F3.ne nsh
      refine ⟨_, rfl, sh, _, rfl, SqL.of hsh, fun ol nol => ?_⟩
      obtain ⟨os, eos, hos⟩ : ∃ os : List Nat, cutV ys none (some 5) = os.map nV ∧ ∀ x ∈ os, x < hs.length := by
        have key : ∀ l : List V, (∀ x ∈ l, x ∈ (List.range hv.length).map nV) → ∃ os : List Nat, l = os.map nV ∧ ∀ x ∈ os, x < hs.length := fun l => by
          induction l with
          | nil => exact fun _ => ⟨[], rfl, (fun _ z => nomatch z)⟩
          | cons v l ih =>
            intro h
            obtain ⟨os, e1, e2⟩ := ih fun x hx => h x (List.mem_cons_of_mem _ hx)
            obtain ⟨n, hn, e3⟩ := List.mem_map.mp (h v (List.mem_cons_self ..))
            refine ⟨n :: os, by rw [List.map_cons, e3, e1], fun x hx => ?_⟩
            rcases List.mem_cons.mp hx with rfl | hx
            · have := List.mem_range.mp hn; omega
            · exact e2 x hx
        exact key _ fun x hx => hp.mem_iff.mp (cut_part x hx)
      rw [eos]
      have F5 := F4.new (o := .lst (os.map nV)) nol
      have s23 := same_new (o := .lst ((List.range hv.length).map nV)) nrg
      have k25 : TK H2 (upd H4 ol (.lst (os.map nV))) := (TK.new nrg).trans ((TK.but F3 B4).trans (TK.new nol))
      have hal5 : upd H4 ol (.lst (os.map nV)) al = some (.lst av) := same_new nol _ _ (B4 _ _ (s23 _ _ hal2) af)
      have hsl5 : upd H4 ol (.lst (os.map nV)) sl = some (.lst rv) := same_new nol _ _ (B4 _ _ (s23 _ _ hsl2) slf)
      have b25 : But f H2 (upd H4 ol (.lst (os.map nV))) := ((But.of s23).trans B4).new nol
      refine ⟨_, rfl, .inl ⟨rfl, _, SqL.of hal5⟩, _, rfl, _, rfl, _, rfl, r, _, _, _, rfl, rfl, SqT.of (k25 _ _ er), atI_nat (j := 0) rfl, ha, _, rfl, .inr (SqT.of (k25 _ _ eh)), f, c, _, rfl, by omega, log_small (by omega), F5, fun o H6 o0 o1 F6 B6 => ?_⟩
      obtain ⟨o, rfl⟩ : ∃ k : Nat, o = ((k : Nat) : Int) := ⟨o.toNat, by omega⟩
      refine ⟨_, rfl, (by show 3 ≤ sizeLine; decide), fun p np => ?_⟩
      have b27 : But f H2 (upd H6 p (.tup [V.ref r, nV o, V.ref ol])) := (b25.trans B6).new np
      have k27 : TK H2 (upd H6 p (.tup [V.ref r, nV o, V.ref ol])) := TK.but F2 b27
      have hal7 : upd H6 p (.tup [V.ref r, nV o, V.ref ol]) al = some (.lst av) := b27 _ _ hal2 af
      have hsl7 := b27 _ _ hsl2 slf
      have olf : ol ≠ f := F4.ne nol
      have olal : ol ≠ al := fun z => by rw [← z] at hal5; rw [upd_same] at hal5; have := B4 _ _ (s23 _ _ hal2) af; rw [← z, nol] at this; cases this
      have hol7 : upd H6 p (.tup [V.ref r, nV o, V.ref ol]) ol = some (.lst (os.map nV)) := same_new np _ _ (B6 _ _ upd_same olf)
      refine ⟨al, _, _, rfl, rfl, hal7, by rw [lav]; exact small1000 (by omega), ?_⟩
      have k8 : TK (upd H6 p (.tup [V.ref r, nV o, V.ref ol])) (upd (upd H6 p (.tup [V.ref r, nV o, V.ref ol])) al (.lst (av ++ [V.ref p]))) := TK.lst hal7
      refine ⟨av ++ [V.ref p], _, _, rfl, by rw [upd_ne slal]; exact hsl7, fun v hv => (rms2 v hv).keep (k27.trans k8), upd_same, by rw [List.length_append, lav]; rfl, fun v hv => ?_, (F6.new np).lst af ac⟩
      rcases List.mem_append.mp hv with hv | hv
      · obtain ⟨as, p', r', ol', one', e1, e2, e3, e4⟩ := asks v hv
        refine ⟨?_, p', r', ol', one', e1, k8 _ _ (k27 _ _ e2), e3, e4⟩
        obtain ⟨p2, r2, ol2, hs2, bs2, one2, os2, g1, g2, g3, g4, g5, g6, g7⟩ := as
        rw [e1] at g1
        cases g1
        rw [e2] at g2
        cases g2
        exact ⟨p', r', ol', hs2, bs2, one', os2, e1, k8 _ _ (k27 _ _ e2), g3.keep (k27.trans k8), g4, g5, by rw [upd_ne e3]; exact b27 _ _ g6 e4, g7⟩
      · obtain rfl : v = V.ref p := by simpa using hv
        have hp8 := k8 _ _ (upd_same (H := H6) (a := p) (o := .tup [V.ref r, nV o, V.ref ol]))
        exact ⟨⟨p, r, ol, hs, bs, o, os, rfl, hp8, hR.keep (k27.trans k8), ok, by omega, by rw [upd_ne olal]; exact hol7, hos⟩, p, r, ol, o, rfl, hp8, olal, olf⟩
    · rintro σ H2 ⟨av, v4, v6, rfl, hsl2, rms2, hal2, lav, asks, F2⟩
      exact ⟨eD, al, av, f, sl, v3, v4, v6, rfl, hal2, by omega, fun v hv => (asks v hv).1⟩
  refine ⟨_, rfl, a, ns, rfl, hS, fun f c H1 nf nc F1 s1 => ?_⟩
  refine ⟨(by show 0 ≤ sizeLine; decide), fun sl nsl => ?_⟩
  have slf := F1.ne nsl
  have slc := F1.nec nsl
  refine ⟨_, rfl, by decide, by decide, for_range (lo := 0) (n := 2) (fun i σ H2 => ∃ (rv : List V) (v3 v4 : Option V), σ = [some (.ref a), some (.ref f), some (.ref sl), v3, v4, none, none, none] ∧ H2 sl = some (.lst rv) ∧ rv.length = i ∧ (∀ v ∈ rv, Rm H2 v) ∧ Flow H2 f c)
    ⟨[], none, none, rfl, upd_same, rfl, (fun _ z => nomatch z), F1.new nsl⟩ ?_ ?_⟩
  · rintro i σ H2 hi ⟨rv, v3, v4, rfl, hsl, lrv, rms, F2⟩
    refine ⟨_, rfl, (by show 4 ≤ sizeLine; decide), fun l nl => ?_⟩
    have F3 := F2.new (o := .lst [V.int 2, V.int 3, V.int 5, V.int 8]) nl
    refine ⟨_, rfl, f, c, 4, rfl, by decide, by decide +kernel, F3, fun v H4 v0 v1 F4 B4 => ?_⟩
    obtain ⟨j, hj, j1, j8⟩ : ∃ j : Int, atI [V.int 2, V.int 3, V.int 5, V.int 8] v = some (.int j) ∧ 1 ≤ j ∧ j ≤ 8 := by
      have : v = 0 ∨ v = 1 ∨ v = 2 ∨ v = 3 := by omega
      rcases this with rfl | rfl | rfl | rfl
      · exact ⟨2, rfl, by decide, by decide⟩
      · exact ⟨3, rfl, by decide, by decide⟩
      · exact ⟨5, rfl, by decide, by decide⟩
      · exact ⟨8, rfl, by decide, by decide⟩
    refine ⟨l, _, _, _, rfl, rfl, SqL.of (B4 _ _ upd_same (F2.ne nl)), hj, f, c, j, rfl, j1, j8, F4, fun r hs bs H5 hR ok pos F5 B5 => ?_⟩
    have b25 : But f H2 H5 := ((But.refl.new nl).trans B4).trans B5
    refine ⟨_, rfl, f, c, 4, rfl, by decide, by decide +kernel, F5, fun z H6 z0 z1 F6 B6 => ⟨rfl, _, rfl, if_bl (fun _ => ?_) (fun _ => ?_)⟩⟩
    · refine ⟨_, rfl, _, rfl, f, c, 3, rfl, by decide, by decide +kernel, F6, fun y H7 y0 y1 F7 B7 => ?_⟩
      obtain ⟨y, rfl⟩ : ∃ k : Nat, y = ((k : Nat) : Int) := ⟨y.toNat, by omega⟩
      have R7 := hR.keep ((TK.but F5 B6).trans (TK.but F6 B7))
      refine ⟨_, _, rfl, rfl, r, hs, bs, 1 + y, congrArg (fun z => [V.ref r, V.int z]) (by omega), R7, by have := ok.many; omega, fun p H8 R8 s8 => ?_⟩
      have b28 := ((b25.trans B6).trans B7).same s8
      have hsl8 := b28 _ _ hsl slf
      refine ⟨_, rfl, .inl ⟨rfl, _, SqL.of hsl8⟩, _, rfl, sl, _, _, rfl, rfl, hsl8, by rw [lrv]; exact small1000 (by omega), ?_⟩
      refine ⟨rv ++ [V.ref p], _, _, rfl, upd_same, by rw [List.length_append, lrv]; rfl, fun v hv => ?_, (F7.same s8).lst slf slc⟩
      rcases List.mem_append.mp hv with hv | hv
      · exact (rms v hv).keep ((TK.but F2 b28).trans (TK.lst hsl8))
      · obtain rfl : v = V.ref p := by simpa using hv
        exact ⟨p, hs, _, rfl, R8.keep (TK.lst hsl8), ok.thin (by omega), pos⟩
    · have b26 := b25.trans B6
      have hsl6 := b26 _ _ hsl slf
      refine ⟨_, rfl, .inl ⟨rfl, _, SqL.of hsl6⟩, _, rfl, sl, _, _, rfl, rfl, hsl6, by rw [lrv]; exact small1000 (by omega), ?_⟩
      refine ⟨rv ++ [V.ref r], _, _, rfl, upd_same, by rw [List.length_append, lrv]; rfl, fun v hv => ?_, F6.lst slf slc⟩
      rcases List.mem_append.mp hv with hv | hv
      · exact (rms v hv).keep ((TK.but F2 b26).trans (TK.lst hsl6))
      · obtain rfl : v = V.ref r := by simpa using hv
        exact ⟨r, hs, bs, rfl, (hR.keep (TK.but F5 B6)).keep (TK.lst hsl6), ok, pos⟩
  · rintro σ H2 ⟨rv, v3, v4, rfl, hsl, lrv, rms, F2⟩
    exact ⟨rfl, f, c, sl, rv, v3, v4, rfl, hsl, by omega, rms, F2, slf⟩
end
set_option maxHeartbeats 0 in
theorem all_mk {l : PySem.W.OpenLaw} {w : World} {K : PySem.W.Frag} {h : Heap} {mg : Str → Option Value} {fa f1 f2 f3 f4 f5 f6 f7 f8 f9 f10 f11 f12 f13 f14 f15 f16 f17 f18 f19 f20 f21 : Addr} (X : K.In h) (G : h.Ns mainGlobals mg) (hfa : mg "law" = some (.ref fa))
    {od1 an1 od2 an2 od3 an3 od4 an4 od5 an5 od6 an6 od7 an7 od8 an8 od9 an9 od10 an10 od11 an11 od12 an12 od13 an13 od14 an14 od15 an15 od16 an16 od17 an17 od18 an18 od19 an19 od20 an20 od21 an21 : Option Addr} {sl1 sl2 sl3 sl4 sl5 sl6 sl7 sl8 sl9 sl10 sl11 sl12 sl13 sl14 sl15 sl16 sl17 sl18 sl19 sl20 sl21 : Array (Option Value)} {oc1 kV1 dc1 pm1 cd1 ct1 oc2 kV2 dc2 pm2 cd2 ct2 oc3 kV3 dc3 pm3 cd3 ct3 oc4 kV4 dc4 pm4 cd4 ct4 oc5 kV5 dc5 pm5 cd5 ct5 oc6 kV6 dc6 pm6 cd6 ct6 oc7 kV7 dc7 pm7 cd7 ct7 oc8 kV8 dc8 pm8 cd8 ct8 oc9 kV9 dc9 pm9 cd9 ct9 oc10 kV10 dc10 pm10 cd10 ct10 oc11 kV11 dc11 pm11 cd11 ct11 oc12 kV12 dc12 pm12 cd12 ct12 oc13 kV13 dc13 pm13 cd13 ct13 oc14 kV14 dc14 pm14 cd14 ct14 oc15 kV15 dc15 pm15 cd15 ct15 oc16 kV16 dc16 pm16 cd16 ct16 oc17 kV17 dc17 pm17 cd17 ct17 oc18 kV18 dc18 pm18 cd18 ct18 oc19 kV19 dc19 pm19 cd19 ct19 oc20 kV20 dc20 pm20 cd20 ct20 oc21 kV21 dc21 pm21 cd21 ct21 : Value}
    (a1 : PySem.W.nsIn K mainGlobals "way_back" = some (some (.ref f1))) (l1 : K.lookup f1 = some ⟨oc1, od1, .func (PySem.W.fnOf "way_back" "way_back" (defArgs s_way_back) (defBody s_way_back) (defScope s_way_back) .none kV1 dc1 pm1 an1 cd1 ct1), sl1⟩) (c1 : PySem.W.codeIn K cd1 "way_back" = true) (k1 : PySem.W.keepIn K (.ref f1) = true)
    (a2 : PySem.W.nsIn K mainGlobals "least_between" = some (some (.ref f2))) (l2 : K.lookup f2 = some ⟨oc2, od2, .func (PySem.W.fnOf "least_between" "least_between" (defArgs s_least_between) (defBody s_least_between) (defScope s_least_between) .none kV2 dc2 pm2 an2 cd2 ct2), sl2⟩) (c2 : PySem.W.codeIn K cd2 "least_between" = true) (k2 : PySem.W.keepIn K (.ref f2) = true)
    (a3 : PySem.W.nsIn K mainGlobals "way_between" = some (some (.ref f3))) (l3 : K.lookup f3 = some ⟨oc3, od3, .func (PySem.W.fnOf "way_between" "way_between" (defArgs s_way_between) (defBody s_way_between) (defScope s_way_between) .none kV3 dc3 pm3 an3 cd3 ct3), sl3⟩) (c3 : PySem.W.codeIn K cd3 "way_between" = true) (k3 : PySem.W.keepIn K (.ref f3) = true)
    (a4 : PySem.W.nsIn K mainGlobals "least_costs" = some (some (.ref f4))) (l4 : K.lookup f4 = some ⟨oc4, od4, .func (PySem.W.fnOf "least_costs" "least_costs" (defArgs s_least_costs) (defBody s_least_costs) (defScope s_least_costs) .none kV4 dc4 pm4 an4 cd4 ct4), sl4⟩) (c4 : PySem.W.codeIn K cd4 "least_costs" = true) (k4 : PySem.W.keepIn K (.ref f4) = true)
    (a5 : PySem.W.nsIn K mainGlobals "_law_flow" = some (some (.ref f5))) (l5 : K.lookup f5 = some ⟨oc5, od5, .func (PySem.W.fnOf "_law_flow" "_law_flow" (defArgs s_law_flow) (defBody s_law_flow) (defScope s_law_flow) .none kV5 dc5 pm5 an5 cd5 ct5), sl5⟩) (c5 : PySem.W.codeIn K cd5 "_law_flow" = true) (k5 : PySem.W.keepIn K (.ref f5) = true)
    (a6 : PySem.W.nsIn K mainGlobals "_law_pick" = some (some (.ref f6))) (l6 : K.lookup f6 = some ⟨oc6, od6, .func (PySem.W.fnOf "_law_pick" "_law_pick" (defArgs s_law_pick) (defBody s_law_pick) (defScope s_law_pick) .none kV6 dc6 pm6 an6 cd6 ct6), sl6⟩) (c6 : PySem.W.codeIn K cd6 "_law_pick" = true) (k6 : PySem.W.keepIn K (.ref f6) = true)
    (a7 : PySem.W.nsIn K mainGlobals "_law_thing" = some (some (.ref f7))) (l7 : K.lookup f7 = some ⟨oc7, od7, .func (PySem.W.fnOf "_law_thing" "_law_thing" (defArgs s_law_thing) (defBody s_law_thing) (defScope s_law_thing) .none kV7 dc7 pm7 an7 cd7 ct7), sl7⟩) (c7 : PySem.W.codeIn K cd7 "_law_thing" = true) (k7 : PySem.W.keepIn K (.ref f7) = true)
    (a8 : PySem.W.nsIn K mainGlobals "_law_needs" = some (some (.ref f8))) (l8 : K.lookup f8 = some ⟨oc8, od8, .func (PySem.W.fnOf "_law_needs" "_law_needs" (defArgs s_law_needs) (defBody s_law_needs) (defScope s_law_needs) .none kV8 dc8 pm8 an8 cd8 ct8), sl8⟩) (c8 : PySem.W.codeIn K cd8 "_law_needs" = true) (k8 : PySem.W.keepIn K (.ref f8) = true)
    (a9 : PySem.W.nsIn K mainGlobals "_law_rule" = some (some (.ref f9))) (l9 : K.lookup f9 = some ⟨oc9, od9, .func (PySem.W.fnOf "_law_rule" "_law_rule" (defArgs s_law_rule) (defBody s_law_rule) (defScope s_law_rule) .none kV9 dc9 pm9 an9 cd9 ct9), sl9⟩) (c9 : PySem.W.codeIn K cd9 "_law_rule" = true) (k9 : PySem.W.keepIn K (.ref f9) = true)
    (a10 : PySem.W.nsIn K mainGlobals "_law_shuffled" = some (some (.ref f10))) (l10 : K.lookup f10 = some ⟨oc10, od10, .func (PySem.W.fnOf "_law_shuffled" "_law_shuffled" (defArgs s_law_shuffled) (defBody s_law_shuffled) (defScope s_law_shuffled) .none kV10 dc10 pm10 an10 cd10 ct10), sl10⟩) (c10 : PySem.W.codeIn K cd10 "_law_shuffled" = true) (k10 : PySem.W.keepIn K (.ref f10) = true)
    (a11 : PySem.W.nsIn K mainGlobals "_law_hands" = some (some (.ref f11))) (l11 : K.lookup f11 = some ⟨oc11, od11, .func (PySem.W.fnOf "_law_hands" "_law_hands" (defArgs s_law_hands) (defBody s_law_hands) (defScope s_law_hands) .none kV11 dc11 pm11 an11 cd11 ct11), sl11⟩) (c11 : PySem.W.codeIn K cd11 "_law_hands" = true) (k11 : PySem.W.keepIn K (.ref f11) = true)
    (a12 : PySem.W.nsIn K mainGlobals "_law_room" = some (some (.ref f12))) (l12 : K.lookup f12 = some ⟨oc12, od12, .func (PySem.W.fnOf "_law_room" "_law_room" (defArgs s_law_room) (defBody s_law_room) (defScope s_law_room) .none kV12 dc12 pm12 an12 cd12 ct12), sl12⟩) (c12 : PySem.W.codeIn K cd12 "_law_room" = true) (k12 : PySem.W.keepIn K (.ref f12) = true)
    (a13 : PySem.W.nsIn K mainGlobals "_law_alike" = some (some (.ref f13))) (l13 : K.lookup f13 = some ⟨oc13, od13, .func (PySem.W.fnOf "_law_alike" "_law_alike" (defArgs s_law_alike) (defBody s_law_alike) (defScope s_law_alike) .none kV13 dc13 pm13 an13 cd13 ct13), sl13⟩) (c13 : PySem.W.codeIn K cd13 "_law_alike" = true) (k13 : PySem.W.keepIn K (.ref f13) = true)
    (a14 : PySem.W.nsIn K mainGlobals "_law_end" = some (some (.ref f14))) (l14 : K.lookup f14 = some ⟨oc14, od14, .func (PySem.W.fnOf "_law_end" "_law_end" (defArgs s_law_end) (defBody s_law_end) (defScope s_law_end) .none kV14 dc14 pm14 an14 cd14 ct14), sl14⟩) (c14 : PySem.W.codeIn K cd14 "_law_end" = true) (k14 : PySem.W.keepIn K (.ref f14) = true)
    (a15 : PySem.W.nsIn K mainGlobals "_law_trays" = some (some (.ref f15))) (l15 : K.lookup f15 = some ⟨oc15, od15, .func (PySem.W.fnOf "_law_trays" "_law_trays" (defArgs s_law_trays) (defBody s_law_trays) (defScope s_law_trays) .none kV15 dc15 pm15 an15 cd15 ct15), sl15⟩) (c15 : PySem.W.codeIn K cd15 "_law_trays" = true) (k15 : PySem.W.keepIn K (.ref f15) = true)
    (a16 : PySem.W.nsIn K mainGlobals "_law_moments" = some (some (.ref f16))) (l16 : K.lookup f16 = some ⟨oc16, od16, .func (PySem.W.fnOf "_law_moments" "_law_moments" (defArgs s_law_moments) (defBody s_law_moments) (defScope s_law_moments) .none kV16 dc16 pm16 an16 cd16 ct16), sl16⟩) (c16 : PySem.W.codeIn K cd16 "_law_moments" = true) (k16 : PySem.W.keepIn K (.ref f16) = true)
    (a17 : PySem.W.nsIn K mainGlobals "_law_is_way" = some (some (.ref f17))) (l17 : K.lookup f17 = some ⟨oc17, od17, .func (PySem.W.fnOf "_law_is_way" "_law_is_way" (defArgs s_law_is_way) (defBody s_law_is_way) (defScope s_law_is_way) .none kV17 dc17 pm17 an17 cd17 ct17), sl17⟩) (c17 : PySem.W.codeIn K cd17 "_law_is_way" = true) (k17 : PySem.W.keepIn K (.ref f17) = true)
    (a18 : PySem.W.nsIn K mainGlobals "_law_least_from" = some (some (.ref f18))) (l18 : K.lookup f18 = some ⟨oc18, od18, .func (PySem.W.fnOf "_law_least_from" "_law_least_from" (defArgs s_law_least_from) (defBody s_law_least_from) (defScope s_law_least_from) .none kV18 dc18 pm18 an18 cd18 ct18), sl18⟩) (c18 : PySem.W.codeIn K cd18 "_law_least_from" = true) (k18 : PySem.W.keepIn K (.ref f18) = true)
    (a19 : PySem.W.nsIn K mainGlobals "_law_thin" = some (some (.ref f19))) (l19 : K.lookup f19 = some ⟨oc19, od19, .func (PySem.W.fnOf "_law_thin" "_law_thin" (defArgs s_law_thin) (defBody s_law_thin) (defScope s_law_thin) .none kV19 dc19 pm19 an19 cd19 ct19), sl19⟩) (c19 : PySem.W.codeIn K cd19 "_law_thin" = true) (k19 : PySem.W.keepIn K (.ref f19) = true)
    (a20 : PySem.W.nsIn K mainGlobals "_law_right" = some (some (.ref f20))) (l20 : K.lookup f20 = some ⟨oc20, od20, .func (PySem.W.fnOf "_law_right" "_law_right" (defArgs s_law_right) (defBody s_law_right) (defScope s_law_right) .none kV20 dc20 pm20 an20 cd20 ct20), sl20⟩) (c20 : PySem.W.codeIn K cd20 "_law_right" = true) (k20 : PySem.W.keepIn K (.ref f20) = true)
    (a21 : PySem.W.nsIn K mainGlobals "law" = some (some (.ref f21))) (l21 : K.lookup f21 = some ⟨oc21, od21, .func (PySem.W.fnOf "law" "law" (defArgs s_law) (defBody s_law) (defScope s_law) .none kV21 dc21 pm21 an21 cd21 ct21), sl21⟩) (c21 : PySem.W.codeIn K cd21 "law" = true) (k21 : PySem.W.keepIn K (.ref f21) = true)
    (z1 : PySem.W.nsIn K mainGlobals "all" = some none)    (z2 : PySem.W.nsIn K mainGlobals "bool" = some none)    (z3 : PySem.W.nsIn K mainGlobals "enumerate" = some none)    (z4 : PySem.W.nsIn K mainGlobals "int" = some none)    (z5 : PySem.W.nsIn K mainGlobals "isinstance" = some none)    (z6 : PySem.W.nsIn K mainGlobals "len" = some none)    (z7 : PySem.W.nsIn K mainGlobals "list" = some none)    (z8 : PySem.W.nsIn K mainGlobals "max" = some none)    (z9 : PySem.W.nsIn K mainGlobals "min" = some none)    (z10 : PySem.W.nsIn K mainGlobals "range" = some none)    (z11 : PySem.W.nsIn K mainGlobals "str" = some none)    (z12 : PySem.W.nsIn K mainGlobals "sum" = some none)    (z13 : PySem.W.nsIn K mainGlobals "tuple" = some none)    (z14 : PySem.W.nsIn K mainGlobals "zip" = some none) :
    ∃ fd : FuncData, (∀ (s : Shared) (v : Value), BindsTo s fd ⟨[v], []⟩ [("_law_script", v)]) ∧ ∀ base : Heap, K.In base → base.Ns mainGlobals mg → FnOk l.prog w K mg base CX0 6 fa fd ["_law_script"] (sp_law K) := by
  have e := hfa.symm.trans (PySem.W.mg_of X G a21)
  cases e
  have F1 := fun_mk (st := s_way_back) l1 c1 k1
  have b1 := F1.binds (ps := ["room", "end", "last"]) fun _ _ _ _ _ _ us hl => match us, hl with | [_, _, _], _ => rfl
  have F2 := fun_mk (st := s_least_between) l2 c2 k2
  have b2 := F2.binds (ps := ["room", "one", "other"]) fun _ _ _ _ _ _ us hl => match us, hl with | [_, _, _], _ => rfl
  have F3 := fun_mk (st := s_way_between) l3 c3 k3
  have b3 := F3.binds (ps := ["room", "one", "other"]) fun _ _ _ _ _ _ us hl => match us, hl with | [_, _, _], _ => rfl
  have F4 := fun_mk (st := s_least_costs) l4 c4 k4
  have b4 := F4.binds (ps := ["room", "one"]) fun _ _ _ _ _ _ us hl => match us, hl with | [_, _], _ => rfl
  have F5 := fun_mk (st := s_law_flow) l5 c5 k5
  have b5 := F5.binds (ps := ["_law_script"]) fun _ _ _ _ _ _ us hl => match us, hl with | [_], _ => rfl
  have F6 := fun_mk (st := s_law_pick) l6 c6 k6
  have b6 := F6.binds (ps := ["_law_flow_here", "_law_many"]) fun _ _ _ _ _ _ us hl => match us, hl with | [_, _], _ => rfl
  have F7 := fun_mk (st := s_law_thing) l7 c7 k7
  have b7 := F7.binds (ps := ["_law_flow_here"]) fun _ _ _ _ _ _ us hl => match us, hl with | [_], _ => rfl
  have F8 := fun_mk (st := s_law_needs) l8 c8 k8
  have b8 := F8.binds (ps := ["_law_rule_here"]) fun _ _ _ _ _ _ us hl => match us, hl with | [_], _ => rfl
  have F9 := fun_mk (st := s_law_rule) l9 c9 k9
  have b9 := F9.binds (ps := ["_law_flow_here", "_law_most"]) fun _ _ _ _ _ _ us hl => match us, hl with | [_, _], _ => rfl
  have F10 := fun_mk (st := s_law_shuffled) l10 c10 k10
  have b10 := F10.binds (ps := ["_law_flow_here", "_law_some"]) fun _ _ _ _ _ _ us hl => match us, hl with | [_, _], _ => rfl
  have F11 := fun_mk (st := s_law_hands) l11 c11 k11
  have b11 := F11.binds (ps := ["_law_flow_here", "_law_many"]) fun _ _ _ _ _ _ us hl => match us, hl with | [_, _], _ => rfl
  have F12 := fun_mk (st := s_law_room) l12 c12 k12
  have b12 := F12.binds (ps := ["_law_flow_here", "_law_most"]) fun _ _ _ _ _ _ us hl => match us, hl with | [_, _], _ => rfl
  have F13 := fun_mk (st := s_law_alike) l13 c13 k13
  have b13 := F13.binds (ps := ["_law_found", "_law_due"]) fun _ _ _ _ _ _ us hl => match us, hl with | [_, _], _ => rfl
  have F14 := fun_mk (st := s_law_end) l14 c14 k14
  have b14 := F14.binds (ps := ["_law_room_here", "_law_pair"]) fun _ _ _ _ _ _ us hl => match us, hl with | [_, _], _ => rfl
  have F15 := fun_mk (st := s_law_trays) l15 c15 k15
  have b15 := F15.binds (ps := ["_law_room_here", "_law_way"]) fun _ _ _ _ _ _ us hl => match us, hl with | [_, _], _ => rfl
  have F16 := fun_mk (st := s_law_moments) l16 c16 k16
  have b16 := F16.binds (ps := ["_law_room_here", "_law_way"]) fun _ _ _ _ _ _ us hl => match us, hl with | [_, _], _ => rfl
  have F17 := fun_mk (st := s_law_is_way) l17 c17 k17
  have b17 := F17.binds (ps := ["_law_room_here", "_law_way"]) fun _ _ _ _ _ _ us hl => match us, hl with | [_, _], _ => rfl
  have F18 := fun_mk (st := s_law_least_from) l18 c18 k18
  have b18 := F18.binds (ps := ["_law_room_here", "_law_hand"]) fun _ _ _ _ _ _ us hl => match us, hl with | [_, _], _ => rfl
  have F19 := fun_mk (st := s_law_thin) l19 c19 k19
  have b19 := F19.binds (ps := ["_law_room_here", "_law_most"]) fun _ _ _ _ _ _ us hl => match us, hl with | [_, _], _ => rfl
  have F20 := fun_mk (st := s_law_right) l20 c20 k20
  have b20 := F20.binds (ps := ["_law_room_here", "_law_one", "_law_others"]) fun _ _ _ _ _ _ us hl => match us, hl with | [_, _, _], _ => rfl
  have F21 := fun_mk (st := s_law) l21 c21 k21
  have T : Top K mg := ⟨⟨f1, _, F1, b1, PySem.W.mg_of X G a1⟩, ⟨f2, _, F2, b2, PySem.W.mg_of X G a2⟩, ⟨f3, _, F3, b3, PySem.W.mg_of X G a3⟩, ⟨f4, _, F4, b4, PySem.W.mg_of X G a4⟩, ⟨f5, _, F5, b5, PySem.W.mg_of X G a5⟩, ⟨f6, _, F6, b6, PySem.W.mg_of X G a6⟩, ⟨f7, _, F7, b7, PySem.W.mg_of X G a7⟩, ⟨f8, _, F8, b8, PySem.W.mg_of X G a8⟩, ⟨f9, _, F9, b9, PySem.W.mg_of X G a9⟩, ⟨f10, _, F10, b10, PySem.W.mg_of X G a10⟩, ⟨f11, _, F11, b11, PySem.W.mg_of X G a11⟩, ⟨f12, _, F12, b12, PySem.W.mg_of X G a12⟩, ⟨f13, _, F13, b13, PySem.W.mg_of X G a13⟩, ⟨f14, _, F14, b14, PySem.W.mg_of X G a14⟩, ⟨f15, _, F15, b15, PySem.W.mg_of X G a15⟩, ⟨f16, _, F16, b16, PySem.W.mg_of X G a16⟩, ⟨f17, _, F17, b17, PySem.W.mg_of X G a17⟩, ⟨f18, _, F18, b18, PySem.W.mg_of X G a18⟩, ⟨f19, _, F19, b19, PySem.W.mg_of X G a19⟩, ⟨f20, _, F20, b20, PySem.W.mg_of X G a20⟩, PySem.W.mg_none_of X G z1, PySem.W.mg_none_of X G z2, PySem.W.mg_none_of X G z3, PySem.W.mg_none_of X G z4, PySem.W.mg_none_of X G z5, PySem.W.mg_none_of X G z6, PySem.W.mg_none_of X G z7, PySem.W.mg_none_of X G z8, PySem.W.mg_none_of X G z9, PySem.W.mg_none_of X G z10, PySem.W.mg_none_of X G z11, PySem.W.mg_none_of X G z12, PySem.W.mg_none_of X G z13, PySem.W.mg_none_of X G z14⟩
  exact ⟨PySem.W.fnOf "law" "law" (defArgs s_law) (defBody s_law) (defScope s_law) .none kV21 dc21 pm21 an21 cd21 ct21, fun s v => .of_eq rfl, fun base _ _ => ok_law F21 T⟩
end Mine
open PySem PySem.W PyProof.Rows
set_option maxRecDepth 100000 in
set_option maxHeartbeats 0 in
theorem PySem.Challenge.cw_beltshift_k29_least_between_hands_holds : PySem.Challenge.rw_beltshift_k29_least_between_hands.Holds := by
  w_on; o_law; k_head; (case hw => w_witness2)
  k_fill
  refine L2.walk_of (l := PySem.Challenge.rw_beltshift_k29_least_between_hands) (n := 63) (k := 6) (x := "_law_script") (CX := fun _ => L2.CX0) (sp := fun w => Mine.sp_law _) rfl (by decide) rfl ⟨rfl, by decide, by decide⟩ (fun w h Y => PySem.W.kIn_of Y) ?F (fun _ _ a ns hl _ hS => ⟨a, ns, rfl, hS, hl, fun _ => rfl⟩) (fun _ _ _ _ _ h => h)
  case F =>
    intro w mg fa h KX G hmg
    refine' Mine.all_mk KX G hmg ?a1 ?l1 ?c1 ?k1 ?a2 ?l2 ?c2 ?k2 ?a3 ?l3 ?c3 ?k3 ?a4 ?l4 ?c4 ?k4 ?a5 ?l5 ?c5 ?k5 ?a6 ?l6 ?c6 ?k6 ?a7 ?l7 ?c7 ?k7 ?a8 ?l8 ?c8 ?k8 ?a9 ?l9 ?c9 ?k9 ?a10 ?l10 ?c10 ?k10 ?a11 ?l11 ?c11 ?k11 ?a12 ?l12 ?c12 ?k12 ?a13 ?l13 ?c13 ?k13 ?a14 ?l14 ?c14 ?k14 ?a15 ?l15 ?c15 ?k15 ?a16 ?l16 ?c16 ?k16 ?a17 ?l17 ?c17 ?k17 ?a18 ?l18 ?c18 ?k18 ?a19 ?l19 ?c19 ?k19 ?a20 ?l20 ?c20 ?k20 ?a21 ?l21 ?c21 ?k21 ?z1 ?z2 ?z3 ?z4 ?z5 ?z6 ?z7 ?z8 ?z9 ?z10 ?z11 ?z12 ?z13 ?z14
    (case a1 => k_is)
    (case l1 => k_is)
    (case c1 => k_is)
    (case k1 => k_is)
    (case a2 => k_is)
    (case l2 => k_is)
    (case c2 => k_is)
    (case k2 => k_is)
    (case a3 => k_is)
    (case l3 => k_is)
    (case c3 => k_is)
    (case k3 => k_is)
    (case a4 => k_is)
    (case l4 => k_is)
    (case c4 => k_is)
    (case k4 => k_is)
    (case a5 => k_is)
    (case l5 => k_is)
    (case c5 => k_is)
    (case k5 => k_is)
    (case a6 => k_is)
    (case l6 => k_is)
    (case c6 => k_is)
    (case k6 => k_is)
    (case a7 => k_is)
    (case l7 => k_is)
    (case c7 => k_is)
    (case k7 => k_is)
    (case a8 => k_is)
    (case l8 => k_is)
    (case c8 => k_is)
    (case k8 => k_is)
    (case a9 => k_is)
    (case l9 => k_is)
    (case c9 => k_is)
    (case k9 => k_is)
    (case a10 => k_is)
    (case l10 => k_is)
    (case c10 => k_is)
    (case k10 => k_is)
    (case a11 => k_is)
    (case l11 => k_is)
    (case c11 => k_is)
    (case k11 => k_is)
    (case a12 => k_is)
    (case l12 => k_is)
    (case c12 => k_is)
    (case k12 => k_is)
    (case a13 => k_is)
    (case l13 => k_is)
    (case c13 => k_is)
    (case k13 => k_is)
    (case a14 => k_is)
    (case l14 => k_is)
    (case c14 => k_is)
    (case k14 => k_is)
    (case a15 => k_is)
    (case l15 => k_is)
    (case c15 => k_is)
    (case k15 => k_is)
    (case a16 => k_is)
    (case l16 => k_is)
    (case c16 => k_is)
    (case k16 => k_is)
    (case a17 => k_is)
    (case l17 => k_is)
    (case c17 => k_is)
    (case k17 => k_is)
    (case a18 => k_is)
    (case l18 => k_is)
    (case c18 => k_is)
    (case k18 => k_is)
    (case a19 => k_is)
    (case l19 => k_is)
    (case c19 => k_is)
    (case k19 => k_is)
    (case a20 => k_is)
    (case l20 => k_is)
    (case c20 => k_is)
    (case k20 => k_is)
    (case a21 => k_is)
    (case l21 => k_is)
    (case c21 => k_is)
    (case k21 => k_is)
    (case z1 => k_is)
    (case z2 => k_is)
    (case z3 => k_is)
    (case z4 => k_is)
    (case z5 => k_is)
    (case z6 => k_is)
    (case z7 => k_is)
    (case z8 => k_is)
    (case z9 => k_is)
    (case z10 => k_is)
    (case z11 => k_is)
    (case z12 => k_is)
    (case z13 => k_is)
    (case z14 => k_is)

