import PyProof.Rows.All
import Wide.All
import OpenK.AllK
import Wide.FinOn
import HandS.ForMost
import HandS.Wide
import HandS.Style
import HandS.IsInst
import HandS.TupAny
import HandS.NoneIn
import HandS.SetFor
import HandS.Conv
import HandS.Zip
import HandS.SortKw
import HandS.Deep
import KE.DataMinMax
import KE.GoesMore
import KE.KDictZip
import KE.GoesZip
import KE.GoesEnum
import HandS.AnyAll
import HandS.StrMore
import HandS.Codes
import HandS.Replace
import HandS.Text
import KE.KIntText
import PyProof.Rows.StrMul
import HandS.Words
import HandS.EndTab
import HandS.HeadWalk
import HandS.Defaults
import HandS.Head0
import HandS.Head1
import HandS.Head2
import HandS.HeadEnd
import HandS.HeadHook1
import HandS.HeadHook2
import HandS.HeadHook3
import HandS.HeadHook4
import KE.KStateDown
import KE.KIsAll
import KE.KNestM
import PyProof.GenCompD
import PyProof.WalksMore
import PySem.Challenge.RW_beltshift_k02_names_and_numbers
set_option Elab.async false
set_option linter.all false
set_option maxRecDepth 100000
namespace Mine
open PySem PyProof.Rows L2
def topS (i : Nat) : Stmt := PySem.Challenge.pw_beltshift_k02_names_and_numbers.main.body.getD i (.Pass ⟨0, 0, 0, 0⟩)
abbrev s_is_name : Stmt := topS 6
abbrev N_is_name : List Str := ["text"]
theorem sc_is_name : FnScope N_is_name ["text"] (defScope s_is_name) := ⟨rfl, rfl, rfl, by decide +kernel, rfl, by decide +kernel, by decide +kernel⟩
abbrev s_number_of : Stmt := topS 7
abbrev N_number_of : List Str := ["text", "figures"]
theorem sc_number_of : FnScope N_number_of ["text"] (defScope s_number_of) := ⟨rfl, rfl, rfl, by decide +kernel, rfl, by decide +kernel, by decide +kernel⟩
abbrev s_law_flow : Stmt := topS 9
abbrev N_law_flow : List Str := ["_law_script"]
theorem sc_law_flow : FnScope N_law_flow ["_law_script"] (defScope s_law_flow) := ⟨rfl, rfl, rfl, by decide +kernel, rfl, by decide +kernel, by decide +kernel⟩
abbrev s_law_pick : Stmt := topS 10
abbrev N_law_pick : List Str := ["_law_flow_here", "_law_many", "_law_cell", "_law_digit"]
theorem sc_law_pick : FnScope N_law_pick ["_law_flow_here", "_law_many"] (defScope s_law_pick) := ⟨rfl, rfl, rfl, by decide +kernel, rfl, by decide +kernel, by decide +kernel⟩
abbrev s_law_signs : Stmt := topS 11
abbrev N_law_signs : List Str := ["_law_some"]
theorem sc_law_signs : FnScope N_law_signs [] (defScope s_law_signs) := ⟨rfl, rfl, rfl, by decide +kernel, rfl, by decide +kernel, by decide +kernel⟩
abbrev s_law_word : Stmt := topS 12
abbrev N_law_word : List Str := ["_law_flow_here", "_law_most", "_law_letters", "_law_k"]
theorem sc_law_word : FnScope N_law_word ["_law_flow_here", "_law_most"] (defScope s_law_word) := ⟨rfl, rfl, rfl, by decide +kernel, rfl, by decide +kernel, by decide +kernel⟩
abbrev s_law_taken : Stmt := topS 13
abbrev N_law_taken : List Str := []
theorem sc_law_taken : FnScope N_law_taken [] (defScope s_law_taken) := ⟨rfl, rfl, rfl, by decide +kernel, rfl, by decide +kernel, by decide +kernel⟩
abbrev s_law_is_name : Stmt := topS 14
abbrev N_law_is_name : List Str := ["_law_text_here", "_law_sign"]
theorem sc_law_is_name : FnScope N_law_is_name ["_law_text_here"] (defScope s_law_is_name) := ⟨rfl, rfl, rfl, by decide +kernel, rfl, by decide +kernel, by decide +kernel⟩
abbrev s_law_number : Stmt := topS 15
abbrev N_law_number : List Str := ["_law_text_here", "_law_figures", "_law_sign", "_law_number_here"]
theorem sc_law_number : FnScope N_law_number ["_law_text_here"] (defScope s_law_number) := ⟨rfl, rfl, rfl, by decide +kernel, rfl, by decide +kernel, by decide +kernel⟩
abbrev s_law_put : Stmt := topS 16
abbrev N_law_put : List Str := ["_law_flow_here", "_law_some", "_law_one", "_law_way", "_law_at"]
theorem sc_law_put : FnScope N_law_put ["_law_flow_here", "_law_some", "_law_one"] (defScope s_law_put) := ⟨rfl, rfl, rfl, by decide +kernel, rfl, by decide +kernel, by decide +kernel⟩
abbrev s_law_text : Stmt := topS 17
abbrev N_law_text : List Str := ["_law_flow_here", "_law_form", "_law_text_here", "_law_signs_here", "_law_k", "_law_sign"]
theorem sc_law_text : FnScope N_law_text ["_law_flow_here"] (defScope s_law_text) := ⟨rfl, rfl, rfl, by decide +kernel, rfl, by decide +kernel, by decide +kernel⟩
abbrev s_law_right : Stmt := topS 18
abbrev N_law_right : List Str := ["_law_text_here", "_law_found", "_law_number_here", "_law_due"]
theorem sc_law_right : FnScope N_law_right ["_law_text_here"] (defScope s_law_right) := ⟨rfl, rfl, rfl, by decide +kernel, rfl, by decide +kernel, by decide +kernel⟩
abbrev s_law : Stmt := topS 19
abbrev N_law : List Str := ["_law_script", "_law_flow_here", "_law_texts", "_law_k", "_law_text_here", "_law_number_here"]
theorem sc_law : FnScope N_law ["_law_script"] (defScope s_law) := ⟨rfl, rfl, rfl, by decide +kernel, rfl, by decide +kernel, by decide +kernel⟩

/-- a def of the text stands, binds and is bound -/
def Dd (K : PySem.W.Frag) (mg : Str → Option Value) (name : Str) (st : Stmt) (ps : List Str) : Prop :=
  ∃ (f : Addr) (fd : FuncData), Fun K name name st f fd ∧ Binds K fd ps [] ∧ mg name = some (.ref f)
/-- the module's texts -/
def letS : Str := "abcdefghijklmnopqrstuvwxyz"
def figS : Str := "0123456789"
def takL : List V := [.str "in", .str "out", .str "was", .str "if", .str "then", .str "else", .str "most", .str "least"]
structure Top (K : PySem.W.Frag) (mg : Str → Option Value) : Prop where
  d_is_name : Dd K mg "is_name" s_is_name ["text"]
  d_number_of : Dd K mg "number_of" s_number_of ["text"]
  d_law_flow : Dd K mg "_law_flow" s_law_flow ["_law_script"]
  d_law_pick : Dd K mg "_law_pick" s_law_pick ["_law_flow_here", "_law_many"]
  d_law_signs : Dd K mg "_law_signs" s_law_signs []
  d_law_word : Dd K mg "_law_word" s_law_word ["_law_flow_here", "_law_most"]
  d_law_taken : Dd K mg "_law_taken" s_law_taken []
  d_law_is_name : Dd K mg "_law_is_name" s_law_is_name ["_law_text_here"]
  d_law_number : Dd K mg "_law_number" s_law_number ["_law_text_here"]
  d_law_put : Dd K mg "_law_put" s_law_put ["_law_flow_here", "_law_some", "_law_one"]
  d_law_text : Dd K mg "_law_text" s_law_text ["_law_flow_here"]
  d_law_right : Dd K mg "_law_right" s_law_right ["_law_text_here"]
  m_all : mg "all" = none
  m_bool : mg "bool" = none
  m_int : mg "int" = none
  m_isinstance : mg "isinstance" = none
  m_len : mg "len" = none
  m_list : mg "list" = none
  m_range : mg "range" = none
  m_str : mg "str" = none
  x_tak : ∃ aT : Addr, mg "TAKEN" = some (.ref aT) ∧ ∀ H : Hp, SqT K H aT takL
  x_len : ∃ t, mg "LONGEST_NAME" = some (.int 6 t)
  x_fig : ∃ t, mg "MOST_FIGURES" = some (.int 9 t)
  x_let : ∃ t, mg "LETTERS" = some (.str letS t)
  x_num : ∃ t, mg "FIGURES" = some (.str figS t)

/-! ### heaps -/
def But (f : Addr) (H H' : Hp) : Prop := ∀ b o, H b = some o → b ≠ f → H' b = some o
theorem But.refl {f : Addr} {H : Hp} : But f H H := fun _ _ e _ => e
theorem But.trans {f : Addr} {H H1 H2 : Hp} (a : But f H H1) (b : But f H1 H2) : But f H H2 := fun x o e n => b x o (a x o e n) n
theorem But.upd {f : Addr} {H H1 : Hp} {o : HO} (a : But f H H1) : But f H (upd H1 f o) := fun x u e n => by rw [upd_ne n]; exact a x u e n
theorem But.new {f p : Addr} {H H1 : Hp} {o : HO} (a : But f H H1) (h : H1 p = none) : But f H (L2.upd H1 p o) := fun x u e n => by
  have e1 := a x u e n
  rw [upd_ne (ne_of_none e1 h)]
  exact e1
theorem same_new {H : Hp} {p : Addr} {o : HO} (h : H p = none) : Same H (upd H p o) := fun b u q => by rw [upd_ne (ne_of_none q h)]; exact q
theorem But.same {f : Addr} {H H1 H2 : Hp} (a : But f H H1) (b : Same H1 H2) : But f H H2 := fun x o e n => b x o (a x o e n)
theorem But.seqT {K : PySem.W.Frag} {f a : Addr} {H H1 : Hp} {xs : List V} (b : But f H H1) (h : SqT K H a xs) (n : a ≠ f) : SqT K H1 a xs := by
  rcases h with h | h
  · left
    rcases h with h | ⟨o, h⟩
    · exact .inl (b _ _ h n)
    · exact .inr ⟨o, b _ _ h n⟩
  · exact .inr h
/-- a comprehension without a test -/
theorem yes_in {σ : L2.St} {H : Hp} {A B : Hp → Prop} (h : A H) : tYes σ H (fun b H3 => if b = true then A H3 else B H3) := by
  show (if true = true then A H else B H)
  rw [if_pos rfl]
  exact h
/-! ### the draw -/
/-- the list of the law's draws at f, the script's copy at c -/
def Flow (H : Hp) (f c : Addr) : Prop := ∃ (ns : List Int) (i p q r : Int), H f = some (.lst [.ref c, .int i, .int p, .int q, .int r]) ∧ H c = some (.lst (ns.map V.int)) ∧ 0 ≤ i ∧ 0 ≤ p ∧ 0 ≤ q ∧ q < 2147483647
theorem Flow.new {H : Hp} {f c p : Addr} {o : HO} (h : Flow H f c) (n : H p = none) : Flow (upd H p o) f c := by
  obtain ⟨ns, i, a, q, r, e1, e2, e⟩ := h
  exact ⟨ns, i, a, q, r, same_new n _ _ e1, same_new n _ _ e2, e⟩
theorem Flow.ne {H : Hp} {f c p : Addr} (h : Flow H f c) (n : H p = none) : p ≠ f := by
  obtain ⟨ns, i, a, q, r, e1, _⟩ := h
  exact fun e => by rw [e, e1] at n; cases n
theorem Flow.nec {H : Hp} {f c p : Addr} (h : Flow H f c) (n : H p = none) : p ≠ c := by
  obtain ⟨ns, i, a, q, r, _, e1, _⟩ := h
  exact fun e => by rw [e, e1] at n; cases n
theorem Flow.lst {H : Hp} {f c p : Addr} {o : HO} (h : Flow H f c) (n1 : p ≠ f) (n2 : p ≠ c) : Flow (upd H p o) f c := by
  obtain ⟨ns, i, a, q, r, e1, e2, e⟩ := h
  exact ⟨ns, i, a, q, r, by rw [upd_ne n1.symm]; exact e1, by rw [upd_ne n2.symm]; exact e2, e⟩
theorem Flow.same {H H' : Hp} {f c : Addr} (h : Flow H f c) (s : Same H H') : Flow H' f c := by
  obtain ⟨ns, i, a, q, r, e1, e2, e⟩ := h
  exact ⟨ns, i, a, q, r, s _ _ e1, s _ _ e2, e⟩
theorem Flow.tup {H : Hp} {f c p : Addr} {xs : List V} (h : Flow H f c) (e : H p = some (.tup xs)) : p ≠ f := by
  obtain ⟨ns, i, a, q, r, e1, _⟩ := h
  exact ne_of e e1 (by intro z; cases z)
theorem at_ints {ns : List Int} {i : Int} (h0 : 0 ≤ i) (h1 : i < (ns.length : Int)) : ∃ v : Int, atI (ns.map V.int) i = some (.int v) := by
  have hk : i.toNat < ns.length := by omega
  have ek : i = ((i.toNat : Nat) : Int) := by omega
  have q : atI (ns.map V.int) ((i.toNat : Nat) : Int) = some (.int ns[i.toNat]) := atI_nat (by rw [List.getElem?_map, List.getElem?_eq_getElem hk]; rfl)
  rw [← ek] at q
  exact ⟨_, q⟩
/-- a block by less than it asks -/
theorem PSs.to {X : Cx} {ss : List Stmt} {t : TS} (h : PSs X ss t) (u : TS) (k : ∀ D σ H, u D σ H → t D σ H) : PSs X ss u := ⟨fun pins s σ H D I q => h.run pins s σ H D I (k D σ H q)⟩
theorem if_bl {b : Bool} {A B : Prop} (h1 : b = true → A) (h2 : b = false → B) : if b = true then A else B := by
  cases b
  · rw [if_neg Bool.false_ne_true]; exact h2 rfl
  · rw [if_pos rfl]; exact h1 rfl
/-! ### lists, two by two -/
inductive All2 {α β : Type} (R : α → β → Prop) : List α → List β → Prop
  | nil : All2 R [] []
  | cons {a b as bs} : R a b → All2 R as bs → All2 R (a :: as) (b :: bs)
theorem All2.imp {α β : Type} {R S : α → β → Prop} (h : ∀ a b, R a b → S a b) : ∀ {as bs}, All2 R as bs → All2 S as bs
  | _, _, .nil => .nil
  | _, _, .cons a b => .cons (h _ _ a) (All2.imp h b)
theorem All2.length {α β : Type} {R : α → β → Prop} : ∀ {as bs}, All2 R as bs → as.length = bs.length
  | _, _, .nil => rfl
  | _, _, .cons _ b => congrArg (· + 1) (All2.length b)
theorem All2.snoc {α β : Type} {R : α → β → Prop} {a b} (r : R a b) : ∀ {as bs}, All2 R as bs → All2 R (as ++ [a]) (bs ++ [b])
  | _, _, .nil => .cons r .nil
  | _, _, .cons h t => .cons h (All2.snoc r t)
theorem All2.get {α β : Type} {R : α → β → Prop} {as : List α} {bs : List β} (h : All2 R as bs) : ∀ {i : Nat} {b : β}, bs[i]? = some b → ∃ a, as[i]? = some a ∧ R a b := by
  induction h with
  | nil => intro i b e; cases e
  | cons r t ih =>
    intro i b e
    cases i with
    | zero => cases e; exact ⟨_, rfl, r⟩
    | succ i => exact ih e
theorem All2.getL {α β : Type} {R : α → β → Prop} {as : List α} {bs : List β} (h : All2 R as bs) : ∀ {i : Nat} {a : α}, as[i]? = some a → ∃ b, bs[i]? = some b ∧ R a b := by
  induction h with
  | nil => intro i b e; cases e
  | cons r t ih =>
    intro i b e
    cases i with
    | zero => cases e; exact ⟨_, rfl, r⟩
    | succ i => exact ih e
/-! ### tuples stay -/
def TK (H H' : Hp) : Prop := ∀ b xs, H b = some (.tup xs) → H' b = some (.tup xs)
theorem TK.refl {H : Hp} : TK H H := fun _ _ e => e
theorem TK.trans {H H1 H2 : Hp} (a : TK H H1) (b : TK H1 H2) : TK H H2 := fun x xs e => b x xs (a x xs e)
theorem TK.same {H H' : Hp} (s : Same H H') : TK H H' := fun x xs e => s _ _ e
theorem TK.new {H : Hp} {p : Addr} {o : HO} (n : H p = none) : TK H (upd H p o) := fun x xs e => same_new n _ _ e
theorem TK.lst {H : Hp} {p : Addr} {xs ys : List V} (h : H p = some (.lst xs)) : TK H (upd H p (.lst ys)) := fun x zs e => by
  rw [upd_ne (ne_of e h (by intro z; cases z))]
  exact e
theorem TK.but {H H' : Hp} {f c : Addr} (F : Flow H f c) (b : But f H H') : TK H H' := fun x xs e => b _ _ e (F.tup e)
theorem same_none {H H' : Hp} {p : Addr} (s : Same H H') (n : H' p = none) : H p = none := by
  cases e : H p with
  | none => rfl
  | some o => rw [s _ _ e] at n; cases n
theorem But.none {f p : Addr} {H H' : Hp} (b : But f H H') (n : H' p = Option.none) (h : p ≠ f) : H p = Option.none := by
  cases e : H p with
  | none => rfl
  | some o => rw [b _ _ e h] at n; cases n
theorem But.of {f : Addr} {H H' : Hp} (s : Same H H') : But f H H' := fun _ _ e _ => s _ _ e
/-- a list that was not there is written: what was stays -/
theorem But.own {f p : Addr} {H H1 : Hp} {o : HO} (a : But f H H1) (h : H p = Option.none) : But f H (L2.upd H1 p o) := fun x u e n => by
  rw [upd_ne (ne_of_none e h)]
  exact a x u e n
theorem Same.own {p : Addr} {H H1 : Hp} {o : HO} (a : Same H H1) (h : H p = Option.none) : Same H (L2.upd H1 p o) := fun x u e => by
  rw [upd_ne (ne_of_none e h)]
  exact a x u e
/-! ### loops over any iterator -/
theorem for_it {J : It} {n : Nat} {g : TG} {tb : TS} {D : Ends} {σ : L2.St} {H : Hp} (Pv : Nat → L2.St → Hp → Prop) (h0 : Pv 0 σ H) (go : ∀ i σ H, i < n → Pv i σ H → J.go i H) (st : ∀ σ H, Pv n σ H → J.stop n H)
    (hs : ∀ i x σ H H', i < n → Pv i σ H → J.yld i H x H' → g x σ H' fun σ2 H2 => tb { D with nx := Pv (i + 1), ct := Pv (i + 1), bk := D.nx } σ2 H2) (hd : ∀ σ H, Pv n σ H → D.nx σ H) :
    ∃ W : Nat → Nat → L2.St → Hp → Prop, (∃ m, W 0 m σ H) ∧ ∀ i m σ H, W i m σ H →
      (J.stop i H ∧ D.nx σ H) ∨ (J.go i H ∧ ∃ N : L2.St → Hp → Prop, (∀ σ' H', N σ' H' → ∃ m', m' < m ∧ W (i + 1) m' σ' H') ∧ ∀ x H', J.yld i H x H' → g x σ H' fun σ2 H2 => tb { D with nx := N, ct := N, bk := D.nx } σ2 H2) := by
  refine ⟨fun i m σ H => i + m = n ∧ Pv i σ H, ⟨n, by omega, h0⟩, fun i m σ H ⟨e, p⟩ => ?_⟩
  by_cases k : i < n
  · exact .inr ⟨go i σ H k p, Pv (i + 1), fun σ' H' p' => ⟨m - 1, by omega, by omega, p'⟩, fun x H' y => hs i x σ H H' k p y⟩
  · have z : i = n := by omega
    subst z
    exact .inl ⟨st σ H p, hd σ H p⟩
theorem lc_it {J : It} {n : Nat} {g : TG} {tt : TT} {te : TE} {vs : List Nat} {σ : L2.St} {H1 : Hp} {D : Addr} {Qd : Hp → Prop} (Pv : Nat → Hp → Prop) (h0 : Pv 0 (upd H1 D (.lst []))) (go : ∀ i H, i < n → Pv i H → J.go i H) (st : ∀ H, Pv n H → J.stop n H)
    (hs : ∀ i x H H', i < n → Pv i H → J.yld i H x H' → g x (wipe σ vs) H' fun σ2 H2 => wipe σ2 vs = wipe σ vs ∧ tt σ2 H2 fun b H3 =>
      if b = true then te σ2 H3 fun y H4 => ∃ acc, H4 D = some (.lst acc) ∧ acc.length < sizeLine ∧ Pv (i + 1) (upd H4 D (.lst (acc ++ [y]))) else Pv (i + 1) H3) (hd : ∀ H, Pv n H → Qd H) :
    ∃ W : Nat → Nat → Hp → Prop, (∃ m, W 0 m (upd H1 D (.lst []))) ∧ ∀ i m H, W i m H →
      (J.stop i H ∧ Qd H) ∨ (J.go i H ∧ ∃ Nx : Hp → Prop, (∀ H', Nx H' → ∃ m', m' < m ∧ W (i + 1) m' H') ∧ ∀ x H', J.yld i H x H' → g x (wipe σ vs) H' fun σ2 H2 => wipe σ2 vs = wipe σ vs ∧ tt σ2 H2 fun b H3 =>
        if b = true then te σ2 H3 fun y H4 => ∃ acc, H4 D = some (.lst acc) ∧ acc.length < sizeLine ∧ Nx (upd H4 D (.lst (acc ++ [y]))) else Nx H3) := by
  refine ⟨fun i m H => i + m = n ∧ Pv i H, ⟨n, by omega, h0⟩, fun i m H ⟨e, p⟩ => ?_⟩
  by_cases k : i < n
  · exact .inr ⟨go i H k p, Pv (i + 1), fun H' p' => ⟨m - 1, by omega, by omega, p'⟩, fun x H' y => hs i x H H' k p y⟩
  · have z : i = n := by omega
    subst z
    exact .inl ⟨st H p, hd H p⟩
/-! ### tests -/
theorem if_str {x z : Str} {A B : Prop} (h1 : x = z → A) (h2 : x ≠ z → B) : if decide (V.str x = V.str z) = true then A else B :=
  if_bl (fun e => h1 (V.str.inj (of_decide_eq_true e))) (fun e => h2 (fun q => of_decide_eq_false e (congrArg V.str q)))
theorem inV_strs {x : Str} {zs : List Str} : inV (.str x) (zs.map V.str) = true ↔ x ∈ zs := by
  unfold inV
  induction zs with
  | nil => simp
  | cons z zs ih =>
    rw [List.map_cons, List.any_cons, Bool.or_eq_true, ih, List.mem_cons]
    constructor
    · rintro (h | h)
      · exact .inl (by simpa [eqV] using (show (z == x) = true from h) |> fun k => (eq_of_beq k).symm)
      · exact .inr h
    · rintro (h | h)
      · exact .inl (show (z == x) = true by rw [h]; exact beq_self_eq_true z)
      · exact .inr h
theorem if_in {x : Str} {zs : List Str} {A B : Prop} (h1 : x ∈ zs → A) (h2 : x ∉ zs → B) : if (if false = true then !inV (.str x) (zs.map V.str) else inV (.str x) (zs.map V.str)) = true then A else B := by
  have e : (if false = true then !inV (.str x) (zs.map V.str) else inV (.str x) (zs.map V.str)) = inV (.str x) (zs.map V.str) := if_neg Bool.false_ne_true
  rw [e]
  exact if_bl (fun c => h1 (inV_strs.mp c)) (fun c => h2 (fun k => by rw [inV_strs.mpr k] at c; cases c))
theorem same_seqT {K : PySem.W.Frag} {a : Addr} {H H1 : Hp} {xs : List V} (b : Same H H1) (h : SqT K H a xs) : SqT K H1 a xs := by
  rcases h with h | h
  · left
    rcases h with h | ⟨o, h⟩
    · exact .inl (b _ _ h)
    · exact .inr ⟨o, b _ _ h⟩
  · exact .inr h
theorem little {n : Nat} (h : n ≤ 1000) : n ≤ sizeLine := Nat.le_of_lt (small1000 h)
/-! ### xs[i] op= e -/
def rGetL (K : PySem.W.Frag) : V → V → Hp → VK → Prop := fun o i H Q => ∃ (p : Addr) (xs : List V) (j : Nat) (v : V), o = .ref p ∧ i = .int (j : Nat) ∧ SqL K H p xs ∧ xs[j]? = some v ∧ Q v H
theorem get_list {X : Cx} : PGet X (rGetL X.K) := by
  intro pins st σ H o i ov iv Q J ro ri asked
  obtain ⟨p, xs, j, v, rfl, rfl, hq, hj, now⟩ := asked
  cases ro
  obtain ⟨t, rfl⟩ := ri
  obtain ⟨its, r, pl, hz⟩ := J.list hq
  obtain ⟨u, eu, ru⟩ := r.get hj
  have n1 := (List.getElem?_eq_some_iff.mp hj).1
  have n2 := line63
  exact wpAny_getItem_list pl.isList (by omega) (by omega) (by simpa using eu) ⟨v, H, J, ru, now⟩
/-! ### the same rules, the written part named (so that they fit within comprehensions) -/
section
variable {X : Cx}
theorem ix_listK (K : PySem.W.Frag) (h : X.K = K) : IxR X (rIxL K) := by subst h; exact ix_list
theorem ix_tupK (K : PySem.W.Frag) (h : X.K = K) : IxR X (rIxT K) := by subst h; exact ix_tup
def rLenK (K : PySem.W.Frag) : List V → Hp → VK → Prop := fun xs H Q => ∃ (p : Addr) (ys : List V), xs = [.ref p] ∧ (SqL K H p ys ∨ SqT K H p ys) ∧ Q (.int (ys.length : Nat)) H
theorem call_len_seqK (K : PySem.W.Frag) (h : X.K = K) : CallR X (.builtin "len") (rLenK K) := by subst h; exact call_len_seq
def rListOfK (K : PySem.W.Frag) : List V → Hp → VK → Prop := fun xs H Q => ∃ (p : Addr) (ys : List V), xs = [.ref p] ∧ (SqL K H p ys ∨ SqT K H p ys) ∧ ∀ l, H l = none → Q (.ref l) (upd H l (.lst ys))
theorem call_list_ofK (K : PySem.W.Frag) (h : X.K = K) : CallR X (.type "list") (rListOfK K) := by subst h; exact call_list_of
def rTupOfK (K : PySem.W.Frag) : List V → Hp → VK → Prop := fun xs H Q => ∃ (p : Addr) (ys : List V), xs = [.ref p] ∧ ((SqL K H p ys ∧ ∀ l, H l = none → Q (.ref l) (upd H l (.tup ys))) ∨ (SqT K H p ys ∧ Q (.ref p) H))
theorem call_tuple_ofK (K : PySem.W.Frag) (h : X.K = K) : CallR X (.type "tuple") (rTupOfK K) := by subst h; exact call_tuple_of
theorem op_in_seqK (K : PySem.W.Frag) (h : X.K = K) : OpR X (compareOp .In) (rIn K false) := by subst h; exact op_in_seq
theorem op_notIn_seqK (K : PySem.W.Frag) (h : X.K = K) : OpR X (compareOp .NotIn) (rIn K true) := by subst h; exact op_notIn_seq
theorem sl_listK (K : PySem.W.Frag) (h : X.K = K) : SlR X (rSlL K) := by subst h; exact sl_list
theorem sl_tupAK (K : PySem.W.Frag) (h : X.K = K) : SlR X (rSlA K) := by subst h; exact sl_tupA
theorem op_eqDK (K : PySem.W.Frag) (h : X.K = K) (hu : X.A.units + 64 < cLine) : OpR X (compareOp .Eq) (rEqD K) := by subst h; exact op_eqD hu
theorem op_neDK (K : PySem.W.Frag) (h : X.K = K) (hu : X.A.units + 64 < cLine) : OpR X (compareOp .NotEq) (rNeD K) := by subst h; exact op_neD hu
theorem call_isiKK (K : PySem.W.Frag) (h : X.K = K) : CallR X (.builtin "isinstance") (rIsi K) := by subst h; exact call_isi
theorem cr_allK (K : PySem.W.Frag) (h : X.K = K) (hc : X.calm = true) : CallR X (.builtin "all") (rAll K) := by subst h; exact cr_all hc
theorem cr_anyK (K : PySem.W.Frag) (h : X.K = K) (hc : X.calm = true) : CallR X (.builtin "any") (rAny K) := by subst h; exact cr_any hc
theorem cr_minKK (K : PySem.W.Frag) (h : X.K = K) (hc : X.calm = true) : CallR X (.builtin "min") (rMin K) := by subst h; exact cr_min hc
theorem cr_maxKK (K : PySem.W.Frag) (h : X.K = K) (hc : X.calm = true) : CallR X (.builtin "max") (rMax K) := by subst h; exact cr_max hc
def tTruK (K : PySem.W.Frag) (ta : TE) : TT := fun σ H Q => ta σ H fun x H' => ∃ k, TruV K x H' k ∧ Q k H'
theorem pt_truthK (K : PySem.W.Frag) (h : X.K = K) {a : Expr} {ta : TE} (ha : PE X a ta) (he : ∀ whole, isTrue a X.env whole = (do let v ← whole; standAt a.pos; holding [v] (truthy v))) : PT X a (tTruK K ta) := by subst h; exact pt_truth ha he
theorem get_listK (K : PySem.W.Frag) (h : X.K = K) : PGet X (rGetL K) := by subst h; exact get_list
theorem pg_tupK (K : PySem.W.Frag) (h : X.K = K) {es : List Expr} {k n : Nat} {t : TGs} {pos : Pos} (hc : X.calm = true) (g : PGs X es t)
    (hn : (assignEach es X.env).length = n := by rfl) (hst : (assignEach es X.env).findIdx? (·.1) = none := by rfl) : PG X (.Tuple es k pos) (gTup K n t) := by subst h; exact pg_tup hc g hn hst
theorem pg_unlK (K : PySem.W.Frag) (h : X.K = K) {es : List Expr} {k n : Nat} {t : TGs} {pos : Pos} (hc : X.calm = true) (g : PGs X es t)
    (hn : (assignEach es X.env).length = n := by rfl) (hst : (assignEach es X.env).findIdx? (·.1) = none := by rfl) : PG X (.Tuple es k pos) (gUnl K n t) := by subst h; exact pg_unl hc g hn hst
theorem pi_listK (K : PySem.W.Frag) (h : X.K = K) {tg e : Expr} {te : TE} (he : PE X e te) : PI X tg e (iList K te) := by subst h; exact pi_list he
theorem pi_tupK (K : PySem.W.Frag) (h : X.K = K) {tg e : Expr} {te : TE} (he : PE X e te) : PI X tg e (iTup K te) := by subst h; exact pi_tup he
theorem pe_revLK (K : PySem.W.Frag) (h : X.K = K) {e : Expr} {te : TE} {k : Nat} {p1 p2 p3 pos : Pos} (he : PE X e te) : PE X (.Subscript e (.Slice none none (some (.UnaryOp .USub (.Constant (.int 1) k p1) p2)) p3) pos) (tRevL K te) := by subst h; exact pe_revL he
theorem pe_bmK (K : PySem.W.Frag) (h : X.K = K) {o e : Expr} {es : List Expr} {to : TE} {t : TA} {name : Str} {apos cpos : Pos} {T id : String} {r : V → List V → Hp → VK → Prop}
    (pa : PlainAttrs T) (slot : Slot T name id) (hty : typeOf (.builtin id) = pure (.type "method_descriptor")) (hm : MtR X id r) (ho : PE X o to) (ha : PA X (e :: es) t)
    (n1 : attributeBase o name X.env (eval o X.env) = eval o X.env := by rfl)
    (n2 : ((backTo cpos (starEach (e :: es) X.env)).all (fun x => !x.1) && (backToKw cpos (keywordEach [] X.env)).all (fun x => x.1.isSome) && decide ((e :: es).length + ([] : List Keyword).length + (if ([] : List Keyword).isEmpty then 0 else 1) < 30)) = true := by rfl)
    (n3 : (apos.endLine == cpos.line) = true := by rfl) (n4 : starEach (e :: es) X.env = (false, eval e X.env) :: starEach es X.env := by rfl) (n5 : (backTo cpos (starEach es X.env)).any (·.1) = false := by rfl) :
    PE X (.Call (.Attribute o name apos) (e :: es) [] cpos) (tBM K T r to t) := by subst h; exact pe_bm pa slot hty hm ho ha n1 n2 n3 n4 n5
theorem pe_bm0K (K : PySem.W.Frag) (h : X.K = K) {o : Expr} {to : TE} {name : Str} {apos cpos : Pos} {T id : String} {r : V → List V → Hp → VK → Prop}
    (pa : PlainAttrs T) (slot : Slot T name id) (hty : typeOf (.builtin id) = pure (.type "method_descriptor")) (hm : MtR X id r) (ho : PE X o to)
    (n1 : attributeBase o name X.env (eval o X.env) = eval o X.env := by rfl) (n3 : (apos.endLine == cpos.line) = true := by rfl) : PE X (.Call (.Attribute o name apos) [] [] cpos) (tBM0 K T r to) := by subst h; exact pe_bm0 pa slot hty hm ho n1 n3
theorem op_catAK (K : PySem.W.Frag) (h : X.K = K) : OpR X (binaryOp .Add) (rCatA K) := by subst h; exact op_catA
theorem call_isiTK (K : PySem.W.Frag) (h : X.K = K) : CallR X (.builtin "isinstance") (rIsiT K) := by subst h; exact call_isiT
theorem pi_zipAK (K : PySem.W.Frag) (h : X.K = K) {e e2 : Expr} {ta : TA} {p pos tpos : Pos} {elts : List Expr} {kk : Nat} (hg : Gl X "zip") (hm : X.mg "zip" = none) (ha : PA X [e, e2] ta)
    (hs : starEach [e, e2] X.env = (false, eval e X.env) :: starEach [e2] X.env := by rfl) (hpl : (backTo pos (starEach [e2] X.env)).any (·.1) = false := by rfl) :
    PI X (.Tuple elts kk tpos) (.Call (.Name "zip" p) [e, e2] [] pos) (RZ.iZipA K ta) := by subst h; exact RZ.pi_zipA hg hm ha hs hpl
theorem pi_or {tg e : Expr} {t1 t2 : TI} (h1 : PI X tg e t1) (h2 : PI X tg e t2) : PI X tg e (fun σ H R => t1 σ H R ∨ t2 σ H R) := ⟨fun pins s σ H R I h => h.elim (h1.run pins s σ H R I) (h2.run pins s σ H R I)⟩
theorem pe_fldK (K : PySem.W.Frag) (h : X.K = K) {e : Expr} {ta : TE} {f : Str} {pos : Pos} (he : PE X e ta) (hb : attributeBase e f X.env (eval e X.env) = eval e X.env) : PE X (.Attribute e f pos) (tFld K ta f) := by subst h; exact pe_fld he hb
theorem ps_fldK (K : PySem.W.Frag) (h : X.K = K) {o value : Expr} {ta tv : TE} {f : Str} {pos pos' : Pos} (ha : PE X o ta) (hv : PE X value tv) (hs : swapsWith value (some (.Attribute o f pos')) pos.line X.env = pure false) : PS X (.Assign [.Attribute o f pos'] value pos) (sFld K ta tv f) := by subst h; exact ps_fld ha hv hs
theorem ps_fldaugK (K : PySem.W.Frag) (h : X.K = K) {o value : Expr} {ta tv : TE} {f : Str} {pos tpos : Pos} {op : Operator} {rd : V → V → Hp → VK → Prop} (ha : PE X o ta) (hv : PE X value tv) (hop : InOp X op rd) : PS X (.AugAssign (.Attribute o f tpos) op value pos) (sFldAug K ta tv rd f) := by subst h; exact ps_fldaug ha hv hop
end
section
variable {P : Program} {w : World} {K : PySem.W.Frag} {mg : Str → Option Value} {base : Heap}
def sp_law_flow (K : PySem.W.Frag) : Sp := fun vs H Q _ => ∃ (a : Addr) (ns : List Int), vs = [.ref a] ∧ SqL K H a (ns.map V.int) ∧ ∀ (f c : Addr) (H' : Hp), H f = none → H c = none → Flow H' f c → Same H H' → Q (.ref f) H'
theorem ok_law_flow {f : Addr} {fd : FuncData} (F : Fun K "_law_flow" "_law_flow" s_law_flow f fd) (T : Top K mg) : FnOk P w K mg base CX0 1 f fd ["_law_script"] (sp_law_flow K) := by
  refine F.ok sc_law_flow (fun vs H Q E h => ?_) (fun cdv A outer s H vs Q E hr h => ?_)
  · obtain ⟨a, ns, rfl, _⟩ := h
    rfl
  obtain ⟨a, ns, rfl, hS, q⟩ := h
  refine ⟨_, (pss_one (ps_ret (pe_lst (pa_cons (pe_callTy (call_list_ofK K rfl) (by rfl) T.m_list (by decide +kernel) (pa_cons (pv 0) pa_nil)) (pa_cons pe_int (pa_cons pe_int (pa_cons pe_int (pa_cons pe_int pa_nil)))))))), ?_⟩
  refine ⟨_, rfl, a, _, rfl, .inl hS, fun c hc => ?_⟩
  refine ⟨(by show 5 ≤ sizeLine; decide), fun f hf => ?_⟩
  have nf : H f = none := by
    cases e : H f with
    | none => rfl
    | some o => rw [same_new hc _ _ e] at hf; cases hf
  have s1 := same_new (o := .lst (ns.map V.int)) hc
  refine q f c _ nf hc ⟨ns, 0, 0, 1, 0, upd_same, same_new hf _ _ upd_same, by decide, by decide, by decide, by decide⟩ fun b o e => same_new hf _ _ (s1 _ _ e)
def sp_law_pick (K : PySem.W.Frag) : Sp := fun vs H Q _ => ∃ (f c : Addr) (m : Int), vs = [.ref f, .int m] ∧ 0 < m ∧ m.natAbs.log2 < 9000 ∧ Flow H f c ∧
  ∀ (v : Int) (H' : Hp), 0 ≤ v → v < m → Flow H' f c → But f H H' → Q (.int v) H'
theorem ok_law_pick {f : Addr} {fd : FuncData} (F : Fun K "_law_pick" "_law_pick" s_law_pick f fd) (T : Top K mg) : FnOk P w K mg base CX0 1 f fd ["_law_flow_here", "_law_many"] (sp_law_pick K) := by
  refine F.ok sc_law_pick (fun vs H Q E h => ?_) (fun cdv A outer s H vs Q E hr h => ?_)
  · obtain ⟨f, c, m, rfl, _⟩ := h
    rfl
  obtain ⟨f, c, m, rfl, m0, m9, hF, q⟩ := h
  obtain ⟨ns, i, p, z, r, hf, hc, hi, hp, hz, hz2⟩ := hF
  have ncf : c ≠ f := ne_of hc hf (by intro e; injection e with e; cases ns with | nil => cases e | cons x l => cases e)
  let R1 : TS := fun D' σ' H' => D'.rt = Q ∧ ∃ x2 : Option V, σ' = [some (.ref f), some (.int m), x2, none] ∧ (∃ (i p z r : Int), H' f = some (.lst [.ref c, .int i, .int p, .int z, .int r]) ∧ H' c = some (.lst (ns.map V.int)) ∧ 0 ≤ i ∧ 0 ≤ p ∧ 0 ≤ z ∧ z < 2147483647) ∧ But f H H'
  refine ⟨_, (pss_cons (ps_if (PW.pt (pw_and (pt_cmpR op_eq (pe_ix (ix_listK K rfl) (pv 0) pe_int (fun _ _ => rfl)) pe_int (nomark _)) (pw_and1 (pt_cmpR op_lt (pe_ix (ix_listK K rfl) (pv 0) pe_int (fun _ _ => rfl)) (pe_callB (call_len_seqK K rfl) (by rfl) T.m_len (by decide +kernel) (pa_cons (pe_ix (ix_listK K rfl) (pv 0) pe_int (fun _ _ => rfl)) pa_nil)) (nomark _))))) (pss_cons (ps_set (i := 2) sc_law_pick.nd rfl (Or.inl rfl) (pe_ix (ix_listK K rfl) (pe_ix (ix_listK K rfl) (pv 0) pe_int (fun _ _ => rfl)) (pe_ix (ix_listK K rfl) (pv 0) pe_int (fun _ _ => rfl)) (fun _ _ => rfl)))
      (pss_cons (ps_asg (pe_op op_add (pe_ix (ix_listK K rfl) (pv 0) pe_int (fun _ _ => rfl)) pe_int) (pg_sub (pv 0) pe_int set_list))
      (pss_one (ps_if (pt_cmpR op_ge (pv 2) (pe_op op_pow pe_int pe_int) (nomark _)) (pss_one (ps_asg (pv 2) (pg_sub (pv 0) pe_int set_list))) (pss_one (ps_asg (pe_op op_mod (pe_op op_add (pe_op op_add (pe_op op_mul (pe_ix (ix_listK K rfl) (pv 0) pe_int (fun _ _ => rfl)) pe_int) (pe_op op_mod (pv 2) pe_int)) pe_int) pe_int) (pg_sub (pv 0) pe_int set_list))))))) pss_nil)
      (PSs.to (pss_cons (ps_if (pt_cmpR op_gt (pe_ix (ix_listK K rfl) (pv 0) pe_int (fun _ _ => rfl)) pe_int (nomark _)) (pss_cons (ps_set (i := 3) sc_law_pick.nd rfl (Or.inl rfl) (pe_op op_mod (pe_ix (ix_listK K rfl) (pv 0) pe_int (fun _ _ => rfl)) (pv 1)))
      (pss_cons (ps_asg (pe_op op_fdivW (pe_ix (ix_listK K rfl) (pv 0) pe_int (fun _ _ => rfl)) (pv 1)) (pg_sub (pv 0) pe_int set_list))
      (pss_one (ps_ret (pv 3))))) pss_nil)
      (pss_cons (ps_asg (pe_op op_add (pe_ix (ix_listK K rfl) (pv 0) pe_int (fun _ _ => rfl)) pe_int) (pg_sub (pv 0) pe_int set_list))
      (pss_cons (ps_asg (pe_op op_mod (pe_op op_add (pe_op op_add (pe_op op_mul (pe_ix (ix_listK K rfl) (pv 0) pe_int (fun _ _ => rfl)) pe_int) pe_int) (pe_ix (ix_listK K rfl) (pv 0) pe_int (fun _ _ => rfl))) pe_int) (pg_sub (pv 0) pe_int set_list))
      (pss_one (ps_ret (pe_op op_mod (pe_op op_fdiv (pe_op op_mod (pe_op op_mul (pe_op op_add (pe_op op_mod (pe_ix (ix_listK K rfl) (pv 0) pe_int (fun _ _ => rfl)) pe_int) pe_int) (pe_op op_add (pe_op op_fdiv (pe_ix (ix_listK K rfl) (pv 0) pe_int (fun _ _ => rfl)) pe_int) pe_int)) pe_int) pe_int) (pv 1))))))) R1 ?tail1)), ?_⟩
  case tail1 =>
    rintro D' σ' H1 ⟨eD, x2, rfl, ⟨i, p, z, r, hf, hc, hi, hp, hz, hz2⟩, bt⟩
    refine ⟨_, rfl, f, _, _, _, rfl, rfl, SqL.of hf, atI_nat (j := 2) rfl, _, _, rfl, rfl, _, rfl, if_bl (fun c1 => ?_) (fun c1 => ?_)⟩
    · refine ⟨_, rfl, f, _, _, _, rfl, rfl, SqL.of hf, atI_nat (j := 2) rfl, _, rfl, _, _, rfl, rfl, m0, ?_⟩
      refine ⟨_, rfl, f, _, _, _, rfl, rfl, SqL.of hf, atI_nat (j := 2) rfl, _, rfl, _, _, rfl, rfl, ⟨m0, m9⟩, _, rfl, f, _, _, 2, rfl, rfl, hf, rfl, ?_⟩
      refine ⟨_, rfl, ?_⟩
      rw [eD]
      exact q _ _ (Int.emod_nonneg _ (by omega)) (Int.emod_lt_of_pos _ m0) ⟨ns, i, p / m, z, r, upd_same, (by rw [upd_ne ncf]; exact hc), hi, Int.ediv_nonneg hp (by omega), hz, hz2⟩ bt.upd
    · refine ⟨_, rfl, f, _, _, _, rfl, rfl, SqL.of hf, atI_nat (j := 4) rfl, _, _, rfl, rfl, _, rfl, f, _, _, 4, rfl, rfl, hf, rfl, ?_⟩
      have hf2 : upd H1 f (.lst ([V.ref c, V.int i, V.int p, V.int z, V.int r].set 4 (V.int (r + 1)))) f = some (.lst [.ref c, .int i, .int p, .int z, .int (r + 1)]) := upd_same
      refine ⟨_, rfl, f, _, _, _, rfl, rfl, SqL.of hf2, atI_nat (j := 3) rfl, _, _, rfl, rfl, .inl ⟨by omega, by omega⟩, _, _, rfl, rfl, _, rfl, f, _, _, _, rfl, rfl, SqL.of hf2, atI_nat (j := 4) rfl, _, _, rfl, rfl, _, _, rfl, rfl, (by show (0 : Int) < 2147483647; decide), _, rfl, f, _, _, 3, rfl, rfl, hf2, rfl, ?_⟩
      have z0 : 0 ≤ (z * 48271 + 12820163 + (r + 1)) % 2147483647 := Int.emod_nonneg _ (by decide)
      have z1 : (z * 48271 + 12820163 + (r + 1)) % 2147483647 < 2147483647 := Int.emod_lt_of_pos _ (by decide)
      have hf3 : upd (upd H1 f (.lst ([V.ref c, V.int i, V.int p, V.int z, V.int r].set 4 (V.int (r + 1))))) f (.lst ([V.ref c, V.int i, V.int p, V.int z, V.int (r + 1)].set 3 (V.int ((z * 48271 + 12820163 + (r + 1)) % 2147483647)))) f =
        some (.lst [.ref c, .int i, .int p, .int ((z * 48271 + 12820163 + (r + 1)) % 2147483647), .int (r + 1)]) := upd_same
      have hc3 : upd (upd H1 f (.lst ([V.ref c, V.int i, V.int p, V.int z, V.int r].set 4 (V.int (r + 1))))) f (.lst ([V.ref c, V.int i, V.int p, V.int z, V.int (r + 1)].set 3 (V.int ((z * 48271 + 12820163 + (r + 1)) % 2147483647)))) c = some (.lst (ns.map V.int)) := by
        rw [upd_ne ncf, upd_ne ncf]
        exact hc
      refine ⟨_, rfl, f, _, _, _, rfl, rfl, SqL.of hf3, atI_nat (j := 3) rfl, _, _, rfl, rfl, (by show (0 : Int) < 65521; decide), _, _, rfl, rfl, _, rfl, f, _, _, _, rfl, rfl, SqL.of hf3, atI_nat (j := 3) rfl, _, _, rfl, rfl, ⟨by decide, by decide⟩, _, _, rfl, rfl, _, _, rfl, rfl, .inl ⟨?_, ?_⟩, _, _, rfl, rfl, (by show (0 : Int) < 1000003; decide), _, _, rfl, rfl, ⟨by decide, by decide⟩, _, rfl, _, _, rfl, rfl, m0, ?_⟩
      · omega
      · omega
      · rw [eD]
        exact q _ _ (Int.emod_nonneg _ (by omega)) (Int.emod_lt_of_pos _ m0) ⟨ns, i, p, _, r + 1, hf3, hc3, hi, hp, z0, z1⟩ bt.upd.upd
  refine ⟨_, rfl, f, _, _, _, rfl, rfl, SqL.of hf, atI_nat (j := 2) rfl, rfl, _, rfl, if_bl (fun c1 => ?_) (fun c1 => ?_)⟩
  · refine ⟨_, rfl, f, _, _, _, rfl, rfl, SqL.of hf, atI_nat (j := 1) rfl, _, rfl, f, _, _, _, rfl, rfl, SqL.of hf, atI_nat (j := 0) rfl, c, _, rfl, .inl (SqL.of hc), _, _, rfl, rfl, _, rfl, if_bl (fun c2 => ?_) (fun c2 => ?_)⟩
    · have c3 : i < ((ns.map V.int).length : Int) := of_decide_eq_true c2
      rw [List.length_map] at c3
      obtain ⟨v, hv⟩ := at_ints hi c3
      refine ⟨_, rfl, f, _, _, _, rfl, rfl, SqL.of hf, atI_nat (j := 0) rfl, _, rfl, f, _, _, _, rfl, rfl, SqL.of hf, atI_nat (j := 1) rfl, c, _, i, _, rfl, rfl, SqL.of hc, hv, ?_⟩
      refine ⟨_, rfl, f, _, _, _, rfl, rfl, SqL.of hf, atI_nat (j := 1) rfl, _, _, rfl, rfl, _, rfl, f, _, _, 1, rfl, rfl, hf, rfl, ?_⟩
      have hf2 : upd H f (.lst ([V.ref c, V.int i, V.int p, V.int z, V.int r].set 1 (V.int (i + 1)))) f = some (.lst [.ref c, .int (i + 1), .int p, .int z, .int r]) := upd_same
      refine ⟨_, rfl, _, _, rfl, rfl, ⟨by decide, by decide, by decide⟩, _, _, rfl, rfl, _, rfl, if_bl (fun c4 => ?_) (fun c4 => ?_)⟩
      · have c5 : (10 : Int) ^ (18 : Int).toNat ≤ v := of_decide_eq_true c4
        have c6 : (0 : Int) ≤ (10 : Int) ^ (18 : Int).toNat := by decide
        refine ⟨_, rfl, _, rfl, f, _, _, 2, rfl, rfl, hf2, rfl, rfl, _, rfl, ⟨i + 1, v, z, r, upd_same, ?_, by omega, by omega, hz, hz2⟩, But.refl.upd.upd⟩
        rw [upd_ne ncf, upd_ne ncf]
        exact hc
      · refine ⟨_, rfl, f, _, _, _, rfl, rfl, SqL.of hf2, atI_nat (j := 3) rfl, _, _, rfl, rfl, .inl ⟨by omega, by omega⟩, _, rfl, _, _, rfl, rfl, (by show (0 : Int) < 1000003; decide), _, _, rfl, rfl, _, _, rfl, rfl, _, _, rfl, rfl, (by show (0 : Int) < 2147483647; decide), _, rfl, f, _, _, 3, rfl, rfl, hf2, rfl, rfl, _, rfl, ⟨i + 1, p, _, r, upd_same, ?_, by omega, hp, Int.emod_nonneg _ (by decide), Int.emod_lt_of_pos _ (by decide)⟩, But.refl.upd.upd⟩
        rw [upd_ne ncf, upd_ne ncf]
        exact hc
    · exact ⟨rfl, _, rfl, ⟨i, p, z, r, hf, hc, hi, hp, hz, hz2⟩, But.refl⟩
  · exact ⟨rfl, _, rfl, ⟨i, p, z, r, hf, hc, hi, hp, hz, hz2⟩, But.refl⟩
end
/-! ### a text's signs as a list; a text several times -/
section
variable {X : Cx}
theorem call_list_strK (hc : X.calm = true) : CallR X (.type "list") (fun xs H Q => ∃ z : Str, xs = [.str z] ∧ z.cps.size ≤ sizeLine ∧ ∀ l, H l = none → Q (.ref l) (upd H l (.lst (z.cps.toList.map fun c => V.str ⟨#[c]⟩)))) := by
  intro pins st σ H xs us Q J rel asked
  obtain ⟨z, rfl, hz, now⟩ := asked
  obtain ⟨u, rfl, t, rfl⟩ := vals1 rel
  refine call_list_str (J.ok.hd hc) z t (fun h' tk acc c kp at_ items => ?_) hz
  have len : (z.cps.toList.map fun c => V.str ⟨#[c]⟩).length = acc.toList.length := by
    rw [List.length_map, Array.length_toList, Array.length_toList, items.1]
  refine ⟨.ref st.heap.objs.size, upd H st.heap.objs.size (.lst (z.cps.toList.map fun c => V.str ⟨#[c]⟩)), J.laid kp (Nat.le_refl _) (show ObjOk X.prog X.w _ _ _ (.lst (z.cps.toList.map fun c => V.str ⟨#[c]⟩)) from ⟨by rw [List.length_map, Array.length_toList]; exact hz, acc.toList, c, ?_, ?_⟩), rfl, now _ (J.hok.fresh (Nat.le_refl _))⟩
  · refine vals_of_at len fun j x v e1 e2 => ?_
    obtain ⟨cc, tt, e3, e4⟩ := items.2 j v (by rw [← Array.getElem?_toList]; exact e2)
    rw [List.getElem?_map, Array.getElem?_toList, e3] at e1
    have e1 : V.str ⟨#[cc]⟩ = x := Option.some.inj e1
    subst e1
    exact ⟨tt, e4⟩
  · rw [Array.toArray_toList]
    exact at_
theorem op_rep_str : OpR X (binaryOp .Mult) (fun x y H Q => ∃ (z : Str) (n : Int), x = .str z ∧ y = .int n ∧ MulOk z n ∧ Q (.str (Txt.mul z n)) H) := by
  intro pins st σ H x y v u Q J rx ry asked
  obtain ⟨z, n, rfl, rfl, hm, now⟩ := asked
  obtain ⟨t, rfl⟩ := rx
  obtain ⟨t2, rfl⟩ := ry
  exact PySem.SB.mul hm fun t3 k => ⟨.str (Txt.mul z n), H, J.tok _, ⟨_, rfl⟩, now⟩
end
/-! ### all(sign in NAME for sign in a text) -/
section
open PySem.Spec GxR
/-- one item looked at, in the generator's own surroundings -/
def LooksC (X : Cx) (scope : Scope) (x : Str) (elt : Expr) (pb : Nat → Bool) : Prop :=
  ∀ (cenv : Env) (A' : Around) (E' : Value → Shared → Prop) (c : Nat) (t : Tok) (z : Shared) (mz : Str → Option Value), cenv.scope = scope → cenv.globals = mainGlobals →
    (∀ b o, X.base.get? b = some o → z.heap.get? b = some o) → z.heap.Ns cenv.locals mz → mz x = some (.str ⟨#[c]⟩ t) →
    wpAny (model X.prog X.w) A' (eval elt cenv) (fun y z' => y = .bool (pb c) ∧ Keeps z z') E' z
/-- sign in NAME, NAME a text of the module -/
theorem in_elt {X : Cx} {scope : Scope} {x nm : Str} {z : Str} {tz : Tok} {p1 p2 p3 : Pos} (M : L2.Mod X.K X.mg X.base) (kind : scope.kind = .function) (kx : scope.names.lookup x = some NameKind.local) (kn : scope.names.lookup nm = some NameKind.globalImplicit) (dx : (x == ("__debug__" : Str)) = false) (dn : (nm == ("__debug__" : Str)) = false) (hmg : X.mg nm = some (.str z tz)) :
    LooksC X scope x (.Compare (.Name x p1) [.In] [.Name nm p2] p3) (fun c => decide (c ∈ z.cps.toList)) := by
  intro cenv A' E' c t s mz sc gl up nz mx
  have kc : cenv.scope.kind = .function := by rw [sc]; exact kind
  refine wpAny_Compare1 ?_
  refine wpAny_Name (wpAny_loadName_local kc (show cenv.scope.names.lookup x = _ by rw [sc]; exact kx) nz mx ?_) dx
  refine Calls.Name_function_global kc (show cenv.scope.names.lookup nm = _ by rw [sc]; exact kn) (Calls.loadGlobal_global (by rw [gl]; exact M.glob.keeps up) hmg ?_) dn
  exact PyProof.Rows.in_str ⟨congrArg Value.bool (PySem.StrLaws.found_one z c), GxR.keeps_tok _ _⟩
/-- the state when the generator's code object was got: the table at P may be longer -/
structure Got (P : Addr) (ps : Array Value) (z z' : Shared) : Prop where
  same : z' = { z with heap := z'.heap, toks := z'.toks }
  ext : Heap.ExtBut P z.heap z'.heap
  size : z.heap.objs.size ≤ z'.heap.objs.size
  tab : ∃ more, z'.heap.get? P = some { cls := .none, data := .fields (ps ++ more) } ∧ TriplesOk (ps ++ more).toList
theorem code_got {prog : Program} {w : World} {A : Around} {E : Value → Shared → Prop} {env : Env} {gpos : Pos} {nm : Str} {scope : Scope} {c P : Addr} {ps : Array Value} {z : Shared}
    (hcode : env.code = .ref c) (cd : PySem.W.CodeHd z.heap c P) (hP : z.heap.get? P = some { cls := .none, data := .fields ps }) (ht : TriplesOk ps.toList) :
    wpAny (model prog w) A (genexprCode env gpos nm scope) (fun _ z' => Got P ps z z') E z := by
  cases among : codeAmong gpos ps.toList with
  | some cv => exact wpAny_genexprCode_hit hcode (cd.code hP ht) among ⟨rfl, .refl _ _, Nat.le_refl _, #[], by simpa using hP, by simpa using ht⟩
  | none =>
    refine wpAny_genexprCodeX hcode (cd.code hP ht) (cd.tab hP) among fun c' h' tk ext ge lt co _ tab _ => ?_
    obtain ⟨_, _, _, _, _, _, _, _, _, _, _, _, _, _, _, _, _, _, _, tr, _⟩ := co
    exact ⟨rfl, ext, Nat.le_trans ge (Nat.le_of_lt lt), _, tab.2, tr⟩
/-- a generator g of n truths pb, about to be walked; however far it is walked, H1 stands but for the table -/
def Poised (X : Cx) (pins : List (Addr × Obj)) (σ : L2.St) (H1 : Hp) (P : Addr) (n : Nat) (pb : Nat → Bool) (g : Addr) (z : Shared) : Prop :=
  ∃ (foot own : List Addr) (Gn : Array GenState → Array GenState → Prop) (Fn : Nat → Value → Prop) (Sn : Nat → Shared → Prop),
    WalksS X.prog X.w X.A.in1 g foot own Gn n Fn Sn ∧ Sn 0 z ∧ TruthOf X.prog X.w X.A.in1 Fn pb ∧ ∀ z', Moved own Gn z z' → ∃ H2, Tabbed P H1 H2 ∧ Inv X pins σ H2 z'
theorem gen_signs {X : Cx} {pins : List (Addr × Obj)} {σ : L2.St} {H : Hp} {s : Shared} {c P : Addr} {elt iter : Expr} {x : Str} {px gpos : Pos} {scope : Scope} {te : TE} {pb : Nat → Bool} {k : Nat} {Qg : Value → Shared → Prop}
    (hr : Room k X.A) (TB : TabB X.base X.mg c P) (hcode : X.env.code = .ref c) (S : GenS X.env scope x) (hi : PE X iter te) (look : LooksC X scope x elt pb) (hs : ∀ v, genFold iter X.env v = pure v) (I : Inv X pins σ H s)
    {R : VK} (h : te σ H R) (hR : ∀ v H1, R v H1 → ∃ a : Str, v = .str a ∧ TabG H1 P ∧ ∀ g z, Poised X pins σ H1 P a.cps.size (trF pb a.cps.toList) g z → Qg (.ref g) z) :
    wpAny (model X.prog X.w) X.A (eval (.GeneratorExp elt [⟨.Name x px, iter, [], 0⟩] scope gpos) X.env) Qg X.xe s := by
  refine wpAny_GeneratorExp_walksQD hr.hd S.co (closure_ok S.free) S.cell S.dot S.loc S.kind (by have := hr.dp; omega) ?_ hs
  refine thn (hi.run pins s σ H _ I h) fun u s1 ⟨v, H1, I1, rel, now⟩ => ?_
  obtain ⟨a, ev, ⟨ps, hP, tri⟩, fin⟩ := hR v H1 now
  subst ev
  obtain ⟨ta, rfl⟩ : ∃ ta, u = Value.str a ta := rel
  refine wpAny_pyIter_str fun ob0 St walk first => ?_
  have tabP : s1.heap.get? P = some { cls := .none, data := .fields ps } := I1.hok P _ hP
  have pushed : ∀ b o, s1.heap.get? b = some o → (s1.heap.push ob0).get? b = some o := fun b o e => Heap.get?_push_of_some _ e
  have wider : (s1.heap.push ob0).objs.size = s1.heap.objs.size + 1 := Heap.size_push ..
  generalize s1.heap.push ob0 = h2 at pushed first wider ⊢
  have pl : P < s1.heap.objs.size := Heap.lt_size tabP
  have cl : cStatics < s1.heap.objs.size := let ⟨_, hn, _⟩ := I1.nolimit; hn.lt
  have cP : cStatics ≠ P := fun e => by
    obtain ⟨_, ⟨o, es, ep, ho, hd, _⟩, _⟩ := I1.nolimit
    rw [e, tabP] at ho
    cases ho
    cases hd
  have lim2 : h2.NoLimit := I1.nolimit.keeps pushed
  refine ⟨lim2, thn (code_got (ps := ps) hcode (TB.code.keeps fun b o e => pushed b o (I1.bk b o e)) (pushed _ _ tabP) tri) fun code s3 got => ?_⟩
  obtain ⟨eq3, ext, wide, more, hP3, tri3⟩ := got
  obtain ⟨h3, g3, d3, t3, o3⟩ := s3
  obtain ⟨rfl, rfl, rfl⟩ : g3 = s1.gens ∧ d3 = s1.drawn ∧ o3 = s1.os := by
    have := eq3
    simp only [Shared.mk.injEq] at this
    exact ⟨this.2.1, this.2.2.1, this.2.2.2.2⟩
  replace ext : Heap.ExtBut P h2 h3 := ext
  replace wide : h2.objs.size ≤ h3.objs.size := wide
  have kept : ∀ b o, b ≠ P → s1.heap.get? b = some o → h3.get? b = some o := fun b o nb e => ext b o nb (pushed b o e)
  obtain ⟨bm, ob, b1, b2, b3, b4, b5, b6, b7, b8⟩ := TB.bm
  refine wpAny_builtinsFor (m := X.mg) (by rw [I1.ok.glob]; exact (I1.mod.glob.keeps fun b o e => pushed b o (I1.bk b o e)).extBut ext TB.gP) b1 b2 (kept _ _ b4 (I1.bk _ _ b5)) b6 b7 b8 ?_
  refine ⟨s1.heap.objs.size, [s1.heap.objs.size], [s1.heap.objs.size], a.cps.size, SignAt a, St, (fun _ => true), (fun i y => ∃ cc, a.cps[i]? = some cc ∧ y = .bool (pb cc)), rfl, walk, ?_, ?_, lim2.extBut ext cP, ?_, ?_, ?_⟩
  · refine (walk X.A hr.hd).frame _ _ _ first fun b hb u e => ext b u (fun z => ?_) e
    rw [List.mem_singleton.mp hb] at z
    exact Nat.ne_of_lt pl z.symm
  · intro b hb
    rw [List.mem_singleton.mp hb]
    show s1.heap.objs.size < h3.objs.size
    omega
  · intro z
    exact Nat.ne_of_lt cl (List.mem_singleton.mp z)
  · intro href above
    refine ⟨fun A' E' i v z mz _ _ _ _ _ _ _ => ?_, fun A' E' i v z mz _ dep _ pv _ nz mx up => ?_⟩
    · rw [List.forIn_nil]
      exact wpAny_pure ⟨rfl, GxR.keeps_refl z⟩
    · obtain ⟨cc, uc, at_, rfl⟩ := pv
      refine wpAny_mono (look _ A' E' cc uc z mz rfl I1.ok.glob (fun b o e => ?_) nz mx) (fun y z' r => ⟨⟨cc, at_, r.1⟩, r.2⟩) fun _ _ e => e
      have nb : b ≠ P := fun q => by
        have := (I1.bs b o e).2
        rw [q, hP] at this
        cases this
      have e1 := kept b o nb (I1.bk b o e)
      have bl := Heap.lt_size (I1.bk b o e)
      exact up b (List.mem_range.mpr (Heap.lt_size e1)) (fun q => Nat.ne_of_lt bl (List.mem_singleton.mp q)) o (above b o e1)
  · intro g h5 tk5 gs bare gt size5 kept5 W st0
    have many : (passing (fun _ => true) a.cps.size 0).length = a.cps.size := by rw [GxR.passing_true, List.length_range]
    rw [many] at W
    refine fin g _ ⟨_, _, _, _, _, W.in4_1, st0, fun j y z Qj Ej hy now => ?_, fun z' mv => ?_⟩
    · obtain ⟨i, hij, cc, hcc, rfl⟩ := hy
      rw [GxR.passing_true] at hij
      obtain ⟨lt, ij⟩ := List.getElem?_eq_some_iff.mp hij
      rw [List.getElem_range] at ij
      subst ij
      have now : Qj (trF pb a.cps.toList j) z := now
      rw [trF_some (b := cc) (by rw [Array.getElem?_toList]; exact hcc)] at now
      exact wpAny_truthy_bool now
    · have un : ∀ b o, s1.heap.get? b = some o → b ∉ h3.objs.size :: [s1.heap.objs.size] := fun b o e q => by
        have bl := Heap.lt_size e
        have past : s1.heap.objs.size < h3.objs.size := by omega
        have either : b = h3.objs.size ∨ b = s1.heap.objs.size := by simpa using q
        rcases either with q | q
        · exact Nat.ne_of_lt (Nat.lt_trans bl past) q
        · exact Nat.ne_of_lt bl q
      have J := inv_tab (more := more) (h' := z'.heap) (g' := z'.gens) (d' := z'.drawn) (t' := z'.toks) I1 hP (fun b o nb e => mv.heap b o (un b o e) (kept5 b o (kept b o nb e))) (mv.heap P _ (un P _ tabP) (kept5 P _ hP3)) (AllBare.movedS (I1.bare.push bare) mv)
      rw [sh_eta s1 z' mv.os] at J
      exact ⟨_, ⟨⟨_, upd_same, tri3⟩, fun b nb => upd_ne nb⟩, J⟩
theorem pe_allC {X : Cx} (K : PySem.W.Frag) (hK : X.K = K) {c P : Addr} {elt iter : Expr} {x : Str} {px p pos gpos : Pos} {scope : Scope} {te : TE} {pb : Nat → Bool} {k : Nat}
    (hr : Room k X.A) (hg : Gl X "all") (hm : X.mg "all" = none) (hb : bootBuiltins "all" = some (.builtin "all")) (TB : TabB X.base X.mg c P) (hcode : X.env.code = .ref c) (S : GenS X.env scope x) (hi : PE X iter te) (look : L2.Mod X.K X.mg X.base → LooksC X scope x elt pb)
    (hs : ∀ v, genFold iter X.env v = pure v) (he : starEach [.GeneratorExp elt [⟨.Name x px, iter, [], 0⟩] scope gpos] X.env = (false, eval (.GeneratorExp elt [⟨.Name x px, iter, [], 0⟩] scope gpos) X.env) :: starEach [] X.env := by rfl) :
    PE X (.Call (.Name "all" p) [.GeneratorExp elt [⟨.Name x px, iter, [], 0⟩] scope gpos] [] pos) (tAllS P pb te) := by
  subst hK
  refine ⟨fun pins s σ H Q I h => ?_⟩
  refine wpAny_Call_Name_kw (ld_blt I hg hm hb (PyProof.Rows.callWith_builtin1 ?_ he rfl))
  rw [he]
  refine Calls.spliced_cons (gen_signs hr TB hcode S hi (look I.mod) hs I h fun v H1 now => ?_)
  obtain ⟨a, rfl, tab, fin⟩ := now
  refine ⟨a, rfl, tab, fun g z poised => Calls.spliced_nil ?_⟩
  obtain ⟨fp, wr, G, F, St, walks, st0, truth, after⟩ := poised
  refine call_all_walkS (walks.self 0 _ _ _ st0 ⟨g, fp, wr, G, _, F, St, _, rfl, walks, st0, truth, fun z' mv => ?_⟩)
  obtain ⟨H2, tb, J⟩ := after z' mv
  refine ⟨.bl _, H2, J, rfl, ?_⟩
  rw [all_signs a pb]
  exact fin H2 tb
/-- a def of which the code object is known -/
theorem ok_code {P : Program} {w : World} {K : PySem.W.Frag} {mg : Str → Option Value} {base : Heap} {x qual : Str} {st : Stmt} {f c : Addr} {fd : FuncData} {N ps : List Str} {k : Nat} {sp : Sp} (F : Fun K x qual st f fd) (hc : fd.code = .ref c) (S : FnScope N ps (defScope st)) (len : ∀ vs H Q E, sp vs H Q E → vs.length = ps.length)
    (hbody : ∀ (A : Around) (outer : List Env) (s : Shared) (H : Hp) (vs : List V) (Q : VK) (E : XK), Room k (A.deeper (envOfC qual (defScope st) s.heap.objs.size f (.ref c))) → sp vs H Q E →
      ∃ t, PSs (cxOf CX0 P w K mg base N qual (defScope st) f (.ref c) A outer s H E).nox (defBody st) t ∧ t { nx := fun _ H' => Q .non H', rt := Q } (start N vs) H) : FnOk P w K mg base CX0 (k + 1) f fd ps sp := by
  obtain ⟨kl, kd, kV, dc, pm, an, cv, ct, ks, rfl, look, cin⟩ := F.ex
  obtain rfl : cv = .ref c := hc
  refine fn_of look cin S len fun A outer s H vs Q E hr now => ?_
  obtain ⟨t, h, q⟩ := hbody A outer s H vs Q E hr now
  exact ⟨t, h.nox, q⟩
theorem genS_of {env : Env} {scope : Scope} {x : Str} (h1 : scope.kind = .function) (h2 : scope.isCoroutine = false) (h3 : ∀ y ∈ scope.names, y.2 ≠ .cell) (h4 : scope.names.lookup (".0" : Str) = some NameKind.local) (h5 : scope.names.lookup x = some .local) (h6 : ∀ y ∈ scope.names, y.2 ≠ .free) : GxR.GenS env scope x :=
  ⟨h1, h2, h3, h4, h5, fun y hy z => absurd z (h6 y hy)⟩
end
/-! ### what stays when a def's table grows -/
/-- all but tables stays -/
def Stays (H H' : Hp) : Prop := ∀ b o, H b = some o → (∀ q, o ≠ .tbl q) → H' b = some o
theorem Stays.refl {H : Hp} : Stays H H := fun _ _ e _ => e
theorem Stays.trans {H H1 H2 : Hp} (a : Stays H H1) (b : Stays H1 H2) : Stays H H2 := fun x o e n => b x o (a x o e n) n
theorem Stays.same {H H' : Hp} (s : Same H H') : Stays H H' := fun x o e _ => s x o e
theorem Stays.tabbed {P : Addr} {H H' : Hp} (t : GxR.Tabbed P H H') (g : GxR.TabG H P) : Stays H H' := fun b o e n => by
  by_cases h : b = P
  · obtain ⟨ps, e1, _⟩ := g
    rw [h, e1] at e
    exact absurd (Option.some.inj e).symm (n ps)
  · exact (t.2 b h).trans e
theorem Flow.stays {H H' : Hp} {f c : Addr} (h : Flow H f c) (s : Stays H H') : Flow H' f c := by
  obtain ⟨ns, i, p, q, r, e1, e2, e⟩ := h
  exact ⟨ns, i, p, q, r, s _ _ e1 (fun _ z => by cases z), s _ _ e2 (fun _ z => by cases z), e⟩
/-- the tables of both defs' code objects -/
def Tb2 (T1 T2 : Addr) (H : Hp) : Prop := GxR.TabG H T1 ∧ GxR.TabG H T2
theorem tabG_eq {P : Addr} {H H' : Hp} (g : GxR.TabG H P) (e : H' P = H P) : GxR.TabG H' P := by
  obtain ⟨ps, e1, t⟩ := g
  exact ⟨ps, e.trans e1, t⟩
theorem Tb2.one {T1 T2 : Addr} {H H' : Hp} (h : Tb2 T1 T2 H) (t : GxR.Tabbed T1 H H') : Tb2 T1 T2 H' := by
  refine ⟨t.1, ?_⟩
  by_cases e : T2 = T1
  · rw [e]; exact t.1
  · exact tabG_eq h.2 (t.2 _ e)
theorem Tb2.two {T1 T2 : Addr} {H H' : Hp} (h : Tb2 T1 T2 H) (t : GxR.Tabbed T2 H H') : Tb2 T1 T2 H' := by
  refine ⟨?_, t.1⟩
  by_cases e : T1 = T2
  · rw [e]; exact t.1
  · exact tabG_eq h.1 (t.2 _ e)
theorem Tb2.same {T1 T2 : Addr} {H H' : Hp} (h : Tb2 T1 T2 H) (s : Same H H') : Tb2 T1 T2 H' := by
  obtain ⟨⟨ps, e1, t1⟩, qs, e2, t2⟩ := h
  exact ⟨⟨ps, s _ _ e1, t1⟩, qs, s _ _ e2, t2⟩
theorem Tb2.but {T1 T2 f c : Addr} {H H' : Hp} (h : Tb2 T1 T2 H) (F : Flow H f c) (b : But f H H') : Tb2 T1 T2 H' := by
  obtain ⟨⟨ps, e1, t1⟩, qs, e2, t2⟩ := h
  obtain ⟨ns, i, p, q, r, g1, _⟩ := F
  exact ⟨⟨ps, b _ _ e1 (fun z => by rw [z, g1] at e1; cases e1), t1⟩, qs, b _ _ e2 (fun z => by rw [z, g1] at e2; cases e2), t2⟩
/-! ### numbers as texts -/
open PySem.NumText
def isFig (c : Nat) : Bool := decide (c ∈ figS.cps.toList)
theorem figs_eq : figS.cps.toList = [48, 49, 50, 51, 52, 53, 54, 55, 56, 57] := by decide +kernel
theorem isFig_iff {c : Nat} : isFig c = true ↔ 48 ≤ c ∧ c ≤ 57 := by
  unfold isFig
  rw [figs_eq, decide_eq_true_iff]
  constructor
  · intro h
    simp only [List.mem_cons, List.not_mem_nil, or_false] at h
    omega
  · intro h
    simp only [List.mem_cons, List.not_mem_nil, or_false]
    omega
/-- what stands behind a minus at the front -/
def figL (l : List Nat) : List Nat := if l.head? = some 45 then l.tail else l
/-- the number that a text writes -/
def numO (l : List Nat) : Option Int :=
  if (figL l).length < 1 ∨ 9 < (figL l).length then none
  else if (figL l).all isFig = false then none
  else if (figL l).head? = some 48 ∧ l ≠ [48] then none
  else some ((if l.head? = some 45 then -1 else 1) * ((digitsVal (figL l) : Nat) : Int))
def numV : Option Int → V
  | none => .non
  | some n => .int n
theorem str_inj {a b : Str} (h : a.cps.toList = b.cps.toList) : a = b := by
  cases a; cases b
  exact congrArg _ (Array.toList_inj.mp h)
theorem prefix_minus (a : Str) : (Txt.removeprefix a "-").cps.toList = figL a.cps.toList := by
  rw [PySem.StrLaws.removeprefix_eq]
  obtain ⟨arr⟩ := a
  obtain ⟨l⟩ := arr
  have e1 : (("-" : Str) : Str) = ⟨#[45]⟩ := by decide +kernel
  rw [e1]
  cases l with
  | nil => rfl
  | cons c r =>
    have el : Str.length ⟨#[45]⟩ = 1 := rfl
    have es : Str.length ⟨(c :: r).toArray⟩ = r.length + 1 := rfl
    have eb : Builtin.Str.subAt ⟨(c :: r).toArray⟩ ⟨#[45]⟩ 0 = decide (c = 45) := by
      unfold Builtin.Str.subAt
      by_cases h : c = 45
      · subst h
        simp [Str.length]
      · rw [decide_eq_false h]
        simp [Str.length, h]
    rw [eb, el, es]
    by_cases h : c = 45
    · subst h
      simp [figL]
    · simp [figL, h]
theorem fig_digits {l : List Nat} (h : l.all isFig = true) : AllDigits l := fun c hc => isFig_iff.mp (List.all_eq_true.mp h c hc)
theorem numO_some {l : List Nat} {n : Int} (h : numO l = some n) : (figL l).length ≤ 9 ∧ figL l ≠ [] ∧ AllDigits (figL l) ∧ n = (if l.head? = some 45 then -1 else 1) * ((digitsVal (figL l) : Nat) : Int) := by
  unfold numO at h
  by_cases h1 : (figL l).length < 1 ∨ 9 < (figL l).length
  · rw [if_pos h1] at h; cases h
  rw [if_neg h1] at h
  by_cases h2 : (figL l).all isFig = false
  · rw [if_pos h2] at h; cases h
  rw [if_neg h2] at h
  by_cases h3 : (figL l).head? = some 48 ∧ l ≠ [48]
  · rw [if_pos h3] at h; cases h
  rw [if_neg h3] at h
  refine ⟨by omega, fun z => ?_, fig_digits (by simpa using h2), (Option.some.inj h).symm⟩
  rw [z] at h1
  exact h1 (.inl (by decide))
theorem int_reads {a : Str} {n : Int} (h : numO a.cps.toList = some n) : PySem.intText? a = some n := by
  obtain ⟨l1, l2, l3, rfl⟩ := numO_some h
  have la : a.cps.toList.length = a.length := Array.length_toList
  by_cases hd : a.cps.toList.head? = some 45
  · have ef : figL a.cps.toList = a.cps.toList.tail := if_pos hd
    have ec : a.cps.toList = 45 :: figL a.cps.toList := by
      rw [ef]
      cases hl : a.cps.toList with
      | nil => rw [hl] at hd; cases hd
      | cons c r =>
        rw [hl] at hd
        have : c = 45 := Option.some.inj hd
        rw [this]; rfl
    have e := intText_neg ec l3 l2 (by rw [← la, ec, List.length_cons]; omega)
    rw [e, if_pos hd]
    congr 1
    omega
  · have ef : figL a.cps.toList = a.cps.toList := if_neg hd
    rw [ef] at l1 l2 l3
    have e := intText_digits l3 l2 (by rw [← la]; omega)
    rw [e, if_neg hd, ef]
    congr 1
    omega
/-- text[:1] == "-" -/
theorem cut_head (a : Str) : decide (V.str (cutS a none (some 1)) = V.str "-") = decide (a.cps.toList.head? = some 45) := by
  have e1 : (("-" : Str) : Str) = ⟨#[45]⟩ := by decide +kernel
  rw [e1]
  obtain ⟨arr⟩ := a
  obtain ⟨l⟩ := arr
  cases l with
  | nil => decide
  | cons c r =>
    have e2 : cutS ⟨(c :: r).toArray⟩ none (some 1) = ⟨#[c]⟩ := by
      refine str_inj ?_
      show (((c :: r).drop 0).take (HT.sIx (r.length + 1) (r.length + 1) (some ((1 : Nat) : Int)) - HT.sIx (r.length + 1) 0 none)) = [c]
      rw [HT.sIx_none, HT.sIx_nat]
      have : min 1 (r.length + 1) - 0 = 1 := by omega
      rw [this]
      rfl
    rw [e2]
    by_cases h : c = 45
    · subst h; rfl
    · rw [decide_eq_false (fun z : (c :: r).head? = some 45 => h (Option.some.inj z)), decide_eq_false]
      intro z
      have z := V.str.inj z
      injection z with z
      have z2 : [c] = [45] := congrArg Array.toList z
      exact h (List.cons.inj z2).1
theorem cut_tail (a : Str) : (cutS a (some 1) none).cps.toList = a.cps.toList.tail := by
  obtain ⟨arr⟩ := a
  obtain ⟨l⟩ := arr
  cases l with
  | nil => rfl
  | cons c r =>
    show (((c :: r).drop (HT.sIx (r.length + 1) 0 (some ((1 : Nat) : Int)))).take (HT.sIx (r.length + 1) (r.length + 1) none - HT.sIx (r.length + 1) 0 (some ((1 : Nat) : Int)))) = r
    rw [HT.sIx_none, HT.sIx_nat]
    have : min 1 (r.length + 1) = 1 := by omega
    rw [this]
    show r.take (r.length + 1 - 1) = r
    rw [Nat.add_sub_cancel, List.take_length]
/-- a number written is read back -/
theorem toDig_head : ∀ m : Nat, 0 < m → (Nat.toDigits 10 m).head? ≠ some '0' := by
  intro m
  induction m using Nat.strongRecOn with
  | _ m ih =>
    intro h0
    by_cases h : m < 10
    · rw [Nat.toDigits_of_lt_base h]
      have : m = 1 ∨ m = 2 ∨ m = 3 ∨ m = 4 ∨ m = 5 ∨ m = 6 ∨ m = 7 ∨ m = 8 ∨ m = 9 := by omega
      rcases this with rfl | rfl | rfl | rfl | rfl | rfl | rfl | rfl | rfl <;> decide
    · have hm : m % 10 < 10 := Nat.mod_lt m (by decide)
      have t : Nat.toDigits 10 (m / 10) ++ Nat.toDigits 10 (m % 10) = Nat.toDigits 10 (10 * (m / 10) + m % 10) := Nat.toDigits_append_toDigits (by decide) (by omega) hm
      rw [Nat.div_add_mod] at t
      have q := ih (m / 10) (by omega) (by omega)
      rw [← t]
      cases hd : Nat.toDigits 10 (m / 10) with
      | nil =>
        have := PySem.W.KIN.val_back (m / 10)
        rw [hd] at this
        have : 0 = m / 10 := this
        omega
      | cons c r => rw [hd] at q; exact q
theorem toDig_len : ∀ (k m : Nat), m < 10 ^ (k + 1) → (Nat.toDigits 10 m).length ≤ k + 1
  | 0, m, h => by
    rw [Nat.toDigits_of_lt_base (by simpa using h)]
    exact Nat.le_refl _
  | k + 1, m, h => by
    by_cases h2 : m < 10
    · rw [Nat.toDigits_of_lt_base h2]
      show 1 ≤ _
      omega
    · have hm : m % 10 < 10 := Nat.mod_lt m (by decide)
      have t : Nat.toDigits 10 (m / 10) ++ Nat.toDigits 10 (m % 10) = Nat.toDigits 10 (10 * (m / 10) + m % 10) := Nat.toDigits_append_toDigits (by decide) (by omega) hm
      rw [Nat.div_add_mod] at t
      have q := toDig_len k (m / 10) (by rw [Nat.pow_succ] at h; omega)
      rw [← t, List.length_append, Nat.toDigits_of_lt_base hm]
      show _ + 1 ≤ _
      omega
theorem toDig_ne (m : Nat) : Nat.toDigits 10 m ≠ [] := by
  by_cases h : m < 10
  · rw [Nat.toDigits_of_lt_base h]; exact List.cons_ne_nil _ _
  · intro e
    have := PySem.W.KIN.val_back m
    rw [e] at this
    have : 0 = m := this
    omega
theorem dig_fig {m c : Nat} (h : c ∈ (Nat.toDigits 10 m).map Char.toNat) : 48 ≤ c ∧ c ≤ 57 := by
  obtain ⟨ch, hch, e⟩ := List.mem_map.mp h
  have r := digit_range (Nat.isDigit_of_mem_toDigits (by decide) (by decide) hch)
  rw [← e]
  exact r
/-- the figures of m -/
def digN (m : Nat) : List Nat := (Nat.toDigits 10 m).map Char.toNat
theorem digN_zero : digN 0 = [48] := by decide
theorem digN_head {m : Nat} (h : 0 < m) : (digN m).head? ≠ some 48 := by
  unfold digN
  have q := toDig_head m h
  cases hd : Nat.toDigits 10 m with
  | nil => intro z; cases z
  | cons c r =>
    rw [hd] at q
    intro z
    have z : c.toNat = 48 := Option.some.inj z
    refine q (congrArg some (Char.ext ?_))
    exact UInt32.toNat_inj.mp z
theorem head_mem {l : List Nat} {c : Nat} (h : l.head? = some c) : c ∈ l := by
  cases l with
  | nil => cases h
  | cons d r => rw [← Option.some.inj h]; exact List.mem_cons_self ..
theorem digN_45 (m : Nat) : (digN m).head? ≠ some 45 := fun z => by
  have := dig_fig (m := m) (head_mem z)
  omega
theorem digN_all (m : Nat) : (digN m).all isFig = true := List.all_eq_true.mpr fun c hc => isFig_iff.mpr (dig_fig (m := m) hc)
theorem num_pos {m : Nat} (h : m < 10 ^ 9) : numO (digN m) = some (m : Int) := by
  have ef : figL (digN m) = digN m := if_neg (digN_45 m)
  have l1 : (digN m).length ≤ 9 := by unfold digN; rw [List.length_map]; exact toDig_len 8 m h
  have l2 : 0 < (digN m).length := by unfold digN; rw [List.length_map]; exact List.length_pos_iff.mpr (toDig_ne m)
  unfold numO
  rw [ef, if_neg (by omega), if_neg (by rw [digN_all]; exact Bool.noConfusion), if_neg, if_neg (digN_45 m)]
  · have : digitsVal (digN m) = m := PySem.W.KIN.val_back m
    rw [this]
    congr 1
    omega
  · rintro ⟨z1, z2⟩
    by_cases h0 : m = 0
    · rw [h0] at z2; exact z2 digN_zero
    · exact digN_head (by omega) z1
theorem num_neg {m : Nat} (h0 : 0 < m) (h : m < 10 ^ 9) : numO (45 :: digN m) = some (-(m : Int)) := by
  have ef : figL (45 :: digN m) = digN m := if_pos rfl
  have l1 : (digN m).length ≤ 9 := by unfold digN; rw [List.length_map]; exact toDig_len 8 m h
  have l2 : 0 < (digN m).length := by unfold digN; rw [List.length_map]; exact List.length_pos_iff.mpr (toDig_ne m)
  unfold numO
  rw [ef, if_neg (by omega), if_neg (by rw [digN_all]; exact Bool.noConfusion), if_neg]
  · have : digitsVal (digN m) = m := PySem.W.KIN.val_back m
    rw [if_pos (show (45 :: digN m).head? = some 45 from rfl), this]
    congr 1
    omega
  · rintro ⟨z1, z2⟩
    exact digN_head h0 z1
theorem str_pos (m : Nat) : (Str.ofString (toString ((m : Nat) : Int))).cps.toList = digN m := PySem.W.KIN.signs_num m
theorem str_neg {m : Nat} (h : 0 < m) : (Str.ofString (toString (-(m : Int)))).cps.toList = 45 :: digN m := by
  obtain ⟨k, rfl⟩ : ∃ k, m = k + 1 := ⟨m - 1, by omega⟩
  rw [signs_ofString]
  show (("-" ++ Nat.repr (k + 1) : String)).toList.map Char.toNat = _
  rw [String.toList_append, List.map_append, Nat.toList_repr]
  rfl
/-! ### names -/
def nameB (a : Str) : Bool := if a.length < 1 ∨ 6 < a.length then false else (!inV (.str a) takL && a.cps.toList.all fun c => decide (c ∈ letS.cps.toList))
section
variable {P : Program} {w : World} {K : PySem.W.Frag} {mg : Str → Option Value} {base : Heap}
class TabN (K : PySem.W.Frag) (mg : Str → Option Value) (base : Heap) (cT : outParam Addr) (PT : outParam (Addr × Addr)) : Prop where
  tb : GxR.TabB base mg cT PT.1
  cd : ∀ (f : Addr) (fd : FuncData), Fun K "is_name" "is_name" s_is_name f fd → mg "is_name" = some (.ref f) → fd.code = .ref cT
class TabF (K : PySem.W.Frag) (mg : Str → Option Value) (base : Heap) (cT : outParam Addr) (PT : outParam (Addr × Addr)) : Prop where
  tb : GxR.TabB base mg cT PT.2
  cd : ∀ (f : Addr) (fd : FuncData), Fun K "number_of" "number_of" s_number_of f fd → mg "number_of" = some (.ref f) → fd.code = .ref cT
section
variable {cT : Addr} {PT : Addr × Addr} [TN : TabN K mg base cT PT]
include TN
def sp_is_name (K : PySem.W.Frag) (PT : Addr × Addr) : Sp := fun vs H Q _ => ∃ a : Str, vs = [.str a] ∧ a.length ≤ 100 ∧ Tb2 PT.1 PT.2 H ∧ ∀ H', Stays H H' → Tb2 PT.1 PT.2 H' → Q (.bl (nameB a)) H'
theorem ok_is_name {f : Addr} {fd : FuncData} (F : Fun K "is_name" "is_name" s_is_name f fd) (hcd : fd.code = .ref cT) (T : Top K mg) : FnOk P w K mg base CX0 1 f fd ["text"] (sp_is_name K PT) := by
  refine ok_code F hcd sc_is_name (fun vs H Q E h => ?_) (fun A outer s H vs Q E hr h => ?_)
  · obtain ⟨a, rfl, _⟩ := h
    rfl
  obtain ⟨a, rfl, la, tg, q⟩ := h
  obtain ⟨aT, mT, hT⟩ := T.x_tak
  obtain ⟨tL, mL⟩ := T.x_len
  obtain ⟨tA, mA⟩ := T.x_let
  unfold nameB at q
  refine ⟨_, (pss_cons (ps_if (PW.pt (pw_or (pt_cmpR op_lt (pe_callB call_len_str (by rfl) T.m_len (by decide +kernel) (pa_cons (pv 0) pa_nil)) pe_int (nomark _)) (pw_or1 (pt_cmpR op_gt (pe_callB call_len_str (by rfl) T.m_len (by decide +kernel) (pa_cons (pv 0) pa_nil)) (pe_glob (v := .int 6) (by rfl) mL ⟨_, rfl⟩) (nomark _))))) (pss_one (ps_ret pe_bl)) pss_nil)
      (pss_one (ps_ret (pe_and (pe_cmpR (op_notIn_seqK K rfl) (pv 0) (pe_glob (v := .ref aT) (by rfl) mT rfl) (by with_unfolding_all rfl)) (pe_one (pe_allC K rfl hr (by rfl) T.m_all (by decide +kernel) TN.tb rfl (genS_of rfl rfl (by decide +kernel) rfl rfl (by decide +kernel)) (pv 0) (fun M => in_elt M rfl rfl rfl (by decide) (by decide) mA) (fun _ => rfl))))))), ?_⟩
  have sl : a.length ≤ sizeLine := little (by omega)
  refine ⟨_, rfl, _, rfl, sl, _, _, rfl, rfl, _, rfl, if_bl (fun c1 => ?_) (fun c1 => ?_)⟩
  · have c1 := of_decide_eq_true c1
    have q := q H .refl tg
    rw [if_pos (.inl (by omega))] at q
    exact q
  have c1 := of_decide_eq_false c1
  refine ⟨_, rfl, _, rfl, sl, _, _, rfl, rfl, _, rfl, if_bl (fun c2 => ?_) (fun c2 => ?_)⟩
  · have c2 := of_decide_eq_true c2
    have q := q H .refl tg
    rw [if_pos (.inr (by omega))] at q
    exact q
  have c2 := of_decide_eq_false c2
  have q : ∀ H', Stays H H' → Tb2 PT.1 PT.2 H' → Q (.bl (!inV (.str a) takL && a.cps.toList.all fun c => decide (c ∈ letS.cps.toList))) H' := fun H' s t => by
    have q := q H' s t
    rw [if_neg (by omega)] at q
    exact q
  refine ⟨_, rfl, aT, _, rfl, .inr (hT H), rfl, rfl, _, rfl, ?_⟩
  rw [if_pos (rfl : true = true)]
  cases c3 : inV (.str a) takL with
  | true =>
    rw [c3] at q
    exact q H .refl tg
  | false =>
    rw [c3] at q
    refine ⟨_, rfl, _, rfl, tg.1, fun H2 tb => ?_⟩
    exact q H2 (.tabbed tb tg.1) (tg.one tb)
end
section
variable {cT : Addr} {PT : Addr × Addr} [TF : TabF K mg base cT PT]
include TF
def sp_number_of (K : PySem.W.Frag) (PT : Addr × Addr) : Sp := fun vs H Q _ => ∃ a : Str, vs = [.str a] ∧ a.length ≤ 100 ∧ Tb2 PT.1 PT.2 H ∧ ∀ H', Stays H H' → Tb2 PT.1 PT.2 H' → Q (numV (numO a.cps.toList)) H'
theorem ok_number_of {f : Addr} {fd : FuncData} (F : Fun K "number_of" "number_of" s_number_of f fd) (hcd : fd.code = .ref cT) (T : Top K mg) : FnOk P w K mg base CX0 1 f fd ["text"] (sp_number_of K PT) := by
  refine ok_code F hcd sc_number_of (fun vs H Q E h => ?_) (fun A outer s H vs Q E hr h => ?_)
  · obtain ⟨a, rfl, _⟩ := h
    rfl
  obtain ⟨a, rfl, la, tg, q⟩ := h
  obtain ⟨tF, mF⟩ := T.x_fig
  obtain ⟨tA, mA⟩ := T.x_num
  have pm := prefix_minus a
  refine ⟨_, (pss_cons (ps_set (i := 1) sc_number_of.nd rfl (Or.inl rfl) (pe_bmK K rfl PySem.F.plainAttrs_str PySem.F.slot_str_removeprefix PySem.F.type_str_removeprefix mt_removeprefix (pv 0) (pa_cons pe_str pa_nil)))
      (pss_cons (ps_if (PW.pt (pw_or (pt_cmpR op_lt (pe_callB call_len_str (by rfl) T.m_len (by decide +kernel) (pa_cons (pv 1) pa_nil)) pe_int (nomark _)) (pw_or1 (pt_cmpR op_gt (pe_callB call_len_str (by rfl) T.m_len (by decide +kernel) (pa_cons (pv 1) pa_nil)) (pe_glob (v := .int 9) (by rfl) mF ⟨_, rfl⟩) (nomark _))))) (pss_one (ps_ret pe_non)) pss_nil)
      (pss_cons (ps_if (pt_not (pt_val (pe_allC K rfl hr (by rfl) T.m_all (by decide +kernel) TF.tb rfl (genS_of rfl rfl (by decide +kernel) rfl rfl (by decide +kernel)) (pv 1) (fun M => in_elt M rfl rfl rfl (by decide) (by decide) mA) (fun _ => rfl)))) (pss_one (ps_ret pe_non)) pss_nil)
      (pss_cons (ps_if (PW.pt (pw_and (pt_cmpR op_eq (pe_ix ix_str (pv 1) pe_int (fun _ _ => rfl)) pe_str (nomark _)) (pw_and1 (pt_cmpR op_ne (pv 0) pe_str (nomark _))))) (pss_one (ps_ret pe_non)) pss_nil)
      (pss_one (ps_ret (pe_callTy call_int_str (by rfl) T.m_int (by decide +kernel) (pa_cons (pv 0) pa_nil)))))))), ?_⟩
  have sl : a.length ≤ sizeLine := little (by omega)
  refine ⟨_, rfl, rfl, _, _, rfl, rfl, sl, ?_⟩
  generalize Txt.removeprefix a "-" = b at pm ⊢
  have lb : b.length = (figL a.cps.toList).length := by rw [← pm]; exact Array.length_toList.symm
  have la2 : a.cps.toList.length = a.length := Array.length_toList
  have lf : (figL a.cps.toList).length ≤ a.cps.toList.length := by
    unfold figL
    split
    · rw [List.length_tail]; omega
    · exact Nat.le_refl _
  have sb : b.length ≤ sizeLine := little (by omega)
  unfold numO at q
  refine ⟨_, rfl, _, rfl, sb, _, _, rfl, rfl, _, rfl, if_bl (fun c1 => ?_) (fun c1 => ?_)⟩
  · have c1 := of_decide_eq_true c1
    have q := q H .refl tg
    rw [if_pos (.inl (by omega))] at q
    exact q
  have c1 := of_decide_eq_false c1
  refine ⟨_, rfl, _, rfl, sb, _, _, rfl, rfl, _, rfl, if_bl (fun c2 => ?_) (fun c2 => ?_)⟩
  · have c2 := of_decide_eq_true c2
    have q := q H .refl tg
    rw [if_pos (.inr (by omega))] at q
    exact q
  have c2 := of_decide_eq_false c2
  have n1 : ¬ ((figL a.cps.toList).length < 1 ∨ 9 < (figL a.cps.toList).length) := by omega
  refine ⟨_, rfl, _, rfl, tg.2, fun H2 tb => ?_⟩
  have q := q H2 (.tabbed tb tg.2) (tg.two tb)
  have tg2 := tg.two tb
  rw [if_neg n1] at q
  refine ⟨_, rfl, ?_⟩
  show (if (!(b.cps.toList.all isFig)) = true then _ else _)
  rw [pm]
  cases c3 : (figL a.cps.toList).all isFig with
  | false =>
    rw [if_pos c3] at q
    exact q
  | true =>
    rw [if_neg (by rw [c3]; exact Bool.noConfusion)] at q
    have e48 : ("0" : Str) = ⟨#[48]⟩ := by decide +kernel
    obtain ⟨c0, r0, ec⟩ : ∃ c0 r0, figL a.cps.toList = c0 :: r0 := by
      cases hl : figL a.cps.toList with
      | nil => rw [hl] at n1; exact absurd (.inl (by decide)) n1
      | cons c r => exact ⟨c, r, rfl⟩
    have at0 : atI b.cps.toList ((0 : Nat) : Int) = some c0 := atI_nat (by rw [pm, ec]; rfl)
    have d1 : decide (V.str ⟨#[c0]⟩ = V.str "0") = decide ((figL a.cps.toList).head? = some 48) := by
      rw [ec, e48]
      show decide _ = decide (some c0 = some 48)
      by_cases h : c0 = 48
      · rw [h]; rfl
      · rw [decide_eq_false (fun z : some c0 = some 48 => h (Option.some.inj z)), decide_eq_false]
        intro z
        have z := V.str.inj z
        injection z with z
        have z2 : [c0] = [48] := congrArg Array.toList z
        exact h (List.cons.inj z2).1
    have d2 : (!decide (V.str a = V.str "0")) = decide (a.cps.toList ≠ [48]) := by
      rw [e48]
      by_cases h : a.cps.toList = [48]
      · rw [decide_eq_false (fun z : a.cps.toList ≠ [48] => z h), decide_eq_true (congrArg V.str (str_inj (b := ⟨#[48]⟩) h))]; rfl
      · rw [decide_eq_true h, decide_eq_false (fun z => h (by rw [V.str.inj z]))]; rfl
    have last : ¬ ((figL a.cps.toList).head? = some 48 ∧ a.cps.toList ≠ [48]) → Q (numV (some ((if a.cps.toList.head? = some 45 then -1 else 1) * ((digitsVal (figL a.cps.toList) : Nat) : Int)))) H2 ∧ PySem.intText? a = some ((if a.cps.toList.head? = some 45 then -1 else 1) * ((digitsVal (figL a.cps.toList) : Nat) : Int)) := fun n => by
      rw [if_neg n] at q
      refine ⟨q, int_reads ?_⟩
      unfold numO
      rw [if_neg n1, if_neg (by rw [c3]; exact Bool.noConfusion), if_neg n]
    refine ⟨_, rfl, _, _, c0, rfl, rfl, sb, at0, rfl, _, rfl, ?_⟩
    rw [d1]
    refine if_bl (fun c4 => ?_) (fun c4 => ?_)
    · have c4 := of_decide_eq_true c4
      refine ⟨_, rfl, rfl, _, rfl, ?_⟩
      rw [d2]
      refine if_bl (fun c5 => ?_) (fun c5 => ?_)
      · have c5 := of_decide_eq_true c5
        rw [if_pos ⟨c4, c5⟩] at q
        exact q
      · obtain ⟨q, rd⟩ := last (fun z => of_decide_eq_false c5 z.2)
        exact ⟨_, rfl, _, _, rfl, rd, by omega, q⟩
    · obtain ⟨q, rd⟩ := last (fun z => of_decide_eq_false c4 z.1)
      exact ⟨_, rfl, _, _, rfl, rd, by omega, q⟩
end
end
/-! ### the law's own: names, numbers -/
open PySem.NumText
theorem join_len : ∀ ys : List Str, (Txt.join "" ys).length = (ys.map (·.length)).sum := by
  intro ys
  rw [TL.join_eq]
  induction ys with
  | nil => rfl
  | cons x r ih =>
    cases r with
    | nil => show x.length = x.length + 0; rfl
    | cons y r =>
      have e : ("" : Str) = ⟨#[]⟩ := by decide +kernel
      show ((x.cps ++ ("" : Str).cps) ++ (Str.join "" (y :: r)).cps).size = x.length + ((y :: r).map (·.length)).sum
      rw [← ih, e, Array.size_append, Array.size_append]
      rfl
theorem ones_sum : ∀ {ys : List Str}, (∀ y ∈ ys, y.length ≤ 1) → (ys.map (·.length)).sum ≤ ys.length
  | [], _ => Nat.le_refl _
  | y :: r, h => by
    have a := h y (List.mem_cons_self ..)
    have b := ones_sum fun z hz => h z (List.mem_cons_of_mem _ hz)
    rw [List.map_cons, List.sum_cons, List.length_cons]
    omega
theorem ones_fit {ys : List Str} (h : ∀ y ∈ ys, y.length ≤ 1) (l : ys.length ≤ 1000) : (ys.map (·.length)).sum + ys.length * Str.length "" ≤ 16777216 := by
  have a := ones_sum h
  have e : Str.length ("" : Str) = 0 := by decide +kernel
  rw [e]
  omega
theorem cut_strs (ys : List Str) (lo hi : Option Int) : ∃ zs : List Str, cutV (ys.map V.str) lo hi = zs.map V.str ∧ zs.length ≤ ys.length ∧ ∀ z ∈ zs, z ∈ ys := by
  unfold cutV
  refine ⟨(ys.drop _).take _, by rw [List.map_take, List.map_drop], ?_, fun z hz => List.mem_of_mem_drop (List.mem_of_mem_take hz)⟩
  rw [List.length_take, List.length_drop]
  omega
section
variable {P : Program} {w : World} {K : PySem.W.Frag} {mg : Str → Option Value} {base : Heap}
def sgnS : Str := (" !\"#$&'()*+,-./0123456789:;<=>?@ABCDEFGHIJKLMNOPQRSTUVWXYZ" : Str) ++ ("[\\]^_`abcdefghijklmnopqrstuvwxyz{|}~" : Str)
def sp_law_signs (K : PySem.W.Frag) : Sp := fun vs H Q _ => vs = [] ∧ Q (.str sgnS) H
theorem ok_law_signs {f : Addr} {fd : FuncData} (F : Fun K "_law_signs" "_law_signs" s_law_signs f fd) (T : Top K mg) : FnOk P w K mg base CX0 1 f fd [] (sp_law_signs K) := by
  refine F.ok sc_law_signs (fun vs H Q E h => ?_) (fun cdv A outer s H vs Q E hr h => ?_)
  · obtain ⟨rfl, _⟩ := h
    rfl
  obtain ⟨rfl, q⟩ := h
  refine ⟨_, (pss_cons (ps_set (i := 0) sc_law_signs.nd rfl (Or.inl rfl) pe_str)
      (pss_one (ps_ret (pe_op op_add_str (pv 0) pe_str)))), ?_⟩
  exact ⟨_, rfl, _, _, rfl, rfl, by decide +kernel, q⟩
theorem sign_at {z : Str} {v : Int} (h0 : 0 ≤ v) (h1 : v < (z.length : Int)) : ∃ c, atI z.cps.toList v = some c := by
  have hl : z.cps.toList.length = z.length := Array.length_toList
  have hk : v.toNat < z.cps.toList.length := by omega
  have q : atI z.cps.toList ((v.toNat : Nat) : Int) = some z.cps.toList[v.toNat] := atI_nat (List.getElem?_eq_getElem hk)
  rw [show ((v.toNat : Nat) : Int) = v by omega] at q
  exact ⟨_, q⟩
def sp_law_word (K : PySem.W.Frag) : Sp := fun vs H Q _ => ∃ f c : Addr, vs = [.ref f, .int 8] ∧ Flow H f c ∧ ∀ (a : Str) (H' : Hp), a.length ≤ 9 → Flow H' f c → But f H H' → Q (.str a) H'
theorem ok_law_word {f : Addr} {fd : FuncData} (F : Fun K "_law_word" "_law_word" s_law_word f fd) (T : Top K mg) : FnOk P w K mg base CX0 2 f fd ["_law_flow_here", "_law_most"] (sp_law_word K) := by
  obtain ⟨f_law_pick, fd_law_pick, F_law_pick, b_law_pick, m_law_pick⟩ := T.d_law_pick
  have G_law_pick := ok_law_pick (P := P) (w := w) (base := base) F_law_pick T
  refine F.ok sc_law_word (fun vs H Q E h => ?_) (fun cdv A outer s H vs Q E hr h => ?_)
  · obtain ⟨f, c, rfl, _⟩ := h
    rfl
  obtain ⟨f, c, rfl, hF, q⟩ := h
  refine ⟨_, (pss_cons (ps_set (i := 2) sc_law_word.nd rfl (Or.inr rfl) pe_str)
      (pss_one (ps_ret (pe_join pe_str (pe_lc (own := [("_law_k", 3)]) (g := gName 3) (tt := tYes) (by rfl) sc_law_word.nd (pi_range1 (by rfl) T.m_range (pa_cons (pe_op op_add pe_int (pe_call G_law_pick (hr.mono (by decide)) (by rfl) m_law_pick F_law_pick.kp b_law_pick .nil pass0 (pa_cons (pv 0) (pa_cons (pv 1) pa_nil)))) pa_nil)) (blkOk_by (own := [("_law_k", 3)]) (N := N_law_word) (sc := defScope s_law_word) (by decide +kernel)) (fun _ _ _ _ _ => (pg_name (i := 3) sc_law_word.nd rfl (Or.inl rfl))) (fun _ _ _ _ _ => pts_nil) (fun _ _ _ _ _ => (pe_ix ix_str (pv 2) (pe_call G_law_pick (hr.mono (by decide)) (by rfl) m_law_pick F_law_pick.kp b_law_pick .nil pass0 (pa_cons (pv 0) (pa_cons pe_int pa_nil))) (fun _ _ => rfl)))))))), ?_⟩
  refine ⟨⟨_, rfl⟩, ?_⟩
  refine ⟨_, rfl, _, rfl, f, c, 8, rfl, by decide, by decide +kernel, hF, fun tv H1 t0 t1 F1 B1 => ?_⟩
  refine ⟨_, _, rfl, rfl, _, rfl, by omega, by omega, fun D nD => lc_range (lo := 0) (n := (1 + tv).toNat) (fun i H5 => ∃ ys : List Str, H5 D = some (.lst (ys.map V.str)) ∧ ys.length = i ∧ (∀ y ∈ ys, y.length ≤ 1) ∧ Flow H5 f c ∧ But f H1 H5) ⟨[], upd_same, rfl, (fun _ z => nomatch z), F1.new nD, But.refl.new nD⟩ ?_ ?_⟩
  · rintro i H5 hi ⟨ys, hD, ly, on, F5, B5⟩
    have mf : D ≠ f := F1.ne nD
    have mc : D ≠ c := F1.nec nD
    refine ⟨rfl, yes_in ⟨_, rfl, _, rfl, f, c, 26, rfl, by decide, by decide +kernel, F5, fun v H6 v0 v1 F6 B6 => ?_⟩⟩
    obtain ⟨cc, ec⟩ := sign_at (z := "abcdefghijklmnopqrstuvwxyz") v0 (by rw [show Str.length "abcdefghijklmnopqrstuvwxyz" = 26 by decide +kernel]; exact v1)
    refine ⟨_, v, cc, rfl, rfl, by decide +kernel, ec, _, B6 _ _ hD mf, ?_, ys ++ [⟨#[cc]⟩], ?_, ?_, ?_, F6.lst mf mc, (B5.trans B6).own nD⟩
    · rw [List.length_map, ly]; exact small1000 (by omega)
    · rw [upd_same, List.map_append]; rfl
    · rw [List.length_append, ly]; rfl
    · intro z hz
      rcases List.mem_append.mp hz with hz | hz
      · exact on z hz
      · rw [List.mem_singleton.mp hz]; exact Nat.le_refl 1
  · rintro H5 ⟨ys, hD, ly, on, F5, B5⟩
    refine ⟨_, D, ys, rfl, rfl, .inl (SqL.of hD), ones_fit on (by omega), ?_⟩
    refine q _ _ ?_ F5 (B1.trans B5)
    have := ones_sum on
    rw [join_len]
    omega
def sp_law_taken (K : PySem.W.Frag) : Sp := fun vs H Q _ => vs = [] ∧ ∀ (p : Addr) (H' : Hp), H p = none → H' p = some (.lst takL) → Same H H' → Q (.ref p) H'
theorem ok_law_taken {f : Addr} {fd : FuncData} (F : Fun K "_law_taken" "_law_taken" s_law_taken f fd) (T : Top K mg) : FnOk P w K mg base CX0 1 f fd [] (sp_law_taken K) := by
  refine F.ok sc_law_taken (fun vs H Q E h => ?_) (fun cdv A outer s H vs Q E hr h => ?_)
  · obtain ⟨rfl, _⟩ := h
    rfl
  obtain ⟨rfl, q⟩ := h
  refine ⟨_, (pss_one (ps_ret (pe_lst (pa_cons pe_str (pa_cons pe_str (pa_cons pe_str (pa_cons pe_str (pa_cons pe_str (pa_cons pe_str (pa_cons pe_str (pa_cons pe_str pa_nil))))))))))), ?_⟩
  exact ⟨(by show 8 ≤ sizeLine; decide), fun p hp => q p _ hp upd_same (same_new hp)⟩
def sp_law_is_name (K : PySem.W.Frag) : Sp := fun vs H Q _ => ∃ a : Str, vs = [.str a] ∧ a.length ≤ 100 ∧ ∀ H', Same H H' → Q (.bl (nameB a)) H'
theorem ok_law_is_name {f : Addr} {fd : FuncData} (F : Fun K "_law_is_name" "_law_is_name" s_law_is_name f fd) (T : Top K mg) : FnOk P w K mg base CX0 2 f fd ["_law_text_here"] (sp_law_is_name K) := by
  obtain ⟨f_law_taken, fd_law_taken, F_law_taken, b_law_taken, m_law_taken⟩ := T.d_law_taken
  have G_law_taken := ok_law_taken (P := P) (w := w) (base := base) F_law_taken T
  refine F.ok sc_law_is_name (fun vs H Q E h => ?_) (fun cdv A outer s H vs Q E hr h => ?_)
  · obtain ⟨a, rfl, _⟩ := h
    rfl
  obtain ⟨a, rfl, la, q⟩ := h
  have sl : a.length ≤ sizeLine := little (by omega)
  unfold nameB at q
  refine ⟨_, (pss_cons (ps_if (PW.pt (pw_or (pt_not (pt_chain op_lt op_lt pe_int (pe_callB call_len_str (by rfl) T.m_len (by decide +kernel) (pa_cons (pv 0) pa_nil)) pe_int)) (pw_or1 (pt_cmpR (op_in_seqK K rfl) (pv 0) (pe_call0 G_law_taken (hr.mono (by decide)) (by rfl) m_law_taken F_law_taken.kp b_law_taken .nil pass0) (by with_unfolding_all rfl))))) (pss_one (ps_ret pe_bl)) pss_nil)
      (pss_one (ps_ret (pe_callB (cr_allK K rfl rfl) (by rfl) T.m_all (by decide +kernel) (pa_cons (pe_lc (own := [("_law_sign", 1)]) (g := gName 1) (tt := tYes) (by rfl) sc_law_is_name.nd (pi_str (pv 0)) (blkOk_by (own := [("_law_sign", 1)]) (N := N_law_is_name) (sc := defScope s_law_is_name) (by decide +kernel)) (fun _ _ _ _ _ => (pg_name (i := 1) sc_law_is_name.nd rfl (Or.inl rfl))) (fun _ _ _ _ _ => pts_nil) (fun _ _ _ _ _ => (pe_cmpR op_in_sign (pv 1) pe_str (by with_unfolding_all rfl)))) pa_nil))))), ?_⟩
  refine ⟨_, rfl, _, rfl, sl, _, _, rfl, rfl, _, rfl, if_bl (fun c1 => ?_) (fun c1 => ?_)⟩
  · have c1 := of_decide_eq_true c1
    refine ⟨_, _, rfl, rfl, _, rfl, if_bl (fun c2 => ?_) (fun c2 => ?_)⟩
    · have c2 : ¬ ((a.length : Nat) : Int) < 7 := by simpa using c2
      have q := q H (fun _ _ e => e)
      rw [if_pos (.inr (by omega))] at q
      exact q
    · have c2 : ((a.length : Nat) : Int) < 7 := by simpa using c2
      rw [if_neg (by omega)] at q
      refine ⟨_, rfl, rfl, fun p H1 np hp s1 => ⟨p, _, rfl, .inl (SqL.of hp), rfl, rfl, _, rfl, ?_⟩⟩
      rw [if_neg (Bool.false_ne_true)]
      cases c3 : inV (.str a) takL with
      | true =>
        rw [c3] at q
        exact q H1 s1
      | false =>
        rw [c3] at q
        refine ⟨_, rfl, a, rfl, fun D nD => lc_it (n := a.cps.size) (fun i H5 => H5 D = some (.lst (((a.cps.toList.take i).map fun c => decide (c ∈ letS.cps.toList)).map V.bl)) ∧ Same H1 H5) ⟨upd_same, same_new nD⟩ (fun i H5 hi _ => hi) (fun H5 _ => Nat.le_refl _) ?_ ?_⟩
        · rintro i v H5 H6 hi ⟨hD, s5⟩ ⟨rfl, cc, ec, rfl⟩
          refine ⟨rfl, yes_in ⟨_, rfl, cc, _, rfl, rfl, _, hD, ?_, ?_, Same.own s5 nD⟩⟩
          · have : a.cps.toList.length = a.length := Array.length_toList
            rw [List.length_map, List.length_map, List.length_take]; exact small1000 (by omega)
          · rw [upd_same, List.take_add_one, Array.getElem?_toList, ec, List.map_append, List.map_append]
            rfl
        · rintro H5 ⟨hD, s5⟩
          rw [show a.cps.size = a.cps.toList.length from Array.length_toList.symm, List.take_length] at hD
          refine ⟨D, _, rfl, SqL.of hD, ?_⟩
          rw [List.all_map]
          exact q H5 (fun _ _ e => s5 _ _ (s1 _ _ e))
  · have c1 := of_decide_eq_false c1
    have q := q H (fun _ _ e => e)
    rw [if_pos (.inl (by omega))] at q
    exact ⟨_, rfl, q⟩
theorem occ_fig {c : Nat} (h : 48 ≤ c ∧ c ≤ 57) : Builtin.Str.occurrences "0123456789" ⟨#[c]⟩ 0 (Str.length "0123456789") 1 = [c - 48] := by
  have : c = 48 ∨ c = 49 ∨ c = 50 ∨ c = 51 ∨ c = 52 ∨ c = 53 ∨ c = 54 ∨ c = 55 ∨ c = 56 ∨ c = 57 := by omega
  rcases this with rfl | rfl | rfl | rfl | rfl | rfl | rfl | rfl | rfl | rfl <;> decide +kernel
theorem eq_one {c k : Nat} {z : Str} (e : z = ⟨#[k]⟩) : decide (V.str ⟨#[c]⟩ = V.str z) = decide (c = k) := by
  rw [e]
  by_cases h : c = k
  · rw [h, decide_eq_true rfl, decide_eq_true rfl]
  · rw [decide_eq_false h, decide_eq_false]
    intro w
    have w := V.str.inj w
    injection w with w
    exact h (List.cons.inj (congrArg Array.toList w)).1
theorem inV_false {l : List Bool} : inV (.bl false) (l.map V.bl) = !(l.all id) := by
  induction l with
  | nil => rfl
  | cons b r ih =>
    unfold inV at ih ⊢
    rw [List.map_cons, List.any_cons, ih, List.all_cons]
    cases b <;> rfl
theorem digVal_le : ∀ (k : Nat) (l : List Nat), (∀ c ∈ l, c ≤ 57) → l.length ≤ k → digitsVal l < 10 ^ k := by
  intro k
  induction k with
  | zero =>
    intro l _ h
    have : l = [] := List.length_eq_zero_iff.mp (by omega)
    subst this
    decide
  | succ k ih =>
    intro l h hl
    rcases List.eq_nil_or_concat l with rfl | ⟨r, c, rfl⟩
    · show 0 < _
      exact Nat.pow_pos (by decide)
    · have e : r.concat c = r ++ [c] := List.concat_eq_append ..
      rw [e] at h hl ⊢
      rw [List.length_append] at hl
      have a := ih r (fun d hd => h d (List.mem_append.mpr (.inl hd))) (by simp at hl; omega)
      have b := h c (List.mem_append.mpr (.inr (List.mem_singleton.mpr rfl)))
      rw [digitsVal_snoc, Nat.pow_succ]
      omega
def sp_law_number (K : PySem.W.Frag) : Sp := fun vs H Q _ => ∃ a : Str, vs = [.str a] ∧ a.length ≤ 100 ∧ ∀ H', Same H H' → Q (numV (numO a.cps.toList)) H'
theorem ok_law_number {f : Addr} {fd : FuncData} (F : Fun K "_law_number" "_law_number" s_law_number f fd) (T : Top K mg) : FnOk P w K mg base CX0 1 f fd ["_law_text_here"] (sp_law_number K) := by
  refine F.ok sc_law_number (fun vs H Q E h => ?_) (fun cdv A outer s H vs Q E hr h => ?_)
  · obtain ⟨a, rfl, _⟩ := h
    rfl
  obtain ⟨a, rfl, la, q⟩ := h
  have sl : a.length ≤ sizeLine := little (by omega)
  let R1 : TS := fun D' σ' H' => D'.rt = Q ∧ ∃ b : Str, σ' = [some (.str a), some (.str b), none, none] ∧ b.cps.toList = figL a.cps.toList ∧ H' = H
  let R2 : TS := fun D' σ' H' => D'.rt = Q ∧ ∃ b : Str, σ' = [some (.str a), some (.str b), none, none] ∧ b.cps.toList = figL a.cps.toList ∧ AllDigits b.cps.toList ∧ b.cps.toList ≠ [] ∧ b.cps.toList.length ≤ 9 ∧ Same H H' ∧
    Q (numV (some ((if a.cps.toList.head? = some 45 then -1 else 1) * ((digitsVal b.cps.toList : Nat) : Int)))) H'
  refine ⟨_, (pss_cons (ps_set (i := 1) sc_law_number.nd rfl (Or.inl rfl) (pv 0))
      (pss_cons (ps_if (pt_cmpR op_eq (pe_slice sl_str (pv 0) po_none (po_some pe_int)) pe_str (nomark _)) (pss_one (ps_set (i := 1) sc_law_number.nd rfl (Or.inl rfl) (pe_slice sl_str (pv 0) (po_some pe_int) po_none))) pss_nil)
      (PSs.to (pss_cons (ps_if (PW.pt (pw_or (pt_cmpR op_eq (pv 1) pe_str (nomark _)) (pw_or1 (pt_cmpR op_gt (pe_callB call_len_str (by rfl) T.m_len (by decide +kernel) (pa_cons (pv 1) pa_nil)) pe_int (nomark _))))) (pss_one (ps_ret pe_non)) pss_nil)
      (pss_cons (ps_if (pt_cmpR (op_in_seqK K rfl) pe_bl (pe_lc (own := [("_law_sign", 2)]) (g := gName 2) (tt := tYes) (by rfl) sc_law_number.nd (pi_str (pv 1)) (blkOk_by (own := [("_law_sign", 2)]) (N := N_law_number) (sc := defScope s_law_number) (by decide +kernel)) (fun _ _ _ _ _ => (pg_name (i := 2) sc_law_number.nd rfl (Or.inl rfl))) (fun _ _ _ _ _ => pts_nil) (fun _ _ _ _ _ => (pe_cmpR op_in_sign (pv 2) pe_str (by with_unfolding_all rfl)))) (by with_unfolding_all rfl)) (pss_one (ps_ret pe_non)) pss_nil)
      (pss_cons (ps_if (PW.pt (pw_and (pt_cmpR op_eq (pe_ix ix_str (pv 1) pe_int (fun _ _ => rfl)) pe_str (nomark _)) (pw_and1 (pt_cmpR op_ne (pv 0) pe_str (nomark _))))) (pss_one (ps_ret pe_non)) pss_nil)
      (PSs.to (pss_cons (ps_set (i := 3) sc_law_number.nd rfl (Or.inl rfl) pe_int)
      (pss_cons (ps_for PassesOwn.never rfl (pi_str (pv 1)) (pg_name (i := 2) sc_law_number.nd rfl (Or.inl rfl))
        (pss_one (ps_set (i := 3) sc_law_number.nd rfl (Or.inl rfl) (pe_op op_add (pe_op op_mul (pv 3) pe_int) (pe_bmK K rfl PySem.F.plainAttrs_str PySem.F.slot_str_index PySem.F.type_str_index mt_sindex pe_str (pa_cons (pv 2) pa_nil))))))
      (pss_one (ps_ret (pe_op op_mul (pv 3) (pe_op op_sub pe_int (pe_op op_mul pe_int (pe_callTy call_int1 (by rfl) T.m_int (by decide +kernel) (pa_cons (pe_cmpR op_eq (pe_ix ix_str (pv 0) pe_int (fun _ _ => rfl)) pe_str (nomark _)) pa_nil))))))))) R2 ?tail2)))) R1 ?tail1))), ?_⟩
  case tail1 =>
    rintro D' σ' H1 ⟨eD, b, rfl, eb, rfl⟩
    have lb : b.cps.toList.length = b.length := Array.length_toList
    have la2 : a.cps.toList.length = a.length := Array.length_toList
    have lf : (figL a.cps.toList).length ≤ a.cps.toList.length := by
      unfold figL
      split
      · rw [List.length_tail]; omega
      · exact Nat.le_refl _
    have lb2 : b.cps.toList.length = (figL a.cps.toList).length := by rw [eb]
    have sb : b.length ≤ sizeLine := little (by omega)
    have e0 : ("" : Str) = ⟨#[]⟩ := by decide +kernel
    unfold numO at q
    refine ⟨_, rfl, rfl, _, rfl, if_bl (fun c1 => ?_) (fun c1 => ?_)⟩
    · have c1 := V.str.inj (of_decide_eq_true c1)
      have q := q H1 (fun _ _ e => e)
      rw [if_pos (.inl (by rw [← eb, c1, e0]; decide))] at q
      show D'.rt .non H1
      rw [eD]
      exact q
    have c1 : b ≠ "" := fun z => of_decide_eq_false c1 (congrArg V.str z)
    refine ⟨_, rfl, _, rfl, sb, _, _, rfl, rfl, _, rfl, if_bl (fun c2 => ?_) (fun c2 => ?_)⟩
    · have c2 := of_decide_eq_true c2
      have q := q H1 (fun _ _ e => e)
      rw [if_pos (.inr (by omega))] at q
      show D'.rt .non H1
      rw [eD]
      exact q
    have c2 := of_decide_eq_false c2
    have ne : b.cps.toList ≠ [] := fun z => c1 (str_inj (by rw [z, e0]))
    have n1 : ¬ ((figL a.cps.toList).length < 1 ∨ 9 < (figL a.cps.toList).length) := by
      have := List.length_pos_iff.mpr ne
      omega
    rw [if_neg n1, ← eb] at q
    refine ⟨_, rfl, b, rfl, fun D nD => lc_it (n := b.cps.size) (fun i H5 => H5 D = some (.lst (((b.cps.toList.take i).map isFig).map V.bl)) ∧ Same H1 H5) ⟨upd_same, same_new nD⟩ (fun i H5 hi _ => hi) (fun H5 _ => Nat.le_refl _) ?_ ?_⟩
    · rintro i v H5 H6 hi ⟨hD, s5⟩ ⟨rfl, cc, ec, rfl⟩
      refine ⟨rfl, yes_in ⟨_, rfl, cc, _, rfl, rfl, _, hD, ?_, ?_, Same.own s5 nD⟩⟩
      · rw [List.length_map, List.length_map, List.length_take]; exact small1000 (by omega)
      · rw [upd_same, List.take_add_one, Array.getElem?_toList, ec, List.map_append, List.map_append]
        rfl
    · rintro H5 ⟨hD, s5⟩
      rw [show b.cps.size = b.cps.toList.length from Array.length_toList.symm, List.take_length] at hD
      refine ⟨D, _, rfl, .inl (SqL.of hD), rfl, by rw [List.all_map, List.all_map]; exact List.all_eq_true.mpr fun _ _ => rfl, _, rfl, ?_⟩
      rw [if_neg Bool.false_ne_true, inV_false, List.all_map]
      show (if (!(b.cps.toList.all isFig)) = true then _ else _)
      have q := q H5 s5
      cases c3 : b.cps.toList.all isFig with
      | false =>
        rw [if_pos c3] at q
        show D'.rt .non H5
        rw [eD]
        exact q
      | true =>
        rw [if_neg (by rw [c3]; exact Bool.noConfusion)] at q
        have fg := fig_digits c3
        obtain ⟨c0, r0, ec⟩ : ∃ c0 r0, b.cps.toList = c0 :: r0 := by
          cases hl : b.cps.toList with
          | nil => exact absurd hl ne
          | cons c r => exact ⟨c, r, rfl⟩
        have at0 : atI b.cps.toList ((0 : Nat) : Int) = some c0 := atI_nat (by rw [ec]; rfl)
        have e48 : ("0" : Str) = ⟨#[48]⟩ := by decide +kernel
        have d2 : (!decide (V.str a = V.str "0")) = decide (a.cps.toList ≠ [48]) := by
          rw [e48]
          by_cases h : a.cps.toList = [48]
          · rw [decide_eq_false (fun z : a.cps.toList ≠ [48] => z h), decide_eq_true (congrArg V.str (str_inj (b := ⟨#[48]⟩) h))]; rfl
          · rw [decide_eq_true h, decide_eq_false (fun z => h (by rw [V.str.inj z]))]; rfl
        have go : ¬ (b.cps.toList.head? = some 48 ∧ a.cps.toList ≠ [48]) → R2 D' [some (.str a), some (.str b), none, none] H5 := fun n => by
          rw [if_neg n] at q
          exact ⟨eD, b, rfl, eb, fg, ne, by omega, s5, q⟩
        refine ⟨_, rfl, _, _, c0, rfl, rfl, sb, at0, rfl, _, rfl, ?_⟩
        rw [eq_one e48]
        refine if_bl (fun c4 => ?_) (fun c4 => ?_)
        · have c4 := of_decide_eq_true c4
          refine ⟨_, rfl, rfl, _, rfl, ?_⟩
          rw [d2]
          refine if_bl (fun c5 => ?_) (fun c5 => ?_)
          · have c5 := of_decide_eq_true c5
            rw [if_pos ⟨by rw [ec, c4]; rfl, c5⟩] at q
            show D'.rt .non H5
            rw [eD]
            exact q
          · exact go fun z => of_decide_eq_false c5 z.2
        · exact go fun z => of_decide_eq_false c4 (by rw [ec] at z; exact Option.some.inj z.1)
  case tail2 =>
    rintro D' σ' H1 ⟨eD, b, rfl, eb, fg, ne, l9, s1, q1⟩
    have an : a.cps.toList ≠ [] := fun z => ne (by rw [eb, z]; rfl)
    obtain ⟨c0, r0, ea⟩ : ∃ c0 r0, a.cps.toList = c0 :: r0 := by
      cases hl : a.cps.toList with
      | nil => exact absurd hl an
      | cons c r => exact ⟨c, r, rfl⟩
    have at0 : atI a.cps.toList ((0 : Nat) : Int) = some c0 := atI_nat (by rw [ea]; rfl)
    have e45 : ("-" : Str) = ⟨#[45]⟩ := by decide +kernel
    refine ⟨_, rfl, b, rfl, for_it (n := b.cps.size) (fun i σ H5 => H5 = H1 ∧ ∃ x, σ = [some (.str a), some (.str b), x, some (.int ((digitsVal (b.cps.toList.take i) : Nat) : Int))]) ⟨rfl, _, rfl⟩ (fun i _ _ hi _ => hi) (fun _ _ _ => Nat.le_refl _) ?_ ?_⟩
    · rintro i v σ H5 H6 hi ⟨rfl, x, rfl⟩ ⟨rfl, cc, ec, rfl⟩
      have ec2 : b.cps.toList[i]? = some cc := by rw [Array.getElem?_toList]; exact ec
      have hc := fg cc (List.mem_of_getElem? ec2)
      refine ⟨_, rfl, _, _, rfl, rfl, .inr ⟨by decide, by decide⟩, rfl, _, rfl, _, _, cc - 48, [], rfl, rfl, occ_fig hc, _, _, rfl, rfl, rfl, some (.str ⟨#[cc]⟩), ?_⟩
      rw [List.take_add_one, ec2]
      show _ = [some (V.str a), some (V.str b), some (V.str ⟨#[cc]⟩), some (V.int ((digitsVal (b.cps.toList.take i ++ [cc]) : Nat) : Int))]
      rw [digitsVal_snoc]
      show [some (V.str a), some (V.str b), some (V.str ⟨#[cc]⟩), some (V.int (_ * 10 + ((cc - 48 : Nat) : Int)))] = _
      congr 4
    · rintro σ H5 ⟨rfl, x, rfl⟩
      rw [show b.cps.size = b.cps.toList.length from Array.length_toList.symm, List.take_length]
      have small := digVal_le 9 b.cps.toList (fun c hc => (fg c hc).2) l9
      refine ⟨_, rfl, _, rfl, a, _, c0, rfl, rfl, sl, at0, rfl, .inr ⟨_, rfl, _, _, rfl, rfl, .inl ⟨by decide, by decide⟩, _, _, rfl, rfl, _, _, rfl, rfl, .inl ⟨by omega, by omega⟩, ?_⟩⟩
      rw [eq_one e45]
      show D'.rt _ H5
      rw [eD]
      have ev : ((digitsVal b.cps.toList : Nat) : Int) * (1 - 2 * (if decide (c0 = 45) = true then 1 else 0)) = (if a.cps.toList.head? = some 45 then -1 else 1) * ((digitsVal b.cps.toList : Nat) : Int) := by
        rw [ea]
        by_cases h : c0 = 45
        · rw [decide_eq_true h, if_pos rfl, if_pos (show (c0 :: r0).head? = some 45 by rw [h]; rfl)]
          omega
        · rw [decide_eq_false h, if_neg Bool.false_ne_true, if_neg (show ¬ (c0 :: r0).head? = some 45 from fun z => h (Option.some.inj z))]
          omega
      have q2 : Q (V.int ((if a.cps.toList.head? = some 45 then -1 else 1) * ((digitsVal b.cps.toList : Nat) : Int))) H5 := q1
      rw [← ev] at q2
      exact q2
  refine ⟨_, rfl, _, rfl, _, rfl, a, rfl, sl, rfl, _, rfl, ?_⟩
  rw [cut_head]
  refine if_bl (fun c1 => ?_) (fun c1 => ?_)
  · have c1 := of_decide_eq_true c1
    refine ⟨_, rfl, _, rfl, a, rfl, sl, rfl, _, rfl, ?_, rfl⟩
    rw [cut_tail]
    exact (if_pos c1).symm
  · exact ⟨rfl, a, rfl, (if_neg (of_decide_eq_false c1)).symm, rfl⟩
def sp_law_put (K : PySem.W.Frag) : Sp := fun vs H Q _ => ∃ (f c l : Addr) (one : Str) (ys : List Str), vs = [.ref f, .ref l, .str one] ∧ Flow H f c ∧ H l = some (.lst (ys.map V.str)) ∧ l ≠ f ∧ l ≠ c ∧ ys ≠ [] ∧ ys.length ≤ 40 ∧ (∀ y ∈ ys, y.length ≤ 1) ∧ one.length ≤ 1 ∧
  ∀ (p : Addr) (zs : List Str) (H' : Hp), H' p = some (.lst (zs.map V.str)) → zs.length ≤ 2 * ys.length + 2 → (∀ z ∈ zs, z.length ≤ 1) → Flow H' f c → But f H H' → Q (.ref p) H'
theorem ok_law_put {f : Addr} {fd : FuncData} (F : Fun K "_law_put" "_law_put" s_law_put f fd) (T : Top K mg) : FnOk P w K mg base CX0 2 f fd ["_law_flow_here", "_law_some", "_law_one"] (sp_law_put K) := by
  obtain ⟨f_law_pick, fd_law_pick, F_law_pick, b_law_pick, m_law_pick⟩ := T.d_law_pick
  have G_law_pick := ok_law_pick (P := P) (w := w) (base := base) F_law_pick T
  refine F.ok sc_law_put (fun vs H Q E h => ?_) (fun cdv A outer s H vs Q E hr h => ?_)
  · obtain ⟨f, c, l, one, ys, rfl, _⟩ := h
    rfl
  obtain ⟨f, c, l, one, ys, rfl, hF, hl, lf, lc, ne, ly, on, o1, q⟩ := h
  refine ⟨_, (pss_cons (ps_set (i := 3) sc_law_put.nd rfl (Or.inl rfl) (pe_call G_law_pick (hr.mono (by decide)) (by rfl) m_law_pick F_law_pick.kp b_law_pick .nil pass0 (pa_cons (pv 0) (pa_cons pe_int pa_nil))))
      (pss_cons (ps_set (i := 4) sc_law_put.nd rfl (Or.inl rfl) (pe_call G_law_pick (hr.mono (by decide)) (by rfl) m_law_pick F_law_pick.kp b_law_pick .nil pass0 (pa_cons (pv 0) (pa_cons (pe_op op_add (pe_callB (call_len_seqK K rfl) (by rfl) T.m_len (by decide +kernel) (pa_cons (pv 1) pa_nil)) (pe_callTy call_int1 (by rfl) T.m_int (by decide +kernel) (pa_cons (pe_cmpR op_eq (pv 3) pe_int (nomark _)) pa_nil))) pa_nil))))
      (pss_cons (ps_if (pt_cmpR op_eq (pv 3) pe_int (nomark _)) (pss_one (ps_ret (pe_op op_cat (pe_op op_cat (pe_slice (sl_listK K rfl) (pv 1) po_none (po_some (pv 4))) (pe_lst (pa_cons (pv 2) pa_nil))) (pe_slice (sl_listK K rfl) (pv 1) (po_some (pv 4)) po_none)))) pss_nil)
      (pss_one (ps_ret (pe_op op_cat (pe_op op_cat (pe_slice (sl_listK K rfl) (pv 1) po_none (po_some (pv 4))) (pe_op op_rep (pe_lst (pa_cons (pv 2) pa_nil)) (pe_op op_sub pe_int (pv 3)))) (pe_slice (sl_listK K rfl) (pv 1) (po_some (pe_op op_add (pv 4) pe_int)) po_none))))))), ?_⟩
  have ly0 : 0 < ys.length := List.length_pos_iff.mpr ne
  refine ⟨_, rfl, f, c, 3, rfl, by decide, by decide +kernel, hF, fun tw H1 w0 w3 F1 B1 => ?_⟩
  have hl1 := B1 _ _ hl lf
  refine ⟨_, rfl, _, rfl, l, _, rfl, .inl (SqL.of hl1), _, rfl, rfl, .inr ⟨_, rfl, _, _, rfl, rfl, f, c, _, rfl, ?_, ?_, F1, fun ta H2 a0 a1 F2 B2 => ?_⟩⟩
  · rw [List.length_map]
    split <;> omega
  · rw [List.length_map]
    have h : ∀ n : Int, 0 ≤ n → n ≤ 100 → n.natAbs.log2 < 9000 := fun n _ _ => Nat.lt_of_le_of_lt (Nat.log2_le_self _) (by omega)
    refine h _ ?_ ?_ <;> (split <;> omega)
  have B12 := B1.trans B2
  have hl2 := B12 _ _ hl lf
  obtain ⟨z1, e1, l1, m1⟩ := cut_strs ys none (some ta)
  refine ⟨_, rfl, rfl, _, rfl, if_bl (fun c1 => ?_) (fun c1 => ?_)⟩
  · obtain ⟨z2, e2, l2, m2⟩ := cut_strs ys (some ta) none
    refine ⟨_, rfl, _, rfl, ta, rfl, l, _, rfl, SqL.of hl2, fun p1 n1 => ?_⟩
    rw [e1]
    have hl3 := same_new (o := .lst (z1.map V.str)) n1 _ _ hl2
    refine ⟨_, rfl, (by show 1 ≤ sizeLine; decide), fun p2 n2 => ?_⟩
    refine ⟨p1, p2, _, _, rfl, rfl, same_new n2 _ _ upd_same, upd_same, ?_, fun p3 n3 => ?_⟩
    · rw [List.length_map]; exact little (by show z1.length + 1 ≤ 1000; omega)
    have s3 : Same H2 (upd (upd (upd H2 p1 (.lst (z1.map V.str))) p2 (.lst [V.str one])) p3 (.lst (z1.map V.str ++ [V.str one]))) := fun x u e => same_new n3 _ _ (same_new n2 _ _ (same_new n1 _ _ e))
    refine ⟨_, rfl, _, rfl, ta, rfl, l, _, rfl, SqL.of (s3 _ _ hl2), fun p4 n4 => ?_⟩
    rw [e2]
    refine ⟨p3, p4, _, _, rfl, rfl, same_new n4 _ _ upd_same, upd_same, ?_, fun p5 n5 => ?_⟩
    · rw [List.length_append, List.length_map, List.length_map]; exact little (by show z1.length + 1 + z2.length ≤ 1000; omega)
    have s5 : Same H2 (upd (upd _ p4 (.lst (z2.map V.str))) p5 (.lst ((z1.map V.str ++ [V.str one]) ++ z2.map V.str))) := fun x u e => same_new n5 _ _ (same_new n4 _ _ (s3 _ _ e))
    refine q p5 (z1 ++ [one] ++ z2) _ (by rw [upd_same, List.map_append, List.map_append]; rfl) (by rw [List.length_append, List.length_append]; show z1.length + 1 + z2.length ≤ _; omega) (fun z hz => ?_) (F2.same s5) (B12.same s5)
    rcases List.mem_append.mp hz with hz | hz
    · rcases List.mem_append.mp hz with hz | hz
      · exact on z (m1 z hz)
      · rw [List.mem_singleton.mp hz]; exact o1
    · exact on z (m2 z hz)
  · obtain ⟨z2, e2, l2, m2⟩ := cut_strs ys (some (ta + 1)) none
    refine ⟨_, rfl, _, rfl, ta, rfl, l, _, rfl, SqL.of hl2, fun p1 n1 => ?_⟩
    rw [e1]
    have hl3 := same_new (o := .lst (z1.map V.str)) n1 _ _ hl2
    refine ⟨_, rfl, (by show 1 ≤ sizeLine; decide), fun p2 n2 => ?_⟩
    have rep : ∃ ws : List Str, (List.replicate (2 - tw).toNat [V.str one]).flatten = ws.map V.str ∧ ws.length ≤ 2 ∧ ∀ y ∈ ws, y = one := by
      have : (2 - tw).toNat = 0 ∨ (2 - tw).toNat = 1 ∨ (2 - tw).toNat = 2 := by omega
      rcases this with e | e | e <;> rw [e]
      · exact ⟨[], rfl, by decide, fun _ z => nomatch z⟩
      · exact ⟨[one], rfl, by show 1 ≤ 2; decide, fun y hy => List.mem_singleton.mp hy⟩
      · exact ⟨[one, one], rfl, Nat.le_refl _, fun y hy => by simpa using hy⟩
    obtain ⟨ws, ew, lw, mw⟩ := rep
    refine ⟨_, rfl, _, _, rfl, rfl, p2, _, _, rfl, rfl, upd_same, by omega, by omega, little (by show 1 * _ ≤ 1000; omega), fun p6 n6 => ?_⟩
    rw [ew]
    refine ⟨p1, p6, _, _, rfl, rfl, same_new n6 _ _ (same_new n2 _ _ upd_same), upd_same, ?_, fun p3 n3 => ?_⟩
    · rw [List.length_map, List.length_map]; exact little (by omega)
    have s3 : Same H2 (upd (upd (upd (upd H2 p1 (.lst (z1.map V.str))) p2 (.lst [V.str one])) p6 (.lst (ws.map V.str))) p3 (.lst (z1.map V.str ++ ws.map V.str))) := fun x u e => same_new n3 _ _ (same_new n6 _ _ (same_new n2 _ _ (same_new n1 _ _ e)))
    refine ⟨_, rfl, _, rfl, _, _, rfl, rfl, _, rfl, l, _, rfl, SqL.of (s3 _ _ hl2), fun p4 n4 => ?_⟩
    rw [e2]
    refine ⟨p3, p4, _, _, rfl, rfl, same_new n4 _ _ upd_same, upd_same, ?_, fun p5 n5 => ?_⟩
    · rw [List.length_append, List.length_map, List.length_map, List.length_map]; exact little (by omega)
    have s5 : Same H2 (upd (upd _ p4 (.lst (z2.map V.str))) p5 (.lst ((z1.map V.str ++ ws.map V.str) ++ z2.map V.str))) := fun x u e => same_new n5 _ _ (same_new n4 _ _ (s3 _ _ e))
    refine q p5 (z1 ++ ws ++ z2) _ (by rw [upd_same, List.map_append, List.map_append]) (by rw [List.length_append, List.length_append]; omega) (fun z hz => ?_) (F2.same s5) (B12.same s5)
    rcases List.mem_append.mp hz with hz | hz
    · rcases List.mem_append.mp hz with hz | hz
      · exact on z (m1 z hz)
      · rw [mw z hz]; exact o1
    · exact on z (m2 z hz)
/-- a text that the law draws: at most so long -/
def sp_law_text (K : PySem.W.Frag) : Sp := fun vs H Q _ => ∃ f c : Addr, vs = [.ref f] ∧ Flow H f c ∧ ∀ (a : Str) (H' : Hp), a.length ≤ 100 → Flow H' f c → But f H H' → Q (.str a) H'
theorem tens_str {k : Int} (h0 : 0 ≤ k) (h1 : k < 12) : MulOk "0" k ∧ (Txt.mul "0" k).length ≤ 12 ∧ PySem.intText? ("1" ++ Txt.mul "0" k) = some (10 ^ k.toNat) := by
  have : k = 0 ∨ k = 1 ∨ k = 2 ∨ k = 3 ∨ k = 4 ∨ k = 5 ∨ k = 6 ∨ k = 7 ∨ k = 8 ∨ k = 9 ∨ k = 10 ∨ k = 11 := by omega
  have m : ∀ {k : Int}, 0 ≤ k → k < 12 → MulOk "0" k := fun {k} a b => PyProof.Rows.mulOk_of 1 12 (by decide +kernel) (by omega) (by omega) (by decide) (by decide)
  refine ⟨m h0 h1, ?_⟩
  rcases this with rfl | rfl | rfl | rfl | rfl | rfl | rfl | rfl | rfl | rfl | rfl | rfl <;> decide +kernel
theorem minus_str {k : Int} (h0 : 0 ≤ k) (h1 : k < 2) : MulOk "-" k ∧ (Txt.mul "-" k).length ≤ 1 := by
  have : k = 0 ∨ k = 1 := by omega
  refine ⟨PyProof.Rows.mulOk_of 1 12 (by decide +kernel) (by omega) (by omega) (by decide) (by decide), ?_⟩
  rcases this with rfl | rfl <;> decide +kernel
theorem num_len {n : Int} (h0 : 0 ≤ n) (h1 : n < 10 ^ 12) : (Str.ofString (toString n)).length ≤ 12 := by
  obtain ⟨m, rfl⟩ := Int.eq_ofNat_of_zero_le h0
  have e : (Str.ofString (toString ((m : Nat) : Int))).cps.toList.length = _ := Array.length_toList
  show (Str.ofString (toString ((m : Nat) : Int))).cps.size ≤ 12
  rw [← e, str_pos]
  unfold digN
  rw [List.length_map]
  exact toDig_len 11 m (by have : ((m : Nat) : Int) < 10 ^ 12 := h1; omega)
theorem ok_law_text {f : Addr} {fd : FuncData} (F : Fun K "_law_text" "_law_text" s_law_text f fd) (T : Top K mg) : FnOk P w K mg base CX0 3 f fd ["_law_flow_here"] (sp_law_text K) := by
  obtain ⟨f_law_pick, fd_law_pick, F_law_pick, b_law_pick, m_law_pick⟩ := T.d_law_pick
  have G_law_pick := ok_law_pick (P := P) (w := w) (base := base) F_law_pick T
  obtain ⟨f_law_word, fd_law_word, F_law_word, b_law_word, m_law_word⟩ := T.d_law_word
  have G_law_word := ok_law_word (P := P) (w := w) (base := base) F_law_word T
  obtain ⟨f_law_signs, fd_law_signs, F_law_signs, b_law_signs, m_law_signs⟩ := T.d_law_signs
  have G_law_signs := ok_law_signs (P := P) (w := w) (base := base) F_law_signs T
  obtain ⟨f_law_taken, fd_law_taken, F_law_taken, b_law_taken, m_law_taken⟩ := T.d_law_taken
  have G_law_taken := ok_law_taken (P := P) (w := w) (base := base) F_law_taken T
  obtain ⟨f_law_put, fd_law_put, F_law_put, b_law_put, m_law_put⟩ := T.d_law_put
  have G_law_put := ok_law_put (P := P) (w := w) (base := base) F_law_put T
  refine F.ok sc_law_text (fun vs H Q E h => ?_) (fun cdv A outer s H vs Q E hr h => ?_)
  · obtain ⟨f, c, rfl, _⟩ := h
    rfl
  obtain ⟨f, c, rfl, hF, q⟩ := h
  let R1 : TS := fun D' σ' H' => D'.rt = Q ∧ ∃ (a : Str) (x : Option V), σ' = [some (.ref f), x, some (.str a), none, none, none] ∧ a.length ≤ 13 ∧ Flow H' f c ∧ But f H H'
  refine ⟨_, (pss_cons (ps_set (i := 1) sc_law_text.nd rfl (Or.inl rfl) (pe_call G_law_pick (hr.mono (by decide)) (by rfl) m_law_pick F_law_pick.kp b_law_pick .nil pass0 (pa_cons (pv 0) (pa_cons pe_int pa_nil))))
      (pss_cons (ps_if (pt_cmpR op_eq (pv 1) pe_int (nomark _)) (pss_one (ps_set (i := 2) sc_law_text.nd rfl (Or.inl rfl) (pe_call G_law_word (hr.mono (by decide)) (by rfl) m_law_word F_law_word.kp b_law_word .nil pass0 (pa_cons (pv 0) (pa_cons pe_int pa_nil))))) (pss_one (ps_if (pt_cmpR op_eq (pv 1) pe_int (nomark _)) (pss_one (ps_set (i := 2) sc_law_text.nd rfl (Or.inl rfl) (pe_ix (ix_listK K rfl) (pe_call0 G_law_taken (hr.mono (by decide)) (by rfl) m_law_taken F_law_taken.kp b_law_taken .nil pass0) (pe_call G_law_pick (hr.mono (by decide)) (by rfl) m_law_pick F_law_pick.kp b_law_pick .nil pass0 (pa_cons (pv 0) (pa_cons pe_int pa_nil))) (fun _ _ => rfl)))) (pss_one (ps_set (i := 2) sc_law_text.nd rfl (Or.inl rfl) (pe_op op_add_str (pe_op op_rep_str pe_str (pe_call G_law_pick (hr.mono (by decide)) (by rfl) m_law_pick F_law_pick.kp b_law_pick .nil pass0 (pa_cons (pv 0) (pa_cons pe_int pa_nil)))) (pe_callTy call_str_int (by rfl) T.m_str (by decide +kernel) (pa_cons (pe_call G_law_pick (hr.mono (by decide)) (by rfl) m_law_pick F_law_pick.kp b_law_pick .nil pass0 (pa_cons (pv 0) (pa_cons (pe_callTy call_int_str (by rfl) T.m_int (by decide +kernel) (pa_cons (pe_op op_add_str pe_str (pe_op op_rep_str pe_str (pe_op op_add pe_int (pe_call G_law_pick (hr.mono (by decide)) (by rfl) m_law_pick F_law_pick.kp b_law_pick .nil pass0 (pa_cons (pv 0) (pa_cons pe_int pa_nil)))))) pa_nil)) pa_nil))) pa_nil))))))))
      (PSs.to (pss_cons (ps_set (i := 3) sc_law_text.nd rfl (Or.inl rfl) (pe_op op_add_str (pe_call0 G_law_signs (hr.mono (by decide)) (by rfl) m_law_signs F_law_signs.kp b_law_signs .nil pass0) pe_str))
      (pss_cons (ps_for PassesOwn.never rfl (pi_range1 (by rfl) T.m_range (pa_cons (pe_ix (ix_listK K rfl) (pe_lst (pa_cons pe_int (pa_cons pe_int (pa_cons pe_int (pa_cons pe_int pa_nil))))) (pe_call G_law_pick (hr.mono (by decide)) (by rfl) m_law_pick F_law_pick.kp b_law_pick .nil pass0 (pa_cons (pv 0) (pa_cons pe_int pa_nil))) (fun _ _ => rfl)) pa_nil)) (pg_name (i := 4) sc_law_text.nd rfl (Or.inl rfl))
        (pss_one (ps_if (pt_cmpR op_ne (pv 2) pe_str (nomark _)) (pss_cons (ps_set (i := 5) sc_law_text.nd rfl (Or.inl rfl) (pe_ix (ix_listK K rfl) (pe_lst (pa_cons (pe_ix ix_str (pv 3) (pe_call G_law_pick (hr.mono (by decide)) (by rfl) m_law_pick F_law_pick.kp b_law_pick .nil pass0 (pa_cons (pv 0) (pa_cons (pe_callB call_len_str (by rfl) T.m_len (by decide +kernel) (pa_cons (pv 3) pa_nil)) pa_nil))) (fun _ _ => rfl)) (pa_cons (pe_ix ix_str pe_str (pe_call G_law_pick (hr.mono (by decide)) (by rfl) m_law_pick F_law_pick.kp b_law_pick .nil pass0 (pa_cons (pv 0) (pa_cons pe_int pa_nil))) (fun _ _ => rfl)) pa_nil))) (pe_call G_law_pick (hr.mono (by decide)) (by rfl) m_law_pick F_law_pick.kp b_law_pick .nil pass0 (pa_cons (pv 0) (pa_cons pe_int pa_nil))) (fun _ _ => rfl)))
      (pss_one (ps_set (i := 2) sc_law_text.nd rfl (Or.inl rfl) (pe_join pe_str (pe_call G_law_put (hr.mono (by decide)) (by rfl) m_law_put F_law_put.kp b_law_put .nil pass0 (pa_cons (pv 0) (pa_cons (pe_callTy (call_list_strK rfl) (by rfl) T.m_list (by decide +kernel) (pa_cons (pv 2) pa_nil)) (pa_cons (pv 5) pa_nil)))))))) pss_nil)))
      (pss_one (ps_ret (pv 2))))) R1 ?tail1))), ?_⟩
  case tail1 =>
    rintro D' σ' H1 ⟨eD, a, x, rfl, la, F1, B1⟩
    refine ⟨rfl, _, _, rfl, rfl, by decide +kernel, ?_⟩
    refine ⟨(by show 4 ≤ sizeLine; decide), fun L nL => ⟨_, rfl, f, c, 4, rfl, by decide, by decide +kernel, F1.new nL, fun v H2 v0 v1 F2 B2 => ?_⟩⟩
    have pick4 : ∃ n : Int, 0 ≤ n ∧ n ≤ 2 ∧ atI [V.int 0, V.int 0, V.int 1, V.int 2] v = some (.int n) := by
      have : v = 0 ∨ v = 1 ∨ v = 2 ∨ v = 3 := by omega
      rcases this with rfl | rfl | rfl | rfl
      · exact ⟨0, by decide, by decide, rfl⟩
      · exact ⟨0, by decide, by decide, rfl⟩
      · exact ⟨1, by decide, by decide, rfl⟩
      · exact ⟨2, by decide, by decide, rfl⟩
    obtain ⟨n, n0, n2, en⟩ := pick4
    have Lf : L ≠ f := F1.ne nL
    have B2' : But f H H2 := (B1.new nL).trans B2
    refine ⟨L, _, v, _, rfl, rfl, SqL.of (B2 _ _ upd_same Lf), en, _, rfl, by omega, by omega, for_range (lo := 0) (n := n.toNat) (fun i σ H5 => ∃ (a : Str) (x y z : Option V), σ = [some (.ref f), x, some (.str a), some (.str (sgnS ++ "\n")), y, z] ∧ a.length + 2 ≤ 15 * 2 ^ i ∧ Flow H5 f c ∧ But f H H5) ⟨a, x, _, _, rfl, by omega, F2, B2'⟩ ?_ ?_⟩
    · rintro i σ H5 hi ⟨a, x, y, z, rfl, la, F5, B5⟩
      have la28 : a.length ≤ 28 := by
        have : i = 0 ∨ i = 1 := by omega
        rcases this with rfl | rfl
        · have : a.length + 2 ≤ 15 * 1 := la
          omega
        · have : a.length + 2 ≤ 15 * 2 := la
          omega
      have ea : a.cps.toList.length = a.length := Array.length_toList
      have e0 : ("" : Str) = ⟨#[]⟩ := by decide +kernel
      refine ⟨_, rfl, rfl, _, rfl, if_bl (fun c1 => ?_) (fun c1 => ?_)⟩
      · have c1 : a ≠ "" := fun z => by
          have c1 : (!decide (V.str a = V.str "")) = true := c1
          rw [decide_eq_true (congrArg V.str z)] at c1
          cases c1
        have ne : a.cps.toList ≠ [] := fun z => c1 (str_inj (by rw [z, e0]))
        have lsg : Str.length (sgnS ++ "\n") = 95 := by decide +kernel
        refine ⟨_, rfl, _, rfl, _, rfl, _, rfl, little (by rw [lsg]; decide), f, c, _, rfl, by rw [lsg]; decide, by rw [lsg]; decide +kernel, F5, fun u H6 u0 u1 F6 B6 => ?_⟩
        obtain ⟨cc, ecc⟩ := sign_at u0 u1
        refine ⟨_, u, cc, rfl, rfl, little (by rw [lsg]; decide), ecc, _, rfl, f, c, 6, rfl, by decide, by decide +kernel, F6, fun u2 H7 p0 p1 F7 B7 => ?_⟩
        obtain ⟨c2, ec2⟩ := sign_at (z := "0-+_a1") p0 (by rw [show Str.length "0-+_a1" = 6 by decide +kernel]; exact p1)
        refine ⟨_, u2, c2, rfl, rfl, by decide +kernel, ec2, (by show 2 ≤ sizeLine; decide), fun p np => ⟨_, rfl, f, c, 2, rfl, by decide, by decide +kernel, F7.new np, fun u3 H8 r0 r1 F8 B8 => ?_⟩⟩
        have pick2 : ∃ d : Nat, atI [V.str ⟨#[cc]⟩, V.str ⟨#[c2]⟩] u3 = some (.str ⟨#[d]⟩) := by
          have : u3 = 0 ∨ u3 = 1 := by omega
          rcases this with rfl | rfl
          · exact ⟨cc, rfl⟩
          · exact ⟨c2, rfl⟩
        obtain ⟨d, ed⟩ := pick2
        refine ⟨p, _, u3, _, rfl, rfl, SqL.of (B8 _ _ upd_same (F7.ne np)), ed, ?_⟩
        refine ⟨⟨_, rfl⟩, _, rfl, _, rfl, a, rfl, little (by show a.length ≤ 1000; omega), fun l nl => ?_⟩
        have B9 : But f H H8 := ((((B5.trans B6).trans B7).new np).trans B8)
        refine ⟨_, rfl, f, c, l, ⟨#[d]⟩, a.cps.toList.map (fun c => (⟨#[c]⟩ : Str)), rfl, F8.new nl, by rw [upd_same, List.map_map]; rfl, F8.ne nl, F8.nec nl, fun z => ne (List.map_eq_nil_iff.mp z), by rw [List.length_map]; omega, ?_, Nat.le_refl 1, fun p9 zs H9 hp9 lz oz F9 B9' => ?_⟩
        · intro y hy
          obtain ⟨k, _, rfl⟩ := List.mem_map.mp hy
          exact Nat.le_refl 1
        rw [List.length_map] at lz
        refine ⟨_, p9, zs, rfl, rfl, .inl (SqL.of hp9), ones_fit oz (by omega), ?_⟩
        have lj : (Txt.join "" zs).length ≤ zs.length := by rw [join_len]; exact ones_sum oz
        exact ⟨_, _, _, _, rfl, by rw [Nat.pow_succ]; omega, F9, (B9.new nl).trans B9'⟩
      · exact ⟨a, _, _, _, rfl, by rw [Nat.pow_succ]; omega, F5, B5⟩
    · rintro σ H5 ⟨a, x, y, z, rfl, la, F5, B5⟩
      refine ⟨_, rfl, ?_⟩
      show D'.rt _ H5
      rw [eD]
      refine q _ _ ?_ F5 B5
      have : n.toNat = 0 ∨ n.toNat = 1 ∨ n.toNat = 2 := by omega
      rcases this with e | e | e <;> rw [e] at la <;> omega
  refine ⟨_, rfl, f, c, 4, rfl, by decide, by decide +kernel, hF, fun v H1 v0 v1 F1 B1 => ?_⟩
  refine ⟨_, rfl, rfl, _, rfl, if_bl (fun c1 => ?_) (fun c1 => ?_)⟩
  · exact ⟨_, rfl, f, c, rfl, F1, fun a H2 la F2 B2 => ⟨rfl, a, _, rfl, by omega, F2, B1.trans B2⟩⟩
  refine ⟨_, rfl, rfl, _, rfl, if_bl (fun c2 => ?_) (fun c2 => ?_)⟩
  · refine ⟨rfl, fun p H2 np hp s2 => ⟨_, rfl, f, c, 8, rfl, by decide, by decide +kernel, F1.same s2, fun u H3 u0 u1 F3 B3 => ?_⟩⟩
    have tk : ∃ z : Str, z.length ≤ 13 ∧ atI takL u = some (.str z) := by
      have : u = 0 ∨ u = 1 ∨ u = 2 ∨ u = 3 ∨ u = 4 ∨ u = 5 ∨ u = 6 ∨ u = 7 := by omega
      rcases this with rfl | rfl | rfl | rfl | rfl | rfl | rfl | rfl <;> exact ⟨_, by decide +kernel, rfl⟩
    obtain ⟨z, lz, ez⟩ := tk
    exact ⟨p, _, u, _, rfl, rfl, SqL.of (B3 _ _ hp (F1.ne np)), ez, rfl, z, _, rfl, lz, F3, (B1.same s2).trans B3⟩
  · refine ⟨_, rfl, f, c, 2, rfl, by decide, by decide +kernel, F1, fun u H2 u0 u1 F2 B2 => ?_⟩
    obtain ⟨mu, lu⟩ := minus_str u0 u1
    refine ⟨_, u, rfl, rfl, mu, _, rfl, _, rfl, f, c, 11, rfl, by decide, by decide +kernel, F2, fun t H3 t0 t1 F3 B3 => ?_⟩
    obtain ⟨mt, lt, rt⟩ := tens_str (k := 1 + t) (by omega) (by omega)
    have pw : (0 : Int) < 10 ^ (1 + t).toNat ∧ (10 : Int) ^ (1 + t).toNat < 10 ^ 12 := by
      have : (1 + t).toNat = 1 ∨ (1 + t).toNat = 2 ∨ (1 + t).toNat = 3 ∨ (1 + t).toNat = 4 ∨ (1 + t).toNat = 5 ∨ (1 + t).toNat = 6 ∨ (1 + t).toNat = 7 ∨ (1 + t).toNat = 8 ∨ (1 + t).toNat = 9 ∨ (1 + t).toNat = 10 ∨ (1 + t).toNat = 11 := by omega
      rcases this with e | e | e | e | e | e | e | e | e | e | e <;> rw [e] <;> decide
    obtain ⟨pw0, pw1⟩ := pw
    generalize (10 : Int) ^ (1 + t).toNat = N at rt pw0 pw1
    have lg : ∀ n : Int, 0 ≤ n → n < 10 ^ 12 → n.natAbs.log2 < 1920 := fun n h0 h1 => by
      by_cases z : n.natAbs = 0
      · rw [z]; decide
      · exact Nat.lt_of_lt_of_le ((Nat.log2_lt z).mpr (show n.natAbs < 2 ^ 40 by omega)) (by decide)
    have l1 : Str.length "1" = 1 := by decide +kernel
    have l2 : Str.length ("1" ++ Txt.mul "0" (1 + t)) = Str.length "1" + (Txt.mul "0" (1 + t)).length := Array.size_append
    refine ⟨_, _, rfl, rfl, _, _, rfl, rfl, mt, _, _, rfl, rfl, little (by omega), _, N, rfl, rt, by omega, f, c, N, rfl, pw0, Nat.lt_trans (lg N (by omega) pw1) (by decide), F3, fun n H4 n0 n1 F4 B4 => ?_⟩
    have ln := num_len n0 (by omega)
    refine ⟨n, rfl, lg n n0 (by omega), _, _, rfl, rfl, little (by omega), rfl, _, _, rfl, ?_, F4, ((B1.trans B2).trans B3).trans B4⟩
    have l3 : Str.length (Txt.mul "-" u ++ Str.ofString (toString n)) = (Txt.mul "-" u).length + (Str.ofString (toString n)).length := Array.size_append
    show Str.length (Txt.mul "-" u ++ Str.ofString (toString n)) ≤ 13
    omega
end
/-! ### the law -/
theorem num_str {n : Int} (h0 : -(10 ^ 9) < n) (h1 : n < 10 ^ 9) : numO (Str.ofString (toString n)).cps.toList = some n := by
  by_cases h : 0 ≤ n
  · obtain ⟨m, rfl⟩ := Int.eq_ofNat_of_zero_le h
    rw [show ((m : Nat) : Int) = Int.ofNat m from rfl] at h1
    have e := str_pos m
    rw [e]
    exact num_pos (by have : ((m : Nat) : Int) < 10 ^ 9 := h1; omega)
  · obtain ⟨m, em⟩ := Int.eq_ofNat_of_zero_le (show 0 ≤ -n by omega)
    obtain rfl : n = -((m : Nat) : Int) := by omega
    have e := str_neg (m := m) (by omega)
    rw [e]
    exact num_neg (by omega) (by omega)
theorem num_len2 {n : Int} (h0 : -(10 ^ 9) < n) (h1 : n < 10 ^ 9) : (Str.ofString (toString n)).length ≤ 100 := by
  by_cases h : 0 ≤ n
  · have := num_len h (by omega)
    omega
  · obtain ⟨m, em⟩ := Int.eq_ofNat_of_zero_le (show 0 ≤ -n by omega)
    obtain rfl : n = -((m : Nat) : Int) := by omega
    have e : (Str.ofString (toString (-((m : Nat) : Int)))).cps.toList.length = _ := Array.length_toList
    show (Str.ofString (toString (-((m : Nat) : Int)))).cps.size ≤ 100
    rw [← e, str_neg (by omega)]
    have := toDig_len 8 m (by omega)
    unfold digN
    rw [List.length_cons, List.length_map]
    omega
section
variable {P : Program} {w : World} {K : PySem.W.Frag} {mg : Str → Option Value} {base : Heap}
section
variable {cN cF : Addr} {PT : Addr × Addr} [TN : TabN K mg base cN PT] [TF : TabF K mg base cF PT]
include TN TF
def sp_law_right (K : PySem.W.Frag) (PT : Addr × Addr) : Sp := fun vs H Q _ => ∃ a : Str, vs = [.str a] ∧ a.length ≤ 100 ∧ Tb2 PT.1 PT.2 H ∧ ∀ H', Stays H H' → Tb2 PT.1 PT.2 H' → Q (.bl true) H'
theorem ok_law_right {f : Addr} {fd : FuncData} (F : Fun K "_law_right" "_law_right" s_law_right f fd) (T : Top K mg) : FnOk P w K mg base CX0 3 f fd ["_law_text_here"] (sp_law_right K PT) := by
  obtain ⟨f_is_name, fd_is_name, F_is_name, b_is_name, m_is_name⟩ := T.d_is_name
  have G_is_name := ok_is_name (P := P) (w := w) (base := base) F_is_name (TN.cd _ _ F_is_name m_is_name) T
  obtain ⟨f_number_of, fd_number_of, F_number_of, b_number_of, m_number_of⟩ := T.d_number_of
  have G_number_of := ok_number_of (P := P) (w := w) (base := base) F_number_of (TF.cd _ _ F_number_of m_number_of) T
  obtain ⟨f_law_number, fd_law_number, F_law_number, b_law_number, m_law_number⟩ := T.d_law_number
  have G_law_number := ok_law_number (P := P) (w := w) (base := base) F_law_number T
  obtain ⟨f_law_is_name, fd_law_is_name, F_law_is_name, b_law_is_name, m_law_is_name⟩ := T.d_law_is_name
  have G_law_is_name := ok_law_is_name (P := P) (w := w) (base := base) F_law_is_name T
  refine F.ok sc_law_right (fun vs H Q E h => ?_) (fun cdv A outer s H vs Q E hr h => ?_)
  · obtain ⟨a, rfl, _⟩ := h
    rfl
  obtain ⟨a, rfl, la, tg, q⟩ := h
  refine ⟨_, (pss_cons (ps_set (i := 1) sc_law_right.nd rfl (Or.inl rfl) (pe_call G_is_name (hr.mono (by decide)) (by rfl) m_is_name F_is_name.kp b_is_name .nil pass0 (pa_cons (pv 0) pa_nil)))
      (pss_cons (ps_if (PW.pt (pw_or (pt_not (pt_val (pe_callB (call_isiKK K rfl) (by rfl) T.m_isinstance (by decide +kernel) (pa_cons (pv 1) (pa_cons (pe_bltn (v := .ty "bool") (by rfl) T.m_bool (by decide +kernel) rfl) pa_nil))))) (pw_or1 (pt_cmpR op_ne (pv 1) (pe_call G_law_is_name (hr.mono (by decide)) (by rfl) m_law_is_name F_law_is_name.kp b_law_is_name .nil pass0 (pa_cons (pv 0) pa_nil)) (nomark _))))) (pss_one (ps_ret pe_bl)) pss_nil)
      (pss_cons (ps_set (i := 2) sc_law_right.nd rfl (Or.inl rfl) (pe_call G_number_of (hr.mono (by decide)) (by rfl) m_number_of F_number_of.kp b_number_of .nil pass0 (pa_cons (pv 0) pa_nil)))
      (pss_cons (ps_set (i := 3) sc_law_right.nd rfl (Or.inl rfl) (pe_call G_law_number (hr.mono (by decide)) (by rfl) m_law_number F_law_number.kp b_law_number .nil pass0 (pa_cons (pv 0) pa_nil)))
      (pss_cons (ps_if (pt_cmpR op_isN (pv 3) pe_non (nomark _)) (pss_one (ps_ret (pe_cmpR op_isN (pv 2) pe_non (nomark _)))) pss_nil)
      (pss_one (ps_ret (pe_and (pe_callB (call_isiKK K rfl) (by rfl) T.m_isinstance (by decide +kernel) (pa_cons (pv 2) (pa_cons (pe_bltn (v := .ty "int") (by rfl) T.m_int (by decide +kernel) rfl) pa_nil))) (pe_and (pe_not (pe_callB (call_isiKK K rfl) (by rfl) T.m_isinstance (by decide +kernel) (pa_cons (pv 2) (pa_cons (pe_bltn (v := .ty "bool") (by rfl) T.m_bool (by decide +kernel) rfl) pa_nil)))) (pe_one (pe_cmpR op_eq (pv 2) (pv 3) (nomark _)))))))))))), ?_⟩
  refine ⟨_, rfl, a, rfl, la, tg, fun H1 s1 tg1 => ?_⟩
  refine ⟨_, rfl, _, _, _, _, true, rfl, .ty "bool", .base (.bl _), kit_ty (by decide +kernel), _, rfl, if_bl (fun z => nomatch z) (fun _ => ?_)⟩
  refine ⟨_, rfl, _, rfl, a, rfl, la, fun H2 s2 => ⟨rfl, _, rfl, if_bl (fun z => ?_) (fun _ => ?_)⟩⟩
  · have z : (!decide (V.bl (nameB a) = V.bl (nameB a))) = true := z
    rw [decide_eq_true rfl] at z
    cases z
  have t2 := tg1.same s2
  refine ⟨_, rfl, a, rfl, la, t2, fun H3 s3 tg3 => ?_⟩
  refine ⟨_, rfl, a, rfl, la, fun H4 s4 => ?_⟩
  have s14 : Stays H H4 := ((s1.trans (.same s2)).trans s3).trans (.same s4)
  have q := q H4 s14 (tg3.same s4)
  cases e : numO a.cps.toList with
  | none =>
    refine ⟨_, rfl, rfl, _, rfl, if_bl (fun _ => ⟨_, rfl, rfl, ?_⟩) (fun z => (of_decide_eq_false z rfl).elim)⟩
    rw [decide_eq_true (show numV none = V.non from rfl)]
    exact q
  | some n =>
    refine ⟨_, rfl, rfl, _, rfl, if_bl (fun z => (by cases (of_decide_eq_true z))) (fun _ => ?_)⟩
    refine ⟨_, rfl, _, _, _, _, true, rfl, .ty "int", .base (.int _), kit_ty (by decide +kernel), _, rfl, if_bl (fun _ => ?_) (fun z => nomatch z)⟩
    refine ⟨_, rfl, _, _, _, _, false, rfl, .ty "bool", .base (.int _), kit_ty (by decide +kernel), _, rfl, _, rfl, if_bl (fun _ => ?_) (fun z => nomatch z)⟩
    refine ⟨_, rfl, _, rfl, rfl, ?_⟩
    rw [decide_eq_true (rfl : numV (some n) = numV (some n))]
    exact q
def sp_law (K : PySem.W.Frag) (PT : Addr × Addr) : Sp := fun vs H Q _ => ∃ (a : Addr) (ns : List Int), vs = [.ref a] ∧ SqL K H a (ns.map V.int) ∧ Tb2 PT.1 PT.2 H ∧ ∀ H', Q (.bl true) H'
theorem ok_law {f : Addr} {fd : FuncData} (F : Fun K "law" "law" s_law f fd) (T : Top K mg) : FnOk P w K mg base CX0 4 f fd ["_law_script"] (sp_law K PT) := by
  obtain ⟨f_law_flow, fd_law_flow, F_law_flow, b_law_flow, m_law_flow⟩ := T.d_law_flow
  have G_law_flow := ok_law_flow (P := P) (w := w) (base := base) F_law_flow T
  obtain ⟨f_law_pick, fd_law_pick, F_law_pick, b_law_pick, m_law_pick⟩ := T.d_law_pick
  have G_law_pick := ok_law_pick (P := P) (w := w) (base := base) F_law_pick T
  obtain ⟨f_law_text, fd_law_text, F_law_text, b_law_text, m_law_text⟩ := T.d_law_text
  have G_law_text := ok_law_text (P := P) (w := w) (base := base) F_law_text T
  obtain ⟨f_law_right, fd_law_right, F_law_right, b_law_right, m_law_right⟩ := T.d_law_right
  have G_law_right := ok_law_right (P := P) (w := w) (base := base) F_law_right T
  obtain ⟨f_number_of, fd_number_of, F_number_of, b_number_of, m_number_of⟩ := T.d_number_of
  have G_number_of := ok_number_of (P := P) (w := w) (base := base) F_number_of (TF.cd _ _ F_number_of m_number_of) T
  refine F.ok sc_law (fun vs H Q E h => ?_) (fun cdv A outer s H vs Q E hr h => ?_)
  · obtain ⟨a, ns, rfl, _⟩ := h
    rfl
  obtain ⟨a, ns, rfl, ha, tg, q⟩ := h
  refine ⟨_, (pss_cons (ps_set (i := 1) sc_law.nd rfl (Or.inr rfl) (pe_call G_law_flow (hr.mono (by decide)) (by rfl) m_law_flow F_law_flow.kp b_law_flow .nil pass0 (pa_cons (pv 0) pa_nil)))
      (pss_cons (ps_set (i := 2) sc_law.nd rfl (Or.inl rfl) (pe_op op_cat (pe_lc (own := [("_law_k", 3)]) (g := gName 3) (tt := tYes) (by rfl) sc_law.nd (pi_range1 (by rfl) T.m_range (pa_cons pe_int pa_nil)) (blkOk_by (own := [("_law_k", 3)]) (N := N_law) (sc := defScope s_law) (by decide +kernel)) (fun _ _ _ _ _ => (pg_name (i := 3) sc_law.nd rfl (Or.inl rfl))) (fun _ _ _ _ _ => pts_nil) (fun _ _ _ _ _ => (pe_call G_law_text (hr.mono (by decide)) (by rfl) m_law_text F_law_text.kp b_law_text .nil pass0 (pa_cons (pv 1) pa_nil)))) (pe_lst (pa_cons pe_str (pa_cons pe_str pa_nil)))))
      (pss_cons (ps_for PassesOwn.never rfl (pi_listK K rfl (pe_op op_cat (pv 2) (pe_revLK K rfl (pv 2)))) (pg_name (i := 4) sc_law.nd rfl (Or.inl rfl))
        (pss_one (ps_if (pt_not (pt_val (pe_call G_law_right (hr.mono (by decide)) (by rfl) m_law_right F_law_right.kp b_law_right .nil pass0 (pa_cons (pv 4) pa_nil)))) (pss_one (ps_ret pe_bl)) pss_nil)))
      (pss_cons (ps_for PassesOwn.never rfl (pi_range1 (by rfl) T.m_range (pa_cons pe_int pa_nil)) (pg_name (i := 3) sc_law.nd rfl (Or.inl rfl))
        (pss_cons (ps_set (i := 5) sc_law.nd rfl (Or.inl rfl) (pe_call G_law_pick (hr.mono (by decide)) (by rfl) m_law_pick F_law_pick.kp b_law_pick .nil pass0 (pa_cons (pv 1) (pa_cons (pe_callTy call_int_str (by rfl) T.m_int (by decide +kernel) (pa_cons (pe_op op_add_str pe_str (pe_op op_rep_str pe_str (pe_op op_add pe_int (pe_call G_law_pick (hr.mono (by decide)) (by rfl) m_law_pick F_law_pick.kp b_law_pick .nil pass0 (pa_cons (pv 1) (pa_cons pe_int pa_nil)))))) pa_nil)) pa_nil))))
      (pss_one (ps_if (PW.pt (pw_or (pt_cmpR op_ne (pe_call G_number_of (hr.mono (by decide)) (by rfl) m_number_of F_number_of.kp b_number_of .nil pass0 (pa_cons (pe_callTy call_str_int (by rfl) T.m_str (by decide +kernel) (pa_cons (pv 5) pa_nil)) pa_nil)) (pv 5) (nomark _)) (pw_or1 (pt_cmpR op_ne (pe_call G_number_of (hr.mono (by decide)) (by rfl) m_number_of F_number_of.kp b_number_of .nil pass0 (pa_cons (pe_callTy call_str_int (by rfl) T.m_str (by decide +kernel) (pa_cons (pe_op op_sub pe_int (pv 5)) pa_nil)) pa_nil)) (pe_op op_sub pe_int (pv 5)) (nomark _))))) (pss_one (ps_ret pe_bl)) pss_nil))))
      (pss_one (ps_ret pe_bl)))))), ?_⟩
  refine ⟨_, rfl, a, ns, rfl, ha, fun f c H1 nf nc F1 s1 => ?_⟩
  have tg1 := tg.same s1
  refine ⟨_, rfl, by decide, by decide, fun D nD => lc_range (lo := 0) (n := 12) (fun i H5 => ∃ ys : List Str, H5 D = some (.lst (ys.map V.str)) ∧ ys.length = i ∧ (∀ y ∈ ys, y.length ≤ 100) ∧ Flow H5 f c ∧ But f H1 H5) ⟨[], upd_same, rfl, (fun _ z => nomatch z), F1.new nD, But.refl.new nD⟩ ?_ ?_⟩
  · rintro i H5 hi ⟨ys, hD, ly, on, F5, B5⟩
    have Df := F1.ne nD
    have Dc := F1.nec nD
    refine ⟨rfl, yes_in ⟨_, rfl, f, c, rfl, F5, fun z H6 lz F6 B6 => ⟨_, B6 _ _ hD Df, ?_, ys ++ [z], ?_, ?_, ?_, F6.lst Df Dc, (B5.trans B6).own nD⟩⟩⟩
    · rw [List.length_map, ly]; exact small1000 (by omega)
    · rw [upd_same, List.map_append]; rfl
    · rw [List.length_append, ly]; rfl
    · intro y hy
      rcases List.mem_append.mp hy with hy | hy
      · exact on y hy
      · rw [List.mem_singleton.mp hy]; exact lz
  rintro H5 ⟨ys, hD, ly, on, F5, B5⟩
  refine ⟨(by show 2 ≤ sizeLine; decide), fun L nL => ⟨D, L, _, _, rfl, rfl, same_new nL _ _ hD, upd_same, ?_, fun p np => ?_⟩⟩
  · rw [List.length_map, ly]; exact little (by decide)
  have tg5 := tg1.but F1 B5
  have tgp := (tg5.same (same_new (o := .lst [V.str "", V.str "-"]) nL)).same (same_new (o := .lst (ys.map V.str ++ [V.str "", V.str "-"])) np)
  have Fp := (F5.new (o := .lst [V.str "", V.str "-"]) nL).new (o := .lst (ys.map V.str ++ [V.str "", V.str "-"])) np
  have hp : (upd (upd H5 L (.lst [V.str "", V.str "-"])) p (.lst (ys.map V.str ++ [V.str "", V.str "-"]))) p = some (.lst (ys.map V.str ++ [V.str "", V.str "-"])) := upd_same
  have ex : ys.map V.str ++ [V.str "", V.str "-"] = (ys ++ [("" : Str), ("-" : Str)]).map V.str := by rw [List.map_append]; rfl
  have all100 : ∀ y ∈ ys ++ [("" : Str), ("-" : Str)], y.length ≤ 100 := fun y hy => by
    rcases List.mem_append.mp hy with hy | hy
    · exact on y hy
    · rcases List.mem_cons.mp hy with rfl | hy
      · decide +kernel
      · rw [List.mem_singleton.mp hy]; decide +kernel
  rw [ex] at Fp tgp hp ⊢
  generalize (upd (upd H5 L (.lst [V.str "", V.str "-"])) p (.lst ((ys ++ [("" : Str), ("-" : Str)]).map V.str))) = H6 at Fp tgp hp ⊢
  have l14 : (ys ++ [("" : Str), ("-" : Str)]).length = 14 := by rw [List.length_append, ly]; rfl
  generalize ys ++ [("" : Str), ("-" : Str)] = ts at hp all100 l14
  refine ⟨_, rfl, _, rfl, p, _, rfl, SqL.of hp, fun r nr => ?_⟩
  refine ⟨p, r, _, _, rfl, rfl, same_new nr _ _ hp, upd_same, ?_, fun t nt => ?_⟩
  · rw [List.length_reverse, List.length_map, l14]; exact little (by decide)
  have ex2 : ts.map V.str ++ (ts.map V.str).reverse = (ts ++ ts.reverse).map V.str := by rw [List.map_append, List.map_reverse]
  have all2 : ∀ y ∈ ts ++ ts.reverse, y.length ≤ 100 := fun y hy => by
    rcases List.mem_append.mp hy with hy | hy
    · exact all100 y hy
    · exact all100 y (List.mem_reverse.mp hy)
  have tgt := (tgp.same (same_new (o := .lst (ts.map V.str).reverse) nr)).same (same_new (o := .lst (ts.map V.str ++ (ts.map V.str).reverse)) nt)
  have Ft := (Fp.new (o := .lst (ts.map V.str).reverse) nr).new (o := .lst (ts.map V.str ++ (ts.map V.str).reverse)) nt
  rw [ex2] at Ft tgt ⊢
  refine ⟨t, rfl, ⟨_, SqL.of upd_same⟩, for_list (K := K) (a := t) (xs := (ts ++ ts.reverse).map V.str) (fun i σ H7 => ∃ x : Option V, σ = [some (.ref a), some (.ref f), some (.ref p), none, x, none] ∧ H7 t = some (.lst ((ts ++ ts.reverse).map V.str)) ∧ Flow H7 f c ∧ Tb2 PT.1 PT.2 H7) ⟨_, rfl, upd_same, Ft, tgt⟩ (fun i σ H7 _ ⟨_, _, h, _⟩ => SqL.of h) ?_ ?_⟩
  · rintro i v σ H7 hx ⟨x, rfl, ht, F7, tg7⟩
    obtain ⟨y, hy, rfl⟩ : ∃ y, (ts ++ ts.reverse)[i]? = some y ∧ v = .str y := by
      rw [List.getElem?_map] at hx
      cases hz : (ts ++ ts.reverse)[i]? with
      | none => rw [hz] at hx; cases hx
      | some y => rw [hz] at hx; exact ⟨y, rfl, (Option.some.inj hx).symm⟩
    refine ⟨_, rfl, y, rfl, all2 y (List.mem_of_getElem? hy), tg7, fun H8 s8 tg8 => ⟨true, rfl, ?_⟩⟩
    exact ⟨_, rfl, s8 _ _ ht (fun _ z => by cases z), F7.stays s8, tg8⟩
  rintro σ H7 ⟨x, rfl, ht, F7, tg7⟩
  refine ⟨_, rfl, by decide, by decide, for_range (lo := 0) (n := 4) (fun i σ H8 => ∃ x y z : Option V, σ = [some (.ref a), some (.ref f), some (.ref p), y, x, z] ∧ Flow H8 f c ∧ Tb2 PT.1 PT.2 H8) ⟨_, _, _, rfl, F7, tg7⟩ ?_ ?_⟩
  · rintro i σ H8 hi ⟨x, y, z, rfl, F8, tg8⟩
    refine ⟨_, rfl, _, rfl, f, c, 9, rfl, by decide, by decide +kernel, F8, fun t H9 t0 t1 F9 B9 => ?_⟩
    obtain ⟨mt, lt, rt⟩ := tens_str (k := 1 + t) (by omega) (by omega)
    have pw : (0 : Int) < 10 ^ (1 + t).toNat ∧ (10 : Int) ^ (1 + t).toNat ≤ 10 ^ 9 := by
      have : (1 + t).toNat = 1 ∨ (1 + t).toNat = 2 ∨ (1 + t).toNat = 3 ∨ (1 + t).toNat = 4 ∨ (1 + t).toNat = 5 ∨ (1 + t).toNat = 6 ∨ (1 + t).toNat = 7 ∨ (1 + t).toNat = 8 ∨ (1 + t).toNat = 9 := by omega
      rcases this with e | e | e | e | e | e | e | e | e <;> rw [e] <;> decide
    obtain ⟨pw0, pw1⟩ := pw
    generalize (10 : Int) ^ (1 + t).toNat = N at rt pw0 pw1
    have lg : ∀ n : Int, -(10 ^ 12) < n → n < 10 ^ 12 → n.natAbs.log2 < 1920 := fun n h0 h1 => by
      by_cases z : n.natAbs = 0
      · rw [z]; decide
      · exact Nat.lt_of_lt_of_le ((Nat.log2_lt z).mpr (show n.natAbs < 2 ^ 40 by omega)) (by decide)
    have l1 : Str.length "1" = 1 := by decide +kernel
    have l2 : Str.length ("1" ++ Txt.mul "0" (1 + t)) = Str.length "1" + (Txt.mul "0" (1 + t)).length := Array.size_append
    refine ⟨_, _, rfl, rfl, _, _, rfl, rfl, mt, _, _, rfl, rfl, little (by omega), _, N, rfl, rt, by omega, f, c, N, rfl, pw0, Nat.lt_trans (lg N (by omega) (by omega)) (by decide), F9, fun n H10 n0 n1 F10 B10 => ?_⟩
    have tg10 := (tg8.but F8 B9).but F9 B10
    refine ⟨_, rfl, n, rfl, lg n (by omega) (by omega), _, rfl, num_len2 (by omega) (by omega), tg10, fun H11 s11 tg11 => ?_⟩
    rw [num_str (by omega) (by omega)]
    refine ⟨_, rfl, rfl, _, rfl, if_bl (fun z => ?_) (fun _ => ?_)⟩
    · have z : (!decide (V.int n = V.int n)) = true := z
      rw [decide_eq_true rfl] at z
      cases z
    refine ⟨_, rfl, _, _, rfl, rfl, _, rfl, lg _ (by omega) (by omega), _, rfl, num_len2 (by omega) (by omega), tg11, fun H12 s12 tg12 => ?_⟩
    rw [num_str (by omega) (by omega)]
    refine ⟨_, rfl, _, _, rfl, rfl, rfl, _, rfl, if_bl (fun z => ?_) (fun _ => ?_)⟩
    · have z : (!decide (V.int (0 - n) = V.int (0 - n))) = true := z
      rw [decide_eq_true rfl] at z
      cases z
    exact ⟨_, _, _, rfl, (F10.stays s11).stays s12, tg12⟩
  · rintro σ H8 ⟨x, y, z, rfl, F8, tg8⟩
    exact q H8
end
end
theorem fun_of_D {K : PySem.W.Frag} {x q : Str} {st : Stmt} {f : Addr} {fd : FuncData} (D : FunD K x q (defArgs st) (defBody st) (defScope st) [] [] f fd) : Fun K x q st f fd := by
  obtain ⟨⟨oc, od, dV, kV, doc, pm, an, cdv, ct, osl, e, lk, ci, dfl, _⟩, kp⟩ := D
  have z : dV = .none := by
    rcases dfl with ⟨_, h⟩ | ⟨h, _⟩
    · exact h
    · exact absurd rfl h
  subst z
  exact ⟨⟨oc, od, kV, doc, pm, an, cdv, ct, osl, e, lk, ci⟩, kp⟩
def hd_is_name : He.DefD := ⟨("is_name", none), "is_name", "is_name", defArgs s_is_name, defBody s_is_name, defScope s_is_name, [], []⟩
def hd_number_of : He.DefD := ⟨("number_of", none), "number_of", "number_of", defArgs s_number_of, defBody s_number_of, defScope s_number_of, [], []⟩
def hd_law_flow : He.DefD := ⟨("_law_flow", none), "_law_flow", "_law_flow", defArgs s_law_flow, defBody s_law_flow, defScope s_law_flow, [], []⟩
def hd_law_pick : He.DefD := ⟨("_law_pick", none), "_law_pick", "_law_pick", defArgs s_law_pick, defBody s_law_pick, defScope s_law_pick, [], []⟩
def hd_law_signs : He.DefD := ⟨("_law_signs", none), "_law_signs", "_law_signs", defArgs s_law_signs, defBody s_law_signs, defScope s_law_signs, [], []⟩
def hd_law_word : He.DefD := ⟨("_law_word", none), "_law_word", "_law_word", defArgs s_law_word, defBody s_law_word, defScope s_law_word, [], []⟩
def hd_law_taken : He.DefD := ⟨("_law_taken", none), "_law_taken", "_law_taken", defArgs s_law_taken, defBody s_law_taken, defScope s_law_taken, [], []⟩
def hd_law_is_name : He.DefD := ⟨("_law_is_name", none), "_law_is_name", "_law_is_name", defArgs s_law_is_name, defBody s_law_is_name, defScope s_law_is_name, [], []⟩
def hd_law_number : He.DefD := ⟨("_law_number", none), "_law_number", "_law_number", defArgs s_law_number, defBody s_law_number, defScope s_law_number, [], []⟩
def hd_law_put : He.DefD := ⟨("_law_put", none), "_law_put", "_law_put", defArgs s_law_put, defBody s_law_put, defScope s_law_put, [], []⟩
def hd_law_text : He.DefD := ⟨("_law_text", none), "_law_text", "_law_text", defArgs s_law_text, defBody s_law_text, defScope s_law_text, [], []⟩
def hd_law_right : He.DefD := ⟨("_law_right", none), "_law_right", "_law_right", defArgs s_law_right, defBody s_law_right, defScope s_law_right, [], []⟩
def hd_law : He.DefD := ⟨("law", none), "law", "law", defArgs s_law, defBody s_law, defScope s_law, [], []⟩
def hFn : List He.DefD := [hd_is_name, hd_number_of, hd_law_flow, hd_law_pick, hd_law_signs, hd_law_word, hd_law_taken, hd_law_is_name, hd_law_number, hd_law_put, hd_law_text, hd_law_right, hd_law]
def hFa : List He.Fa := [.glo "is_name", .glo "number_of", .glo "_law_flow", .glo "_law_pick", .glo "_law_signs", .glo "_law_word", .glo "_law_taken", .glo "_law_is_name", .glo "_law_number", .glo "_law_put", .glo "_law_text", .glo "_law_right", .glo "law", .free "all", .free "bool", .free "int", .free "isinstance", .free "len", .free "list", .free "range", .free "str", .glo "TAKEN", .int "LONGEST_NAME" 6, .int "MOST_FIGURES" 9, .str "LETTERS" letS, .str "FIGURES" figS]
def hEx (K : PySem.W.Frag) : Bool := He.tupB K "TAKEN" [.str "in", .str "out", .str "was", .str "if", .str "then", .str "else", .str "most", .str "least"]
def hTf : List (Str × Option Str) := [("is_name", none), ("number_of", none)]
abbrev hR : PySem.W.OpenRow := PySem.W.OpenLaw.row PySem.Challenge.rw_beltshift_k02_names_and_numbers
abbrev hk : PySem.W.Hook := He.hookX 4 hFa hFn [] hTf hEx
def hOb (s : PySem.W.SharedT) : He.AlX := He.obsX 4 hFa hFn [] hTf hEx (HandSHeadRun.getT s)
theorem hOb_eq (s : PySem.W.SharedT) : hOb s = hk.obs s.abs := He.obsX_eq (HandSHeadRun.getT_eq s)
def hN0 : List Str := ["LETTERS", "FIGURES", "TAKEN", "LONGEST_NAME", "MOST_FIGURES", "is_name", "number_of", "_law_flow", "_law_pick", "_law_signs", "_law_word", "_law_taken", "_law_is_name", "_law_number", "_law_put", "_law_text", "_law_right"]
def hNames : List Str := hN0
set_option maxHeartbeats 0 in
theorem hRun (w : World) : HandSHeadRun.RunEq hR (PySem.W.view hR.prog [19]) hk hOb 40000 hNames w := by
  intro os
  kernel_rfl
set_option maxHeartbeats 0 in
theorem all_mkX {w : World} {K : PySem.W.Frag} {h : Heap} {mg : Str → Option Value} {fa : Addr} (X : K.In h) (G : h.Ns mainGlobals mg) (hfa : mg "law" = some (.ref fa)) (c : He.SaysX hFa hFn [] hTf hEx w h K) : LamX.LawAtS PySem.Challenge.rw_beltshift_k02_names_and_numbers w K CX0 4 63 "_law_script" mg fa h := by
  have cd := c.t.d
  obtain ⟨fd0, D0⟩ := cd.def_ 0 (d := hd_is_name) rfl
  have F0 : Fun K "is_name" "is_name" s_is_name (He.ga K "is_name") fd0 := fun_of_D D0
  have g0 : mg "is_name" = some (.ref (He.ga K "is_name")) := He.glo_ok X G (cd.fact 0 (f := .glo "is_name") rfl)
  have b0 := F0.binds (ps := ["text"]) fun _ _ _ _ _ _ us hl => match us, hl with | [_], _ => rfl
  obtain ⟨fd1, D1⟩ := cd.def_ 1 (d := hd_number_of) rfl
  have F1 : Fun K "number_of" "number_of" s_number_of (He.ga K "number_of") fd1 := fun_of_D D1
  have g1 : mg "number_of" = some (.ref (He.ga K "number_of")) := He.glo_ok X G (cd.fact 1 (f := .glo "number_of") rfl)
  have b1 := F1.binds (ps := ["text"]) fun _ _ _ _ _ _ us hl => match us, hl with | [_], _ => rfl
  obtain ⟨fd2, D2⟩ := cd.def_ 2 (d := hd_law_flow) rfl
  have F2 : Fun K "_law_flow" "_law_flow" s_law_flow (He.ga K "_law_flow") fd2 := fun_of_D D2
  have g2 : mg "_law_flow" = some (.ref (He.ga K "_law_flow")) := He.glo_ok X G (cd.fact 2 (f := .glo "_law_flow") rfl)
  have b2 := F2.binds (ps := ["_law_script"]) fun _ _ _ _ _ _ us hl => match us, hl with | [_], _ => rfl
  obtain ⟨fd3, D3⟩ := cd.def_ 3 (d := hd_law_pick) rfl
  have F3 : Fun K "_law_pick" "_law_pick" s_law_pick (He.ga K "_law_pick") fd3 := fun_of_D D3
  have g3 : mg "_law_pick" = some (.ref (He.ga K "_law_pick")) := He.glo_ok X G (cd.fact 3 (f := .glo "_law_pick") rfl)
  have b3 := F3.binds (ps := ["_law_flow_here", "_law_many"]) fun _ _ _ _ _ _ us hl => match us, hl with | [_, _], _ => rfl
  obtain ⟨fd4, D4⟩ := cd.def_ 4 (d := hd_law_signs) rfl
  have F4 : Fun K "_law_signs" "_law_signs" s_law_signs (He.ga K "_law_signs") fd4 := fun_of_D D4
  have g4 : mg "_law_signs" = some (.ref (He.ga K "_law_signs")) := He.glo_ok X G (cd.fact 4 (f := .glo "_law_signs") rfl)
  have b4 := F4.binds (ps := []) fun _ _ _ _ _ _ us hl => match us, hl with | [], _ => rfl
  obtain ⟨fd5, D5⟩ := cd.def_ 5 (d := hd_law_word) rfl
  have F5 : Fun K "_law_word" "_law_word" s_law_word (He.ga K "_law_word") fd5 := fun_of_D D5
  have g5 : mg "_law_word" = some (.ref (He.ga K "_law_word")) := He.glo_ok X G (cd.fact 5 (f := .glo "_law_word") rfl)
  have b5 := F5.binds (ps := ["_law_flow_here", "_law_most"]) fun _ _ _ _ _ _ us hl => match us, hl with | [_, _], _ => rfl
  obtain ⟨fd6, D6⟩ := cd.def_ 6 (d := hd_law_taken) rfl
  have F6 : Fun K "_law_taken" "_law_taken" s_law_taken (He.ga K "_law_taken") fd6 := fun_of_D D6
  have g6 : mg "_law_taken" = some (.ref (He.ga K "_law_taken")) := He.glo_ok X G (cd.fact 6 (f := .glo "_law_taken") rfl)
  have b6 := F6.binds (ps := []) fun _ _ _ _ _ _ us hl => match us, hl with | [], _ => rfl
  obtain ⟨fd7, D7⟩ := cd.def_ 7 (d := hd_law_is_name) rfl
  have F7 : Fun K "_law_is_name" "_law_is_name" s_law_is_name (He.ga K "_law_is_name") fd7 := fun_of_D D7
  have g7 : mg "_law_is_name" = some (.ref (He.ga K "_law_is_name")) := He.glo_ok X G (cd.fact 7 (f := .glo "_law_is_name") rfl)
  have b7 := F7.binds (ps := ["_law_text_here"]) fun _ _ _ _ _ _ us hl => match us, hl with | [_], _ => rfl
  obtain ⟨fd8, D8⟩ := cd.def_ 8 (d := hd_law_number) rfl
  have F8 : Fun K "_law_number" "_law_number" s_law_number (He.ga K "_law_number") fd8 := fun_of_D D8
  have g8 : mg "_law_number" = some (.ref (He.ga K "_law_number")) := He.glo_ok X G (cd.fact 8 (f := .glo "_law_number") rfl)
  have b8 := F8.binds (ps := ["_law_text_here"]) fun _ _ _ _ _ _ us hl => match us, hl with | [_], _ => rfl
  obtain ⟨fd9, D9⟩ := cd.def_ 9 (d := hd_law_put) rfl
  have F9 : Fun K "_law_put" "_law_put" s_law_put (He.ga K "_law_put") fd9 := fun_of_D D9
  have g9 : mg "_law_put" = some (.ref (He.ga K "_law_put")) := He.glo_ok X G (cd.fact 9 (f := .glo "_law_put") rfl)
  have b9 := F9.binds (ps := ["_law_flow_here", "_law_some", "_law_one"]) fun _ _ _ _ _ _ us hl => match us, hl with | [_, _, _], _ => rfl
  obtain ⟨fd10, D10⟩ := cd.def_ 10 (d := hd_law_text) rfl
  have F10 : Fun K "_law_text" "_law_text" s_law_text (He.ga K "_law_text") fd10 := fun_of_D D10
  have g10 : mg "_law_text" = some (.ref (He.ga K "_law_text")) := He.glo_ok X G (cd.fact 10 (f := .glo "_law_text") rfl)
  have b10 := F10.binds (ps := ["_law_flow_here"]) fun _ _ _ _ _ _ us hl => match us, hl with | [_], _ => rfl
  obtain ⟨fd11, D11⟩ := cd.def_ 11 (d := hd_law_right) rfl
  have F11 : Fun K "_law_right" "_law_right" s_law_right (He.ga K "_law_right") fd11 := fun_of_D D11
  have g11 : mg "_law_right" = some (.ref (He.ga K "_law_right")) := He.glo_ok X G (cd.fact 11 (f := .glo "_law_right") rfl)
  have b11 := F11.binds (ps := ["_law_text_here"]) fun _ _ _ _ _ _ us hl => match us, hl with | [_], _ => rfl
  obtain ⟨fd12, D12⟩ := cd.def_ 12 (d := hd_law) rfl
  have F12 : Fun K "law" "law" s_law (He.ga K "law") fd12 := fun_of_D D12
  have g12 : mg "law" = some (.ref (He.ga K "law")) := He.glo_ok X G (cd.fact 12 (f := .glo "law") rfl)
  have ex := c.more
  unfold hEx at ex
  have ex0 := ex
  have T : Top K mg := ⟨⟨_, fd0, F0, b0, g0⟩, ⟨_, fd1, F1, b1, g1⟩, ⟨_, fd2, F2, b2, g2⟩, ⟨_, fd3, F3, b3, g3⟩, ⟨_, fd4, F4, b4, g4⟩, ⟨_, fd5, F5, b5, g5⟩, ⟨_, fd6, F6, b6, g6⟩, ⟨_, fd7, F7, b7, g7⟩, ⟨_, fd8, F8, b8, g8⟩, ⟨_, fd9, F9, b9, g9⟩, ⟨_, fd10, F10, b10, g10⟩, ⟨_, fd11, F11, b11, g11⟩, He.free_ok X G (cd.fact 13 (f := .free "all") rfl), He.free_ok X G (cd.fact 14 (f := .free "bool") rfl), He.free_ok X G (cd.fact 15 (f := .free "int") rfl), He.free_ok X G (cd.fact 16 (f := .free "isinstance") rfl), He.free_ok X G (cd.fact 17 (f := .free "len") rfl), He.free_ok X G (cd.fact 18 (f := .free "list") rfl), He.free_ok X G (cd.fact 19 (f := .free "range") rfl), He.free_ok X G (cd.fact 20 (f := .free "str") rfl), ⟨_, He.glo_ok X G (cd.fact 21 (f := .glo "TAKEN") rfl), fun H => He.tupB_ok ex0 H⟩, He.int_ok X G (cd.fact 22 (f := .int "LONGEST_NAME" 6) rfl), He.int_ok X G (cd.fact 23 (f := .int "MOST_FIGURES" 9) rfl), He.str_ok X G (cd.fact 24 (f := .str "LETTERS" letS) rfl), He.str_ok X G (cd.fact 25 (f := .str "FIGURES" figS) rfl)⟩
  have e := hfa.symm.trans g12
  cases e
  have law_b : ∀ (s : Shared) (v : Value), BindsTo s fd12 ⟨[v], []⟩ [("_law_script", v)] := fun s v => by
    obtain ⟨_, _, _, _, _, _, _, _, _, rfl, _, _⟩ := F12.ex
    exact .of_eq rfl
  refine ⟨fd12, [He.cT K ("is_name", none), He.cT K ("number_of", none)], sp_law K ((He.cT K ("is_name", none)).2, (He.cT K ("number_of", none)).2), fun p hp => ?_, fun p hp => ?_, fun p hp => ?_, law_b, fun H a ns hl _ hT hS => ⟨a, ns, rfl, hS, ⟨⟨#[], hT (He.cT K ("is_name", none)) (List.mem_cons_self ..), trivial⟩, ⟨#[], hT (He.cT K ("number_of", none)) (List.mem_cons_of_mem _ (List.mem_cons_self ..)), trivial⟩⟩, fun _ => rfl⟩, fun base _ _ TB => ?_⟩
  · have hin : ∀ p ∈ [He.cT K ("is_name", none), He.cT K ("number_of", none)], ∃ q ∈ hTf, p = He.cT K q := fun p hp => by
      rcases List.mem_cons.mp hp with rfl | hp
      · exact ⟨_, List.mem_cons_self .., rfl⟩
      rcases List.mem_cons.mp hp with rfl | hp
      · exact ⟨_, (List.mem_cons_of_mem _ (List.mem_cons_self ..)), rfl⟩
      cases hp
    obtain ⟨q, hq, rfl⟩ := hin p hp
    exact c.empty _ hq
  · have hin : ∀ p ∈ [He.cT K ("is_name", none), He.cT K ("number_of", none)], ∃ q ∈ hTf, p = He.cT K q := fun p hp => by
      rcases List.mem_cons.mp hp with rfl | hp
      · exact ⟨_, List.mem_cons_self .., rfl⟩
      rcases List.mem_cons.mp hp with rfl | hp
      · exact ⟨_, (List.mem_cons_of_mem _ (List.mem_cons_self ..)), rfl⟩
      cases hp
    obtain ⟨q, hq, rfl⟩ := hin p hp
    exact c.out _ hq
  · have hin : ∀ p ∈ [He.cT K ("is_name", none), He.cT K ("number_of", none)], ∃ q ∈ hTf, p = He.cT K q := fun p hp => by
      rcases List.mem_cons.mp hp with rfl | hp
      · exact ⟨_, List.mem_cons_self .., rfl⟩
      rcases List.mem_cons.mp hp with rfl | hp
      · exact ⟨_, (List.mem_cons_of_mem _ (List.mem_cons_self ..)), rfl⟩
      cases hp
    obtain ⟨q, hq, rfl⟩ := hin p hp
    exact PySem.W.codeHd_of_K X (c.hd _ hq)
  have TB0 := TB _ (List.mem_cons_self ..)
  have TC0 : GxR.TabB base mg (He.codeOf K ("is_name", none)) (He.tabOf K (He.codeOf K ("is_name", none))) := ⟨TB0.code, TB0.bm, TB0.gP⟩
  haveI : TabN K mg base _ ((He.cT K ("is_name", none)).2, (He.cT K ("number_of", none)).2) := ⟨TC0, fun f fd F m => by
    have e := m.symm.trans g0
    cases e
    obtain ⟨_, _, _, _, _, _, cdv, _, _, rfl, lk, ci⟩ := F.ex
    obtain ⟨c0, rfl⟩ := He.codeIn_ref ci
    exact congrArg Value.ref (He.codeOf_eq (p := ("is_name", none)) lk rfl).symm⟩
  have TB1 := TB _ (List.mem_cons_of_mem _ (List.mem_cons_self ..))
  have TC1 : GxR.TabB base mg (He.codeOf K ("number_of", none)) (He.tabOf K (He.codeOf K ("number_of", none))) := ⟨TB1.code, TB1.bm, TB1.gP⟩
  haveI : TabF K mg base _ ((He.cT K ("is_name", none)).2, (He.cT K ("number_of", none)).2) := ⟨TC1, fun f fd F m => by
    have e := m.symm.trans g1
    cases e
    obtain ⟨_, _, _, _, _, _, cdv, _, _, rfl, lk, ci⟩ := F.ex
    obtain ⟨c0, rfl⟩ := He.codeIn_ref ci
    exact congrArg Value.ref (He.codeOf_eq (p := ("number_of", none)) lk rfl).symm⟩
  exact ok_law F12 T
end Mine
open PySem PySem.W PySem.Calls PyProof.Rows
set_option maxRecDepth 100000 in
set_option maxHeartbeats 0 in
theorem PySem.Challenge.cw_beltshift_k02_names_and_numbers_holds : PySem.Challenge.rw_beltshift_k02_names_and_numbers.Holds := by
  w_on; o_law
  refine HandSHeadRun.head_any (r := Mine.hR) (q := view Mine.hR.prog [19]) (H := Mine.hk) (ob := Mine.hOb) (M := 40000) (loose := Mine.hNames) (d := HandSHeadRun.topDef Mine.hR.prog 19) (kwd := []) Mine.hOb_eq (by kernel_rfl) (fun s => by kernel_rfl) Mine.hRun (by kernel_rfl) (by kernel_rfl) (by kernel_rfl) (by rfl) (by first | assumption | decide +kernel) (by decide +kernel) ⟨rfl, rfl, rfl, rfl, rfl, by decide +kernel⟩ ?hw ?hc
  case hw => w_witness2
  case hc =>
    refine LamX.walk_ofTsE (l := PySem.Challenge.rw_beltshift_k02_names_and_numbers) (n := 63) (k := 4) (x := "_law_script") (CX := fun _ => L2.CX0) rfl (by decide) (by kernel_rfl) ⟨rfl, by decide, by decide⟩ ?F (fun _ _ _ _ _ z => z)
    intro w mg fa h Y G hmg0
    obtain ⟨K, KX, c⟩ := Y
    have hmg : mg ("law" : PySem.Str) = some (.ref fa) := by
      have e : (HandSHeadRun.topDef Mine.hR.prog 19).name = ("law" : PySem.Str) := by kernel_rfl
      rw [← e]
      exact hmg0
    exact ⟨K, KX, Mine.all_mkX KX G hmg c⟩
