import PyProof.Rows.All
import Wide.All
import OpenK.AllK
import Wide.FinOn
import HandS.ForMost
import HandS.Wide
import HandS.Style
import HandS.IsInst
import HandS.TupAny
import HandS.NoneIn
import HandS.SetFor
import HandS.More
import PyProof.ListStr
import PyProof.CallFns
import HandS.Conv
import PyProof.ReprRoads
import PySem.Challenge.RW_beltshift_k03_rules_looked_at
set_option Elab.async false
set_option linter.all false
set_option maxRecDepth 100000
namespace Mine
open PySem PyProof.Rows L2
def topS (i : Nat) : Stmt := PySem.Challenge.pw_beltshift_k03_rules_looked_at.main.body.getD i (.Pass ⟨0, 0, 0, 0⟩)
abbrev s_is_whole : Stmt := topS 1
abbrev N_is_whole : List Str := ["thing"]
theorem sc_is_whole : FnScope N_is_whole ["thing"] (defScope s_is_whole) := ⟨rfl, rfl, rfl, by decide +kernel, rfl, by decide +kernel, by decide +kernel⟩
abbrev s_is_rule : Stmt := topS 5
abbrev N_is_rule : List Str := ["thing", "word"]
theorem sc_is_rule : FnScope N_is_rule ["thing"] (defScope s_is_rule) := ⟨rfl, rfl, rfl, by decide +kernel, rfl, by decide +kernel, by decide +kernel⟩
abbrev s_needs : Stmt := topS 6
abbrev N_needs : List Str := ["rule"]
theorem sc_needs : FnScope N_needs ["rule"] (defScope s_needs) := ⟨rfl, rfl, rfl, by decide +kernel, rfl, by decide +kernel, by decide +kernel⟩
abbrev s_law_flow : Stmt := topS 8
abbrev N_law_flow : List Str := ["_law_script"]
theorem sc_law_flow : FnScope N_law_flow ["_law_script"] (defScope s_law_flow) := ⟨rfl, rfl, rfl, by decide +kernel, rfl, by decide +kernel, by decide +kernel⟩
abbrev s_law_pick : Stmt := topS 9
abbrev N_law_pick : List Str := ["_law_flow_here", "_law_many", "_law_cell", "_law_digit"]
theorem sc_law_pick : FnScope N_law_pick ["_law_flow_here", "_law_many"] (defScope s_law_pick) := ⟨rfl, rfl, rfl, by decide +kernel, rfl, by decide +kernel, by decide +kernel⟩
abbrev s_law_word : Stmt := topS 10
abbrev N_law_word : List Str := ["_law_flow_here", "_law_most", "_law_letters", "_law_k"]
theorem sc_law_word : FnScope N_law_word ["_law_flow_here", "_law_most"] (defScope s_law_word) := ⟨rfl, rfl, rfl, by decide +kernel, rfl, by decide +kernel, by decide +kernel⟩
abbrev s_law_put : Stmt := topS 11
abbrev N_law_put : List Str := ["_law_flow_here", "_law_some", "_law_one", "_law_way", "_law_at"]
theorem sc_law_put : FnScope N_law_put ["_law_flow_here", "_law_some", "_law_one"] (defScope s_law_put) := ⟨rfl, rfl, rfl, by decide +kernel, rfl, by decide +kernel, by decide +kernel⟩
abbrev s_law_words : Stmt := topS 12
abbrev N_law_words : List Str := []
theorem sc_law_words : FnScope N_law_words [] (defScope s_law_words) := ⟨rfl, rfl, rfl, by decide +kernel, rfl, by decide +kernel, by decide +kernel⟩
abbrev s_law_whole : Stmt := topS 13
abbrev N_law_whole : List Str := ["_law_flow_here", "_law_number"]
theorem sc_law_whole : FnScope N_law_whole ["_law_flow_here"] (defScope s_law_whole) := ⟨rfl, rfl, rfl, by decide +kernel, rfl, by decide +kernel, by decide +kernel⟩
abbrev s_law_odd : Stmt := topS 14
abbrev N_law_odd : List Str := ["_law_flow_here", "_law_some"]
theorem sc_law_odd : FnScope N_law_odd ["_law_flow_here"] (defScope s_law_odd) := ⟨rfl, rfl, rfl, by decide +kernel, rfl, by decide +kernel, by decide +kernel⟩
abbrev s_law_things : Stmt := topS 15
abbrev N_law_things : List Str := ["_law_flow_here", "_law_word_here"]
theorem sc_law_things : FnScope N_law_things ["_law_flow_here", "_law_word_here"] (defScope s_law_things) := ⟨rfl, rfl, rfl, by decide +kernel, rfl, by decide +kernel, by decide +kernel⟩
abbrev s_law_spoilt : Stmt := topS 16
abbrev N_law_spoilt : List Str := ["_law_flow_here", "_law_things_here", "_law_way"]
theorem sc_law_spoilt : FnScope N_law_spoilt ["_law_flow_here", "_law_things_here"] (defScope s_law_spoilt) := ⟨rfl, rfl, rfl, by decide +kernel, rfl, by decide +kernel, by decide +kernel⟩
abbrev s_law_due : Stmt := topS 17
abbrev N_law_due : List Str := ["_law_things_here"]
theorem sc_law_due : FnScope N_law_due ["_law_things_here"] (defScope s_law_due) := ⟨rfl, rfl, rfl, by decide +kernel, rfl, by decide +kernel, by decide +kernel⟩
abbrev s_law_told : Stmt := topS 18
abbrev N_law_told : List Str := ["_law_thing", "_law_due_here", "_law_copied", "_law_k", "_law_found"]
theorem sc_law_told : FnScope N_law_told ["_law_thing", "_law_due_here"] (defScope s_law_told) := ⟨rfl, rfl, rfl, by decide +kernel, rfl, by decide +kernel, by decide +kernel⟩
abbrev s_law : Stmt := topS 19
abbrev N_law : List Str := ["_law_script", "_law_flow_here", "_law_at", "_law_word_here", "_law_things_here", "_law_rule", "_law_many", "_law_spoilt_here", "_law_some", "_law_thing"]
theorem sc_law : FnScope N_law ["_law_script"] (defScope s_law) := ⟨rfl, rfl, rfl, by decide +kernel, rfl, by decide +kernel, by decide +kernel⟩

/-- a def of the text stands, binds and is bound -/
def Dd (K : PySem.W.Frag) (mg : Str → Option Value) (name : Str) (st : Stmt) (ps : List Str) : Prop :=
  ∃ (f : Addr) (fd : FuncData), Fun K name name st f fd ∧ Binds K fd ps [] ∧ mg name = some (.ref f)
/-! ### the table of the rules -/
def eleven : List Str := ["same", "sum", "gap", "below", "most", "least", "pick", "times", "always", "in", "out"]
def needN (z : Str) : Int := if z = "always" ∨ z = "in" then 0 else if z = "same" ∨ z = "times" ∨ z = "out" then 1 else if z = "pick" then 3 else 2
structure NeedsAt (K : PySem.W.Frag) (w : World) (a : Addr) : Prop where
  dict : ∃ es n, KDict K w a es n
  yes : ∀ z ∈ eleven, ∃ t, PySem.W.nsIn K a z = some (some (.int (needN z) t))
  no : ∀ z, z ∉ eleven → PySem.W.nsIn K a z = some none
structure Top (w : World) (K : PySem.W.Frag) (mg : Str → Option Value) : Prop where
  d_is_whole : Dd K mg "is_whole" s_is_whole ["thing"]
  d_is_rule : Dd K mg "is_rule" s_is_rule ["thing"]
  d_needs : Dd K mg "needs" s_needs ["rule"]
  d_law_flow : Dd K mg "_law_flow" s_law_flow ["_law_script"]
  d_law_pick : Dd K mg "_law_pick" s_law_pick ["_law_flow_here", "_law_many"]
  d_law_word : Dd K mg "_law_word" s_law_word ["_law_flow_here", "_law_most"]
  d_law_put : Dd K mg "_law_put" s_law_put ["_law_flow_here", "_law_some", "_law_one"]
  d_law_words : Dd K mg "_law_words" s_law_words []
  d_law_whole : Dd K mg "_law_whole" s_law_whole ["_law_flow_here"]
  d_law_odd : Dd K mg "_law_odd" s_law_odd ["_law_flow_here"]
  d_law_things : Dd K mg "_law_things" s_law_things ["_law_flow_here", "_law_word_here"]
  d_law_spoilt : Dd K mg "_law_spoilt" s_law_spoilt ["_law_flow_here", "_law_things_here"]
  d_law_due : Dd K mg "_law_due" s_law_due ["_law_things_here"]
  d_law_told : Dd K mg "_law_told" s_law_told ["_law_thing", "_law_due_here"]
  m_all : mg "all" = none
  m_bool : mg "bool" = none
  m_enumerate : mg "enumerate" = none
  m_int : mg "int" = none
  m_isinstance : mg "isinstance" = none
  m_len : mg "len" = none
  m_list : mg "list" = none
  m_range : mg "range" = none
  m_repr : mg "repr" = none
  m_str : mg "str" = none
  m_tuple : mg "tuple" = none
  x_needs : ∃ aN : Addr, mg "NEEDS" = some (.ref aN) ∧ NeedsAt K w aN
  x_with : ∃ aW : Addr, mg "WITH_NUMBER" = some (.ref aW) ∧ ∀ H : Hp, SqT K H aW [.str "times", .str "always"]

/-! ### heaps -/
def But (f : Addr) (H H' : Hp) : Prop := ∀ b o, H b = some o → b ≠ f → H' b = some o
theorem But.refl {f : Addr} {H : Hp} : But f H H := fun _ _ e _ => e
theorem But.trans {f : Addr} {H H1 H2 : Hp} (a : But f H H1) (b : But f H1 H2) : But f H H2 := fun x o e n => b x o (a x o e n) n
theorem But.upd {f : Addr} {H H1 : Hp} {o : HO} (a : But f H H1) : But f H (upd H1 f o) := fun x u e n => by rw [upd_ne n]; exact a x u e n
theorem But.new {f p : Addr} {H H1 : Hp} {o : HO} (a : But f H H1) (h : H1 p = none) : But f H (L2.upd H1 p o) := fun x u e n => by
  have e1 := a x u e n
  rw [upd_ne (ne_of_none e1 h)]
  exact e1
theorem same_new {H : Hp} {p : Addr} {o : HO} (h : H p = none) : Same H (upd H p o) := fun b u q => by rw [upd_ne (ne_of_none q h)]; exact q
theorem But.same {f : Addr} {H H1 H2 : Hp} (a : But f H H1) (b : Same H1 H2) : But f H H2 := fun x o e n => b x o (a x o e n)
theorem But.seqT {K : PySem.W.Frag} {f a : Addr} {H H1 : Hp} {xs : List V} (b : But f H H1) (h : SqT K H a xs) (n : a ≠ f) : SqT K H1 a xs := by
  rcases h with h | h
  · left
    rcases h with h | ⟨o, h⟩
    · exact .inl (b _ _ h n)
    · exact .inr ⟨o, b _ _ h n⟩
  · exact .inr h
/-- a comprehension without a test -/
theorem yes_in {σ : L2.St} {H : Hp} {A B : Hp → Prop} (h : A H) : tYes σ H (fun b H3 => if b = true then A H3 else B H3) := by
  show (if true = true then A H else B H)
  rw [if_pos rfl]
  exact h
/-! ### the draw -/
/-- the list of the law's draws at f, the script's copy at c -/
def Flow (H : Hp) (f c : Addr) : Prop := ∃ (ns : List Int) (i p q r : Int), H f = some (.lst [.ref c, .int i, .int p, .int q, .int r]) ∧ H c = some (.lst (ns.map V.int)) ∧ 0 ≤ i ∧ 0 ≤ p ∧ 0 ≤ q ∧ q < 2147483647
theorem Flow.new {H : Hp} {f c p : Addr} {o : HO} (h : Flow H f c) (n : H p = none) : Flow (upd H p o) f c := by
  obtain ⟨ns, i, a, q, r, e1, e2, e⟩ := h
  exact ⟨ns, i, a, q, r, same_new n _ _ e1, same_new n _ _ e2, e⟩
theorem Flow.ne {H : Hp} {f c p : Addr} (h : Flow H f c) (n : H p = none) : p ≠ f := by
  obtain ⟨ns, i, a, q, r, e1, _⟩ := h
  exact fun e => by rw [e, e1] at n; cases n
theorem Flow.nec {H : Hp} {f c p : Addr} (h : Flow H f c) (n : H p = none) : p ≠ c := by
  obtain ⟨ns, i, a, q, r, _, e1, _⟩ := h
  exact fun e => by rw [e, e1] at n; cases n
theorem Flow.lst {H : Hp} {f c p : Addr} {o : HO} (h : Flow H f c) (n1 : p ≠ f) (n2 : p ≠ c) : Flow (upd H p o) f c := by
  obtain ⟨ns, i, a, q, r, e1, e2, e⟩ := h
  exact ⟨ns, i, a, q, r, by rw [upd_ne n1.symm]; exact e1, by rw [upd_ne n2.symm]; exact e2, e⟩
theorem Flow.same {H H' : Hp} {f c : Addr} (h : Flow H f c) (s : Same H H') : Flow H' f c := by
  obtain ⟨ns, i, a, q, r, e1, e2, e⟩ := h
  exact ⟨ns, i, a, q, r, s _ _ e1, s _ _ e2, e⟩
theorem Flow.tup {H : Hp} {f c p : Addr} {xs : List V} (h : Flow H f c) (e : H p = some (.tup xs)) : p ≠ f := by
  obtain ⟨ns, i, a, q, r, e1, _⟩ := h
  exact ne_of e e1 (by intro z; cases z)
theorem at_ints {ns : List Int} {i : Int} (h0 : 0 ≤ i) (h1 : i < (ns.length : Int)) : ∃ v : Int, atI (ns.map V.int) i = some (.int v) := by
  have hk : i.toNat < ns.length := by omega
  have ek : i = ((i.toNat : Nat) : Int) := by omega
  have q : atI (ns.map V.int) ((i.toNat : Nat) : Int) = some (.int ns[i.toNat]) := atI_nat (by rw [List.getElem?_map, List.getElem?_eq_getElem hk]; rfl)
  rw [← ek] at q
  exact ⟨_, q⟩
/-- a block by less than it asks -/
theorem PSs.to {X : Cx} {ss : List Stmt} {t : TS} (h : PSs X ss t) (u : TS) (k : ∀ D σ H, u D σ H → t D σ H) : PSs X ss u := ⟨fun pins s σ H D I q => h.run pins s σ H D I (k D σ H q)⟩
theorem if_bl {b : Bool} {A B : Prop} (h1 : b = true → A) (h2 : b = false → B) : if b = true then A else B := by
  cases b
  · rw [if_neg Bool.false_ne_true]; exact h2 rfl
  · rw [if_pos rfl]; exact h1 rfl
/-! ### defs whose callers are showing nothing: a promise that may lean on it (repr of a list or tuple asks) -/
structure FnG (P : Program) (w : World) (K : PySem.W.Frag) (mg : Str → Option Value) (base : Heap) (CX : CXT) (lv : Nat) (fn : Addr) (dat : FuncData) (names : List Str) (sp : Sp) : Prop where
  many : ∀ xs H Q E, sp xs H Q E → xs.length = names.length
  goes : ∀ (A : Around) (outer : List Env) (st : Shared) (H : Hp) (given : Args) (us : List Value) (xs : List V) (Q : VK) (E : XK), Room lv A → A.guards = some [] →
    Env0 P w K mg base A outer st H → BindsTo st dat given (names.zip us) → Vals xs us → sp xs H Q E → codeAny (model P w) A (.call (.ref fn) given) (CR CX outer P w H st Q E) st
theorem FnG.of {P : Program} {w : World} {K : PySem.W.Frag} {mg : Str → Option Value} {base : Heap} {CX : CXT} {lv : Nat} {fn : Addr} {dat : FuncData} {names : List Str} {sp : Sp} (h : FnOk P w K mg base CX lv fn dat names sp) : FnG P w K mg base CX lv fn dat names sp :=
  ⟨h.len, fun A o st H g us xs Q E r _ e b v q => h.run A o st H g us xs Q E r e b v q⟩
section
variable {P : Program} {w : World} {K : PySem.W.Frag} {mg : Str → Option Value} {base : Heap} {CX : CXT} {lv : Nat}
theorem fnG_of {fn : Addr} {nm ql : Str} {pr : Arguments} {bd : List Stmt} {sc : Scope} {d1 d2 d3 d4 d5 d6 d7 : Value} {o1 o2 : Option Addr} {o3 : Array (Option Value)} {N names : List Str} {sp : Sp}
    (at_ : K.lookup fn = some ⟨d7, o2, .func (PySem.W.fnOf nm ql pr bd sc d1 d2 d3 d4 o1 d5 d6), o3⟩) (code : PySem.W.codeIn K d5 ql = true) (S : FnScope N names sc) (many : ∀ xs H Q E, sp xs H Q E → xs.length = names.length)
    (body : ∀ (A : Around) (outer : List Env) (st : Shared) (H : Hp) (xs : List V) (Q : VK) (E : XK), Room lv (A.deeper (envOfC ql sc st.heap.objs.size fn d5)) → (A.deeper (envOfC ql sc st.heap.objs.size fn d5)).guards = some [] → sp xs H Q E →
      ∃ t, PSs (cxOf CX P w K mg base N ql sc fn d5 A outer st H E) bd t ∧ t { nx := fun _ H' => Q .non H', rt := Q } (start N xs) H) :
    FnG P w K mg base CX (lv + 1) fn (PySem.W.fnOf nm ql pr bd sc d1 d2 d3 d4 o1 d5 d6) names sp := by
  refine ⟨many, fun A outer st H given us xs Q E rm gd e0 bnd rel asked => ?_⟩
  have inK : K.In st.heap := e0.mod.kin.keeps fun z u e => (e0.bs z u e).1
  have noL : st.heap.NoLimit := e0.mod.nolimit.keeps fun z u e => (e0.bs z u e).1
  have kinds : ∀ z ∈ names.zip us, sc.names.lookup z.1 = some .local ∨ (sc.names.lookup z.1 = some .cell ∧ ((cellsFrom (st.heap.objs.size + 1) sc.names []).lookup z.1).isSome = true) := by
    intro z hz
    rcases S.par z.1 (List.of_mem_zip (a := z.1) (b := z.2) hz).1 with k | k
    · left; exact k
    · right; exact ⟨k, PySem.W.cellsFrom_some _ _ _ (.inl k)⟩
  refine codeAny_call_function rm.depth (inK _ _ at_) rfl S.co S.gen rfl (PySem.W.codeRec_of inK code) (bnd _ _ _ _ ?_)
  refine wpAny_newFunctionEnv_cells S.kind kinds fun env eenv st1 inn => ?_
  subst eenv
  refine ⟨noL.keeps inn.toInCall.keep, codeAny_func ?_⟩
  obtain ⟨t, der, now⟩ := body A outer st H xs Q E (rm.deeper _) gd asked
  have J0 := inv_start (CX := CX) (E := E) S rm.hd e0 (many _ _ _ _ asked) rel inn
  refine wpAny_mono (der.run [] st1 (start N xs) H _ J0 now) (fun flow st' got => ?_) fun _ _ z => z
  cases flow with
  | ret u =>
    obtain ⟨v, σ', H', J, rv, fine⟩ := got
    exact ⟨v, H', J.os, J.bare, J.base, J.hok, rv, fine⟩
  | next =>
    obtain ⟨σ', H', J, fine⟩ := got
    exact ⟨V.non, H', J.os, J.bare, J.base, J.hok, rfl, fine⟩
  | brk =>
    obtain ⟨_, _, _, no⟩ := got
    exact no.elim
  | cont =>
    obtain ⟨_, _, _, no⟩ := got
    exact no.elim
theorem Fun.okG {nm ql : Str} {st : Stmt} {fn : Addr} {dat : FuncData} {N names : List Str} {sp : Sp} (F : L2.Fun K nm ql st fn dat) (S : FnScope N names (defScope st)) (many : ∀ xs H Q E, sp xs H Q E → xs.length = names.length)
    (body : ∀ (cdv : Value) (A : Around) (outer : List Env) (s : Shared) (H : Hp) (xs : List V) (Q : VK) (E : XK), Room lv (A.deeper (envOfC ql (defScope st) s.heap.objs.size fn cdv)) → (A.deeper (envOfC ql (defScope st) s.heap.objs.size fn cdv)).guards = some [] → sp xs H Q E →
      ∃ t, PSs (cxOf CX0 P w K mg base N ql (defScope st) fn cdv A outer s H E).nox (defBody st) t ∧ t { nx := fun _ H' => Q .non H', rt := Q } (start N xs) H) : FnG P w K mg base CX0 (lv + 1) fn dat names sp := by
  obtain ⟨c1, c2, c3, c4, c5, c6, cdv, c8, c9, rfl, at_, code⟩ := F.ex
  refine fnG_of at_ code S many fun A outer s H xs Q E rm gd asked => ?_
  obtain ⟨t, der, now⟩ := body cdv A outer s H xs Q E rm gd asked
  exact ⟨t, der.nox, now⟩
end
section
variable {X : Cx} {CX : CXT} {lv : Nat} {fn : Addr} {dat : FuncData} {names : List Str} {sp : Sp} {more : List V} {ds : List Value} {E : XK}
theorem goesG {pins : List (Addr × Obj)} {σ : L2.St} {H : Hp} {st : Shared} {Q : VK} {us : List Value} {xs : List V} (F : FnG X.prog X.w X.K X.mg X.base CX lv fn dat names sp) (rm : Room lv X.A) (gd : X.A.guards = some []) (bnd : Binds X.K dat names ds) (dv : Vals more ds) (out : Passes CX X E)
    (J : Inv X pins σ H st) (rel : Vals xs us) (asked : sp (xs ++ more) H Q E) : wpAny (model X.prog X.w) X.A (call (.ref fn) us) (EP X pins σ Q) X.xe st := by
  have rel2 := rel.append dv
  have len2 : (us ++ ds).length = names.length := by
    rw [← rel2.length]
    exact F.many _ _ _ _ asked
  refine wpAny_call (codeAny_mono (F.goes X.A X.stack st H ⟨us, []⟩ (us ++ ds) (xs ++ more) Q E rm gd J.env0 (bnd st us J.kIn len2) rel2 asked) fun res st' got => ?_)
  cases res with
  | error e => exact out pins σ H st e st' J got
  | ok flow =>
    cases flow with
    | ret u => exact J.after got
    | next => exact got.elim
    | brk => exact got.elim
    | cont => exact got.elim
theorem pe_callG {x : Str} {p pos : Pos} {e : Expr} {es : List Expr} {t : TA} (F : FnG X.prog X.w X.K X.mg X.base CX lv fn dat names sp) (rm : Room lv X.A) (gd : X.A.guards = some []) (glob : Gl X x) (here : X.mg x = some (.ref fn)) (kept : PySem.W.keepIn X.K (.ref fn) = true)
    (bnd : Binds X.K dat names ds) (dv : Vals more ds) (out : Passes CX X E) (args : PA X (e :: es) t) (n1 : (x == ("__debug__" : Str)) = false := by decide)
    (n2 : starEach (e :: es) X.env = (false, eval e X.env) :: starEach es X.env := by rfl) (n3 : (backTo pos (starEach es X.env)).any (·.1) = false := by rfl) : PE X (.Call (.Name x p) (e :: es) [] pos) (tCall sp more E t) := by
  refine ⟨fun pins st σ H Q J asked => ?_⟩
  refine wpAny_Call_Name_kw (ld_glob J glob here ?_ n1)
  exact PySem.W.callWith_K (h₀ := X.base) J.ok.mod.kin kept (thn (args.run pos pins st σ H _ J asked) fun us st1 ⟨xs, H1, J1, rel, now⟩ => ⟨J1.kIn, goesG F rm gd bnd dv out J1 rel now⟩) n2 n3
theorem pe_call0G {x : Str} {p pos : Pos} (F : FnG X.prog X.w X.K X.mg X.base CX lv fn dat names sp) (rm : Room lv X.A) (gd : X.A.guards = some []) (glob : Gl X x) (here : X.mg x = some (.ref fn)) (kept : PySem.W.keepIn X.K (.ref fn) = true)
    (bnd : Binds X.K dat names ds) (dv : Vals more ds) (out : Passes CX X E) (n1 : (x == ("__debug__" : Str)) = false := by decide) : PE X (.Call (.Name x p) [] [] pos) (tCall sp more E tNil) := by
  refine ⟨fun pins st σ H Q J asked => ?_⟩
  refine wpAny_Call_Name_kw (ld_glob J glob here ?_ n1)
  exact PySem.W.callWith_K0 J.kIn kept (goesG (us := []) F rm gd bnd dv out J .nil asked)
/-- repr of data -/
def rReprD (K : PySem.W.Frag) : List V → Hp → VK → Prop := fun xs H Q => ∃ (a : Addr) (d : PyData), xs = [.ref a] ∧ Dp K H (.ref a) d ∧ d.showable = true ∧ d.hasDict = false ∧ d.depth ≤ 60 ∧ d.shown.length ≤ sizeLine ∧ Q (.str d.shown) H
theorem call_reprD (gd : X.A.guards = some []) (un : X.A.units + 64 < cLine) : CallR X (.builtin "repr") (rReprD X.K) := by
  intro pins st σ H xs us Q J rel asked
  obtain ⟨a, d, rfl, hd, h1, h2, h3, h4, now⟩ := asked
  obtain ⟨u, rfl, ru⟩ := vals1 rel
  obtain rfl : u = Value.ref a := ru
  obtain ⟨as, rd⟩ := Dp.reads J d _ _ hd rfl
  exact repr_of_reads' rd h1 (PyData.noDict_hsm h2) gd (by omega) (fun _ _ e => e) (fun h' u tk kp => ⟨.str d.shown, H, J.kept (t' := tk) kp, ⟨_, rfl⟩, now⟩) h4
end
/-- the law's own call, by a promise that leans on nothing being shown -/
theorem endG {P : Program} {w : World} {K : PySem.W.Frag} {mg mb : Str → Option Value} {CX : CXT} {lv : Nat} {fn a : Addr} {dat : FuncData} {x : Str} {sp : Sp} {st : Shared} {us : List Value} {ns : List Int}
    (inK : K.In st.heap) (gl : st.heap.Ns mainGlobals mg) (bl : st.heap.Ns builtinsNs mb) (boot : ∀ z : Str, z ≠ "__name__" → mb z = bootBuiltins z) (noL : st.heap.NoLimit) (gens : st.gens = #[])
    (obj : st.heap.get? a = some { cls := .type "list", data := .seq us.toArray }) (iv : IntsAre us ns) (short : ns.length ≤ sizeLine) (rm : Room lv callerA)
    (F : ∀ bs : Heap, K.In bs → bs.Ns mainGlobals mg → FnG P w K mg bs CX lv fn dat [x] sp) (bnd : ∀ (z : Shared) (u : Value), BindsTo z dat ⟨[u], []⟩ [(x, u)])
    (asked : ∀ H : Hp, Only H → SqL K H a (ns.map V.int) → sp [.ref a] H (fun v _ => v = .bl true) fun _ _ _ => False)
    (never : ∀ H e st', CX [] H st (fun _ _ _ => False) e st' → False) :
    codeAny (model P w) callerA (.call (.ref fn) ⟨[.ref a], []⟩) (fun res st' => res = .ok (.ret (.bool true)) ∧ OldK st.heap st'.heap ∧ st'.os = st.os ∧ AllBare st'.gens) st := by
  have rel := vals_ints iv
  have many := iv.length
  have main : ∀ H : Hp, Only H → SqL K H a (ns.map V.int) → HOk P w H st.heap → (∀ b, H b ≠ none → b = a ∧ K.lookup a = none) →
      codeAny (model P w) callerA (.call (.ref fn) ⟨[.ref a], []⟩) (fun res st' => res = .ok (.ret (.bool true)) ∧ OldK st.heap st'.heap ∧ st'.os = st.os ∧ AllBare st'.gens) st := by
    intro H only sq ok own
    have clear : ∀ {b : Addr} {u : Obj}, st.heap.get? b = some u → (b ≠ a ∨ K.lookup a ≠ none) → H b = none := by
      intro b u _ h
      cases q : H b with
      | none => rfl
      | some z =>
        obtain ⟨e1, e2⟩ := own b (by rw [q]; exact fun k => by cases k)
        rcases h with h | h
        · exact absurd e1 h
        · exact absurd e2 h
    have names : ∀ {b : Addr} {m : Str → Option Value}, st.heap.Ns b m → (hidT st.heap H).Ns b m := by
      rintro b m ⟨u, es, ep, e, d, r⟩
      refine ⟨u, es, ep, hidT_get e (clear e (.inl fun k => ?_)), d, r⟩
      subst k
      rw [obj] at e
      cases e
      cases d
    have inB : K.In (hidT st.heap H) := by
      intro b u e
      refine hidT_get (inK b u e) (clear (inK b u e) ?_)
      by_cases k : b = a
      · right
        rw [← k, e]
        exact fun z => by cases z
      · exact .inl k
    obtain ⟨mc, l1, l2⟩ := noL
    have env : Env0 P w K mg (hidT st.heap H) callerA [] st H :=
      ⟨rfl, ⟨inB, names gl, ⟨mb, names bl, boot⟩, ⟨mc, names l1, l2⟩⟩, fun b u e => of_hidT e, Nat.le_of_eq (hidT_size _ _), trivial, (fun b z => nomatch z), ok, .of_eq gens⟩
    refine codeAny_mono ((F _ inB (names gl)).goes callerA [] st H ⟨[.ref a], []⟩ [.ref a] [.ref a] _ _ rm rfl env (bnd st (.ref a)) (.cons rfl .nil) (asked H only sq)) fun res st' got => ?_
    cases res with
    | error e => exact (never H e st' got).elim
    | ok flow =>
      cases flow with
      | next => exact got.elim
      | brk => exact got.elim
      | cont => exact got.elim
      | ret u =>
        obtain ⟨v, H', os, bare, un, ok', rv, now⟩ := got
        obtain rfl : v = V.bl true := now
        obtain rfl : u = Value.bool true := rv
        refine ⟨rfl, OldK.of_keep fun b u e => ?_, os, bare⟩
        cases q : H b with
        | none => exact un.keep b u e q (fun z => by cases z) (by simp)
        | some z =>
          rcases only b with k | ⟨ob, xs, k⟩
          · rw [q] at k; cases k
          · obtain ⟨f1, _⟩ := ok b _ k
            obtain ⟨f2, _⟩ := ok' b _ (un.frzs b ob _ k)
            rw [e] at f1
            cases f1
            exact f2
  cases hk : K.lookup a with
  | some u =>
    have e := inK a u hk
    rw [obj] at e
    cases e
    exact main (fun _ => none) (fun _ => .inl rfl) (.inr ⟨_, us.toArray, _, hk, rfl, rfl, rfl, by rw [List.size_toArray, many]; exact short, by simpa using rel⟩) (fun b z k => nomatch k) (fun b z => absurd rfl z)
  | none =>
    refine main (fun b => if b = a then some (.frz { cls := .type "list", data := .seq us.toArray } (.lst (ns.map V.int))) else none) (fun b => ?_) (.inl (.inr ⟨_, if_pos rfl⟩)) (fun b z k => ?_) (fun b z => ?_)
    · by_cases k : b = a
      · exact .inr ⟨_, _, if_pos k⟩
      · exact .inl (if_neg k)
    · by_cases j : b = a
      · have k2 := (if_pos j).symm.trans k
        cases k2
        subst j
        exact ⟨obj, by rw [List.length_map]; exact short, us, _, rel, obj⟩
      · have k2 := (if_neg j).symm.trans k
        cases k2
    · by_cases j : b = a
      · exact ⟨j, hk⟩
      · exact absurd (if_neg j) z
theorem walk_ofG {l : PySem.W.OpenLaw} {n k : Nat} {q : Program} {loose : List Str} {XP : (Str → Option Value) → Heap → Prop} {YP : World → Heap → Prop} {d : DefRec} {K : Params → PySem.W.Frag} {CX : World → CXT} {sp : World → Sp} {x : Str}
    (h1 : l.most = some n) (h2 : n ≤ sizeLine) (h3 : d.params.defaults = []) (rm : Room k callerA) (h4 : ∀ (w : World) (h : Heap), YP w h → (K w.params).In h)
    (F : ∀ (w : World) (mg : Str → Option Value) (fn : Addr) (h : Heap), (K w.params).In h → h.Ns mainGlobals mg → mg d.name = some (.ref fn) →
      ∃ dat : FuncData, (∀ (s : Shared) (u : Value), BindsTo s dat ⟨[u], []⟩ [(x, u)]) ∧ ∀ bs : Heap, (K w.params).In bs → bs.Ns mainGlobals mg → FnG l.prog w (K w.params) mg bs (CX w) k fn dat [x] (sp w))
    (h5 : ∀ (w : World) (H : Hp) (a : Addr) (ns : List Int), ns.length ≤ n → Only H → SqL (K w.params) H a (ns.map V.int) → sp w [.ref a] H (fun v _ => v = .bl true) fun _ _ _ => False)
    (h6 : ∀ (w : World) (H : Hp) (s : Shared) (e : Value) (s' : Shared), CX w [] H s (fun _ _ _ => False) e s' → False) :
    PySem.W.WalkO q loose XP YP l.row.toRowW d [] (fun f vs => PySem.call f vs) := by
  refine Att.attach_call h1 h3 fun w s₀ s₁ mg mb fn o pm cd doc a us ns G Y ho hd hcd hmg hobj hints hlen hg => ?_
  have inK := h4 w _ Y
  obtain ⟨dat, bnd, got⟩ := F w mg fn _ inK G.T.g hmg
  exact endG inK G.T.g G.T.b G.T.builtins G.T.nolimit hg hobj hints (Nat.le_trans hlen h2) rm got bnd (fun H o s => h5 w H a ns hlen o s) fun H e s' => h6 w H s₁ e s'
/-! ### lists, two by two -/
inductive All2 {α β : Type} (R : α → β → Prop) : List α → List β → Prop
  | nil : All2 R [] []
  | cons {a b as bs} : R a b → All2 R as bs → All2 R (a :: as) (b :: bs)
theorem All2.imp {α β : Type} {R S : α → β → Prop} (h : ∀ a b, R a b → S a b) : ∀ {as bs}, All2 R as bs → All2 S as bs
  | _, _, .nil => .nil
  | _, _, .cons a b => .cons (h _ _ a) (All2.imp h b)
theorem All2.length {α β : Type} {R : α → β → Prop} : ∀ {as bs}, All2 R as bs → as.length = bs.length
  | _, _, .nil => rfl
  | _, _, .cons _ b => congrArg (· + 1) (All2.length b)
theorem All2.snoc {α β : Type} {R : α → β → Prop} {a b} (r : R a b) : ∀ {as bs}, All2 R as bs → All2 R (as ++ [a]) (bs ++ [b])
  | _, _, .nil => .cons r .nil
  | _, _, .cons h t => .cons h (All2.snoc r t)
theorem All2.get {α β : Type} {R : α → β → Prop} {as : List α} {bs : List β} (h : All2 R as bs) : ∀ {i : Nat} {b : β}, bs[i]? = some b → ∃ a, as[i]? = some a ∧ R a b := by
  induction h with
  | nil => intro i b e; cases e
  | cons r t ih =>
    intro i b e
    cases i with
    | zero => cases e; exact ⟨_, rfl, r⟩
    | succ i => exact ih e
theorem All2.getL {α β : Type} {R : α → β → Prop} {as : List α} {bs : List β} (h : All2 R as bs) : ∀ {i : Nat} {a : α}, as[i]? = some a → ∃ b, bs[i]? = some b ∧ R a b := by
  induction h with
  | nil => intro i b e; cases e
  | cons r t ih =>
    intro i b e
    cases i with
    | zero => cases e; exact ⟨_, rfl, r⟩
    | succ i => exact ih e
/-! ### tuples stay -/
def TK (H H' : Hp) : Prop := ∀ b xs, H b = some (.tup xs) → H' b = some (.tup xs)
theorem TK.refl {H : Hp} : TK H H := fun _ _ e => e
theorem TK.trans {H H1 H2 : Hp} (a : TK H H1) (b : TK H1 H2) : TK H H2 := fun x xs e => b x xs (a x xs e)
theorem TK.same {H H' : Hp} (s : Same H H') : TK H H' := fun x xs e => s _ _ e
theorem TK.new {H : Hp} {p : Addr} {o : HO} (n : H p = none) : TK H (upd H p o) := fun x xs e => same_new n _ _ e
theorem TK.lst {H : Hp} {p : Addr} {xs ys : List V} (h : H p = some (.lst xs)) : TK H (upd H p (.lst ys)) := fun x zs e => by
  rw [upd_ne (ne_of e h (by intro z; cases z))]
  exact e
theorem TK.but {H H' : Hp} {f c : Addr} (F : Flow H f c) (b : But f H H') : TK H H' := fun x xs e => b _ _ e (F.tup e)
theorem same_none {H H' : Hp} {p : Addr} (s : Same H H') (n : H' p = none) : H p = none := by
  cases e : H p with
  | none => rfl
  | some o => rw [s _ _ e] at n; cases n
theorem But.none {f p : Addr} {H H' : Hp} (b : But f H H') (n : H' p = Option.none) (h : p ≠ f) : H p = Option.none := by
  cases e : H p with
  | none => rfl
  | some o => rw [b _ _ e h] at n; cases n
theorem But.of {f : Addr} {H H' : Hp} (s : Same H H') : But f H H' := fun _ _ e _ => s _ _ e
/-- a list that was not there is written: what was stays -/
theorem But.own {f p : Addr} {H H1 : Hp} {o : HO} (a : But f H H1) (h : H p = Option.none) : But f H (L2.upd H1 p o) := fun x u e n => by
  rw [upd_ne (ne_of_none e h)]
  exact a x u e n
theorem Same.own {p : Addr} {H H1 : Hp} {o : HO} (a : Same H H1) (h : H p = Option.none) : Same H (L2.upd H1 p o) := fun x u e => by
  rw [upd_ne (ne_of_none e h)]
  exact a x u e
/-! ### loops over any iterator -/
theorem for_it {J : It} {n : Nat} {g : TG} {tb : TS} {D : Ends} {σ : L2.St} {H : Hp} (Pv : Nat → L2.St → Hp → Prop) (h0 : Pv 0 σ H) (go : ∀ i σ H, i < n → Pv i σ H → J.go i H) (st : ∀ σ H, Pv n σ H → J.stop n H)
    (hs : ∀ i x σ H H', i < n → Pv i σ H → J.yld i H x H' → g x σ H' fun σ2 H2 => tb { D with nx := Pv (i + 1), ct := Pv (i + 1), bk := D.nx } σ2 H2) (hd : ∀ σ H, Pv n σ H → D.nx σ H) :
    ∃ W : Nat → Nat → L2.St → Hp → Prop, (∃ m, W 0 m σ H) ∧ ∀ i m σ H, W i m σ H →
      (J.stop i H ∧ D.nx σ H) ∨ (J.go i H ∧ ∃ N : L2.St → Hp → Prop, (∀ σ' H', N σ' H' → ∃ m', m' < m ∧ W (i + 1) m' σ' H') ∧ ∀ x H', J.yld i H x H' → g x σ H' fun σ2 H2 => tb { D with nx := N, ct := N, bk := D.nx } σ2 H2) := by
  refine ⟨fun i m σ H => i + m = n ∧ Pv i σ H, ⟨n, by omega, h0⟩, fun i m σ H ⟨e, p⟩ => ?_⟩
  by_cases k : i < n
  · exact .inr ⟨go i σ H k p, Pv (i + 1), fun σ' H' p' => ⟨m - 1, by omega, by omega, p'⟩, fun x H' y => hs i x σ H H' k p y⟩
  · have z : i = n := by omega
    subst z
    exact .inl ⟨st σ H p, hd σ H p⟩
theorem lc_it {J : It} {n : Nat} {g : TG} {tt : TT} {te : TE} {vs : List Nat} {σ : L2.St} {H1 : Hp} {D : Addr} {Qd : Hp → Prop} (Pv : Nat → Hp → Prop) (h0 : Pv 0 (upd H1 D (.lst []))) (go : ∀ i H, i < n → Pv i H → J.go i H) (st : ∀ H, Pv n H → J.stop n H)
    (hs : ∀ i x H H', i < n → Pv i H → J.yld i H x H' → g x (wipe σ vs) H' fun σ2 H2 => wipe σ2 vs = wipe σ vs ∧ tt σ2 H2 fun b H3 =>
      if b = true then te σ2 H3 fun y H4 => ∃ acc, H4 D = some (.lst acc) ∧ acc.length < sizeLine ∧ Pv (i + 1) (upd H4 D (.lst (acc ++ [y]))) else Pv (i + 1) H3) (hd : ∀ H, Pv n H → Qd H) :
    ∃ W : Nat → Nat → Hp → Prop, (∃ m, W 0 m (upd H1 D (.lst []))) ∧ ∀ i m H, W i m H →
      (J.stop i H ∧ Qd H) ∨ (J.go i H ∧ ∃ Nx : Hp → Prop, (∀ H', Nx H' → ∃ m', m' < m ∧ W (i + 1) m' H') ∧ ∀ x H', J.yld i H x H' → g x (wipe σ vs) H' fun σ2 H2 => wipe σ2 vs = wipe σ vs ∧ tt σ2 H2 fun b H3 =>
        if b = true then te σ2 H3 fun y H4 => ∃ acc, H4 D = some (.lst acc) ∧ acc.length < sizeLine ∧ Nx (upd H4 D (.lst (acc ++ [y]))) else Nx H3) := by
  refine ⟨fun i m H => i + m = n ∧ Pv i H, ⟨n, by omega, h0⟩, fun i m H ⟨e, p⟩ => ?_⟩
  by_cases k : i < n
  · exact .inr ⟨go i H k p, Pv (i + 1), fun H' p' => ⟨m - 1, by omega, by omega, p'⟩, fun x H' y => hs i x H H' k p y⟩
  · have z : i = n := by omega
    subst z
    exact .inl ⟨st H p, hd H p⟩
/-! ### tests -/
theorem if_str {x z : Str} {A B : Prop} (h1 : x = z → A) (h2 : x ≠ z → B) : if decide (V.str x = V.str z) = true then A else B :=
  if_bl (fun e => h1 (V.str.inj (of_decide_eq_true e))) (fun e => h2 (fun q => of_decide_eq_false e (congrArg V.str q)))
theorem inV_strs {x : Str} {zs : List Str} : inV (.str x) (zs.map V.str) = true ↔ x ∈ zs := by
  unfold inV
  induction zs with
  | nil => simp
  | cons z zs ih =>
    rw [List.map_cons, List.any_cons, Bool.or_eq_true, ih, List.mem_cons]
    constructor
    · rintro (h | h)
      · exact .inl (by simpa [eqV] using (show (z == x) = true from h) |> fun k => (eq_of_beq k).symm)
      · exact .inr h
    · rintro (h | h)
      · exact .inl (show (z == x) = true by rw [h]; exact beq_self_eq_true z)
      · exact .inr h
theorem if_in {x : Str} {zs : List Str} {A B : Prop} (h1 : x ∈ zs → A) (h2 : x ∉ zs → B) : if (if false = true then !inV (.str x) (zs.map V.str) else inV (.str x) (zs.map V.str)) = true then A else B := by
  have e : (if false = true then !inV (.str x) (zs.map V.str) else inV (.str x) (zs.map V.str)) = inV (.str x) (zs.map V.str) := if_neg Bool.false_ne_true
  rw [e]
  exact if_bl (fun c => h1 (inV_strs.mp c)) (fun c => h2 (fun k => by rw [inV_strs.mpr k] at c; cases c))
theorem same_seqT {K : PySem.W.Frag} {a : Addr} {H H1 : Hp} {xs : List V} (b : Same H H1) (h : SqT K H a xs) : SqT K H1 a xs := by
  rcases h with h | h
  · left
    rcases h with h | ⟨o, h⟩
    · exact .inl (b _ _ h)
    · exact .inr ⟨o, b _ _ h⟩
  · exact .inr h
theorem little {n : Nat} (h : n ≤ 1000) : n ≤ sizeLine := Nat.le_of_lt (small1000 h)
/-! ### xs[i] op= e -/
def rGetL (K : PySem.W.Frag) : V → V → Hp → VK → Prop := fun o i H Q => ∃ (p : Addr) (xs : List V) (j : Nat) (v : V), o = .ref p ∧ i = .int (j : Nat) ∧ SqL K H p xs ∧ xs[j]? = some v ∧ Q v H
theorem get_list {X : Cx} : PGet X (rGetL X.K) := by
  intro pins st σ H o i ov iv Q J ro ri asked
  obtain ⟨p, xs, j, v, rfl, rfl, hq, hj, now⟩ := asked
  cases ro
  obtain ⟨t, rfl⟩ := ri
  obtain ⟨its, r, pl, hz⟩ := J.list hq
  obtain ⟨u, eu, ru⟩ := r.get hj
  have n1 := (List.getElem?_eq_some_iff.mp hj).1
  have n2 := line63
  exact wpAny_getItem_list pl.isList (by omega) (by omega) (by simpa using eu) ⟨v, H, J, ru, now⟩
/-! ### the same rules, the written part named (so that they fit within comprehensions) -/
section
variable {X : Cx}
theorem ix_listK (K : PySem.W.Frag) (h : X.K = K) : IxR X (rIxL K) := by subst h; exact ix_list
theorem ix_tupK (K : PySem.W.Frag) (h : X.K = K) : IxR X (rIxT K) := by subst h; exact ix_tup
def rLenK (K : PySem.W.Frag) : List V → Hp → VK → Prop := fun xs H Q => ∃ (p : Addr) (ys : List V), xs = [.ref p] ∧ (SqL K H p ys ∨ SqT K H p ys) ∧ Q (.int (ys.length : Nat)) H
theorem call_len_seqK (K : PySem.W.Frag) (h : X.K = K) : CallR X (.builtin "len") (rLenK K) := by subst h; exact call_len_seq
def rListOfK (K : PySem.W.Frag) : List V → Hp → VK → Prop := fun xs H Q => ∃ (p : Addr) (ys : List V), xs = [.ref p] ∧ (SqL K H p ys ∨ SqT K H p ys) ∧ ∀ l, H l = none → Q (.ref l) (upd H l (.lst ys))
theorem call_list_ofK (K : PySem.W.Frag) (h : X.K = K) : CallR X (.type "list") (rListOfK K) := by subst h; exact call_list_of
def rTupOfK (K : PySem.W.Frag) : List V → Hp → VK → Prop := fun xs H Q => ∃ (p : Addr) (ys : List V), xs = [.ref p] ∧ ((SqL K H p ys ∧ ∀ l, H l = none → Q (.ref l) (upd H l (.tup ys))) ∨ (SqT K H p ys ∧ Q (.ref p) H))
theorem call_tuple_ofK (K : PySem.W.Frag) (h : X.K = K) : CallR X (.type "tuple") (rTupOfK K) := by subst h; exact call_tuple_of
theorem op_in_seqK (K : PySem.W.Frag) (h : X.K = K) : OpR X (compareOp .In) (rIn K false) := by subst h; exact op_in_seq
theorem op_notIn_seqK (K : PySem.W.Frag) (h : X.K = K) : OpR X (compareOp .NotIn) (rIn K true) := by subst h; exact op_notIn_seq
theorem sl_listK (K : PySem.W.Frag) (h : X.K = K) : SlR X (rSlL K) := by subst h; exact sl_list
theorem sl_tupAK (K : PySem.W.Frag) (h : X.K = K) : SlR X (rSlA K) := by subst h; exact sl_tupA
theorem op_eqDK (K : PySem.W.Frag) (h : X.K = K) (hu : X.A.units + 64 < cLine) : OpR X (compareOp .Eq) (rEqD K) := by subst h; exact op_eqD hu
theorem op_neDK (K : PySem.W.Frag) (h : X.K = K) (hu : X.A.units + 64 < cLine) : OpR X (compareOp .NotEq) (rNeD K) := by subst h; exact op_neD hu
theorem call_isiKK (K : PySem.W.Frag) (h : X.K = K) : CallR X (.builtin "isinstance") (rIsi K) := by subst h; exact call_isi
theorem cr_allK (K : PySem.W.Frag) (h : X.K = K) (hc : X.calm = true) : CallR X (.builtin "all") (rAll K) := by subst h; exact cr_all hc
theorem cr_anyK (K : PySem.W.Frag) (h : X.K = K) (hc : X.calm = true) : CallR X (.builtin "any") (rAny K) := by subst h; exact cr_any hc
theorem call_reprDK (K : PySem.W.Frag) (h : X.K = K) (gd : X.A.guards = some []) (un : X.A.units + 64 < cLine) : CallR X (.builtin "repr") (rReprD K) := by subst h; exact call_reprD gd un
theorem cr_minKK (K : PySem.W.Frag) (h : X.K = K) (hc : X.calm = true) : CallR X (.builtin "min") (rMin K) := by subst h; exact cr_min hc
theorem cr_maxKK (K : PySem.W.Frag) (h : X.K = K) (hc : X.calm = true) : CallR X (.builtin "max") (rMax K) := by subst h; exact cr_max hc
def tTruK (K : PySem.W.Frag) (ta : TE) : TT := fun σ H Q => ta σ H fun x H' => ∃ k, TruV K x H' k ∧ Q k H'
theorem pt_truthK (K : PySem.W.Frag) (h : X.K = K) {a : Expr} {ta : TE} (ha : PE X a ta) (he : ∀ whole, isTrue a X.env whole = (do let v ← whole; standAt a.pos; holding [v] (truthy v))) : PT X a (tTruK K ta) := by subst h; exact pt_truth ha he
theorem get_listK (K : PySem.W.Frag) (h : X.K = K) : PGet X (rGetL K) := by subst h; exact get_list
theorem pg_tupK (K : PySem.W.Frag) (h : X.K = K) {es : List Expr} {k n : Nat} {t : TGs} {pos : Pos} (hc : X.calm = true) (g : PGs X es t)
    (hn : (assignEach es X.env).length = n := by rfl) (hst : (assignEach es X.env).findIdx? (·.1) = none := by rfl) : PG X (.Tuple es k pos) (gTup K n t) := by subst h; exact pg_tup hc g hn hst
theorem pg_unlK (K : PySem.W.Frag) (h : X.K = K) {es : List Expr} {k n : Nat} {t : TGs} {pos : Pos} (hc : X.calm = true) (g : PGs X es t)
    (hn : (assignEach es X.env).length = n := by rfl) (hst : (assignEach es X.env).findIdx? (·.1) = none := by rfl) : PG X (.Tuple es k pos) (gUnl K n t) := by subst h; exact pg_unl hc g hn hst
theorem pi_listK (K : PySem.W.Frag) (h : X.K = K) {tg e : Expr} {te : TE} (he : PE X e te) : PI X tg e (iList K te) := by subst h; exact pi_list he
theorem pi_tupK (K : PySem.W.Frag) (h : X.K = K) {tg e : Expr} {te : TE} (he : PE X e te) : PI X tg e (iTup K te) := by subst h; exact pi_tup he
theorem pe_revLK (K : PySem.W.Frag) (h : X.K = K) {e : Expr} {te : TE} {k : Nat} {p1 p2 p3 pos : Pos} (he : PE X e te) : PE X (.Subscript e (.Slice none none (some (.UnaryOp .USub (.Constant (.int 1) k p1) p2)) p3) pos) (tRevL K te) := by subst h; exact pe_revL he
theorem pe_bmK (K : PySem.W.Frag) (h : X.K = K) {o e : Expr} {es : List Expr} {to : TE} {t : TA} {name : Str} {apos cpos : Pos} {T id : String} {r : V → List V → Hp → VK → Prop}
    (pa : PlainAttrs T) (slot : Slot T name id) (hty : typeOf (.builtin id) = pure (.type "method_descriptor")) (hm : MtR X id r) (ho : PE X o to) (ha : PA X (e :: es) t)
    (n1 : attributeBase o name X.env (eval o X.env) = eval o X.env := by rfl)
    (n2 : ((backTo cpos (starEach (e :: es) X.env)).all (fun x => !x.1) && (backToKw cpos (keywordEach [] X.env)).all (fun x => x.1.isSome) && decide ((e :: es).length + ([] : List Keyword).length + (if ([] : List Keyword).isEmpty then 0 else 1) < 30)) = true := by rfl)
    (n3 : (apos.endLine == cpos.line) = true := by rfl) (n4 : starEach (e :: es) X.env = (false, eval e X.env) :: starEach es X.env := by rfl) (n5 : (backTo cpos (starEach es X.env)).any (·.1) = false := by rfl) :
    PE X (.Call (.Attribute o name apos) (e :: es) [] cpos) (tBM K T r to t) := by subst h; exact pe_bm pa slot hty hm ho ha n1 n2 n3 n4 n5
theorem pe_bm0K (K : PySem.W.Frag) (h : X.K = K) {o : Expr} {to : TE} {name : Str} {apos cpos : Pos} {T id : String} {r : V → List V → Hp → VK → Prop}
    (pa : PlainAttrs T) (slot : Slot T name id) (hty : typeOf (.builtin id) = pure (.type "method_descriptor")) (hm : MtR X id r) (ho : PE X o to)
    (n1 : attributeBase o name X.env (eval o X.env) = eval o X.env := by rfl) (n3 : (apos.endLine == cpos.line) = true := by rfl) : PE X (.Call (.Attribute o name apos) [] [] cpos) (tBM0 K T r to) := by subst h; exact pe_bm0 pa slot hty hm ho n1 n3
end
theorem needs_at {K : PySem.W.Frag} {w : World} {a : Addr} {h0 h1 h2 h3 h4 h5 h6 h7 h8 h9 h10 : Int} {t0 u0 t1 u1 t2 u2 t3 u3 t4 u4 t5 u5 t6 u6 t7 u7 t8 u8 t9 u9 t10 u10 : Tok} {n : Nat}
    (l : K.lookup a = some ⟨.type "dict", none, .dict #[⟨h0, .str "same" t0, .int 1 u0⟩, ⟨h1, .str "sum" t1, .int 2 u1⟩, ⟨h2, .str "gap" t2, .int 2 u2⟩, ⟨h3, .str "below" t3, .int 2 u3⟩, ⟨h4, .str "most" t4, .int 2 u4⟩, ⟨h5, .str "least" t5, .int 2 u5⟩, ⟨h6, .str "pick" t6, .int 3 u6⟩, ⟨h7, .str "times" t7, .int 1 u7⟩, ⟨h8, .str "always" t8, .int 0 u8⟩, ⟨h9, .str "in" t9, .int 0 u9⟩, ⟨h10, .str "out" t10, .int 1 u10⟩] n, #[]⟩)
    (k : PySem.W.KeysLit w.params [⟨h0, .str "same" t0, .int 1 u0⟩, ⟨h1, .str "sum" t1, .int 2 u1⟩, ⟨h2, .str "gap" t2, .int 2 u2⟩, ⟨h3, .str "below" t3, .int 2 u3⟩, ⟨h4, .str "most" t4, .int 2 u4⟩, ⟨h5, .str "least" t5, .int 2 u5⟩, ⟨h6, .str "pick" t6, .int 3 u6⟩, ⟨h7, .str "times" t7, .int 1 u7⟩, ⟨h8, .str "always" t8, .int 0 u8⟩, ⟨h9, .str "in" t9, .int 0 u9⟩, ⟨h10, .str "out" t10, .int 1 u10⟩])
    (low : (a == sysModules) = false) : NeedsAt K w a := by
  refine ⟨⟨_, _, ⟨l, k, low⟩⟩, fun z hz => ?_, fun z hz => ?_⟩
  · unfold eleven at hz
    simp only [List.mem_cons, List.not_mem_nil, or_false] at hz
    unfold PySem.W.nsIn
    rw [l]
    rcases hz with rfl | rfl | rfl | rfl | rfl | rfl | rfl | rfl | rfl | rfl | rfl <;> exact ⟨_, rfl⟩
  · unfold PySem.W.nsIn
    rw [l]
    unfold eleven at hz
    simp only [List.mem_cons, List.not_mem_nil, or_false, not_or] at hz
    obtain ⟨e0, e1, e2, e3, e4, e5, e6, e7, e8, e9, e10⟩ := hz
    have f : ∀ {y : Str} {t : Tok}, ¬ z = y → (Value.str y t).isStr z = false := fun {y t} e => by
      show (y == z) = false
      exact beq_eq_false_iff_ne.mpr fun q => e q.symm
    simp only [List.find?_cons, f e0, f e1, f e2, f e3, f e4, f e5, f e6, f e7, f e8, f e9, f e10, List.find?_nil]
    rfl
theorem with_at {K : PySem.W.Frag} {a : Addr} {od : Option Addr} {t1 t2 : Tok} {n : Nat} {sl : Array (Option Value)} (l : K.lookup a = some ⟨.type "tuple", od, .seq #[.str "times" t1, .str "always" t2] n, sl⟩) (H : Hp) : SqT K H a [.str "times", .str "always"] :=
  .inr ⟨_, _, _, l, rfl, rfl, (show 2 ≤ sizeLine by decide), .cons ⟨_, rfl⟩ (.cons ⟨_, rfl⟩ .nil)⟩
section
variable {P : Program} {w : World} {K : PySem.W.Frag} {mg : Str → Option Value} {base : Heap}
def sp_law_flow (K : PySem.W.Frag) : Sp := fun vs H Q _ => ∃ (a : Addr) (ns : List Int), vs = [.ref a] ∧ SqL K H a (ns.map V.int) ∧ ∀ (f c : Addr) (H' : Hp), H f = none → H c = none → Flow H' f c → Same H H' → Q (.ref f) H'
theorem ok_law_flow {f : Addr} {fd : FuncData} (F : Fun K "_law_flow" "_law_flow" s_law_flow f fd) (T : Top w K mg) : FnG P w K mg base CX0 1 f fd ["_law_script"] (sp_law_flow K) := by
  refine Fun.okG F sc_law_flow (fun vs H Q E h => ?_) (fun cdv A outer s H vs Q E hr hG h => ?_)
  · obtain ⟨a, ns, rfl, _⟩ := h
    rfl
  obtain ⟨a, ns, rfl, hS, q⟩ := h
  refine ⟨_, (pss_one (ps_ret (pe_lst (pa_cons (pe_callTy (call_list_ofK K rfl) (by rfl) T.m_list (by decide +kernel) (pa_cons (pv 0) pa_nil)) (pa_cons pe_int (pa_cons pe_int (pa_cons pe_int (pa_cons pe_int pa_nil)))))))), ?_⟩
  refine ⟨_, rfl, a, _, rfl, .inl hS, fun c hc => ?_⟩
  refine ⟨(by show 5 ≤ sizeLine; decide), fun f hf => ?_⟩
  have nf : H f = none := by
    cases e : H f with
    | none => rfl
    | some o => rw [same_new hc _ _ e] at hf; cases hf
  have s1 := same_new (o := .lst (ns.map V.int)) hc
  refine q f c _ nf hc ⟨ns, 0, 0, 1, 0, upd_same, same_new hf _ _ upd_same, by decide, by decide, by decide, by decide⟩ fun b o e => same_new hf _ _ (s1 _ _ e)
def sp_law_pick (K : PySem.W.Frag) : Sp := fun vs H Q _ => ∃ (f c : Addr) (m : Int), vs = [.ref f, .int m] ∧ 0 < m ∧ m.natAbs.log2 < 9000 ∧ Flow H f c ∧
  ∀ (v : Int) (H' : Hp), 0 ≤ v → v < m → Flow H' f c → But f H H' → Q (.int v) H'
theorem ok_law_pick {f : Addr} {fd : FuncData} (F : Fun K "_law_pick" "_law_pick" s_law_pick f fd) (T : Top w K mg) : FnG P w K mg base CX0 1 f fd ["_law_flow_here", "_law_many"] (sp_law_pick K) := by
  refine Fun.okG F sc_law_pick (fun vs H Q E h => ?_) (fun cdv A outer s H vs Q E hr hG h => ?_)
  · obtain ⟨f, c, m, rfl, _⟩ := h
    rfl
  obtain ⟨f, c, m, rfl, m0, m9, hF, q⟩ := h
  obtain ⟨ns, i, p, z, r, hf, hc, hi, hp, hz, hz2⟩ := hF
  have ncf : c ≠ f := ne_of hc hf (by intro e; injection e with e; cases ns with | nil => cases e | cons x l => cases e)
  let R1 : TS := fun D' σ' H' => D'.rt = Q ∧ ∃ x2 : Option V, σ' = [some (.ref f), some (.int m), x2, none] ∧ (∃ (i p z r : Int), H' f = some (.lst [.ref c, .int i, .int p, .int z, .int r]) ∧ H' c = some (.lst (ns.map V.int)) ∧ 0 ≤ i ∧ 0 ≤ p ∧ 0 ≤ z ∧ z < 2147483647) ∧ But f H H'
  refine ⟨_, (pss_cons (ps_if (PW.pt (pw_and (pt_cmpR op_eq (pe_ix (ix_listK K rfl) (pv 0) pe_int (fun _ _ => rfl)) pe_int (nomark _)) (pw_and1 (pt_cmpR op_lt (pe_ix (ix_listK K rfl) (pv 0) pe_int (fun _ _ => rfl)) (pe_callB (call_len_seqK K rfl) (by rfl) T.m_len (by decide +kernel) (pa_cons (pe_ix (ix_listK K rfl) (pv 0) pe_int (fun _ _ => rfl)) pa_nil)) (nomark _))))) (pss_cons (ps_set (i := 2) sc_law_pick.nd rfl (Or.inl rfl) (pe_ix (ix_listK K rfl) (pe_ix (ix_listK K rfl) (pv 0) pe_int (fun _ _ => rfl)) (pe_ix (ix_listK K rfl) (pv 0) pe_int (fun _ _ => rfl)) (fun _ _ => rfl)))
      (pss_cons (ps_asg (pe_op op_add (pe_ix (ix_listK K rfl) (pv 0) pe_int (fun _ _ => rfl)) pe_int) (pg_sub (pv 0) pe_int set_list))
      (pss_one (ps_if (pt_cmpR op_ge (pv 2) (pe_op op_pow pe_int pe_int) (nomark _)) (pss_one (ps_asg (pv 2) (pg_sub (pv 0) pe_int set_list))) (pss_one (ps_asg (pe_op op_mod (pe_op op_add (pe_op op_add (pe_op op_mul (pe_ix (ix_listK K rfl) (pv 0) pe_int (fun _ _ => rfl)) pe_int) (pe_op op_mod (pv 2) pe_int)) pe_int) pe_int) (pg_sub (pv 0) pe_int set_list))))))) pss_nil)
      (PSs.to (pss_cons (ps_if (pt_cmpR op_gt (pe_ix (ix_listK K rfl) (pv 0) pe_int (fun _ _ => rfl)) pe_int (nomark _)) (pss_cons (ps_set (i := 3) sc_law_pick.nd rfl (Or.inl rfl) (pe_op op_mod (pe_ix (ix_listK K rfl) (pv 0) pe_int (fun _ _ => rfl)) (pv 1)))
      (pss_cons (ps_asg (pe_op op_fdivW (pe_ix (ix_listK K rfl) (pv 0) pe_int (fun _ _ => rfl)) (pv 1)) (pg_sub (pv 0) pe_int set_list))
      (pss_one (ps_ret (pv 3))))) pss_nil)
      (pss_cons (ps_asg (pe_op op_add (pe_ix (ix_listK K rfl) (pv 0) pe_int (fun _ _ => rfl)) pe_int) (pg_sub (pv 0) pe_int set_list))
      (pss_cons (ps_asg (pe_op op_mod (pe_op op_add (pe_op op_add (pe_op op_mul (pe_ix (ix_listK K rfl) (pv 0) pe_int (fun _ _ => rfl)) pe_int) pe_int) (pe_ix (ix_listK K rfl) (pv 0) pe_int (fun _ _ => rfl))) pe_int) (pg_sub (pv 0) pe_int set_list))
      (pss_one (ps_ret (pe_op op_mod (pe_op op_fdiv (pe_op op_mod (pe_op op_mul (pe_op op_add (pe_op op_mod (pe_ix (ix_listK K rfl) (pv 0) pe_int (fun _ _ => rfl)) pe_int) pe_int) (pe_op op_add (pe_op op_fdiv (pe_ix (ix_listK K rfl) (pv 0) pe_int (fun _ _ => rfl)) pe_int) pe_int)) pe_int) pe_int) (pv 1))))))) R1 ?tail1)), ?_⟩
  case tail1 =>
    rintro D' σ' H1 ⟨eD, x2, rfl, ⟨i, p, z, r, hf, hc, hi, hp, hz, hz2⟩, bt⟩
    refine ⟨_, rfl, f, _, _, _, rfl, rfl, SqL.of hf, atI_nat (j := 2) rfl, _, _, rfl, rfl, _, rfl, if_bl (fun c1 => ?_) (fun c1 => ?_)⟩
    · refine ⟨_, rfl, f, _, _, _, rfl, rfl, SqL.of hf, atI_nat (j := 2) rfl, _, rfl, _, _, rfl, rfl, m0, ?_⟩
      refine ⟨_, rfl, f, _, _, _, rfl, rfl, SqL.of hf, atI_nat (j := 2) rfl, _, rfl, _, _, rfl, rfl, ⟨m0, m9⟩, _, rfl, f, _, _, 2, rfl, rfl, hf, rfl, ?_⟩
      refine ⟨_, rfl, ?_⟩
      rw [eD]
      exact q _ _ (Int.emod_nonneg _ (by omega)) (Int.emod_lt_of_pos _ m0) ⟨ns, i, p / m, z, r, upd_same, (by rw [upd_ne ncf]; exact hc), hi, Int.ediv_nonneg hp (by omega), hz, hz2⟩ bt.upd
    · refine ⟨_, rfl, f, _, _, _, rfl, rfl, SqL.of hf, atI_nat (j := 4) rfl, _, _, rfl, rfl, _, rfl, f, _, _, 4, rfl, rfl, hf, rfl, ?_⟩
      have hf2 : upd H1 f (.lst ([V.ref c, V.int i, V.int p, V.int z, V.int r].set 4 (V.int (r + 1)))) f = some (.lst [.ref c, .int i, .int p, .int z, .int (r + 1)]) := upd_same
      refine ⟨_, rfl, f, _, _, _, rfl, rfl, SqL.of hf2, atI_nat (j := 3) rfl, _, _, rfl, rfl, .inl ⟨by omega, by omega⟩, _, _, rfl, rfl, _, rfl, f, _, _, _, rfl, rfl, SqL.of hf2, atI_nat (j := 4) rfl, _, _, rfl, rfl, _, _, rfl, rfl, (by show (0 : Int) < 2147483647; decide), _, rfl, f, _, _, 3, rfl, rfl, hf2, rfl, ?_⟩
      have z0 : 0 ≤ (z * 48271 + 12820163 + (r + 1)) % 2147483647 := Int.emod_nonneg _ (by decide)
      have z1 : (z * 48271 + 12820163 + (r + 1)) % 2147483647 < 2147483647 := Int.emod_lt_of_pos _ (by decide)
      have hf3 : upd (upd H1 f (.lst ([V.ref c, V.int i, V.int p, V.int z, V.int r].set 4 (V.int (r + 1))))) f (.lst ([V.ref c, V.int i, V.int p, V.int z, V.int (r + 1)].set 3 (V.int ((z * 48271 + 12820163 + (r + 1)) % 2147483647)))) f =
        some (.lst [.ref c, .int i, .int p, .int ((z * 48271 + 12820163 + (r + 1)) % 2147483647), .int (r + 1)]) := upd_same
      have hc3 : upd (upd H1 f (.lst ([V.ref c, V.int i, V.int p, V.int z, V.int r].set 4 (V.int (r + 1))))) f (.lst ([V.ref c, V.int i, V.int p, V.int z, V.int (r + 1)].set 3 (V.int ((z * 48271 + 12820163 + (r + 1)) % 2147483647)))) c = some (.lst (ns.map V.int)) := by
        rw [upd_ne ncf, upd_ne ncf]
        exact hc
      refine ⟨_, rfl, f, _, _, _, rfl, rfl, SqL.of hf3, atI_nat (j := 3) rfl, _, _, rfl, rfl, (by show (0 : Int) < 65521; decide), _, _, rfl, rfl, _, rfl, f, _, _, _, rfl, rfl, SqL.of hf3, atI_nat (j := 3) rfl, _, _, rfl, rfl, ⟨by decide, by decide⟩, _, _, rfl, rfl, _, _, rfl, rfl, .inl ⟨?_, ?_⟩, _, _, rfl, rfl, (by show (0 : Int) < 1000003; decide), _, _, rfl, rfl, ⟨by decide, by decide⟩, _, rfl, _, _, rfl, rfl, m0, ?_⟩
      · omega
      · omega
      · rw [eD]
        exact q _ _ (Int.emod_nonneg _ (by omega)) (Int.emod_lt_of_pos _ m0) ⟨ns, i, p, _, r + 1, hf3, hc3, hi, hp, z0, z1⟩ bt.upd.upd
  refine ⟨_, rfl, f, _, _, _, rfl, rfl, SqL.of hf, atI_nat (j := 2) rfl, rfl, _, rfl, if_bl (fun c1 => ?_) (fun c1 => ?_)⟩
  · refine ⟨_, rfl, f, _, _, _, rfl, rfl, SqL.of hf, atI_nat (j := 1) rfl, _, rfl, f, _, _, _, rfl, rfl, SqL.of hf, atI_nat (j := 0) rfl, c, _, rfl, .inl (SqL.of hc), _, _, rfl, rfl, _, rfl, if_bl (fun c2 => ?_) (fun c2 => ?_)⟩
    · have c3 : i < ((ns.map V.int).length : Int) := of_decide_eq_true c2
      rw [List.length_map] at c3
      obtain ⟨v, hv⟩ := at_ints hi c3
      refine ⟨_, rfl, f, _, _, _, rfl, rfl, SqL.of hf, atI_nat (j := 0) rfl, _, rfl, f, _, _, _, rfl, rfl, SqL.of hf, atI_nat (j := 1) rfl, c, _, i, _, rfl, rfl, SqL.of hc, hv, ?_⟩
      refine ⟨_, rfl, f, _, _, _, rfl, rfl, SqL.of hf, atI_nat (j := 1) rfl, _, _, rfl, rfl, _, rfl, f, _, _, 1, rfl, rfl, hf, rfl, ?_⟩
      have hf2 : upd H f (.lst ([V.ref c, V.int i, V.int p, V.int z, V.int r].set 1 (V.int (i + 1)))) f = some (.lst [.ref c, .int (i + 1), .int p, .int z, .int r]) := upd_same
      refine ⟨_, rfl, _, _, rfl, rfl, ⟨by decide, by decide, by decide⟩, _, _, rfl, rfl, _, rfl, if_bl (fun c4 => ?_) (fun c4 => ?_)⟩
      · have c5 : (10 : Int) ^ (18 : Int).toNat ≤ v := of_decide_eq_true c4
        have c6 : (0 : Int) ≤ (10 : Int) ^ (18 : Int).toNat := by decide
        refine ⟨_, rfl, _, rfl, f, _, _, 2, rfl, rfl, hf2, rfl, rfl, _, rfl, ⟨i + 1, v, z, r, upd_same, ?_, by omega, by omega, hz, hz2⟩, But.refl.upd.upd⟩
        rw [upd_ne ncf, upd_ne ncf]
        exact hc
      · refine ⟨_, rfl, f, _, _, _, rfl, rfl, SqL.of hf2, atI_nat (j := 3) rfl, _, _, rfl, rfl, .inl ⟨by omega, by omega⟩, _, rfl, _, _, rfl, rfl, (by show (0 : Int) < 1000003; decide), _, _, rfl, rfl, _, _, rfl, rfl, _, _, rfl, rfl, (by show (0 : Int) < 2147483647; decide), _, rfl, f, _, _, 3, rfl, rfl, hf2, rfl, rfl, _, rfl, ⟨i + 1, p, _, r, upd_same, ?_, by omega, hp, Int.emod_nonneg _ (by decide), Int.emod_lt_of_pos _ (by decide)⟩, But.refl.upd.upd⟩
        rw [upd_ne ncf, upd_ne ncf]
        exact hc
    · exact ⟨rfl, _, rfl, ⟨i, p, z, r, hf, hc, hi, hp, hz, hz2⟩, But.refl⟩
  · exact ⟨rfl, _, rfl, ⟨i, p, z, r, hf, hc, hi, hp, hz, hz2⟩, But.refl⟩
end
abbrev nV (n : Nat) : V := .int (n : Nat)
/-! ### data of known size -/
structure Neat (d : PyData) (dp wt : Nat) : Prop where
  lay : d.canLay0 = true
  dep : d.depth ≤ dp
  wei : d.weight ≤ wt
  sho : d.intsShort 60 = true
  say : d.showable = true
  nod : d.hasDict = false
structure NeatAll (ds : List PyData) (dp wt : Nat) : Prop where
  lay : PyData.canLayAll0 ds = true
  dep : PyData.depthAll ds ≤ dp
  wei : PyData.weightAll ds ≤ wt
  sho : PyData.intsShortAll 60 ds = true
  say : PyData.showableAll ds = true
  nod : PyData.hasDictAll ds = false
theorem Neat.non {dp : Nat} : Neat .none dp 0 := ⟨rfl, Nat.zero_le _, Nat.le_refl _, by simp [PyData.intsShort], by simp [PyData.showable], by simp [PyData.hasDict]⟩
theorem Neat.bool {b : Bool} {dp : Nat} : Neat (.bool b) dp 0 := ⟨rfl, Nat.zero_le _, Nat.le_refl _, by simp [PyData.intsShort], by simp [PyData.showable], by simp [PyData.hasDict]⟩
theorem Neat.int {i : Int} {dp : Nat} (h : i.natAbs < 10 ^ 45) : Neat (.int i) dp 151 := by
  have l : i.natAbs.log2 < 150 := by
    by_cases z : i.natAbs = 0
    · rw [z]; decide
    · exact (Nat.log2_lt z).mpr (Nat.lt_trans h (by decide))
  refine ⟨rfl, Nat.zero_le _, ?_, ?_, ?_, by simp [PyData.hasDict]⟩
  · simp only [PyData.weight]
    split <;> omega
  · simp only [PyData.intsShort, decide_eq_true_eq]
    have e := int_text_length_le10 (k := 45) (by decide) h
    show (Str.ofString (toString i)).length ≤ 60
    rw [PySem.ofString_length]
    omega
  · simp only [PyData.showable, decide_eq_true_eq]
    omega
theorem Neat.str {x : Str} {n dp : Nat} (h : PyData.canLay0 (.str x) = true) (hn : x.cps.size ≤ n) : Neat (.str x) dp n := ⟨h, Nat.zero_le _, hn, by simp [PyData.intsShort], by simp [PyData.showable], by simp [PyData.hasDict]⟩
theorem NeatAll.nil {dp : Nat} : NeatAll [] dp 0 := ⟨rfl, Nat.zero_le _, Nat.le_refl _, by simp [PyData.intsShortAll], by simp [PyData.showableAll], by simp [PyData.hasDictAll]⟩
theorem NeatAll.cons {d : PyData} {ds : List PyData} {dp a b : Nat} (h : Neat d dp a) (t : NeatAll ds dp b) : NeatAll (d :: ds) dp (a + 1 + b) := by
  refine ⟨?_, ?_, ?_, ?_, ?_, ?_⟩
  · simp only [PyData.canLayAll0, h.lay, t.lay, Bool.and_self]
  · simp only [PyData.depthAll]
    exact Nat.max_le.mpr ⟨h.dep, t.dep⟩
  · simp only [PyData.weightAll]
    have := h.wei
    have := t.wei
    omega
  · simp only [PyData.intsShortAll, h.sho, t.sho, Bool.and_self]
  · simp only [PyData.showableAll, h.say, t.say, Bool.and_self]
  · simp only [PyData.hasDictAll, h.nod, t.nod, Bool.or_self]
theorem Neat.mono {d : PyData} {a b c e : Nat} (h : Neat d a b) (x : a ≤ c) (y : b ≤ e) : Neat d c e := ⟨h.lay, Nat.le_trans h.dep x, Nat.le_trans h.wei y, h.sho, h.say, h.nod⟩
theorem NeatAll.mono {d : List PyData} {a b c e : Nat} (h : NeatAll d a b) (x : a ≤ c) (y : b ≤ e) : NeatAll d c e := ⟨h.lay, Nat.le_trans h.dep x, Nat.le_trans h.wei y, h.sho, h.say, h.nod⟩
theorem Neat.tup {ds : List PyData} {dp n : Nat} (h : NeatAll ds dp n) : Neat (.tuple ds) (dp + 1) n := by
  refine ⟨?_, ?_, ?_, ?_, ?_, ?_⟩
  · simp only [PyData.canLay0, h.lay]
  · simp only [PyData.depth]
    have := h.dep
    omega
  · simp only [PyData.weight]
    exact h.wei
  · simp only [PyData.intsShort, h.sho]
  · simp only [PyData.showable, h.say]
  · simp only [PyData.hasDict, h.nod]
theorem Neat.lst {ds : List PyData} {dp n : Nat} (h : NeatAll ds dp n) : Neat (.list ds) (dp + 1) n := by
  refine ⟨?_, ?_, ?_, ?_, ?_, ?_⟩
  · simp only [PyData.canLay0, h.lay]
  · simp only [PyData.depth]
    have := h.dep
    omega
  · simp only [PyData.weight]
    exact h.wei
  · simp only [PyData.intsShort, h.sho]
  · simp only [PyData.showable, h.say]
  · simp only [PyData.hasDict, h.nod]
theorem NeatAll.map {α : Type} {f : α → PyData} {dp n : Nat} : ∀ {l : List α}, (∀ x ∈ l, Neat (f x) dp n) → NeatAll (l.map f) dp (l.length * (n + 1))
  | [], _ => by rw [List.length_nil, Nat.zero_mul]; exact .nil
  | x :: l, h => by
    have t : NeatAll (l.map f) dp (l.length * (n + 1)) := NeatAll.map fun y hy => h y (List.mem_cons_of_mem _ hy)
    have := NeatAll.cons (h x (List.mem_cons_self ..)) t
    refine NeatAll.mono this (Nat.le_refl _) ?_
    rw [List.length_cons, Nat.add_mul]
    omega
theorem Neat.shaped {d : PyData} {dp n : Nat} (h : Neat d dp n) (k : dp ≤ 60) : SeqAt.shaped d = true := by
  unfold SeqAt.shaped
  rw [h.lay, Bool.true_and]
  exact decide_eq_true (by have := h.dep; omega)
theorem Neat.fits {d : PyData} {dp n : Nat} (h : Neat d dp n) (m : n ≤ 100000) : d.shown.length ≤ sizeLine := by
  have a := PyData.shown_le 60 (by decide) d (PyData.leavesShort_of_canLay0 60 d h.lay h.sho)
  have b := h.wei
  have c : sizeLine = 16777216 := sizeLine_eq
  rw [c]
  have e : (60 + 2) * d.weight ≤ 62 * 100000 := Nat.mul_le_mul (by decide) (by omega)
  omega
/-! ### list of a text's signs; repr of anything -/
section
variable {X : Cx}
theorem call_list_strK (hc : X.calm = true) : CallR X (.type "list") (fun xs H Q => ∃ z : Str, xs = [.str z] ∧ z.cps.size ≤ sizeLine ∧ ∀ l, H l = none → Q (.ref l) (upd H l (.lst (z.cps.toList.map fun c => V.str ⟨#[c]⟩)))) := by
  intro pins st σ H xs us Q J rel asked
  obtain ⟨z, rfl, hz, now⟩ := asked
  obtain ⟨u, rfl, t, rfl⟩ := vals1 rel
  refine call_list_str (J.ok.hd hc) z t (fun h' tk acc c kp at_ items => ?_) hz
  have len : (z.cps.toList.map fun c => V.str ⟨#[c]⟩).length = acc.toList.length := by
    rw [List.length_map, Array.length_toList, Array.length_toList, items.1]
  refine ⟨.ref st.heap.objs.size, upd H st.heap.objs.size (.lst (z.cps.toList.map fun c => V.str ⟨#[c]⟩)), J.laid kp (Nat.le_refl _) (show ObjOk X.prog X.w _ _ _ (.lst (z.cps.toList.map fun c => V.str ⟨#[c]⟩)) from ⟨by rw [List.length_map, Array.length_toList]; exact hz, acc.toList, c, ?_, ?_⟩), rfl, now _ (J.hok.fresh (Nat.le_refl _))⟩
  · refine vals_of_at len fun j x v e1 e2 => ?_
    obtain ⟨cc, tt, e3, e4⟩ := items.2 j v (by rw [← Array.getElem?_toList]; exact e2)
    rw [List.getElem?_map, Array.getElem?_toList, e3] at e1
    have e1 : V.str ⟨#[cc]⟩ = x := Option.some.inj e1
    subst e1
    exact ⟨tt, e4⟩
  · rw [Array.toArray_toList]
    exact at_
def rReprG (K : PySem.W.Frag) : List V → Hp → VK → Prop := fun xs H Q => ∃ (x : V) (d : PyData), xs = [x] ∧ Dp K H x d ∧ d.showable = true ∧ d.hasDict = false ∧ d.depth ≤ 60 ∧ d.shown.length ≤ sizeLine ∧ Q (.str d.shown) H
theorem call_reprG (K : PySem.W.Frag) (hk : X.K = K) (gd : X.A.guards = some []) (un : X.A.units + 64 < cLine) : CallR X (.builtin "repr") (rReprG K) := by
  subst hk
  intro pins st σ H xs us Q J rel asked
  obtain ⟨x, d, rfl, hd, h1, h2, h3, h4, now⟩ := asked
  obtain ⟨u, rfl, ru⟩ := vals1 rel
  cases hd with
  | non =>
    obtain rfl : u = Value.none := ru
    exact PySem.P.repr_of_none ⟨.str _, H, J.tok _, ⟨_, rfl⟩, now⟩
  | bl b =>
    obtain rfl : u = Value.bool b := ru
    refine PySem.P.repr_of_bool ⟨.str (PyData.bool b).shown, H, J.tok _, ⟨st.toks, ?_⟩, now⟩
    cases b <;> rfl
  | int i =>
    obtain ⟨t, rfl⟩ := ru
    refine PySem.P.repr_of_int (by simpa [PyData.showable] using h1) ⟨.str (PyData.int i).shown, H, J.tok _, ⟨st.toks, ?_⟩, now⟩
    first | rfl | (simp only [PyData.shown]; rfl)
  | str z =>
    obtain ⟨t, rfl⟩ := ru
    refine PySem.P.repr_of_str ⟨.str (PyData.str z).shown, H, J.tok _, ⟨st.toks, ?_⟩, now⟩ (by simpa only [PyData.shown] using h4)
    first | rfl | (simp only [PyData.shown])
  | lst a b =>
    obtain rfl : u = Value.ref _ := ru
    obtain ⟨as, rd⟩ := Dp.reads J _ _ _ (.lst a b) rfl
    exact repr_of_reads' rd h1 (PyData.noDict_hsm h2) gd (by omega) (fun _ _ e => e) (fun h' u tk kp => ⟨.str _, H, J.kept (t' := tk) kp, ⟨_, rfl⟩, now⟩) h4
  | tup a b =>
    obtain rfl : u = Value.ref _ := ru
    obtain ⟨as, rd⟩ := Dp.reads J _ _ _ (.tup a b) rfl
    exact repr_of_reads' rd h1 (PyData.noDict_hsm h2) gd (by omega) (fun _ _ e => e) (fun h' u tk kp => ⟨.str _, H, J.kept (t' := tk) kp, ⟨_, rfl⟩, now⟩) h4
end
/-! ### things: any data, its lists other than the draws' -/
mutual
inductive Th (f : Addr) (H : Hp) : V → PyData → Prop
  | non : Th f H .non .none
  | bl (b : Bool) : Th f H (.bl b) (.bool b)
  | int (i : Int) : Th f H (.int i) (.int i)
  | str (x : Str) : Th f H (.str x) (.str x)
  | lst {a : Addr} {xs : List V} {ds : List PyData} : H a = some (.lst xs) → a ≠ f → ThAll f H xs ds → Th f H (.ref a) (.list ds)
  | tup {a : Addr} {xs : List V} {ds : List PyData} : H a = some (.tup xs) → a ≠ f → ThAll f H xs ds → Th f H (.ref a) (.tuple ds)
inductive ThAll (f : Addr) (H : Hp) : List V → List PyData → Prop
  | nil : ThAll f H [] []
  | cons {v : V} {vs : List V} {d : PyData} {ds : List PyData} : Th f H v d → ThAll f H vs ds → ThAll f H (v :: vs) (d :: ds)
end
mutual
theorem Th.dp {K : PySem.W.Frag} {f : Addr} {H : Hp} : ∀ {v : V} {d : PyData}, Th f H v d → Dp K H v d
  | _, _, .non => .non
  | _, _, .bl b => .bl b
  | _, _, .int i => .int i
  | _, _, .str x => .str x
  | _, _, .lst a _ b => .lst (SqL.of a) (ThAll.dp b)
  | _, _, .tup a _ b => .tup (SqT.of a) (ThAll.dp b)
theorem ThAll.dp {K : PySem.W.Frag} {f : Addr} {H : Hp} : ∀ {v : List V} {d : List PyData}, ThAll f H v d → DpAll K H v d
  | _, _, .nil => .nil
  | _, _, .cons a b => .cons (Th.dp a) (ThAll.dp b)
end
mutual
theorem Th.keep {f : Addr} {H H' : Hp} (k : But f H H') : ∀ {v : V} {d : PyData}, Th f H v d → Th f H' v d
  | _, _, .non => .non
  | _, _, .bl b => .bl b
  | _, _, .int i => .int i
  | _, _, .str x => .str x
  | _, _, .lst a n b => .lst (k _ _ a n) n (ThAll.keep k b)
  | _, _, .tup a n b => .tup (k _ _ a n) n (ThAll.keep k b)
theorem ThAll.keep {f : Addr} {H H' : Hp} (k : But f H H') : ∀ {v : List V} {d : List PyData}, ThAll f H v d → ThAll f H' v d
  | _, _, .nil => .nil
  | _, _, .cons a b => .cons (Th.keep k a) (ThAll.keep k b)
end
/-- the name of a thing's class -/
def tyN : PyData → String
  | .none => "NoneType"
  | .bool _ => "bool"
  | .int _ => "int"
  | .str _ => "str"
  | .list _ => "list"
  | .tuple _ => "tuple"
  | .dict _ => "dict"
theorem Th.ty {K : PySem.W.Frag} {f : Addr} {H : Hp} {v : V} {d : PyData} (h : Th f H v d) : TyX K H v (.type (tyN d)) := by
  cases h with
  | non => exact .base .non
  | bl b => exact .base (.bl b)
  | int i => exact .base (.int i)
  | str x => exact .base (.str x)
  | lst a n b => exact .base (.lst a)
  | tup a n b => exact .base (.tup a)
/-- isinstance of a thing -/
def isB (a T : String) : Bool := a == T || (a == "bool" && T == "int")
theorem kit_all : (["NoneType", "bool", "int", "str", "list", "tuple"].all fun a => ["int", "bool", "str", "tuple", "list"].all fun T => decide (kitB a T = some (isB a T))) = true := by decide +kernel
theorem kit_is {K : PySem.W.Frag} {f : Addr} {H : Hp} {v : V} {d : PyData} (h : Th f H v d) (T : String) (hT : T ∈ ["int", "bool", "str", "tuple", "list"]) : PySem.W.kitOne K (.type (tyN d)) (.type T) = some (isB (tyN d) T) := by
  refine kit_ty ?_
  have m : tyN d ∈ ["NoneType", "bool", "int", "str", "list", "tuple"] := by cases h <;> simp [tyN]
  exact of_decide_eq_true (List.all_eq_true.mp (List.all_eq_true.mp kit_all _ m) _ hT)
/-! ### what a rule is -/
def isInt : PyData → Bool
  | .int _ => true
  | _ => false
def oneInt : List PyData → Bool
  | [x] => isInt x
  | _ => false
def isRule : PyData → Bool
  | .tuple (.str z :: l) => decide (z ∈ eleven) && (if z = "times" ∨ z = "always" then oneInt l else l.isEmpty)
  | _ => false
section
variable {P : Program} {w : World} {K : PySem.W.Frag} {mg : Str → Option Value} {base : Heap}
def sp_is_whole (K : PySem.W.Frag) : Sp := fun vs H Q _ => ∃ (f : Addr) (v : V) (d : PyData), vs = [v] ∧ Th f H v d ∧ Q (.bl (isInt d)) H
theorem ok_is_whole {f : Addr} {fd : FuncData} (F : Fun K "is_whole" "is_whole" s_is_whole f fd) (T : Top w K mg) : FnG P w K mg base CX0 1 f fd ["thing"] (sp_is_whole K) := by
  refine Fun.okG F sc_is_whole (fun vs H Q E h => ?_) (fun cdv A outer s H vs Q E hr hG h => ?_)
  · obtain ⟨f, v, d, rfl, _⟩ := h
    rfl
  obtain ⟨f, v, d, rfl, th, q⟩ := h
  refine ⟨_, (pss_one (ps_ret (pe_and (pe_callB (call_isiKK K rfl) (by rfl) T.m_isinstance (by decide +kernel) (pa_cons (pv 0) (pa_cons (pe_bltn (v := .ty "int") (by rfl) T.m_int (by decide +kernel) rfl) pa_nil))) (pe_one (pe_not (pe_callB (call_isiKK K rfl) (by rfl) T.m_isinstance (by decide +kernel) (pa_cons (pv 0) (pa_cons (pe_bltn (v := .ty "bool") (by rfl) T.m_bool (by decide +kernel) rfl) pa_nil)))))))), ?_⟩
  refine ⟨_, rfl, _, _, _, _, _, rfl, .ty "int", th.ty, kit_is th "int" (by decide), _, rfl, ?_⟩
  have e : isInt d = (isB (tyN d) "int" && !isB (tyN d) "bool") := by cases d <;> rfl
  cases h1 : isB (tyN d) "int" with
  | false =>
    rw [e, h1] at q
    exact q
  | true =>
    refine ⟨_, rfl, _, _, _, _, _, rfl, .ty "bool", th.ty, kit_is th "bool" (by decide), _, rfl, ?_⟩
    rw [e, h1] at q
    exact q
def sp_is_rule (K : PySem.W.Frag) : Sp := fun vs H Q _ => ∃ (f : Addr) (v : V) (d : PyData), vs = [v] ∧ Th f H v d ∧ Q (.bl (isRule d)) H
theorem ok_is_rule {f : Addr} {fd : FuncData} (F : Fun K "is_rule" "is_rule" s_is_rule f fd) (T : Top w K mg) : FnG P w K mg base CX0 2 f fd ["thing"] (sp_is_rule K) := by
  obtain ⟨f_is_whole, fd_is_whole, F_is_whole, b_is_whole, m_is_whole⟩ := T.d_is_whole
  have G_is_whole := ok_is_whole (P := P) (w := w) (base := base) F_is_whole T
  refine Fun.okG F sc_is_rule (fun vs H Q E h => ?_) (fun cdv A outer s H vs Q E hr hG h => ?_)
  · obtain ⟨f, v, d, rfl, _⟩ := h
    rfl
  obtain ⟨f, v, d, rfl, th, q⟩ := h
  obtain ⟨aN, mN, hN⟩ := T.x_needs
  obtain ⟨aW, mW, hW⟩ := T.x_with
  obtain ⟨es, nn, hKD⟩ := hN.dict
  refine ⟨_, (pss_cons (ps_if (PW.pt (pw_or (pt_not (pt_val (pe_callB (call_isiKK K rfl) (by rfl) T.m_isinstance (by decide +kernel) (pa_cons (pv 0) (pa_cons (pe_bltn (v := .ty "tuple") (by rfl) T.m_tuple (by decide +kernel) rfl) pa_nil))))) (pw_or1 (pt_cmpR op_lt (pe_callB (call_len_seqK K rfl) (by rfl) T.m_len (by decide +kernel) (pa_cons (pv 0) pa_nil)) pe_int (nomark _))))) (pss_one (ps_ret pe_bl)) pss_nil)
      (pss_cons (ps_set (i := 1) sc_is_rule.nd rfl (Or.inl rfl) (pe_ix (ix_tupK K rfl) (pv 0) pe_int (fun _ _ => rfl)))
      (pss_cons (ps_if (PW.pt (pw_or (pt_not (pt_val (pe_callB (call_isiKK K rfl) (by rfl) T.m_isinstance (by decide +kernel) (pa_cons (pv 1) (pa_cons (pe_bltn (v := .ty "str") (by rfl) T.m_str (by decide +kernel) rfl) pa_nil))))) (pw_or1 (pt_cmpR (op_notIn_kd hKD) (pv 1) (pe_glob (v := .ref aN) (by rfl) mN rfl) (by with_unfolding_all rfl))))) (pss_one (ps_ret pe_bl)) pss_nil)
      (pss_cons (ps_if (pt_cmpR (op_in_seqK K rfl) (pv 1) (pe_glob (v := .ref aW) (by rfl) mW rfl) (by with_unfolding_all rfl)) (pss_one (ps_ret (pe_and (pe_cmpR op_eq (pe_callB (call_len_seqK K rfl) (by rfl) T.m_len (by decide +kernel) (pa_cons (pv 0) pa_nil)) pe_int (nomark _)) (pe_one (pe_callG G_is_whole (hr.mono (by decide)) hG (by rfl) m_is_whole F_is_whole.kp b_is_whole .nil pass0 (pa_cons (pe_ix (ix_tupK K rfl) (pv 0) pe_int (fun _ _ => rfl)) pa_nil)))))) pss_nil)
      (pss_one (ps_ret (pe_cmpR op_eq (pe_callB (call_len_seqK K rfl) (by rfl) T.m_len (by decide +kernel) (pa_cons (pv 0) pa_nil)) pe_int (nomark _)))))))), ?_⟩
  refine ⟨_, rfl, _, _, _, _, _, rfl, .ty "tuple", th.ty, kit_is th "tuple" (by decide), _, rfl, ?_⟩
  have notTuple : (∀ ds, d ≠ .tuple ds) → isRule d = false ∧ isB (tyN d) "tuple" = false := fun h => by
    cases d <;> first | exact ⟨rfl, rfl⟩ | exact absurd rfl (h _)
  by_cases ht : ∃ ds, d = .tuple ds
  · obtain ⟨ds, rfl⟩ := ht
    refine if_bl (fun z => nomatch (show (!true) = true from z)) (fun _ => ?_)
    cases th with
    | @tup a xs _ ha na al =>
    refine ⟨_, rfl, a, _, rfl, .inr (SqT.of ha), _, _, rfl, rfl, _, rfl, ?_⟩
    cases al with
    | nil => exact q
    | @cons x xr d1 dr h1 hr1 =>
    refine if_bl (fun z => ?_) (fun _ => ?_)
    · have z := of_decide_eq_true z
      rw [List.length_cons] at z
      omega
    refine ⟨_, rfl, a, _, _, _, rfl, rfl, SqT.of ha, atI_nat (j := 0) rfl, ?_⟩
    refine ⟨_, rfl, _, _, _, _, _, rfl, .ty "str", h1.ty, kit_is h1 "str" (by decide), _, rfl, ?_⟩
    by_cases hs : ∃ z, d1 = .str z
    · obtain ⟨z, rfl⟩ := hs
      cases h1
      refine if_bl (fun y => nomatch (show (!true) = true from y)) (fun _ => ?_)
      by_cases hz : z ∈ eleven
      · obtain ⟨t, hy⟩ := hN.yes z hz
        refine ⟨_, rfl, z, _, rfl, rfl, hy, _, rfl, if_bl (fun y => nomatch y) (fun _ => ?_)⟩
        have eq1 : isRule (.tuple (.str z :: dr)) = (if z = "times" ∨ z = "always" then oneInt dr else dr.isEmpty) := by
          show (decide (z ∈ eleven) && (if z = "times" ∨ z = "always" then oneInt dr else dr.isEmpty)) = _
          rw [decide_eq_true hz, Bool.true_and]
        rw [eq1] at q
        refine ⟨_, rfl, aW, _, rfl, .inr (hW _), rfl, rfl, _, rfl, if_in (zs := ["times", "always"]) (fun e => ?_) (fun e => ?_)⟩
        · have e2 : z = "times" ∨ z = "always" := by simpa using e
          rw [if_pos e2] at q
          refine ⟨_, rfl, a, _, rfl, .inr (SqT.of ha), rfl, _, rfl, ?_⟩
          cases hr1 with
          | nil => exact q
          | @cons x2 xr2 d2 dr2 h2 hr2 =>
            cases hr2 with
            | nil =>
              exact ⟨_, rfl, a, _, _, _, rfl, rfl, SqT.of ha, atI_nat (j := 1) rfl, f, _, _, rfl, h2, q⟩
            | @cons x3 xr3 d3 dr3 h3 hr3 =>
              rw [decide_eq_false (show ¬ V.int (((V.str z :: x2 :: x3 :: xr3).length : Nat) : Int) = V.int 2 from fun y => by
                have y := V.int.inj y
                simp only [List.length_cons] at y
                omega)]
              exact q
        · have e2 : ¬ (z = "times" ∨ z = "always") := by simpa using e
          rw [if_neg e2] at q
          refine ⟨_, rfl, a, _, rfl, .inr (SqT.of ha), rfl, ?_⟩
          cases hr1 with
          | nil => exact q
          | @cons x2 xr2 d2 dr2 h2 hr2 =>
            rw [decide_eq_false (show ¬ V.int (((V.str z :: x2 :: xr2).length : Nat) : Int) = V.int 1 from fun y => by
              have y := V.int.inj y
              simp only [List.length_cons] at y
              omega)]
            exact q
      · refine ⟨_, rfl, z, _, rfl, rfl, hN.no z hz, _, rfl, if_bl (fun _ => ?_) (fun y => nomatch y)⟩
        have eq1 : isRule (.tuple (.str z :: dr)) = false := by
          show (decide (z ∈ eleven) && _) = _
          rw [decide_eq_false hz, Bool.false_and]
        rw [eq1] at q
        exact q
    · have e1 : isB (tyN d1) "str" = false := by cases d1 <;> first | rfl | exact absurd ⟨_, rfl⟩ hs
      rw [e1]
      refine if_bl (fun _ => ?_) (fun y => nomatch y)
      have eq1 : isRule (.tuple (d1 :: dr)) = false := by cases d1 <;> first | rfl | exact absurd ⟨_, rfl⟩ hs
      rw [eq1] at q
      exact q
  · obtain ⟨e1, e2⟩ := notTuple (fun ds h => ht ⟨ds, h⟩)
    rw [e1] at q
    rw [e2]
    exact if_bl (fun _ => q) (fun y => nomatch y)
def sp_needs (K : PySem.W.Frag) : Sp := fun vs H Q _ => ∃ (r : Addr) (z : Str) (l : List V), vs = [.ref r] ∧ SqT K H r (.str z :: l) ∧ z ∈ eleven ∧ Q (.int (needN z)) H
theorem ok_needs {f : Addr} {fd : FuncData} (F : Fun K "needs" "needs" s_needs f fd) (T : Top w K mg) : FnG P w K mg base CX0 1 f fd ["rule"] (sp_needs K) := by
  refine Fun.okG F sc_needs (fun vs H Q E h => ?_) (fun cdv A outer s H vs Q E hr hG h => ?_)
  · obtain ⟨r, z, l, rfl, _⟩ := h
    rfl
  obtain ⟨r, z, l, rfl, hR, hz, q⟩ := h
  obtain ⟨aN, mN, hN⟩ := T.x_needs
  obtain ⟨es, nn, hKD⟩ := hN.dict
  obtain ⟨t, hy⟩ := hN.yes z hz
  refine ⟨_, (pss_one (ps_ret (pe_ix ix_kdict (pe_glob (v := .ref aN) (by rfl) mN rfl) (pe_ix (ix_tupK K rfl) (pv 0) pe_int (fun _ _ => rfl)) (fun _ _ => rfl)))), ?_⟩
  exact ⟨_, rfl, r, _, _, _, rfl, rfl, hR, atI_nat (j := 0) rfl, aN, z, .int (needN z), rfl, rfl, ⟨es, nn, _, hKD.at_, hKD.lit, hy, ⟨t, rfl⟩⟩, q⟩
end
/-! ### the law's own draws -/
def GoodS (z : Str) (n : Nat) : Prop := PyData.canLay0 (.str z) = true ∧ z.cps.size ≤ n
theorem goodS_iff {z : Str} : PyData.canLay0 (.str z) = true ↔ ∀ c ∈ z.cps.toList, c < 0x110000 := by
  show PyData.strOk z = true ↔ _
  unfold PyData.strOk
  rw [← Array.all_toList, List.all_eq_true]
  constructor
  · intro h c hc
    exact of_decide_eq_true (h c hc)
  · intro h c hc
    exact decide_eq_true (h c hc)
theorem join_cps : ∀ ys : List Str, (Str.join "" ys).cps.toList = (ys.map fun y => y.cps.toList).flatten
  | [] => rfl
  | [x] => by
    show x.cps.toList = _
    simp
  | x :: y :: r => by
    have ih := join_cps (y :: r)
    show ((x ++ "" ++ Str.join "" (y :: r) : Str)).cps.toList = _
    have e : ((x ++ "" ++ Str.join "" (y :: r) : Str)).cps.toList = x.cps.toList ++ (Str.join "" (y :: r)).cps.toList := by
      show ((x.cps ++ #[]) ++ (Str.join "" (y :: r)).cps).toList = _
      simp
    rw [e, ih]
    rfl
theorem join_signs {cs : List Nat} {n : Nat} (h : ∀ c ∈ cs, c < 0x110000) (hn : cs.length ≤ n) : GoodS (Txt.join "" (cs.map fun c => (⟨#[c]⟩ : Str))) n := by
  have e : (Txt.join "" (cs.map fun c => (⟨#[c]⟩ : Str))).cps.toList = cs := by
    show (Builtin.Str.glued "" _).cps.toList = cs
    rw [StrLaws.glued_eq_join, join_cps, List.map_map]
    clear h hn
    induction cs with
    | nil => rfl
    | cons c cs ih =>
      rw [List.map_cons, List.flatten_cons, ih]
      rfl
  refine ⟨goodS_iff.mpr ?_, ?_⟩
  · rw [e]; exact h
  · rw [← Array.length_toList, e]; exact hn
theorem cut_mem {xs : List V} {lo hi : Option Int} {y : V} (h : y ∈ cutV xs lo hi) : y ∈ xs := List.mem_of_mem_drop (List.mem_of_mem_take h)
/-- a small thing -/
def Gd (f : Addr) (H : Hp) (y : V) : Prop := ∃ d, Th f H y d ∧ Neat d 2 400
theorem Gd.keep {f : Addr} {H H' : Hp} {y : V} (g : Gd f H y) (k : But f H H') : Gd f H' y := by
  obtain ⟨d, a, b⟩ := g
  exact ⟨d, a.keep k, b⟩
theorem gd_all {f : Addr} {H : Hp} : ∀ {ys : List V}, (∀ y ∈ ys, Gd f H y) → ∃ ds, ThAll f H ys ds ∧ NeatAll ds 2 (ys.length * 401)
  | [], _ => ⟨[], .nil, .nil⟩
  | y :: ys, h => by
    obtain ⟨ds, a, b⟩ := gd_all (ys := ys) fun z hz => h z (List.mem_cons_of_mem _ hz)
    obtain ⟨d, c, e⟩ := h y (List.mem_cons_self ..)
    refine ⟨d :: ds, .cons c a, (NeatAll.cons e b).mono (Nat.le_refl _) ?_⟩
    rw [List.length_cons]
    omega
theorem gd_str {f : Addr} {H : Hp} {z : Str} (h : GoodS z 100) : Gd f H (.str z) := ⟨_, .str z, (Neat.str h.1 h.2).mono (Nat.le_refl _) (by decide)⟩
theorem flat_rep {α : Type} (x : α) : ∀ n : Nat, (List.replicate n [x]).flatten = List.replicate n x
  | 0 => rfl
  | n + 1 => by
    rw [List.replicate_succ, List.flatten_cons, flat_rep x n]
    rfl
theorem log_small {m : Nat} (h : m ≤ 500) : ((m : Int)).natAbs.log2 < 9000 := by
  rw [Int.natAbs_natCast]
  exact Nat.lt_of_le_of_lt (Nat.log2_le_self m) (by omega)
section
variable {P : Program} {w : World} {K : PySem.W.Frag} {mg : Str → Option Value} {base : Heap}
def abc : Str := "abcdefghijklmnopqrstuvwxyz"
def sp_law_word (K : PySem.W.Frag) : Sp := fun vs H Q _ => ∃ f c : Addr, vs = [.ref f, .int 6] ∧ Flow H f c ∧ ∀ (z : Str) (H' : Hp), GoodS z 100 → Flow H' f c → But f H H' → Q (.str z) H'
theorem ok_law_word {f : Addr} {fd : FuncData} (F : Fun K "_law_word" "_law_word" s_law_word f fd) (T : Top w K mg) : FnG P w K mg base CX0 2 f fd ["_law_flow_here", "_law_most"] (sp_law_word K) := by
  obtain ⟨f_law_pick, fd_law_pick, F_law_pick, b_law_pick, m_law_pick⟩ := T.d_law_pick
  have G_law_pick := ok_law_pick (P := P) (w := w) (base := base) F_law_pick T
  refine Fun.okG F sc_law_word (fun vs H Q E h => ?_) (fun cdv A outer s H vs Q E hr hG h => ?_)
  · obtain ⟨f, c, rfl, _⟩ := h
    rfl
  obtain ⟨f, c, rfl, hF, q⟩ := h
  refine ⟨_, (pss_cons (ps_set (i := 2) sc_law_word.nd rfl (Or.inr rfl) pe_str)
      (pss_one (ps_ret (pe_join pe_str (pe_lc (own := [("_law_k", 3)]) (g := gName 3) (tt := tYes) (by rfl) sc_law_word.nd (pi_range1 (by rfl) T.m_range (pa_cons (pe_op op_add pe_int (pe_callG G_law_pick (hr.mono (by decide)) hG (by rfl) m_law_pick F_law_pick.kp b_law_pick .nil pass0 (pa_cons (pv 0) (pa_cons (pv 1) pa_nil)))) pa_nil)) (blkOk_by (own := [("_law_k", 3)]) (N := N_law_word) (sc := defScope s_law_word) (by decide +kernel)) (fun _ _ _ _ _ => (pg_name (i := 3) sc_law_word.nd rfl (Or.inl rfl))) (fun _ _ _ _ _ => pts_nil) (fun _ _ _ _ _ => (pe_ix ix_str (pv 2) (pe_callG G_law_pick (hr.mono (by decide)) hG (by rfl) m_law_pick F_law_pick.kp b_law_pick .nil pass0 (pa_cons (pv 0) (pa_cons pe_int pa_nil))) (fun _ _ => rfl)))))))), ?_⟩
  refine ⟨⟨_, rfl⟩, _, rfl, _, rfl, f, c, 6, rfl, by decide, by decide +kernel, hF, fun v1 H1 a1 b1 F1 B1 => ?_⟩
  refine ⟨_, _, rfl, rfl, _, rfl, by omega, by omega, fun D nD => lc_range (lo := 0) (n := (1 + v1).toNat) (fun i H5 => ∃ cs : List Nat, cs.length = i ∧ H5 D = some (.lst ((cs.map fun c => (⟨#[c]⟩ : Str)).map V.str)) ∧ (∀ c ∈ cs, c < 0x110000) ∧ Flow H5 f c ∧ But f H H5 ∧ D ≠ f ∧ D ≠ c ∧ H D = Option.none) ⟨[], rfl, upd_same, (fun _ z => nomatch z), F1.new nD, B1.new nD, F1.ne nD, F1.nec nD, B1.none nD (F1.ne nD)⟩ ?_ ?_⟩
  · rintro i H5 hi ⟨cs, lc, hD, hc, F5, B5, d1, d2, d3⟩
    refine ⟨rfl, yes_in ⟨_, rfl, _, rfl, f, c, 26, rfl, by decide, by decide +kernel, F5, fun v H6 v0 v1' F6 B6 => ?_⟩⟩
    obtain ⟨ch, hch, hl⟩ : ∃ ch, atI abc.cps.toList v = some ch ∧ ch < 0x110000 := by
      have hk : v.toNat < abc.cps.toList.length := by
        have : abc.cps.toList.length = 26 := by decide +kernel
        omega
      have ek : v = ((v.toNat : Nat) : Int) := by omega
      have q2 : atI abc.cps.toList ((v.toNat : Nat) : Int) = some (abc.cps.toList[v.toNat]) := atI_nat (List.getElem?_eq_getElem hk)
      rw [← ek] at q2
      refine ⟨_, q2, ?_⟩
      have : ∀ c ∈ abc.cps.toList, c < 0x110000 := by decide +kernel
      exact this _ (List.getElem_mem _)
    refine ⟨abc, v, ch, rfl, rfl, by decide +kernel, hch, _, B6 _ _ hD d1, ?_, cs ++ [ch], by rw [List.length_append, lc]; rfl, ?_, ?_, F6.lst d1 d2, (B5.trans B6).own d3, d1, d2, d3⟩
    · rw [List.length_map, List.length_map, lc]; exact small1000 (by omega)
    · rw [upd_same, List.map_append, List.map_append]; rfl
    · intro x hx
      rcases List.mem_append.mp hx with hx | hx
      · exact hc x hx
      · obtain rfl : x = ch := by simpa using hx
        exact hl
  · rintro H5 ⟨cs, lc, hD, hc, F5, B5, d1, d2, d3⟩
    refine ⟨_, D, _, rfl, rfl, .inl (SqL.of hD), ?_, q _ _ (join_signs hc (by omega)) F5 B5⟩
    have e : ((cs.map fun c => (⟨#[c]⟩ : Str)).map (·.length)).sum = cs.length := by
      clear hD hc lc
      induction cs with
      | nil => rfl
      | cons a l ih =>
        rw [List.map_cons, List.map_cons, List.sum_cons, ih]
        show 1 + l.length = l.length + 1
        omega
    rw [e]
    show cs.length + (cs.map _).length * 0 ≤ 16777216
    omega
def sp_law_put (K : PySem.W.Frag) : Sp := fun vs H Q _ => ∃ (f c l : Addr) (xs : List V) (y : V), vs = [.ref f, .ref l, y] ∧ H l = some (.lst xs) ∧ l ≠ f ∧ xs ≠ [] ∧ xs.length ≤ 100 ∧ Flow H f c ∧
  ∀ (p : Addr) (ys : List V) (H' : Hp), (∀ z ∈ ys, z ∈ xs ∨ z = y) → ys.length ≤ 2 * xs.length + 2 → H p = none → p ≠ f → H' p = some (.lst ys) → Flow H' f c → But f H H' → Q (.ref p) H'
theorem ok_law_put {f : Addr} {fd : FuncData} (F : Fun K "_law_put" "_law_put" s_law_put f fd) (T : Top w K mg) : FnG P w K mg base CX0 2 f fd ["_law_flow_here", "_law_some", "_law_one"] (sp_law_put K) := by
  obtain ⟨f_law_pick, fd_law_pick, F_law_pick, b_law_pick, m_law_pick⟩ := T.d_law_pick
  have G_law_pick := ok_law_pick (P := P) (w := w) (base := base) F_law_pick T
  refine Fun.okG F sc_law_put (fun vs H Q E h => ?_) (fun cdv A outer s H vs Q E hr hG h => ?_)
  · obtain ⟨f, c, l, xs, y, rfl, _⟩ := h
    rfl
  obtain ⟨f, c, l, xs, y, rfl, hl, nl, hne, hlen, hF, q⟩ := h
  have hpos := List.length_pos_iff.mpr hne
  refine ⟨_, (pss_cons (ps_set (i := 3) sc_law_put.nd rfl (Or.inl rfl) (pe_callG G_law_pick (hr.mono (by decide)) hG (by rfl) m_law_pick F_law_pick.kp b_law_pick .nil pass0 (pa_cons (pv 0) (pa_cons pe_int pa_nil))))
      (pss_cons (ps_set (i := 4) sc_law_put.nd rfl (Or.inl rfl) (pe_callG G_law_pick (hr.mono (by decide)) hG (by rfl) m_law_pick F_law_pick.kp b_law_pick .nil pass0 (pa_cons (pv 0) (pa_cons (pe_op op_add (pe_callB (call_len_seqK K rfl) (by rfl) T.m_len (by decide +kernel) (pa_cons (pv 1) pa_nil)) (pe_callTy call_int1 (by rfl) T.m_int (by decide +kernel) (pa_cons (pe_cmpR op_eq (pv 3) pe_int (nomark _)) pa_nil))) pa_nil))))
      (pss_cons (ps_if (pt_cmpR op_eq (pv 3) pe_int (nomark _)) (pss_one (ps_ret (pe_op op_cat (pe_op op_cat (pe_slice (sl_listK K rfl) (pv 1) po_none (po_some (pv 4))) (pe_lst (pa_cons (pv 2) pa_nil))) (pe_slice (sl_listK K rfl) (pv 1) (po_some (pv 4)) po_none)))) pss_nil)
      (pss_one (ps_ret (pe_op op_cat (pe_op op_cat (pe_slice (sl_listK K rfl) (pv 1) po_none (po_some (pv 4))) (pe_op op_rep (pe_lst (pa_cons (pv 2) pa_nil)) (pe_op op_sub pe_int (pv 3)))) (pe_slice (sl_listK K rfl) (pv 1) (po_some (pe_op op_add (pv 4) pe_int)) po_none))))))), ?_⟩
  refine ⟨_, rfl, f, c, 3, rfl, by decide, by decide +kernel, hF, fun v1 H1 a1 b1 F1 B1 => ?_⟩
  have hl1 := B1 _ _ hl nl
  have lim : ∀ k : Nat, k ≤ 1 → (((xs.length : Nat) : Int) + (k : Int)).natAbs.log2 < 9000 := fun k hk => by
    rw [show ((xs.length : Nat) : Int) + (k : Int) = ((xs.length + k : Nat) : Int) by omega]
    exact log_small (by omega)
  obtain ⟨k, ek, k1⟩ : ∃ k : Nat, (if decide (V.int v1 = V.int 0) = true then (1 : Int) else 0) = (k : Int) ∧ k ≤ 1 := by
    by_cases z : V.int v1 = V.int 0
    · exact ⟨1, by rw [decide_eq_true z]; rfl, by decide⟩
    · exact ⟨0, by rw [decide_eq_false z]; rfl, by decide⟩
  refine ⟨_, rfl, _, rfl, l, _, rfl, .inl (SqL.of hl1), _, rfl, rfl, .inr ⟨_, rfl, _, _, rfl, rfl, ?_⟩⟩
  rw [ek]
  refine ⟨f, c, _, rfl, by omega, lim k k1, F1, fun at_ H2 p0 p1 F2 B2 => ?_⟩
  have hl2 := B2 _ _ hl1 nl
  have cl := fun lo hi => cutV_length xs lo hi
  refine ⟨_, rfl, rfl, _, rfl, if_bl (fun _ => ?_) (fun _ => ?_)⟩
  · refine ⟨_, rfl, _, rfl, _, rfl, l, _, rfl, SqL.of hl2, fun p1 np1 => ?_⟩
    refine ⟨_, rfl, (by show 1 ≤ sizeLine; decide), fun p2 np2 => ⟨p1, p2, _, _, rfl, rfl, same_new np2 _ _ upd_same, upd_same, ?_, fun p3 np3 => ?_⟩⟩
    · have := cl none (some at_)
      exact little (by show _ + 1 ≤ 1000; omega)
    refine ⟨_, rfl, _, rfl, _, rfl, l, _, rfl, SqL.of (same_new np3 _ _ (same_new np2 _ _ (same_new np1 _ _ hl2))), fun p4 np4 => ⟨p3, p4, _, _, rfl, rfl, same_new np4 _ _ upd_same, upd_same, ?_, fun p5 np5 => ?_⟩⟩
    · have := cl none (some at_)
      have := cl (some at_) none
      rw [List.length_append]
      exact little (by show _ + 1 + _ ≤ 1000; omega)
    have F6 := (((F2.new (o := .lst (cutV xs none (some at_))) np1).new (o := .lst [y]) np2).new (o := .lst (cutV xs none (some at_) ++ [y])) np3).new (o := .lst (cutV xs (some at_) none)) np4
    have BB := ((((B1.trans B2).new (o := .lst (cutV xs none (some at_))) np1).new (o := .lst [y]) np2).new (o := .lst (cutV xs none (some at_) ++ [y])) np3).new (o := .lst (cutV xs (some at_) none)) np4
    refine q p5 _ _ (fun z hz => ?_) ?_ (BB.none np5 (F6.ne np5)) (F6.ne np5) upd_same (F6.new np5) (BB.new np5)
    · rcases List.mem_append.mp hz with hz | hz
      · rcases List.mem_append.mp hz with hz | hz
        · exact .inl (cut_mem hz)
        · exact .inr (by simpa using hz)
      · exact .inl (cut_mem hz)
    · have := cl none (some at_)
      have := cl (some at_) none
      rw [List.length_append, List.length_append]
      show _ + 1 + _ ≤ _
      omega
  · refine ⟨_, rfl, _, rfl, _, rfl, l, _, rfl, SqL.of hl2, fun p1 np1 => ?_⟩
    refine ⟨_, rfl, (by show 1 ≤ sizeLine; decide), fun p2 np2 => ⟨_, rfl, _, _, rfl, rfl, p2, 2 - v1, _, rfl, rfl, upd_same, by omega, by omega, little (by show 1 * _ ≤ 1000; omega), fun p2b np2b => ?_⟩⟩
    rw [flat_rep]
    refine ⟨p1, p2b, _, _, rfl, rfl, same_new np2b _ _ (same_new np2 _ _ upd_same), upd_same, ?_, fun p3 np3 => ?_⟩
    · have := cl none (some at_)
      rw [List.length_replicate]
      exact little (by omega)
    refine ⟨_, rfl, _, rfl, _, _, rfl, rfl, _, rfl, l, _, rfl, SqL.of (same_new np3 _ _ (same_new np2b _ _ (same_new np2 _ _ (same_new np1 _ _ hl2)))), fun p4 np4 => ⟨p3, p4, _, _, rfl, rfl, same_new np4 _ _ upd_same, upd_same, ?_, fun p5 np5 => ?_⟩⟩
    · have := cl none (some at_)
      have := cl (some (at_ + 1)) none
      rw [List.length_append, List.length_replicate]
      exact little (by omega)
    have F6 := ((((F2.new (o := .lst (cutV xs none (some at_))) np1).new (o := .lst [y]) np2).new (o := .lst (List.replicate (2 - v1).toNat y)) np2b).new (o := .lst (cutV xs none (some at_) ++ List.replicate (2 - v1).toNat y)) np3).new (o := .lst (cutV xs (some (at_ + 1)) none)) np4
    have BB := (((((B1.trans B2).new (o := .lst (cutV xs none (some at_))) np1).new (o := .lst [y]) np2).new (o := .lst (List.replicate (2 - v1).toNat y)) np2b).new (o := .lst (cutV xs none (some at_) ++ List.replicate (2 - v1).toNat y)) np3).new (o := .lst (cutV xs (some (at_ + 1)) none)) np4
    refine q p5 _ _ (fun z hz => ?_) ?_ (BB.none np5 (F6.ne np5)) (F6.ne np5) upd_same (F6.new np5) (BB.new np5)
    · rcases List.mem_append.mp hz with hz | hz
      · rcases List.mem_append.mp hz with hz | hz
        · exact .inl (cut_mem hz)
        · exact .inr (List.mem_replicate.mp hz).2
      · exact .inl (cut_mem hz)
    · have := cl none (some at_)
      have := cl (some (at_ + 1)) none
      rw [List.length_append, List.length_append, List.length_replicate]
      omega
def sp_law_words (K : PySem.W.Frag) : Sp := fun vs H Q _ => vs = [] ∧ ∀ (p : Addr) (H' : Hp), H p = none → H' p = some (.lst (eleven.map V.str)) → Same H H' → Q (.ref p) H'
theorem ok_law_words {f : Addr} {fd : FuncData} (F : Fun K "_law_words" "_law_words" s_law_words f fd) (T : Top w K mg) : FnG P w K mg base CX0 1 f fd [] (sp_law_words K) := by
  refine Fun.okG F sc_law_words (fun vs H Q E h => ?_) (fun cdv A outer s H vs Q E hr hG h => ?_)
  · obtain ⟨rfl, _⟩ := h
    rfl
  obtain ⟨rfl, q⟩ := h
  refine ⟨_, (pss_one (ps_ret (pe_lst (pa_cons pe_str (pa_cons pe_str (pa_cons pe_str (pa_cons pe_str (pa_cons pe_str (pa_cons pe_str (pa_cons pe_str (pa_cons pe_str (pa_cons pe_str (pa_cons pe_str (pa_cons pe_str pa_nil)))))))))))))), ?_⟩
  exact ⟨(by show 11 ≤ sizeLine; decide), fun p np => q p _ np upd_same (same_new np)⟩
def sp_law_whole (K : PySem.W.Frag) : Sp := fun vs H Q _ => ∃ f c : Addr, vs = [.ref f] ∧ Flow H f c ∧ ∀ (v : Int) (H' : Hp), v.natAbs < 10 ^ 45 → Flow H' f c → But f H H' → Q (.int v) H'
theorem ok_law_whole {f : Addr} {fd : FuncData} (F : Fun K "_law_whole" "_law_whole" s_law_whole f fd) (T : Top w K mg) : FnG P w K mg base CX0 2 f fd ["_law_flow_here"] (sp_law_whole K) := by
  obtain ⟨f_law_pick, fd_law_pick, F_law_pick, b_law_pick, m_law_pick⟩ := T.d_law_pick
  have G_law_pick := ok_law_pick (P := P) (w := w) (base := base) F_law_pick T
  refine Fun.okG F sc_law_whole (fun vs H Q E h => ?_) (fun cdv A outer s H vs Q E hr hG h => ?_)
  · obtain ⟨f, c, rfl, _⟩ := h
    rfl
  obtain ⟨f, c, rfl, hF, q⟩ := h
  refine ⟨_, (pss_cons (ps_set (i := 1) sc_law_whole.nd rfl (Or.inl rfl) (pe_ix (ix_listK K rfl) (pe_lst (pa_cons (pe_callG G_law_pick (hr.mono (by decide)) hG (by rfl) m_law_pick F_law_pick.kp b_law_pick .nil pass0 (pa_cons (pv 0) (pa_cons pe_int pa_nil))) (pa_cons (pe_callG G_law_pick (hr.mono (by decide)) hG (by rfl) m_law_pick F_law_pick.kp b_law_pick .nil pass0 (pa_cons (pv 0) (pa_cons (pe_op op_pow pe_int pe_int) pa_nil))) pa_nil))) (pe_callG G_law_pick (hr.mono (by decide)) hG (by rfl) m_law_pick F_law_pick.kp b_law_pick .nil pass0 (pa_cons (pv 0) (pa_cons pe_int pa_nil))) (fun _ _ => rfl)))
      (pss_one (ps_ret (pe_op op_mul (pv 1) (pe_op op_sub pe_int (pe_op op_mul pe_int (pe_callG G_law_pick (hr.mono (by decide)) hG (by rfl) m_law_pick F_law_pick.kp b_law_pick .nil pass0 (pa_cons (pv 0) (pa_cons pe_int pa_nil))))))))), ?_⟩
  refine ⟨_, rfl, f, c, 9, rfl, by decide, by decide +kernel, hF, fun v1 H1 a1 b1 F1 B1 => ?_⟩
  refine ⟨_, rfl, _, _, rfl, rfl, ⟨by decide, by decide, by decide⟩, f, c, (10 : Int) ^ (40 : Int).toNat, rfl, by decide, by decide +kernel, F1, fun v2 H2 a2 b2 F2 B2 => ?_⟩
  have b2 : v2 < 10 ^ 40 := b2
  refine ⟨(by show 2 ≤ sizeLine; decide), fun p np => ?_⟩
  refine ⟨_, rfl, f, c, 2, rfl, by decide, by decide +kernel, F2.new np, fun v3 H3 a3 b3 F3 B3 => ?_⟩
  have hp := B3 _ _ upd_same (F2.ne np)
  obtain ⟨u, hu, u0, u1⟩ : ∃ u : Int, atI [V.int v1, V.int v2] v3 = some (.int u) ∧ 0 ≤ u ∧ u < 10 ^ 44 := by
    have : v3 = 0 ∨ v3 = 1 := by omega
    rcases this with rfl | rfl
    · exact ⟨v1, rfl, a1, by omega⟩
    · exact ⟨v2, rfl, a2, by omega⟩
  refine ⟨p, _, _, _, rfl, rfl, SqL.of hp, hu, ?_⟩
  refine ⟨_, rfl, _, rfl, f, c, 2, rfl, by decide, by decide +kernel, F3, fun v4 H4 a4 b4 F4 B4 => ⟨_, _, rfl, rfl, .inl ⟨by decide, by decide⟩, _, _, rfl, rfl, _, _, rfl, rfl, .inr ⟨by omega, by omega⟩, ?_⟩⟩
  refine q _ _ ?_ F4 ((((B1.trans B2).new np).trans B3).trans B4)
  have : v4 = 0 ∨ v4 = 1 := by omega
  rcases this with rfl | rfl <;> omega
end
section
variable {P : Program} {w : World} {K : PySem.W.Frag} {mg : Str → Option Value} {base : Heap}
def sp_law_odd (K : PySem.W.Frag) : Sp := fun vs H Q _ => ∃ f c : Addr, vs = [.ref f] ∧ Flow H f c ∧ ∀ (v : V) (H' : Hp), Gd f H' v → Flow H' f c → But f H H' → Q v H'
theorem ok_law_odd {f : Addr} {fd : FuncData} (F : Fun K "_law_odd" "_law_odd" s_law_odd f fd) (T : Top w K mg) : FnG P w K mg base CX0 3 f fd ["_law_flow_here"] (sp_law_odd K) := by
  obtain ⟨f_law_whole, fd_law_whole, F_law_whole, b_law_whole, m_law_whole⟩ := T.d_law_whole
  have G_law_whole := ok_law_whole (P := P) (w := w) (base := base) F_law_whole T
  obtain ⟨f_law_pick, fd_law_pick, F_law_pick, b_law_pick, m_law_pick⟩ := T.d_law_pick
  have G_law_pick := ok_law_pick (P := P) (w := w) (base := base) F_law_pick T
  refine Fun.okG F sc_law_odd (fun vs H Q E h => ?_) (fun cdv A outer s H vs Q E hr hG h => ?_)
  · obtain ⟨f, c, rfl, _⟩ := h
    rfl
  obtain ⟨f, c, rfl, hF, q⟩ := h
  refine ⟨_, (pss_cons (ps_set (i := 1) sc_law_odd.nd rfl (Or.inl rfl) (pe_lst (pa_cons pe_non (pa_cons pe_bl (pa_cons pe_bl (pa_cons pe_str (pa_cons pe_str (pa_cons (pe_tup pa_nil) (pa_cons (pe_tup (pa_cons pe_int pa_nil)) (pa_cons (pe_lst (pa_cons pe_int pa_nil)) (pa_cons (pe_callG G_law_whole (hr.mono (by decide)) hG (by rfl) m_law_whole F_law_whole.kp b_law_whole .nil pass0 (pa_cons (pv 0) pa_nil)) (pa_cons pe_str (pa_cons (pe_tup (pa_cons pe_str pa_nil)) (pa_cons (pe_lst pa_nil) pa_nil))))))))))))))
      (pss_one (ps_ret (pe_ix (ix_listK K rfl) (pv 1) (pe_callG G_law_pick (hr.mono (by decide)) hG (by rfl) m_law_pick F_law_pick.kp b_law_pick .nil pass0 (pa_cons (pv 0) (pa_cons pe_int pa_nil))) (fun _ _ => rfl))))), ?_⟩
  refine ⟨(by show 0 ≤ sizeLine; decide), fun p1 n1 => ⟨(by show 1 ≤ sizeLine; decide), fun p2 n2 => ⟨(by show 1 ≤ sizeLine; decide), fun p3 n3 => ?_⟩⟩⟩
  have F3 := ((hF.new (o := .tup []) n1).new (o := .tup [V.int 1]) n2).new (o := .lst [V.int 2]) n3
  refine ⟨_, rfl, f, c, rfl, F3, fun n H4 hn F4 B4 => ?_⟩
  refine ⟨(by show 1 ≤ sizeLine; decide), fun p5 n5 => ⟨(by show 0 ≤ sizeLine; decide), fun p6 n6 => ⟨(by show 12 ≤ sizeLine; decide), fun p7 n7 => ?_⟩⟩⟩
  have F7 := ((F4.new (o := .tup [V.str "same"]) n5).new (o := .lst []) n6).new (o := .lst [.non, .bl true, .bl false, .str "3", .str "", .ref p1, .ref p2, .ref p3, .int n, .str "same", .ref p5, .ref p6]) n7
  refine ⟨_, rfl, _, rfl, f, c, 12, rfl, by decide, by decide +kernel, F7, fun z H8 z0 z1 F8 B8 => ?_⟩
  have f1 : p1 ≠ f := hF.ne n1
  have f2 : p2 ≠ f := (hF.new n1).ne n2
  have f3 : p3 ≠ f := ((hF.new n1).new n2).ne n3
  have f5 : p5 ≠ f := F4.ne n5
  have f6 : p6 ≠ f := (F4.new n5).ne n6
  have f7 : p7 ≠ f := ((F4.new n5).new n6).ne n7
  have up : ∀ b o, H4 b = some o → b ≠ f → H8 b = some o := fun b o e nb => B8 _ _ (same_new n7 _ _ (same_new n6 _ _ (same_new n5 _ _ e))) nb
  have g1 : H8 p1 = some (.tup []) := up _ _ (B4 _ _ (same_new n3 _ _ (same_new n2 _ _ upd_same)) f1) f1
  have g2 : H8 p2 = some (.tup [V.int 1]) := up _ _ (B4 _ _ (same_new n3 _ _ upd_same) f2) f2
  have g3 : H8 p3 = some (.lst [V.int 2]) := up _ _ (B4 _ _ upd_same f3) f3
  have g5 : H8 p5 = some (.tup [V.str "same"]) := B8 _ _ (same_new n7 _ _ (same_new n6 _ _ upd_same)) f5
  have g6 : H8 p6 = some (.lst []) := B8 _ _ (same_new n7 _ _ upd_same) f6
  have g7 := B8 _ _ upd_same f7
  have BB : But f H H8 := But.trans (((But.trans (((But.refl.new n1).new n2).new n3) B4).new n5).new n6 |>.new n7) B8
  have str : ∀ s : Str, PyData.canLay0 (.str s) = true → s.cps.size ≤ 100 → Gd f H8 (.str s) := fun s a b => gd_str ⟨a, b⟩
  obtain ⟨v, hv, hg⟩ : ∃ v, atI [V.non, .bl true, .bl false, .str "3", .str "", .ref p1, .ref p2, .ref p3, .int n, .str "same", .ref p5, .ref p6] z = some v ∧ Gd f H8 v := by
    have : z = 0 ∨ z = 1 ∨ z = 2 ∨ z = 3 ∨ z = 4 ∨ z = 5 ∨ z = 6 ∨ z = 7 ∨ z = 8 ∨ z = 9 ∨ z = 10 ∨ z = 11 := by omega
    rcases this with rfl | rfl | rfl | rfl | rfl | rfl | rfl | rfl | rfl | rfl | rfl | rfl
    · exact ⟨_, rfl, _, .non, Neat.non.mono (Nat.le_refl _) (by decide)⟩
    · exact ⟨_, rfl, _, .bl _, Neat.bool.mono (Nat.le_refl _) (by decide)⟩
    · exact ⟨_, rfl, _, .bl _, Neat.bool.mono (Nat.le_refl _) (by decide)⟩
    · exact ⟨_, rfl, str _ (by decide +kernel) (by decide +kernel)⟩
    · exact ⟨_, rfl, str _ (by decide +kernel) (by decide +kernel)⟩
    · exact ⟨_, rfl, _, .tup g1 f1 .nil, (Neat.tup (.nil (dp := 0))).mono (by decide) (by decide)⟩
    · exact ⟨_, rfl, _, .tup g2 f2 (.cons (.int _) .nil), (Neat.tup (.cons (Neat.int (dp := 0) (by decide)) .nil)).mono (by decide) (by decide)⟩
    · exact ⟨_, rfl, _, .lst g3 f3 (.cons (.int _) .nil), (Neat.lst (.cons (Neat.int (dp := 0) (by decide)) .nil)).mono (by decide) (by decide)⟩
    · exact ⟨_, rfl, _, .int _, (Neat.int hn).mono (Nat.le_refl _) (by decide)⟩
    · exact ⟨_, rfl, str _ (by decide +kernel) (by decide +kernel)⟩
    · exact ⟨_, rfl, _, .tup g5 f5 (.cons (.str _) .nil), (Neat.tup (.cons (Neat.str (n := 10) (dp := 0) (by decide +kernel) (by decide +kernel)) .nil)).mono (by decide) (by decide)⟩
    · exact ⟨_, rfl, _, .lst g6 f6 .nil, (Neat.lst (.nil (dp := 0))).mono (by decide) (by decide)⟩
  exact ⟨p7, _, _, _, rfl, rfl, SqL.of g7, hv, q _ _ hg F8 BB⟩
mutual
theorem th_one {f : Addr} {H : Hp} : ∀ {v : V} {a b : PyData}, Th f H v a → Th f H v b → a = b
  | _, _, _, .non, .non => rfl
  | _, _, _, .bl _, .bl _ => rfl
  | _, _, _, .int _, .int _ => rfl
  | _, _, _, .str _, .str _ => rfl
  | _, _, _, .lst a _ b, .lst c _ d => by
    rw [a] at c
    cases c
    rw [thall_one b d]
  | _, _, _, .tup a _ b, .tup c _ d => by
    rw [a] at c
    cases c
    rw [thall_one b d]
  | _, _, _, .lst a _ _, .tup c _ _ => by
    rw [a] at c
    cases c
  | _, _, _, .tup a _ _, .lst c _ _ => by
    rw [a] at c
    cases c
theorem thall_one {f : Addr} {H : Hp} : ∀ {v : List V} {a b : List PyData}, ThAll f H v a → ThAll f H v b → a = b
  | _, _, _, .nil, .nil => rfl
  | _, _, _, .cons a b, .cons c d => by rw [th_one a c, thall_one b d]
end
theorem eleven_lay {z : Str} (h : z ∈ eleven) : GoodS z 10 := by
  unfold eleven at h
  simp only [List.mem_cons, List.not_mem_nil, or_false] at h
  rcases h with rfl | rfl | rfl | rfl | rfl | rfl | rfl | rfl | rfl | rfl | rfl <;> exact ⟨by decide +kernel, by decide +kernel⟩
def sp_law_things (K : PySem.W.Frag) : Sp := fun vs H Q _ => ∃ (f c : Addr) (z : Str), vs = [.ref f, .str z] ∧ z ∈ eleven ∧ Flow H f c ∧
  ∀ (p : Addr) (xs : List V) (ds : List PyData) (H' : Hp), H' p = some (.lst (.str z :: xs)) → p ≠ f → H p = none → ThAll f H' (.str z :: xs) (.str z :: ds) → (∀ y ∈ V.str z :: xs, Gd f H' y) → isRule (.tuple (.str z :: ds)) = true → xs.length ≤ 1 → Flow H' f c → But f H H' → Q (.ref p) H'
theorem ok_law_things {f : Addr} {fd : FuncData} (F : Fun K "_law_things" "_law_things" s_law_things f fd) (T : Top w K mg) : FnG P w K mg base CX0 3 f fd ["_law_flow_here", "_law_word_here"] (sp_law_things K) := by
  obtain ⟨f_law_whole, fd_law_whole, F_law_whole, b_law_whole, m_law_whole⟩ := T.d_law_whole
  have G_law_whole := ok_law_whole (P := P) (w := w) (base := base) F_law_whole T
  refine Fun.okG F sc_law_things (fun vs H Q E h => ?_) (fun cdv A outer s H vs Q E hr hG h => ?_)
  · obtain ⟨f, c, z, rfl, _⟩ := h
    rfl
  obtain ⟨f, c, z, rfl, hz, hF, q⟩ := h
  have gz : ∀ H' : Hp, Gd f H' (.str z) := fun H' => gd_str ⟨(eleven_lay hz).1, Nat.le_trans (eleven_lay hz).2 (by decide)⟩
  refine ⟨_, (pss_cons (ps_if (pt_cmpR (op_in_seqK K rfl) (pv 1) (pe_tup (pa_cons pe_str (pa_cons pe_str pa_nil))) (by with_unfolding_all rfl)) (pss_one (ps_ret (pe_lst (pa_cons (pv 1) (pa_cons (pe_callG G_law_whole (hr.mono (by decide)) hG (by rfl) m_law_whole F_law_whole.kp b_law_whole .nil pass0 (pa_cons (pv 0) pa_nil)) pa_nil))))) pss_nil)
      (pss_one (ps_ret (pe_lst (pa_cons (pv 1) pa_nil))))), ?_⟩
  refine ⟨_, rfl, (by show 2 ≤ sizeLine; decide), fun p np => ⟨p, _, rfl, .inr (SqT.of upd_same), rfl, rfl, _, rfl, if_in (zs := ["times", "always"]) (fun e => ?_) (fun e => ?_)⟩⟩
  · have e2 : z = "times" ∨ z = "always" := by simpa using e
    have F1 := hF.new (o := .tup [V.str "times", V.str "always"]) np
    refine ⟨_, rfl, _, rfl, f, c, rfl, F1, fun n H2 hn F2 B2 => ⟨(by show 2 ≤ sizeLine; decide), fun p3 n3 => ?_⟩⟩
    have BB : But f H H2 := (But.refl.new np).trans B2
    refine q p3 [V.int n] [.int n] _ upd_same (F2.ne n3) (BB.none n3 (F2.ne n3)) (.cons (.str _) (.cons (.int _) .nil)) (fun y hy => ?_) ?_ (show 1 ≤ 1 by decide) (F2.new n3) (BB.new n3)
    · rcases List.mem_cons.mp hy with rfl | hy
      · exact gz _
      · obtain rfl : y = V.int n := by simpa using hy
        exact ⟨_, .int _, (Neat.int hn).mono (Nat.le_refl _) (by decide)⟩
    · show (decide (z ∈ eleven) && (if z = "times" ∨ z = "always" then oneInt [.int n] else ([.int n] : List PyData).isEmpty)) = true
      rw [decide_eq_true hz, if_pos e2]
      rfl
  · have e2 : ¬ (z = "times" ∨ z = "always") := by simpa using e
    have F1 := hF.new (o := .tup [V.str "times", V.str "always"]) np
    refine ⟨_, rfl, (by show 1 ≤ sizeLine; decide), fun p3 n3 => ?_⟩
    have BB : But f H (upd H p (.tup [V.str "times", V.str "always"])) := But.refl.new np
    refine q p3 [] [] _ upd_same (F1.ne n3) (BB.none n3 (F1.ne n3)) (.cons (.str _) .nil) (fun y hy => ?_) ?_ (by decide) (F1.new n3) (BB.new n3)
    · obtain rfl : y = V.str z := by simpa using hy
      exact gz _
    · show (decide (z ∈ eleven) && (if z = "times" ∨ z = "always" then oneInt [] else ([] : List PyData).isEmpty)) = true
      rw [decide_eq_true hz, if_neg e2]
      rfl
def sp_law_spoilt (K : PySem.W.Frag) : Sp := fun vs H Q _ => ∃ (f c l : Addr) (z : Str) (xs : List V), vs = [.ref f, .ref l] ∧ z ∈ eleven ∧ H l = some (.lst (.str z :: xs)) ∧ l ≠ f ∧ xs.length ≤ 1 ∧ (∀ y ∈ V.str z :: xs, Gd f H y) ∧ Flow H f c ∧
  ∀ (p : Addr) (ys : List V) (H' : Hp), H' p = some (.lst ys) → p ≠ f → (∀ y ∈ ys, Gd f H' y) → ys.length ≤ 20 → Flow H' f c → But f H H' → Q (.ref p) H'
theorem eleven_signs {z : Str} (h : z ∈ eleven) : z.cps.toList ≠ [] ∧ z.cps.toList.length ≤ 10 := by
  unfold eleven at h
  simp only [List.mem_cons, List.not_mem_nil, or_false] at h
  rcases h with rfl | rfl | rfl | rfl | rfl | rfl | rfl | rfl | rfl | rfl | rfl <;> exact ⟨by decide +kernel, by decide +kernel⟩
def sgn (c : Nat) : V := .str ⟨#[c]⟩
theorem sgn_list : ∀ {ys : List V}, (∀ y ∈ ys, ∃ c, y = sgn c ∧ c < 0x110000) → ∃ cs : List Nat, ys = (cs.map fun c => (⟨#[c]⟩ : Str)).map V.str ∧ ∀ c ∈ cs, c < 0x110000
  | [], _ => ⟨[], rfl, (fun _ z => nomatch z)⟩
  | y :: ys, h => by
    obtain ⟨cs, e, hc⟩ := sgn_list (ys := ys) fun z hz => h z (List.mem_cons_of_mem _ hz)
    obtain ⟨c, e2, hc2⟩ := h y (List.mem_cons_self ..)
    refine ⟨c :: cs, by rw [e, e2]; rfl, fun x hx => ?_⟩
    rcases List.mem_cons.mp hx with rfl | hx
    · exact hc2
    · exact hc x hx
theorem sum_ones (cs : List Nat) : ((cs.map fun c => (⟨#[c]⟩ : Str)).map (·.length)).sum = cs.length := by
  induction cs with
  | nil => rfl
  | cons a l ih =>
    rw [List.map_cons, List.map_cons, List.sum_cons, ih]
    show 1 + l.length = l.length + 1
    omega
def odds : Str := "abelmostSI "
theorem ok_law_spoilt {f : Addr} {fd : FuncData} (F : Fun K "_law_spoilt" "_law_spoilt" s_law_spoilt f fd) (T : Top w K mg) : FnG P w K mg base CX0 4 f fd ["_law_flow_here", "_law_things_here"] (sp_law_spoilt K) := by
  obtain ⟨f_law_pick, fd_law_pick, F_law_pick, b_law_pick, m_law_pick⟩ := T.d_law_pick
  have G_law_pick := ok_law_pick (P := P) (w := w) (base := base) F_law_pick T
  obtain ⟨f_law_put, fd_law_put, F_law_put, b_law_put, m_law_put⟩ := T.d_law_put
  have G_law_put := ok_law_put (P := P) (w := w) (base := base) F_law_put T
  obtain ⟨f_law_odd, fd_law_odd, F_law_odd, b_law_odd, m_law_odd⟩ := T.d_law_odd
  have G_law_odd := ok_law_odd (P := P) (w := w) (base := base) F_law_odd T
  obtain ⟨f_law_word, fd_law_word, F_law_word, b_law_word, m_law_word⟩ := T.d_law_word
  have G_law_word := ok_law_word (P := P) (w := w) (base := base) F_law_word T
  refine Fun.okG F sc_law_spoilt (fun vs H Q E h => ?_) (fun cdv A outer s H vs Q E hr hG h => ?_)
  · obtain ⟨f, c, l, z, xs, rfl, _⟩ := h
    rfl
  obtain ⟨f, c, l, z, xs, rfl, hz, hl, nl, lx, gx, hF, q⟩ := h
  have cl := fun lo hi => cutV_length (V.str z :: xs) lo hi
  have lxx : (V.str z :: xs).length ≤ 2 := by rw [List.length_cons]; omega
  refine ⟨_, (pss_cons (ps_set (i := 2) sc_law_spoilt.nd rfl (Or.inl rfl) (pe_callG G_law_pick (hr.mono (by decide)) hG (by rfl) m_law_pick F_law_pick.kp b_law_pick .nil pass0 (pa_cons (pv 0) (pa_cons pe_int pa_nil))))
      (pss_cons (ps_if (pt_cmpR op_eq (pv 2) pe_int (nomark _)) (pss_one (ps_ret (pe_op op_cat (pe_lst (pa_cons (pe_join pe_str (pe_callG G_law_put (hr.mono (by decide)) hG (by rfl) m_law_put F_law_put.kp b_law_put .nil pass0 (pa_cons (pv 0) (pa_cons (pe_callTy (call_list_strK rfl) (by rfl) T.m_list (by decide +kernel) (pa_cons (pe_ix (ix_listK K rfl) (pv 1) pe_int (fun _ _ => rfl)) pa_nil)) (pa_cons (pe_ix ix_str pe_str (pe_callG G_law_pick (hr.mono (by decide)) hG (by rfl) m_law_pick F_law_pick.kp b_law_pick .nil pass0 (pa_cons (pv 0) (pa_cons pe_int pa_nil))) (fun _ _ => rfl)) pa_nil))))) pa_nil)) (pe_slice (sl_listK K rfl) (pv 1) (po_some pe_int) po_none)))) pss_nil)
      (pss_cons (ps_if (pt_cmpR op_eq (pv 2) pe_int (nomark _)) (pss_one (ps_ret (pe_callG G_law_put (hr.mono (by decide)) hG (by rfl) m_law_put F_law_put.kp b_law_put .nil pass0 (pa_cons (pv 0) (pa_cons (pv 1) (pa_cons (pe_callG G_law_odd (hr.mono (by decide)) hG (by rfl) m_law_odd F_law_odd.kp b_law_odd .nil pass0 (pa_cons (pv 0) pa_nil)) pa_nil)))))) pss_nil)
      (pss_cons (ps_if (pt_cmpR op_eq (pv 2) pe_int (nomark _)) (pss_one (ps_ret (pe_op op_cat (pe_lst (pa_cons (pe_callG G_law_odd (hr.mono (by decide)) hG (by rfl) m_law_odd F_law_odd.kp b_law_odd .nil pass0 (pa_cons (pv 0) pa_nil)) pa_nil)) (pe_slice (sl_listK K rfl) (pv 1) (po_some pe_int) po_none)))) pss_nil)
      (pss_cons (ps_if (pt_cmpR op_eq (pv 2) pe_int (nomark _)) (pss_one (ps_ret (pe_op op_cat (pe_op op_cat (pe_slice (sl_listK K rfl) (pv 1) po_none (po_some pe_int)) (pe_lst (pa_cons (pe_callG G_law_odd (hr.mono (by decide)) hG (by rfl) m_law_odd F_law_odd.kp b_law_odd .nil pass0 (pa_cons (pv 0) pa_nil)) pa_nil))) (pe_slice (sl_listK K rfl) (pv 1) (po_some pe_int) po_none)))) pss_nil)
      (pss_one (ps_ret (pe_op op_cat (pe_lst (pa_cons (pe_callG G_law_word (hr.mono (by decide)) hG (by rfl) m_law_word F_law_word.kp b_law_word .nil pass0 (pa_cons (pv 0) (pa_cons pe_int pa_nil))) pa_nil)) (pe_slice (sl_listK K rfl) (pv 1) (po_some pe_int) po_none))))))))), ?_⟩
  refine ⟨_, rfl, f, c, 5, rfl, by decide, by decide +kernel, hF, fun wy H1 w0 w5 F1 B1 => ?_⟩
  have hl1 := B1 _ _ hl nl
  have gx1 : ∀ y ∈ V.str z :: xs, Gd f H1 y := fun y hy => (gx y hy).keep B1
  refine ⟨_, rfl, rfl, _, rfl, if_bl (fun _ => ?_) (fun _ => ?_)⟩
  · -- the word with signs otherwise
    obtain ⟨e1, e2⟩ := eleven_signs hz
    refine ⟨⟨_, rfl⟩, _, rfl, _, rfl, l, _, _, _, rfl, rfl, SqL.of hl1, atI_nat (j := 0) rfl, z, rfl, (by rw [← Array.length_toList]; exact little (by omega)), fun p1 n1 => ?_⟩
    have F2 := F1.new (o := .lst (z.cps.toList.map fun c => V.str ⟨#[c]⟩)) n1
    refine ⟨_, rfl, f, c, 11, rfl, by decide, by decide +kernel, F2, fun v H3 v0 v1 F3 B3 => ?_⟩
    obtain ⟨ch, hch, hlt⟩ : ∃ ch, atI odds.cps.toList v = some ch ∧ ch < 0x110000 := by
      have hk : v.toNat < odds.cps.toList.length := by
        have : odds.cps.toList.length = 11 := by decide +kernel
        omega
      have ek : v = ((v.toNat : Nat) : Int) := by omega
      have q2 : atI odds.cps.toList ((v.toNat : Nat) : Int) = some (odds.cps.toList[v.toNat]) := atI_nat (List.getElem?_eq_getElem hk)
      rw [← ek] at q2
      refine ⟨_, q2, ?_⟩
      have : ∀ c ∈ odds.cps.toList, c < 0x110000 := by decide +kernel
      exact this _ (List.getElem_mem _)
    have hp3 := B3 _ _ upd_same (F1.ne n1)
    refine ⟨odds, v, ch, rfl, rfl, by decide +kernel, hch, f, c, p1, _, _, rfl, hp3, F1.ne n1, by simpa using e1, by rw [List.length_map]; omega, F3, fun p4 ys H4 my ly n4 f4 hp4 F4 B4 => ?_⟩
    obtain ⟨cs, rfl, hcs⟩ := sgn_list (ys := ys) fun y hy => by
      rcases my y hy with h | h
      · obtain ⟨c0, hc0, e⟩ := List.mem_map.mp h
        exact ⟨c0, e.symm, goodS_iff.mp (eleven_lay hz).1 c0 hc0⟩
      · exact ⟨ch, h, hlt⟩
    rw [List.length_map, List.length_map, List.length_map] at ly
    refine ⟨_, p4, _, rfl, rfl, .inl (SqL.of hp4), by rw [sum_ones]; show cs.length + (cs.map _).length * 0 ≤ 16777216; omega, ?_⟩
    have B14 : But f H1 H4 := ((But.refl.new n1).trans B3).trans B4
    refine ⟨(by show 1 ≤ sizeLine; decide), fun p5 n5 => ⟨_, rfl, 1, rfl, l, _, rfl, SqL.of (same_new n5 _ _ (B14 _ _ hl1 nl)), fun p6 n6 => ⟨p5, p6, _, _, rfl, rfl, same_new n6 _ _ upd_same, upd_same, ?_, fun p7 n7 => ?_⟩⟩⟩
    · have := cl (some 1) none
      exact little (by show 1 + _ ≤ 1000; omega)
    have F7 := (F4.new (o := .lst [V.str (Txt.join "" (cs.map fun c => (⟨#[c]⟩ : Str)))]) n5).new (o := .lst (cutV (V.str z :: xs) (some 1) none)) n6
    have BX : But f H1 (upd (upd (upd H4 p5 (.lst [V.str (Txt.join "" (cs.map fun c => (⟨#[c]⟩ : Str)))])) p6 (.lst (cutV (V.str z :: xs) (some 1) none))) p7 (.lst ([V.str (Txt.join "" (cs.map fun c => (⟨#[c]⟩ : Str)))] ++ cutV (V.str z :: xs) (some 1) none))) := ((B14.new n5).new n6).new n7
    refine q p7 _ _ upd_same (F7.ne n7) (fun y hy => ?_) ?_ (F7.new n7) (B1.trans BX)
    · rcases List.mem_append.mp hy with hy | hy
      · obtain rfl : y = V.str (Txt.join "" (cs.map fun c => (⟨#[c]⟩ : Str))) := by simpa using hy
        exact gd_str (join_signs hcs (by omega))
      · exact (gx1 y (cut_mem hy)).keep BX
    · have := cl (some 1) none
      rw [List.length_append]
      show 1 + _ ≤ 20
      omega
  refine ⟨_, rfl, rfl, _, rfl, if_bl (fun _ => ?_) (fun _ => ?_)⟩
  · -- a thing put in, or in the place of one
    refine ⟨_, rfl, _, rfl, _, rfl, f, c, rfl, F1, fun v H2 gv F2 B2 => ?_⟩
    refine ⟨f, c, l, _, v, rfl, B2 _ _ hl1 nl, nl, by simp, by omega, F2, fun p3 ys H3 my ly n3 f3 hp3 F3 B3 => ?_⟩
    refine q p3 ys H3 hp3 f3 (fun y hy => ?_) (by omega) F3 ((B1.trans B2).trans B3)
    rcases my y hy with h | rfl
    · exact (gx1 y h).keep (B2.trans B3)
    · exact gv.keep B3
  refine ⟨_, rfl, rfl, _, rfl, if_bl (fun _ => ?_) (fun _ => ?_)⟩
  · refine ⟨_, rfl, f, c, rfl, F1, fun v H2 gv F2 B2 => ?_⟩
    refine ⟨(by show 1 ≤ sizeLine; decide), fun p5 n5 => ⟨_, rfl, 1, rfl, l, _, rfl, SqL.of (same_new n5 _ _ (B2 _ _ hl1 nl)), fun p6 n6 => ⟨p5, p6, _, _, rfl, rfl, same_new n6 _ _ upd_same, upd_same, ?_, fun p7 n7 => ?_⟩⟩⟩
    · have := cl (some 1) none
      exact little (by show 1 + _ ≤ 1000; omega)
    have F7 := (F2.new (o := .lst [v]) n5).new (o := .lst (cutV (V.str z :: xs) (some 1) none)) n6
    have BX : But f H2 (upd (upd (upd H2 p5 (.lst [v])) p6 (.lst (cutV (V.str z :: xs) (some 1) none))) p7 (.lst ([v] ++ cutV (V.str z :: xs) (some 1) none))) := ((But.refl.new n5).new n6).new n7
    refine q p7 _ _ upd_same (F7.ne n7) (fun y hy => ?_) ?_ (F7.new n7) ((B1.trans B2).trans BX)
    · rcases List.mem_append.mp hy with hy | hy
      · obtain rfl : y = v := by simpa using hy
        exact gv.keep BX
      · exact (gx1 y (cut_mem hy)).keep (B2.trans BX)
    · have := cl (some 1) none
      rw [List.length_append]
      show 1 + _ ≤ 20
      omega
  refine ⟨_, rfl, rfl, _, rfl, if_bl (fun _ => ?_) (fun _ => ?_)⟩
  · refine ⟨_, rfl, 1, rfl, l, _, rfl, SqL.of hl1, fun p1 n1 => ?_⟩
    have F2 := F1.new (o := .lst (cutV (V.str z :: xs) none (some 1))) n1
    refine ⟨_, rfl, f, c, rfl, F2, fun v H3 gv F3 B3 => ?_⟩
    have hp3 := B3 _ _ upd_same (F1.ne n1)
    have hl3 := B3 _ _ (same_new n1 _ _ hl1) nl
    refine ⟨(by show 1 ≤ sizeLine; decide), fun p4 n4 => ⟨p1, p4, _, _, rfl, rfl, same_new n4 _ _ hp3, upd_same, ?_, fun p5 n5 => ?_⟩⟩
    · have := cl none (some 1)
      exact little (by show _ + 1 ≤ 1000; omega)
    refine ⟨_, rfl, 2, rfl, l, _, rfl, SqL.of (same_new n5 _ _ (same_new n4 _ _ hl3)), fun p6 n6 => ⟨p5, p6, _, _, rfl, rfl, same_new n6 _ _ upd_same, upd_same, ?_, fun p7 n7 => ?_⟩⟩
    · have := cl none (some 1)
      have := cl (some 2) none
      rw [List.length_append]
      exact little (by show _ + 1 + _ ≤ 1000; omega)
    have F7 := ((F3.new (o := .lst [v]) n4).new (o := .lst (cutV (V.str z :: xs) none (some 1) ++ [v])) n5).new (o := .lst (cutV (V.str z :: xs) (some 2) none)) n6
    have BX : But f H3 (upd (upd (upd (upd H3 p4 (.lst [v])) p5 (.lst (cutV (V.str z :: xs) none (some 1) ++ [v]))) p6 (.lst (cutV (V.str z :: xs) (some 2) none))) p7 (.lst (cutV (V.str z :: xs) none (some 1) ++ [v] ++ cutV (V.str z :: xs) (some 2) none))) := (((But.refl.new n4).new n5).new n6).new n7
    have B13 : But f H1 H3 := (But.refl.new n1).trans B3
    refine q p7 _ _ upd_same (F7.ne n7) (fun y hy => ?_) ?_ (F7.new n7) ((B1.trans B13).trans BX)
    · rcases List.mem_append.mp hy with hy | hy
      · rcases List.mem_append.mp hy with hy | hy
        · exact (gx1 y (cut_mem hy)).keep (B13.trans BX)
        · obtain rfl : y = v := by simpa using hy
          exact gv.keep BX
      · exact (gx1 y (cut_mem hy)).keep (B13.trans BX)
    · have := cl none (some 1)
      have := cl (some 2) none
      rw [List.length_append, List.length_append]
      show _ + 1 + _ ≤ 20
      omega
  · refine ⟨_, rfl, f, c, rfl, F1, fun s H2 gs F2 B2 => ?_⟩
    refine ⟨(by show 1 ≤ sizeLine; decide), fun p5 n5 => ⟨_, rfl, 1, rfl, l, _, rfl, SqL.of (same_new n5 _ _ (B2 _ _ hl1 nl)), fun p6 n6 => ⟨p5, p6, _, _, rfl, rfl, same_new n6 _ _ upd_same, upd_same, ?_, fun p7 n7 => ?_⟩⟩⟩
    · have := cl (some 1) none
      exact little (by show 1 + _ ≤ 1000; omega)
    have F7 := (F2.new (o := .lst [.str s]) n5).new (o := .lst (cutV (V.str z :: xs) (some 1) none)) n6
    have BX : But f H2 (upd (upd (upd H2 p5 (.lst [.str s])) p6 (.lst (cutV (V.str z :: xs) (some 1) none))) p7 (.lst ([.str s] ++ cutV (V.str z :: xs) (some 1) none))) := ((But.refl.new n5).new n6).new n7
    refine q p7 _ _ upd_same (F7.ne n7) (fun y hy => ?_) ?_ (F7.new n7) ((B1.trans B2).trans BX)
    · rcases List.mem_append.mp hy with hy | hy
      · obtain rfl : y = V.str s := by simpa using hy
        exact gd_str gs
      · exact (gx1 y (cut_mem hy)).keep (B2.trans BX)
    · have := cl (some 1) none
      rw [List.length_append]
      show 1 + _ ≤ 20
      omega
end
section
variable {P : Program} {w : World} {K : PySem.W.Frag} {mg : Str → Option Value} {base : Heap}
def sp_law_due (K : PySem.W.Frag) : Sp := fun vs H Q _ => ∃ (f l : Addr) (xs : List V) (ds : List PyData), vs = [.ref l] ∧ H l = some (.lst xs) ∧ l ≠ f ∧ ThAll f H xs ds ∧ NeatAll ds 2 9000 ∧ ∀ H', Same H H' → Q (.bl (isRule (.tuple ds))) H'
theorem eqv_nil {ds : List PyData} : PyData.eqvAll ds [] = ds.isEmpty := by cases ds <;> rfl
theorem ThAll.len {f : Addr} {H : Hp} : ∀ {xs : List V} {ds : List PyData}, ThAll f H xs ds → xs.length = ds.length
  | _, _, .nil => rfl
  | _, _, .cons _ b => congrArg (· + 1) (ThAll.len b)
theorem ok_law_due {f : Addr} {fd : FuncData} (F : Fun K "_law_due" "_law_due" s_law_due f fd) (T : Top w K mg) : FnG P w K mg base CX0 2 f fd ["_law_things_here"] (sp_law_due K) := by
  obtain ⟨f_law_words, fd_law_words, F_law_words, b_law_words, m_law_words⟩ := T.d_law_words
  have G_law_words := ok_law_words (P := P) (w := w) (base := base) F_law_words T
  refine Fun.okG F sc_law_due (fun vs H Q E h => ?_) (fun cdv A outer s H vs Q E hr hG h => ?_)
  · obtain ⟨f, l, xs, ds, rfl, _⟩ := h
    rfl
  obtain ⟨f, l, xs, ds, rfl, hl, nl, al, nt, q⟩ := h
  refine ⟨_, (pss_cons (ps_if (PW.pt (pw_or (pt_cmpR (op_eqDK K rfl hr.units) (pv 0) (pe_lst pa_nil) (nomark _)) (pw_or (pt_not (pt_val (pe_callB (call_isiKK K rfl) (by rfl) T.m_isinstance (by decide +kernel) (pa_cons (pe_ix (ix_listK K rfl) (pv 0) pe_int (fun _ _ => rfl)) (pa_cons (pe_bltn (v := .ty "str") (by rfl) T.m_str (by decide +kernel) rfl) pa_nil))))) (pw_or1 (pt_cmpR (op_notIn_seqK K rfl) (pe_ix (ix_listK K rfl) (pv 0) pe_int (fun _ _ => rfl)) (pe_call0G G_law_words (hr.mono (by decide)) hG (by rfl) m_law_words F_law_words.kp b_law_words .nil pass0) (by with_unfolding_all rfl)))))) (pss_one (ps_ret pe_bl)) pss_nil)
      (pss_cons (ps_if (pt_cmpR (op_notIn_seqK K rfl) (pe_ix (ix_listK K rfl) (pv 0) pe_int (fun _ _ => rfl)) (pe_tup (pa_cons pe_str (pa_cons pe_str pa_nil))) (by with_unfolding_all rfl)) (pss_one (ps_ret (pe_cmpR op_eq (pe_callB (call_len_seqK K rfl) (by rfl) T.m_len (by decide +kernel) (pa_cons (pv 0) pa_nil)) pe_int (nomark _)))) pss_nil)
      (pss_one (ps_ret (pe_and (pe_cmpR op_eq (pe_callB (call_len_seqK K rfl) (by rfl) T.m_len (by decide +kernel) (pa_cons (pv 0) pa_nil)) pe_int (nomark _)) (pe_and (pe_callB (call_isiKK K rfl) (by rfl) T.m_isinstance (by decide +kernel) (pa_cons (pe_ix (ix_listK K rfl) (pv 0) pe_int (fun _ _ => rfl)) (pa_cons (pe_bltn (v := .ty "int") (by rfl) T.m_int (by decide +kernel) rfl) pa_nil))) (pe_one (pe_not (pe_callB (call_isiKK K rfl) (by rfl) T.m_isinstance (by decide +kernel) (pa_cons (pe_ix (ix_listK K rfl) (pv 0) pe_int (fun _ _ => rfl)) (pa_cons (pe_bltn (v := .ty "bool") (by rfl) T.m_bool (by decide +kernel) rfl) pa_nil))))))))))), ?_⟩
  refine ⟨_, rfl, (by show 0 ≤ sizeLine; decide), fun p1 n1 => ⟨_, _, .lst (SqL.of (same_new n1 _ _ hl)) ((al.keep (But.of (same_new n1))).dp), .lst (SqL.of upd_same) .nil, (Neat.lst nt).shaped (by decide), by decide, _, rfl, ?_⟩⟩
  have s1 := same_new (o := .lst []) n1
  have hl1 := s1 _ _ hl
  show if PyData.eqvAll ds [] = true then _ else _
  rw [eqv_nil]
  cases al with
  | nil => exact q _ s1
  | @cons x xr d1 dr h1 hr1 =>
  refine if_bl (fun z => nomatch z) (fun _ => ?_)
  have h1' := h1.keep (But.of (f := f) s1)
  refine ⟨_, rfl, l, _, _, _, rfl, rfl, SqL.of hl1, atI_nat (j := 0) rfl, _, _, _, _, _, rfl, .ty "str", h1'.ty, kit_is h1' "str" (by decide), _, rfl, ?_⟩
  by_cases hs : ∃ z, d1 = .str z
  · obtain ⟨z, rfl⟩ := hs
    cases h1
    refine if_bl (fun y => nomatch (show (!true) = true from y)) (fun _ => ?_)
    refine ⟨_, rfl, l, _, _, _, rfl, rfl, SqL.of hl1, atI_nat (j := 0) rfl, rfl, fun p2 H2 n2 hp2 s2 => ?_⟩
    refine ⟨p2, _, rfl, .inl (SqL.of hp2), rfl, by decide +kernel, _, rfl, ?_⟩
    rw [if_pos rfl]
    have s12 := s1.trans s2
    have hl2 := s12 _ _ hl
    by_cases hz : z ∈ eleven
    · rw [inV_strs.mpr hz]
      refine if_bl (fun y => nomatch y) (fun _ => ?_)
      have eq1 : isRule (.tuple (.str z :: dr)) = (if z = "times" ∨ z = "always" then oneInt dr else dr.isEmpty) := by
        show (decide (z ∈ eleven) && (if z = "times" ∨ z = "always" then oneInt dr else dr.isEmpty)) = _
        rw [decide_eq_true hz, Bool.true_and]
      rw [eq1] at q
      refine ⟨_, rfl, l, _, _, _, rfl, rfl, SqL.of hl2, atI_nat (j := 0) rfl, (by show 2 ≤ sizeLine; decide), fun p3 n3 => ⟨p3, _, rfl, .inr (SqT.of upd_same), rfl, rfl, _, rfl, ?_⟩⟩
      rw [if_pos rfl]
      have s3 : Same H (upd H2 p3 (.tup [V.str "times", V.str "always"])) := s12.trans (same_new n3)
      have hl3 := s3 _ _ hl
      have iv : inV (.str z) [V.str "times", V.str "always"] = true ↔ z = "times" ∨ z = "always" := by
        have := inV_strs (x := z) (zs := ["times", "always"])
        simpa using this
      by_cases e : z = "times" ∨ z = "always"
      · rw [iv.mpr e]
        refine if_bl (fun y => nomatch y) (fun _ => ?_)
        rw [if_pos e] at q
        refine ⟨_, rfl, l, _, rfl, .inl (SqL.of hl3), rfl, _, rfl, ?_⟩
        cases hr1 with
        | nil => exact q _ s3
        | @cons x2 xr2 d2 dr2 h2 hr2 =>
          cases hr2 with
          | nil =>
            have h2' := h2.keep (But.of (f := f) s3)
            refine ⟨_, rfl, l, _, _, _, rfl, rfl, SqL.of hl3, atI_nat (j := 1) rfl, _, _, _, _, _, rfl, .ty "int", h2'.ty, kit_is h2' "int" (by decide), _, rfl, ?_⟩
            have e : isInt d2 = (isB (tyN d2) "int" && !isB (tyN d2) "bool") := by cases d2 <;> rfl
            have q : Q (.bl (isInt d2)) _ := q _ s3
            cases h1 : isB (tyN d2) "int" with
            | false =>
              rw [e, h1] at q
              exact q
            | true =>
              refine ⟨_, rfl, l, _, _, _, rfl, rfl, SqL.of hl3, atI_nat (j := 1) rfl, _, _, _, _, _, rfl, .ty "bool", h2'.ty, kit_is h2' "bool" (by decide), _, rfl, ?_⟩
              rw [e, h1] at q
              exact q
          | @cons x3 xr3 d3 dr3 h3 hr3 =>
            rw [decide_eq_false (show ¬ V.int (((V.str z :: x2 :: x3 :: xr3).length : Nat) : Int) = V.int 2 from fun y => by
              have y := V.int.inj y
              simp only [List.length_cons] at y
              omega)]
            exact q _ s3
      · have e3 : inV (.str z) [V.str "times", V.str "always"] = false := by
          cases h : inV (.str z) [V.str "times", V.str "always"] with
          | false => rfl
          | true => exact absurd (iv.mp h) e
        rw [e3]
        refine if_bl (fun _ => ?_) (fun y => nomatch y)
        rw [if_neg e] at q
        refine ⟨_, rfl, l, _, rfl, .inl (SqL.of hl3), rfl, ?_⟩
        cases hr1 with
        | nil => exact q _ s3
        | @cons x2 xr2 d2 dr2 h2 hr2 =>
          rw [decide_eq_false (show ¬ V.int (((V.str z :: x2 :: xr2).length : Nat) : Int) = V.int 1 from fun y => by
            have y := V.int.inj y
            simp only [List.length_cons] at y
            omega)]
          exact q _ s3
    · have e3 : inV (.str z) (eleven.map V.str) = false := by
        cases h : inV (.str z) (eleven.map V.str) with
        | false => rfl
        | true => exact absurd (inV_strs.mp h) hz
      rw [e3]
      refine if_bl (fun _ => ?_) (fun y => nomatch y)
      have eq1 : isRule (.tuple (.str z :: dr)) = false := by
        show (decide (z ∈ eleven) && _) = _
        rw [decide_eq_false hz, Bool.false_and]
      rw [eq1] at q
      exact q _ s12
  · have e1 : isB (tyN d1) "str" = false := by cases d1 <;> first | rfl | exact absurd ⟨_, rfl⟩ hs
    rw [e1]
    refine if_bl (fun _ => ?_) (fun y => nomatch y)
    have eq1 : isRule (.tuple (d1 :: dr)) = false := by cases d1 <;> first | rfl | exact absurd ⟨_, rfl⟩ hs
    rw [eq1] at q
    exact q _ s1
def sp_law_told (K : PySem.W.Frag) : Sp := fun vs H Q _ => ∃ (f : Addr) (v : V) (d : PyData), vs = [v, .bl (isRule d)] ∧ Th f H v d ∧ Neat d 4 20000 ∧ Q (.bl true) H
theorem ok_law_told {f : Addr} {fd : FuncData} (F : Fun K "_law_told" "_law_told" s_law_told f fd) (T : Top w K mg) : FnG P w K mg base CX0 3 f fd ["_law_thing", "_law_due_here"] (sp_law_told K) := by
  obtain ⟨f_is_rule, fd_is_rule, F_is_rule, b_is_rule, m_is_rule⟩ := T.d_is_rule
  have G_is_rule := ok_is_rule (P := P) (w := w) (base := base) F_is_rule T
  refine Fun.okG F sc_law_told (fun vs H Q E h => ?_) (fun cdv A outer s H vs Q E hr hG h => ?_)
  · obtain ⟨f, v, d, rfl, _⟩ := h
    rfl
  obtain ⟨f, v, d, rfl, th, nt, q⟩ := h
  refine ⟨_, (pss_cons (ps_set (i := 2) sc_law_told.nd rfl (Or.inl rfl) (pe_callB (call_reprG K rfl hG hr.units) (by rfl) T.m_repr (by decide +kernel) (pa_cons (pv 0) pa_nil)))
      (pss_cons (ps_for PassesOwn.never rfl (pi_range1 (by rfl) T.m_range (pa_cons pe_int pa_nil)) (pg_name (i := 3) sc_law_told.nd rfl (Or.inl rfl))
        (pss_cons (ps_set (i := 4) sc_law_told.nd rfl (Or.inl rfl) (pe_callG G_is_rule (hr.mono (by decide)) hG (by rfl) m_is_rule F_is_rule.kp b_is_rule .nil pass0 (pa_cons (pv 0) pa_nil)))
      (pss_one (ps_if (PW.pt (pw_or (pt_not (pt_val (pe_callB (call_isiKK K rfl) (by rfl) T.m_isinstance (by decide +kernel) (pa_cons (pv 4) (pa_cons (pe_bltn (v := .ty "bool") (by rfl) T.m_bool (by decide +kernel) rfl) pa_nil))))) (pw_or (pt_cmpR op_ne (pv 4) (pv 1) (nomark _)) (pw_or1 (pt_cmpR op_ne (pe_callB (call_reprG K rfl hG hr.units) (by rfl) T.m_repr (by decide +kernel) (pa_cons (pv 0) pa_nil)) (pv 2) (nomark _)))))) (pss_one (ps_ret pe_bl)) pss_nil))))
      (pss_one (ps_ret pe_bl)))), ?_⟩
  refine ⟨_, rfl, _, _, rfl, th.dp, nt.say, nt.nod, Nat.le_trans nt.dep (by decide), nt.fits (by decide), ?_⟩
  refine ⟨2, rfl, by decide, by decide, for_range (lo := 0) (n := 2) (fun i σ H2 => ∃ v3 v4 : Option V, σ = [some v, some (.bl (isRule d)), some (.str d.shown), v3, v4] ∧ H2 = H) ⟨none, none, rfl, rfl⟩ ?_ ?_⟩
  · rintro i σ H2 hi ⟨v3, v4, rfl, rfl⟩
    refine ⟨_, rfl, f, v, d, rfl, th, ?_⟩
    refine ⟨_, rfl, _, _, _, _, true, rfl, .ty "bool", .base (.bl _), kit_ty (by decide +kernel), _, rfl, if_bl (fun z => nomatch z) (fun _ => ?_)⟩
    refine ⟨_, rfl, _, rfl, rfl, _, rfl, ?_⟩
    rw [decide_eq_true rfl]
    refine if_bl (fun z => nomatch z) (fun _ => ?_)
    refine ⟨_, rfl, _, _, rfl, th.dp, nt.say, nt.nod, Nat.le_trans nt.dep (by decide), nt.fits (by decide), _, rfl, rfl, _, rfl, ?_⟩
    rw [decide_eq_true rfl]
    exact if_bl (fun z => nomatch z) (fun _ => ⟨_, _, rfl, rfl⟩)
  · rintro σ H2 ⟨v3, v4, rfl, rfl⟩
    exact q
def sp_law (K : PySem.W.Frag) : Sp := fun vs H Q _ => ∃ (a : Addr) (ns : List Int), vs = [.ref a] ∧ SqL K H a (ns.map V.int) ∧ ns.length ≤ 63 ∧ ∀ H', Q (.bl true) H'
theorem needs_row {i : Nat} {z : Str} (h : eleven[i]? = some z) : [V.int 1, V.int 2, V.int 2, V.int 2, V.int 2, V.int 2, V.int 3, V.int 1, V.int 0, V.int 0, V.int 1][i]? = some (.int (needN z)) := by
  have hi : i < 11 := (List.getElem?_eq_some_iff.mp h).1
  have : i = 0 ∨ i = 1 ∨ i = 2 ∨ i = 3 ∨ i = 4 ∨ i = 5 ∨ i = 6 ∨ i = 7 ∨ i = 8 ∨ i = 9 ∨ i = 10 := by omega
  rcases this with rfl | rfl | rfl | rfl | rfl | rfl | rfl | rfl | rfl | rfl | rfl <;> (have e := Option.some.inj h; subst e; decide +kernel)
theorem ok_law {f : Addr} {fd : FuncData} (F : Fun K "law" "law" s_law f fd) (T : Top w K mg) : FnG P w K mg base CX0 5 f fd ["_law_script"] (sp_law K) := by
  obtain ⟨f_law_flow, fd_law_flow, F_law_flow, b_law_flow, m_law_flow⟩ := T.d_law_flow
  have G_law_flow := ok_law_flow (P := P) (w := w) (base := base) F_law_flow T
  obtain ⟨f_law_words, fd_law_words, F_law_words, b_law_words, m_law_words⟩ := T.d_law_words
  have G_law_words := ok_law_words (P := P) (w := w) (base := base) F_law_words T
  obtain ⟨f_law_things, fd_law_things, F_law_things, b_law_things, m_law_things⟩ := T.d_law_things
  have G_law_things := ok_law_things (P := P) (w := w) (base := base) F_law_things T
  obtain ⟨f_needs, fd_needs, F_needs, b_needs, m_needs⟩ := T.d_needs
  have G_needs := ok_needs (P := P) (w := w) (base := base) F_needs T
  obtain ⟨f_law_spoilt, fd_law_spoilt, F_law_spoilt, b_law_spoilt, m_law_spoilt⟩ := T.d_law_spoilt
  have G_law_spoilt := ok_law_spoilt (P := P) (w := w) (base := base) F_law_spoilt T
  obtain ⟨f_law_told, fd_law_told, F_law_told, b_law_told, m_law_told⟩ := T.d_law_told
  have G_law_told := ok_law_told (P := P) (w := w) (base := base) F_law_told T
  obtain ⟨f_law_due, fd_law_due, F_law_due, b_law_due, m_law_due⟩ := T.d_law_due
  have G_law_due := ok_law_due (P := P) (w := w) (base := base) F_law_due T
  refine Fun.okG F sc_law (fun vs H Q E h => ?_) (fun cdv A outer s H vs Q E hr hG h => ?_)
  · obtain ⟨a, ns, rfl, _⟩ := h
    rfl
  obtain ⟨a, ns, rfl, hS, hlen, q⟩ := h
  refine ⟨_, (pss_cons (ps_set (i := 1) sc_law.nd rfl (Or.inl rfl) (pe_callG G_law_flow (hr.mono (by decide)) hG (by rfl) m_law_flow F_law_flow.kp b_law_flow .nil pass0 (pa_cons (pv 0) pa_nil)))
      (pss_cons (ps_for PassesOwn.never rfl (pi_enum (by rfl) T.m_enumerate (pa_cons (pe_call0G G_law_words (hr.mono (by decide)) hG (by rfl) m_law_words F_law_words.kp b_law_words .nil pass0) pa_nil)) (pg_tupK K rfl rfl (pgs_cons (pg_name (i := 2) sc_law.nd rfl (Or.inl rfl)) (pgs_cons (pg_name (i := 3) sc_law.nd rfl (Or.inl rfl)) pgs_nil)))
        (pss_cons (ps_set (i := 4) sc_law.nd rfl (Or.inl rfl) (pe_callG G_law_things (hr.mono (by decide)) hG (by rfl) m_law_things F_law_things.kp b_law_things .nil pass0 (pa_cons (pv 1) (pa_cons (pv 3) pa_nil))))
      (pss_cons (ps_set (i := 5) sc_law.nd rfl (Or.inl rfl) (pe_callTy (call_tuple_ofK K rfl) (by rfl) T.m_tuple (by decide +kernel) (pa_cons (pv 4) pa_nil)))
      (pss_cons (ps_if (PW.pt (pw_or (pt_not (pt_val (pe_callG G_law_told (hr.mono (by decide)) hG (by rfl) m_law_told F_law_told.kp b_law_told .nil pass0 (pa_cons (pv 5) (pa_cons pe_bl pa_nil))))) (pw_or1 (pt_not (pt_val (pe_callG G_law_told (hr.mono (by decide)) hG (by rfl) m_law_told F_law_told.kp b_law_told .nil pass0 (pa_cons (pe_callTy (call_list_ofK K rfl) (by rfl) T.m_list (by decide +kernel) (pa_cons (pv 4) pa_nil)) (pa_cons pe_bl pa_nil)))))))) (pss_one (ps_ret pe_bl)) pss_nil)
      (pss_cons (ps_set (i := 6) sc_law.nd rfl (Or.inl rfl) (pe_callG G_needs (hr.mono (by decide)) hG (by rfl) m_needs F_needs.kp b_needs .nil pass0 (pa_cons (pv 5) pa_nil)))
      (pss_cons (ps_if (PW.pt (pw_or (pt_not (pt_val (pe_callB (call_isiKK K rfl) (by rfl) T.m_isinstance (by decide +kernel) (pa_cons (pv 6) (pa_cons (pe_bltn (v := .ty "int") (by rfl) T.m_int (by decide +kernel) rfl) pa_nil))))) (pw_or (pt_val (pe_callB (call_isiKK K rfl) (by rfl) T.m_isinstance (by decide +kernel) (pa_cons (pv 6) (pa_cons (pe_bltn (v := .ty "bool") (by rfl) T.m_bool (by decide +kernel) rfl) pa_nil)))) (pw_or1 (pt_cmpR op_ne (pv 6) (pe_ix (ix_listK K rfl) (pe_lst (pa_cons pe_int (pa_cons pe_int (pa_cons pe_int (pa_cons pe_int (pa_cons pe_int (pa_cons pe_int (pa_cons pe_int (pa_cons pe_int (pa_cons pe_int (pa_cons pe_int (pa_cons pe_int pa_nil)))))))))))) (pv 2) (fun _ _ => rfl)) (nomark _)))))) (pss_one (ps_ret pe_bl)) pss_nil)
      (pss_cons (ps_set (i := 7) sc_law.nd rfl (Or.inl rfl) (pe_callG G_law_spoilt (hr.mono (by decide)) hG (by rfl) m_law_spoilt F_law_spoilt.kp b_law_spoilt .nil pass0 (pa_cons (pv 1) (pa_cons (pv 4) pa_nil))))
      (pss_one (ps_if (PW.pt (pw_or (pt_not (pt_val (pe_callG G_law_told (hr.mono (by decide)) hG (by rfl) m_law_told F_law_told.kp b_law_told .nil pass0 (pa_cons (pe_callTy (call_tuple_ofK K rfl) (by rfl) T.m_tuple (by decide +kernel) (pa_cons (pv 7) pa_nil)) (pa_cons (pe_callG G_law_due (hr.mono (by decide)) hG (by rfl) m_law_due F_law_due.kp b_law_due .nil pass0 (pa_cons (pv 7) pa_nil)) pa_nil))))) (pw_or1 (pt_not (pt_val (pe_callG G_law_told (hr.mono (by decide)) hG (by rfl) m_law_told F_law_told.kp b_law_told .nil pass0 (pa_cons (pv 5) (pa_cons pe_bl pa_nil)))))))) (pss_one (ps_ret pe_bl)) pss_nil)))))))))
      (pss_cons (ps_set (i := 8) sc_law.nd rfl (Or.inl rfl) (pe_lst (pa_cons pe_non (pa_cons pe_str (pa_cons pe_int (pa_cons pe_bl (pa_cons (pe_lst pa_nil) (pa_cons (pe_tup pa_nil) (pa_cons (pe_tup (pa_cons (pe_tup pa_nil) pa_nil)) (pa_cons (pe_tup (pa_cons (pe_tup (pa_cons pe_str pa_nil)) pa_nil)) (pa_cons (pe_lst (pa_cons (pe_lst pa_nil) pa_nil)) (pa_cons pe_str pa_nil))))))))))))
      (pss_one (ps_ret (pe_callB (cr_allK K rfl rfl) (by rfl) T.m_all (by decide +kernel) (pa_cons (pe_lc (own := [("_law_thing", 9)]) (g := gName 9) (tt := tYes) (by rfl) sc_law.nd (pi_listK K rfl (pv 8)) (blkOk_by (own := [("_law_thing", 9)]) (N := N_law) (sc := defScope s_law) (by decide +kernel)) (fun _ _ _ _ _ => (pg_name (i := 9) sc_law.nd rfl (Or.inl rfl))) (fun _ _ _ _ _ => pts_nil) (fun _ _ _ _ _ => (pe_callG G_law_told (hr.mono (by decide)) hG (by rfl) m_law_told F_law_told.kp b_law_told .nil pass0 (pa_cons (pv 9) (pa_cons pe_bl pa_nil))))) pa_nil))))))), ?_⟩
  refine ⟨_, rfl, a, ns, rfl, hS, fun f c H1 nf nc F1 s1 => ?_⟩
  refine ⟨rfl, fun wl H2 nwl hwl s2 => ?_⟩
  have wf : wl ≠ f := F1.ne nwl
  have F2 := F1.same s2
  refine ⟨wl, _, rfl, SqL.of hwl, for_it (n := 11) (fun i σ H3 => ∃ v2 v3 v4 v5 v6 v7 : Option V, σ = [some (.ref a), some (.ref f), v2, v3, v4, v5, v6, v7, none, none] ∧ H3 wl = some (.lst (eleven.map V.str)) ∧ Flow H3 f c)
    ⟨none, none, none, none, none, none, rfl, hwl, F2⟩ ?_ ?_ ?_ ?_⟩
  · rintro i σ H3 hi ⟨v2, v3, v4, v5, v6, v7, rfl, h3, F3⟩
    have hi' : i < eleven.length := hi
    exact ⟨_, _, SqL.of h3, by rw [List.getElem?_map, List.getElem?_eq_getElem hi']; rfl⟩
  · rintro σ H3 ⟨v2, v3, v4, v5, v6, v7, rfl, h3, F3⟩
    exact ⟨_, SqL.of h3, Nat.le_refl _⟩
  · rintro i x σ H3 H4 hi ⟨v2, v3, v4, v5, v6, v7, rfl, h3, F3⟩ ⟨t, y, rfl, nt, rfl, fy⟩
    have hi' : i < eleven.length := hi
    have ei : eleven[i]? = some eleven[i] := List.getElem?_eq_getElem hi'
    obtain ⟨z, hz⟩ : ∃ z, z = eleven[i] := ⟨_, rfl⟩
    rw [← hz] at ei
    have ey : y = V.str z := by
      have := fy _ (SqL.of h3)
      rw [List.getElem?_map, ei] at this
      exact (Option.some.inj this).symm
    subst ey
    have hm := List.mem_of_getElem? ei
    have F4 := F3.new (o := .tup [V.int ((i : Nat) : Int), V.str z]) nt
    refine ⟨t, _, rfl, SqT.of upd_same, rfl, _, _, rfl, _, _, rfl, rfl, ?_⟩
    refine ⟨_, rfl, _, rfl, f, c, z, rfl, hm, F4, fun p5 xs ds H5 hp5 f5 n5 al5 gd5 ir lx F5 B5 => ?_⟩
    -- the rule
    refine ⟨_, rfl, p5, _, rfl, .inl ⟨SqL.of hp5, fun r6 n6 => ?_⟩⟩
    have F6 := F5.new (o := .tup (V.str z :: xs)) n6
    have rf : r6 ≠ f := F5.ne n6
    obtain ⟨ds', al', nt'⟩ := gd_all gd5
    have n5a : NeatAll (.str z :: ds) 2 2000 := by
      have e : ds' = .str z :: ds := by
        have u : ∀ {xs : List V} {a b : List PyData}, ThAll f H5 xs a → ThAll f H5 xs b → a = b := thall_one
        exact u al' al5
      rw [← e]
      refine nt'.mono (Nat.le_refl _) ?_
      rw [List.length_cons]
      omega
    have th6 : Th f (upd H5 r6 (.tup (V.str z :: xs))) (.ref r6) (.tuple (.str z :: ds)) := .tup upd_same rf (al5.keep (But.of (same_new n6)))
    have nr : Neat (.tuple (.str z :: ds)) 4 20000 := (Neat.tup n5a).mono (by decide) (by decide)
    refine ⟨_, rfl, f, .ref r6, .tuple (.str z :: ds), (by rw [ir]; rfl), th6, nr, _, rfl, if_bl (fun y => nomatch y) (fun _ => ?_)⟩
    -- as a list
    refine ⟨_, rfl, p5, _, rfl, .inl (SqL.of (same_new n6 _ _ hp5)), fun l7 n7 => ⟨f, _, .list (.str z :: ds), rfl, ?_, ?_, _, rfl, if_bl (fun y => nomatch y) (fun _ => ?_)⟩⟩
    · exact .lst upd_same (F6.ne n7) (al5.keep (But.of ((same_new n6).trans (same_new n7))))
    · exact (Neat.lst n5a).mono (by decide) (by decide)
    have F7 := F6.new (o := .lst (V.str z :: xs)) n7
    have hr7 : (upd (upd H5 r6 (.tup (V.str z :: xs))) l7 (.lst (V.str z :: xs))) r6 = some (.tup (V.str z :: xs)) := same_new n7 _ _ upd_same
    -- needs
    refine ⟨_, rfl, r6, z, _, rfl, SqT.of hr7, hm, ?_⟩
    refine ⟨_, rfl, _, _, _, _, true, rfl, .ty "int", .base (.int _), kit_ty (by decide +kernel), _, rfl, if_bl (fun y => nomatch y) (fun _ => ?_)⟩
    refine ⟨_, rfl, _, _, _, _, false, rfl, .ty "bool", .base (.int _), kit_ty (by decide +kernel), _, rfl, if_bl (fun y => nomatch y) (fun _ => ?_)⟩
    refine ⟨_, rfl, (by show 11 ≤ sizeLine; decide), fun l8 n8 => ⟨_, rfl, l8, _, _, _, rfl, rfl, SqL.of upd_same, atI_nat (needs_row ei), rfl, _, rfl, ?_⟩⟩
    rw [decide_eq_true rfl]
    refine if_bl (fun y => nomatch y) (fun _ => ?_)
    have F8 := F7.new (o := .lst [V.int 1, V.int 2, V.int 2, V.int 2, V.int 2, V.int 2, V.int 3, V.int 1, V.int 0, V.int 0, V.int 1]) n8
    have s58 : Same H5 (upd (upd (upd H5 r6 (.tup (V.str z :: xs))) l7 (.lst (V.str z :: xs))) l8 (.lst [V.int 1, V.int 2, V.int 2, V.int 2, V.int 2, V.int 2, V.int 3, V.int 1, V.int 0, V.int 0, V.int 1])) := ((same_new n6).trans (same_new n7)).trans (same_new n8)
    -- spoilt
    refine ⟨_, rfl, _, rfl, f, c, p5, z, xs, rfl, hm, s58 _ _ hp5, f5, lx, fun y hy => (gd5 y hy).keep (But.of s58), F8, fun p9 ys H9 hp9 f9 gd9 ly F9 B9 => ?_⟩
    obtain ⟨ds9, al9, nt9⟩ := gd_all gd9
    have nt9' : NeatAll ds9 2 9000 := nt9.mono (Nat.le_refl _) (by omega)
    refine ⟨_, rfl, p9, _, rfl, .inl ⟨SqL.of hp9, fun r10 n10 => ?_⟩⟩
    have s10 := same_new (H := H9) (o := .tup ys) n10
    refine ⟨_, rfl, f, p9, ys, ds9, rfl, s10 _ _ hp9, f9, al9.keep (But.of s10), nt9', fun H11 s11 => ?_⟩
    have k11 : But f H9 H11 := But.of (s10.trans s11)
    refine ⟨f, _, _, rfl, .tup (s11 _ _ upd_same) (F9.ne n10) (al9.keep k11), (Neat.tup nt9').mono (by decide) (by decide), _, rfl, if_bl (fun y => nomatch y) (fun _ => ?_)⟩
    have B11 : But f (upd H5 r6 (.tup (V.str z :: xs))) H11 := ((But.of ((same_new n7).trans (same_new n8))).trans B9).trans k11
    refine ⟨_, rfl, f, .ref r6, .tuple (.str z :: ds), (by rw [ir]; rfl), th6.keep B11, nr, _, rfl, if_bl (fun y => nomatch y) (fun _ => ?_)⟩
    refine ⟨_, _, _, _, _, _, rfl, ?_, (F9.new n10).same s11⟩
    exact B11 _ _ (same_new n6 _ _ (B5 _ _ (same_new nt _ _ h3) wf)) wf
  · rintro σ H3 ⟨v2, v3, v4, v5, v6, v7, rfl, h3, F3⟩
    refine ⟨(by show 0 ≤ sizeLine; decide), fun l1 n1 => ⟨(by show 0 ≤ sizeLine; decide), fun t2 n2 => ⟨(by show 0 ≤ sizeLine; decide), fun t3 n3 => ⟨(by show 1 ≤ sizeLine; decide), fun t4 n4 => ⟨(by show 1 ≤ sizeLine; decide), fun t5 n5 => ⟨(by show 1 ≤ sizeLine; decide), fun t6 n6 => ⟨(by show 0 ≤ sizeLine; decide), fun l7 n7 => ⟨(by show 1 ≤ sizeLine; decide), fun l8 n8 => ⟨(by show 10 ≤ sizeLine; decide), fun l9 n9 => ?_⟩⟩⟩⟩⟩⟩⟩⟩⟩
    have G1 := F3.new (o := .lst []) n1
    have G2 := G1.new (o := .tup []) n2
    have G3 := G2.new (o := .tup []) n3
    have G4 := G3.new (o := .tup [V.ref t3]) n4
    have G5 := G4.new (o := .tup [V.str "same"]) n5
    have G6 := G5.new (o := .tup [V.ref t5]) n6
    have G7 := G6.new (o := .lst []) n7
    have G8 := G7.new (o := .lst [V.ref l7]) n8
    have u : ∀ b o, (upd (upd (upd (upd (upd (upd (upd (upd H3 l1 (.lst [])) t2 (.tup [])) t3 (.tup [])) t4 (.tup [V.ref t3])) t5 (.tup [V.str "same"])) t6 (.tup [V.ref t5])) l7 (.lst [])) l8 (.lst [V.ref l7])) b = some o → (upd (upd (upd (upd (upd (upd (upd (upd (upd H3 l1 (.lst [])) t2 (.tup [])) t3 (.tup [])) t4 (.tup [V.ref t3])) t5 (.tup [V.str "same"])) t6 (.tup [V.ref t5])) l7 (.lst [])) l8 (.lst [V.ref l7])) l9 (.lst [.non, .str "same", .int 3, .bl true, .ref l1, .ref t2, .ref t4, .ref t6, .ref l8, .str ""])) b = some o := fun b o e => same_new n9 _ _ e
    generalize hH9 : (upd (upd (upd (upd (upd (upd (upd (upd (upd H3 l1 (.lst [])) t2 (.tup [])) t3 (.tup [])) t4 (.tup [V.ref t3])) t5 (.tup [V.str "same"])) t6 (.tup [V.ref t5])) l7 (.lst [])) l8 (.lst [V.ref l7])) l9 (.lst [.non, .str "same", .int 3, .bl true, .ref l1, .ref t2, .ref t4, .ref t6, .ref l8, .str ""])) = H9 at u
    have a9 : H9 l9 = some (.lst [.non, .str "same", .int 3, .bl true, .ref l1, .ref t2, .ref t4, .ref t6, .ref l8, .str ""]) := by rw [← hH9]; exact upd_same
    have a8 : H9 l8 = some (.lst [V.ref l7]) := u _ _ upd_same
    have a7 : H9 l7 = some (.lst []) := u _ _ (same_new n8 _ _ upd_same)
    have a6 : H9 t6 = some (.tup [V.ref t5]) := u _ _ (same_new n8 _ _ (same_new n7 _ _ upd_same))
    have a5 : H9 t5 = some (.tup [V.str "same"]) := u _ _ (same_new n8 _ _ (same_new n7 _ _ (same_new n6 _ _ upd_same)))
    have a4 : H9 t4 = some (.tup [V.ref t3]) := u _ _ (same_new n8 _ _ (same_new n7 _ _ (same_new n6 _ _ (same_new n5 _ _ upd_same))))
    have a3 : H9 t3 = some (.tup []) := u _ _ (same_new n8 _ _ (same_new n7 _ _ (same_new n6 _ _ (same_new n5 _ _ (same_new n4 _ _ upd_same)))))
    have a2 : H9 t2 = some (.tup []) := u _ _ (same_new n8 _ _ (same_new n7 _ _ (same_new n6 _ _ (same_new n5 _ _ (same_new n4 _ _ (same_new n3 _ _ upd_same))))))
    have a1 : H9 l1 = some (.lst []) := u _ _ (same_new n8 _ _ (same_new n7 _ _ (same_new n6 _ _ (same_new n5 _ _ (same_new n4 _ _ (same_new n3 _ _ (same_new n2 _ _ upd_same)))))))
    have f1 := F3.ne n1
    have f2 := G1.ne n2
    have f3 := G2.ne n3
    have f4 := G3.ne n4
    have f5 := G4.ne n5
    have f6 := G5.ne n6
    have f7 := G6.ne n7
    have f8 := G7.ne n8
    have all10 : ∀ x ∈ [V.non, .str "same", .int 3, .bl true, .ref l1, .ref t2, .ref t4, .ref t6, .ref l8, .str ""], ∃ d, Th f H9 x d ∧ Neat d 4 20000 ∧ isRule d = false := by
      intro x hx
      simp only [List.mem_cons, List.not_mem_nil, or_false] at hx
      rcases hx with rfl | rfl | rfl | rfl | rfl | rfl | rfl | rfl | rfl | rfl
      · exact ⟨_, .non, Neat.non.mono (Nat.le_refl _) (by decide), rfl⟩
      · exact ⟨_, .str _, (Neat.str (n := 10) (by decide +kernel) (by decide +kernel)).mono (Nat.le_refl _) (by decide), rfl⟩
      · exact ⟨_, .int _, (Neat.int (by decide)).mono (Nat.le_refl _) (by decide), rfl⟩
      · exact ⟨_, .bl _, Neat.bool.mono (Nat.le_refl _) (by decide), rfl⟩
      · exact ⟨_, .lst a1 f1 .nil, (Neat.lst (.nil (dp := 0))).mono (by decide) (by decide), rfl⟩
      · exact ⟨_, .tup a2 f2 .nil, (Neat.tup (.nil (dp := 0))).mono (by decide) (by decide), rfl⟩
      · exact ⟨_, .tup a4 f4 (.cons (.tup a3 f3 .nil) .nil), (Neat.tup (.cons (Neat.tup (.nil (dp := 0))) .nil)).mono (by decide) (by decide), rfl⟩
      · exact ⟨_, .tup a6 f6 (.cons (.tup a5 f5 (.cons (.str _) .nil)) .nil), (Neat.tup (.cons (Neat.tup (.cons (Neat.str (n := 10) (dp := 0) (by decide +kernel) (by decide +kernel)) .nil)) .nil)).mono (by decide) (by decide), rfl⟩
      · exact ⟨_, .lst a8 f8 (.cons (.lst a7 f7 .nil) .nil), (Neat.lst (.cons (Neat.lst (.nil (dp := 0))) .nil)).mono (by decide) (by decide), rfl⟩
      · exact ⟨_, .str _, (Neat.str (n := 10) (by decide +kernel) (by decide +kernel)).mono (Nat.le_refl _) (by decide), rfl⟩
    refine ⟨_, rfl, l9, rfl, ⟨_, SqL.of a9⟩, fun D nD => lc_list (K := K) (a := l9) (xs := [V.non, .str "same", .int 3, .bl true, .ref l1, .ref t2, .ref t4, .ref t6, .ref l8, .str ""]) (fun i H5 => H5 D = some (.lst ((List.replicate i true).map V.bl)) ∧ Same H9 H5) ⟨upd_same, same_new nD⟩ (fun i H5 _ ⟨_, s5⟩ => SqL.of (s5 _ _ a9)) ?_ ?_⟩
    · rintro i x H5 hx ⟨hD, s5⟩
      obtain ⟨d, th, nt, er⟩ := all10 x (List.mem_of_getElem? hx)
      have hi : i < 10 := (List.getElem?_eq_some_iff.mp hx).1
      refine ⟨rfl, yes_in ⟨_, rfl, f, x, d, (by rw [er]; rfl), th.keep (But.of s5), nt, _, hD, ?_, ?_, Same.own s5 nD⟩⟩
      · rw [List.length_map, List.length_replicate]; exact small1000 (by omega)
      · rw [upd_same, List.replicate_succ', List.map_append]; rfl
    · rintro H5 ⟨hD, s5⟩
      refine ⟨D, _, rfl, SqL.of hD, ?_⟩
      rw [show (List.replicate [V.non, .str "same", .int 3, .bl true, .ref l1, .ref t2, .ref t4, .ref t6, .ref l8, .str ""].length true).all id = true from rfl]
      exact q _
end
theorem all_mk {l : PySem.W.OpenLaw} {w : World} {K : PySem.W.Frag} {h : Heap} {mg : Str → Option Value} {fa f1 f2 f3 f4 f5 f6 f7 f8 f9 f10 f11 f12 f13 f14 f15 : Addr} (X : K.In h) (G : h.Ns mainGlobals mg) (hfa : mg "law" = some (.ref fa))
    {od1 an1 od2 an2 od3 an3 od4 an4 od5 an5 od6 an6 od7 an7 od8 an8 od9 an9 od10 an10 od11 an11 od12 an12 od13 an13 od14 an14 od15 an15 : Option Addr} {sl1 sl2 sl3 sl4 sl5 sl6 sl7 sl8 sl9 sl10 sl11 sl12 sl13 sl14 sl15 : Array (Option Value)} {oc1 kV1 dc1 pm1 cd1 ct1 oc2 kV2 dc2 pm2 cd2 ct2 oc3 kV3 dc3 pm3 cd3 ct3 oc4 kV4 dc4 pm4 cd4 ct4 oc5 kV5 dc5 pm5 cd5 ct5 oc6 kV6 dc6 pm6 cd6 ct6 oc7 kV7 dc7 pm7 cd7 ct7 oc8 kV8 dc8 pm8 cd8 ct8 oc9 kV9 dc9 pm9 cd9 ct9 oc10 kV10 dc10 pm10 cd10 ct10 oc11 kV11 dc11 pm11 cd11 ct11 oc12 kV12 dc12 pm12 cd12 ct12 oc13 kV13 dc13 pm13 cd13 ct13 oc14 kV14 dc14 pm14 cd14 ct14 oc15 kV15 dc15 pm15 cd15 ct15 : Value}
    (a1 : PySem.W.nsIn K mainGlobals "is_whole" = some (some (.ref f1))) (l1 : K.lookup f1 = some ⟨oc1, od1, .func (PySem.W.fnOf "is_whole" "is_whole" (defArgs s_is_whole) (defBody s_is_whole) (defScope s_is_whole) .none kV1 dc1 pm1 an1 cd1 ct1), sl1⟩) (c1 : PySem.W.codeIn K cd1 "is_whole" = true) (k1 : PySem.W.keepIn K (.ref f1) = true)
    (a2 : PySem.W.nsIn K mainGlobals "is_rule" = some (some (.ref f2))) (l2 : K.lookup f2 = some ⟨oc2, od2, .func (PySem.W.fnOf "is_rule" "is_rule" (defArgs s_is_rule) (defBody s_is_rule) (defScope s_is_rule) .none kV2 dc2 pm2 an2 cd2 ct2), sl2⟩) (c2 : PySem.W.codeIn K cd2 "is_rule" = true) (k2 : PySem.W.keepIn K (.ref f2) = true)
    (a3 : PySem.W.nsIn K mainGlobals "needs" = some (some (.ref f3))) (l3 : K.lookup f3 = some ⟨oc3, od3, .func (PySem.W.fnOf "needs" "needs" (defArgs s_needs) (defBody s_needs) (defScope s_needs) .none kV3 dc3 pm3 an3 cd3 ct3), sl3⟩) (c3 : PySem.W.codeIn K cd3 "needs" = true) (k3 : PySem.W.keepIn K (.ref f3) = true)
    (a4 : PySem.W.nsIn K mainGlobals "_law_flow" = some (some (.ref f4))) (l4 : K.lookup f4 = some ⟨oc4, od4, .func (PySem.W.fnOf "_law_flow" "_law_flow" (defArgs s_law_flow) (defBody s_law_flow) (defScope s_law_flow) .none kV4 dc4 pm4 an4 cd4 ct4), sl4⟩) (c4 : PySem.W.codeIn K cd4 "_law_flow" = true) (k4 : PySem.W.keepIn K (.ref f4) = true)
    (a5 : PySem.W.nsIn K mainGlobals "_law_pick" = some (some (.ref f5))) (l5 : K.lookup f5 = some ⟨oc5, od5, .func (PySem.W.fnOf "_law_pick" "_law_pick" (defArgs s_law_pick) (defBody s_law_pick) (defScope s_law_pick) .none kV5 dc5 pm5 an5 cd5 ct5), sl5⟩) (c5 : PySem.W.codeIn K cd5 "_law_pick" = true) (k5 : PySem.W.keepIn K (.ref f5) = true)
    (a6 : PySem.W.nsIn K mainGlobals "_law_word" = some (some (.ref f6))) (l6 : K.lookup f6 = some ⟨oc6, od6, .func (PySem.W.fnOf "_law_word" "_law_word" (defArgs s_law_word) (defBody s_law_word) (defScope s_law_word) .none kV6 dc6 pm6 an6 cd6 ct6), sl6⟩) (c6 : PySem.W.codeIn K cd6 "_law_word" = true) (k6 : PySem.W.keepIn K (.ref f6) = true)
    (a7 : PySem.W.nsIn K mainGlobals "_law_put" = some (some (.ref f7))) (l7 : K.lookup f7 = some ⟨oc7, od7, .func (PySem.W.fnOf "_law_put" "_law_put" (defArgs s_law_put) (defBody s_law_put) (defScope s_law_put) .none kV7 dc7 pm7 an7 cd7 ct7), sl7⟩) (c7 : PySem.W.codeIn K cd7 "_law_put" = true) (k7 : PySem.W.keepIn K (.ref f7) = true)
    (a8 : PySem.W.nsIn K mainGlobals "_law_words" = some (some (.ref f8))) (l8 : K.lookup f8 = some ⟨oc8, od8, .func (PySem.W.fnOf "_law_words" "_law_words" (defArgs s_law_words) (defBody s_law_words) (defScope s_law_words) .none kV8 dc8 pm8 an8 cd8 ct8), sl8⟩) (c8 : PySem.W.codeIn K cd8 "_law_words" = true) (k8 : PySem.W.keepIn K (.ref f8) = true)
    (a9 : PySem.W.nsIn K mainGlobals "_law_whole" = some (some (.ref f9))) (l9 : K.lookup f9 = some ⟨oc9, od9, .func (PySem.W.fnOf "_law_whole" "_law_whole" (defArgs s_law_whole) (defBody s_law_whole) (defScope s_law_whole) .none kV9 dc9 pm9 an9 cd9 ct9), sl9⟩) (c9 : PySem.W.codeIn K cd9 "_law_whole" = true) (k9 : PySem.W.keepIn K (.ref f9) = true)
    (a10 : PySem.W.nsIn K mainGlobals "_law_odd" = some (some (.ref f10))) (l10 : K.lookup f10 = some ⟨oc10, od10, .func (PySem.W.fnOf "_law_odd" "_law_odd" (defArgs s_law_odd) (defBody s_law_odd) (defScope s_law_odd) .none kV10 dc10 pm10 an10 cd10 ct10), sl10⟩) (c10 : PySem.W.codeIn K cd10 "_law_odd" = true) (k10 : PySem.W.keepIn K (.ref f10) = true)
    (a11 : PySem.W.nsIn K mainGlobals "_law_things" = some (some (.ref f11))) (l11 : K.lookup f11 = some ⟨oc11, od11, .func (PySem.W.fnOf "_law_things" "_law_things" (defArgs s_law_things) (defBody s_law_things) (defScope s_law_things) .none kV11 dc11 pm11 an11 cd11 ct11), sl11⟩) (c11 : PySem.W.codeIn K cd11 "_law_things" = true) (k11 : PySem.W.keepIn K (.ref f11) = true)
    (a12 : PySem.W.nsIn K mainGlobals "_law_spoilt" = some (some (.ref f12))) (l12 : K.lookup f12 = some ⟨oc12, od12, .func (PySem.W.fnOf "_law_spoilt" "_law_spoilt" (defArgs s_law_spoilt) (defBody s_law_spoilt) (defScope s_law_spoilt) .none kV12 dc12 pm12 an12 cd12 ct12), sl12⟩) (c12 : PySem.W.codeIn K cd12 "_law_spoilt" = true) (k12 : PySem.W.keepIn K (.ref f12) = true)
    (a13 : PySem.W.nsIn K mainGlobals "_law_due" = some (some (.ref f13))) (l13 : K.lookup f13 = some ⟨oc13, od13, .func (PySem.W.fnOf "_law_due" "_law_due" (defArgs s_law_due) (defBody s_law_due) (defScope s_law_due) .none kV13 dc13 pm13 an13 cd13 ct13), sl13⟩) (c13 : PySem.W.codeIn K cd13 "_law_due" = true) (k13 : PySem.W.keepIn K (.ref f13) = true)
    (a14 : PySem.W.nsIn K mainGlobals "_law_told" = some (some (.ref f14))) (l14 : K.lookup f14 = some ⟨oc14, od14, .func (PySem.W.fnOf "_law_told" "_law_told" (defArgs s_law_told) (defBody s_law_told) (defScope s_law_told) .none kV14 dc14 pm14 an14 cd14 ct14), sl14⟩) (c14 : PySem.W.codeIn K cd14 "_law_told" = true) (k14 : PySem.W.keepIn K (.ref f14) = true)
    (a15 : PySem.W.nsIn K mainGlobals "law" = some (some (.ref f15))) (l15 : K.lookup f15 = some ⟨oc15, od15, .func (PySem.W.fnOf "law" "law" (defArgs s_law) (defBody s_law) (defScope s_law) .none kV15 dc15 pm15 an15 cd15 ct15), sl15⟩) (c15 : PySem.W.codeIn K cd15 "law" = true) (k15 : PySem.W.keepIn K (.ref f15) = true)
    (z1 : PySem.W.nsIn K mainGlobals "all" = some none)    (z2 : PySem.W.nsIn K mainGlobals "bool" = some none)    (z3 : PySem.W.nsIn K mainGlobals "enumerate" = some none)    (z4 : PySem.W.nsIn K mainGlobals "int" = some none)    (z5 : PySem.W.nsIn K mainGlobals "isinstance" = some none)    (z6 : PySem.W.nsIn K mainGlobals "len" = some none)    (z7 : PySem.W.nsIn K mainGlobals "list" = some none)    (z8 : PySem.W.nsIn K mainGlobals "range" = some none)    (z9 : PySem.W.nsIn K mainGlobals "repr" = some none)    (z10 : PySem.W.nsIn K mainGlobals "str" = some none)    (z11 : PySem.W.nsIn K mainGlobals "tuple" = some none)
    {aN aW : Addr} {h0 h1 h2 h3 h4 h5 h6 h7 h8 h9 h10 : Int} {t0 u0 t1 u1 t2 u2 t3 u3 t4 u4 t5 u5 t6 u6 t7 u7 t8 u8 t9 u9 t10 u10 : Tok} {nN nW : Nat} {odW : Option Addr} {slW : Array (Option Value)} {tW1 tW2 : Tok} (gN : PySem.W.nsIn K mainGlobals "NEEDS" = some (some (.ref aN)))
    (lN : K.lookup aN = some ⟨.type "dict", none, .dict #[⟨h0, .str "same" t0, .int 1 u0⟩, ⟨h1, .str "sum" t1, .int 2 u1⟩, ⟨h2, .str "gap" t2, .int 2 u2⟩, ⟨h3, .str "below" t3, .int 2 u3⟩, ⟨h4, .str "most" t4, .int 2 u4⟩, ⟨h5, .str "least" t5, .int 2 u5⟩, ⟨h6, .str "pick" t6, .int 3 u6⟩, ⟨h7, .str "times" t7, .int 1 u7⟩, ⟨h8, .str "always" t8, .int 0 u8⟩, ⟨h9, .str "in" t9, .int 0 u9⟩, ⟨h10, .str "out" t10, .int 1 u10⟩] nN, #[]⟩)
    (kN : PySem.W.KeysLit w.params [⟨h0, .str "same" t0, .int 1 u0⟩, ⟨h1, .str "sum" t1, .int 2 u1⟩, ⟨h2, .str "gap" t2, .int 2 u2⟩, ⟨h3, .str "below" t3, .int 2 u3⟩, ⟨h4, .str "most" t4, .int 2 u4⟩, ⟨h5, .str "least" t5, .int 2 u5⟩, ⟨h6, .str "pick" t6, .int 3 u6⟩, ⟨h7, .str "times" t7, .int 1 u7⟩, ⟨h8, .str "always" t8, .int 0 u8⟩, ⟨h9, .str "in" t9, .int 0 u9⟩, ⟨h10, .str "out" t10, .int 1 u10⟩])
    (wN : (aN == sysModules) = false)
    (gW : PySem.W.nsIn K mainGlobals "WITH_NUMBER" = some (some (.ref aW)))
    (lW : K.lookup aW = some ⟨.type "tuple", odW, .seq #[.str "times" tW1, .str "always" tW2] nW, slW⟩) :
    ∃ fd : FuncData, (∀ (s : Shared) (v : Value), BindsTo s fd ⟨[v], []⟩ [("_law_script", v)]) ∧ ∀ base : Heap, K.In base → base.Ns mainGlobals mg → FnG l.prog w K mg base CX0 5 fa fd ["_law_script"] (sp_law K) := by
  have e := hfa.symm.trans (PySem.W.mg_of X G a15)
  cases e
  have F1 := fun_mk (st := s_is_whole) l1 c1 k1
  have b1 := F1.binds (ps := ["thing"]) fun _ _ _ _ _ _ us hl => match us, hl with | [_], _ => rfl
  have F2 := fun_mk (st := s_is_rule) l2 c2 k2
  have b2 := F2.binds (ps := ["thing"]) fun _ _ _ _ _ _ us hl => match us, hl with | [_], _ => rfl
  have F3 := fun_mk (st := s_needs) l3 c3 k3
  have b3 := F3.binds (ps := ["rule"]) fun _ _ _ _ _ _ us hl => match us, hl with | [_], _ => rfl
  have F4 := fun_mk (st := s_law_flow) l4 c4 k4
  have b4 := F4.binds (ps := ["_law_script"]) fun _ _ _ _ _ _ us hl => match us, hl with | [_], _ => rfl
  have F5 := fun_mk (st := s_law_pick) l5 c5 k5
  have b5 := F5.binds (ps := ["_law_flow_here", "_law_many"]) fun _ _ _ _ _ _ us hl => match us, hl with | [_, _], _ => rfl
  have F6 := fun_mk (st := s_law_word) l6 c6 k6
  have b6 := F6.binds (ps := ["_law_flow_here", "_law_most"]) fun _ _ _ _ _ _ us hl => match us, hl with | [_, _], _ => rfl
  have F7 := fun_mk (st := s_law_put) l7 c7 k7
  have b7 := F7.binds (ps := ["_law_flow_here", "_law_some", "_law_one"]) fun _ _ _ _ _ _ us hl => match us, hl with | [_, _, _], _ => rfl
  have F8 := fun_mk (st := s_law_words) l8 c8 k8
  have b8 := F8.binds (ps := []) fun _ _ _ _ _ _ us hl => match us, hl with | [], _ => rfl
  have F9 := fun_mk (st := s_law_whole) l9 c9 k9
  have b9 := F9.binds (ps := ["_law_flow_here"]) fun _ _ _ _ _ _ us hl => match us, hl with | [_], _ => rfl
  have F10 := fun_mk (st := s_law_odd) l10 c10 k10
  have b10 := F10.binds (ps := ["_law_flow_here"]) fun _ _ _ _ _ _ us hl => match us, hl with | [_], _ => rfl
  have F11 := fun_mk (st := s_law_things) l11 c11 k11
  have b11 := F11.binds (ps := ["_law_flow_here", "_law_word_here"]) fun _ _ _ _ _ _ us hl => match us, hl with | [_, _], _ => rfl
  have F12 := fun_mk (st := s_law_spoilt) l12 c12 k12
  have b12 := F12.binds (ps := ["_law_flow_here", "_law_things_here"]) fun _ _ _ _ _ _ us hl => match us, hl with | [_, _], _ => rfl
  have F13 := fun_mk (st := s_law_due) l13 c13 k13
  have b13 := F13.binds (ps := ["_law_things_here"]) fun _ _ _ _ _ _ us hl => match us, hl with | [_], _ => rfl
  have F14 := fun_mk (st := s_law_told) l14 c14 k14
  have b14 := F14.binds (ps := ["_law_thing", "_law_due_here"]) fun _ _ _ _ _ _ us hl => match us, hl with | [_, _], _ => rfl
  have F15 := fun_mk (st := s_law) l15 c15 k15
  have T : Top w K mg := ⟨⟨f1, _, F1, b1, PySem.W.mg_of X G a1⟩, ⟨f2, _, F2, b2, PySem.W.mg_of X G a2⟩, ⟨f3, _, F3, b3, PySem.W.mg_of X G a3⟩, ⟨f4, _, F4, b4, PySem.W.mg_of X G a4⟩, ⟨f5, _, F5, b5, PySem.W.mg_of X G a5⟩, ⟨f6, _, F6, b6, PySem.W.mg_of X G a6⟩, ⟨f7, _, F7, b7, PySem.W.mg_of X G a7⟩, ⟨f8, _, F8, b8, PySem.W.mg_of X G a8⟩, ⟨f9, _, F9, b9, PySem.W.mg_of X G a9⟩, ⟨f10, _, F10, b10, PySem.W.mg_of X G a10⟩, ⟨f11, _, F11, b11, PySem.W.mg_of X G a11⟩, ⟨f12, _, F12, b12, PySem.W.mg_of X G a12⟩, ⟨f13, _, F13, b13, PySem.W.mg_of X G a13⟩, ⟨f14, _, F14, b14, PySem.W.mg_of X G a14⟩, PySem.W.mg_none_of X G z1, PySem.W.mg_none_of X G z2, PySem.W.mg_none_of X G z3, PySem.W.mg_none_of X G z4, PySem.W.mg_none_of X G z5, PySem.W.mg_none_of X G z6, PySem.W.mg_none_of X G z7, PySem.W.mg_none_of X G z8, PySem.W.mg_none_of X G z9, PySem.W.mg_none_of X G z10, PySem.W.mg_none_of X G z11, ⟨aN, PySem.W.mg_of X G gN, needs_at lN kN wN⟩, ⟨aW, PySem.W.mg_of X G gW, with_at lW⟩⟩
  exact ⟨PySem.W.fnOf "law" "law" (defArgs s_law) (defBody s_law) (defScope s_law) .none kV15 dc15 pm15 an15 cd15 ct15, fun s v => .of_eq rfl, fun base _ _ => ok_law F15 T⟩
end Mine
open PySem PySem.W PyProof.Rows
set_option maxRecDepth 100000 in
set_option maxHeartbeats 0 in
theorem PySem.Challenge.cw_beltshift_k03_rules_looked_at_holds : PySem.Challenge.rw_beltshift_k03_rules_looked_at.Holds := by
  w_on; o_law; k_head; (case hw => w_witness2)
  k_fill
  refine Mine.walk_ofG (l := PySem.Challenge.rw_beltshift_k03_rules_looked_at) (n := 63) (k := 5) (x := "_law_script") (CX := fun _ => L2.CX0) (sp := fun w => Mine.sp_law _) rfl (by decide) rfl ⟨rfl, by decide, by decide⟩ (fun w h Y => PySem.W.kIn_of Y) ?F (fun _ _ a ns hl _ hS => ⟨a, ns, rfl, hS, hl, fun _ => rfl⟩) (fun _ _ _ _ _ h => h)
  case F =>
    intro w mg fa h KX G hmg
    refine' Mine.all_mk KX G hmg ?a1 ?l1 ?c1 ?k1 ?a2 ?l2 ?c2 ?k2 ?a3 ?l3 ?c3 ?k3 ?a4 ?l4 ?c4 ?k4 ?a5 ?l5 ?c5 ?k5 ?a6 ?l6 ?c6 ?k6 ?a7 ?l7 ?c7 ?k7 ?a8 ?l8 ?c8 ?k8 ?a9 ?l9 ?c9 ?k9 ?a10 ?l10 ?c10 ?k10 ?a11 ?l11 ?c11 ?k11 ?a12 ?l12 ?c12 ?k12 ?a13 ?l13 ?c13 ?k13 ?a14 ?l14 ?c14 ?k14 ?a15 ?l15 ?c15 ?k15 ?z1 ?z2 ?z3 ?z4 ?z5 ?z6 ?z7 ?z8 ?z9 ?z10 ?z11 ?gN ?lN ?kN ?wN ?gW ?lW
    (case a1 => k_is)
    (case l1 => k_is)
    (case c1 => k_is)
    (case k1 => k_is)
    (case a2 => k_is)
    (case l2 => k_is)
    (case c2 => k_is)
    (case k2 => k_is)
    (case a3 => k_is)
    (case l3 => k_is)
    (case c3 => k_is)
    (case k3 => k_is)
    (case a4 => k_is)
    (case l4 => k_is)
    (case c4 => k_is)
    (case k4 => k_is)
    (case a5 => k_is)
    (case l5 => k_is)
    (case c5 => k_is)
    (case k5 => k_is)
    (case a6 => k_is)
    (case l6 => k_is)
    (case c6 => k_is)
    (case k6 => k_is)
    (case a7 => k_is)
    (case l7 => k_is)
    (case c7 => k_is)
    (case k7 => k_is)
    (case a8 => k_is)
    (case l8 => k_is)
    (case c8 => k_is)
    (case k8 => k_is)
    (case a9 => k_is)
    (case l9 => k_is)
    (case c9 => k_is)
    (case k9 => k_is)
    (case a10 => k_is)
    (case l10 => k_is)
    (case c10 => k_is)
    (case k10 => k_is)
    (case a11 => k_is)
    (case l11 => k_is)
    (case c11 => k_is)
    (case k11 => k_is)
    (case a12 => k_is)
    (case l12 => k_is)
    (case c12 => k_is)
    (case k12 => k_is)
    (case a13 => k_is)
    (case l13 => k_is)
    (case c13 => k_is)
    (case k13 => k_is)
    (case a14 => k_is)
    (case l14 => k_is)
    (case c14 => k_is)
    (case k14 => k_is)
    (case a15 => k_is)
    (case l15 => k_is)
    (case c15 => k_is)
    (case k15 => k_is)
    (case z1 => k_is)
    (case z2 => k_is)
    (case z3 => k_is)
    (case z4 => k_is)
    (case z5 => k_is)
    (case z6 => k_is)
    (case z7 => k_is)
    (case z8 => k_is)
    (case z9 => k_is)
    (case z10 => k_is)
    (case z11 => k_is)
    (case gN => k_is)
    (case lN => k_is)
    (case kN => exact ⟨⟨_, _, rfl, rfl⟩, ⟨_, _, rfl, rfl⟩, ⟨_, _, rfl, rfl⟩, ⟨_, _, rfl, rfl⟩, ⟨_, _, rfl, rfl⟩, ⟨_, _, rfl, rfl⟩, ⟨_, _, rfl, rfl⟩, ⟨_, _, rfl, rfl⟩, ⟨_, _, rfl, rfl⟩, ⟨_, _, rfl, rfl⟩, ⟨_, _, rfl, rfl⟩, trivial⟩)
    (case wN => decide)
    (case gW => k_is)
    (case lW => k_is)

