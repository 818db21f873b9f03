import PyProof.Rows.All
import Wide.All
import OpenK.AllK
import Wide.FinOn
import HandS.ForMost
import HandS.Exc
import HandS.IsInst
import HandS.Strs
import HandS.SetKeys
import HandS.Star
import HandS.Zip
import HandS.Conv
import HandS.Wide
import HandS.Style
import KE.DataMinMax
import KE.GoesNew
import KE.GoesMore
import KE.KDictKeyed
import PyProof.Rows.NestShow
import KE.DatumOrd
import KE.KDictZip
import HandS.TupLen
import HandS.SetFor
import HandS.TupAny
import HandS.Iter
import KE.BitLaws
import PySem.Challenge.RW_fittingdoors_k03_whole_rings_and_trees
set_option Elab.async false
set_option linter.all false
set_option maxRecDepth 100000
set_option maxHeartbeats 8000000
/-! rules that the layer lacks: calls where no repr is going on; repr of data; max of a tuple; enumerate of a tuple -/
namespace KR
open PySem PySem.Spec PyProof.Rows L2

/-! ### defs called where no guard stands -/
structure FnG (P : Program) (w : World) (K : PySem.W.Frag) (mg : Str → Option Value) (base : Heap)
    (k : Nat) (f : Addr) (fd : FuncData) (ps : List Str) (sp : Sp) : Prop where
  len : ∀ vs H Q E, sp vs H Q E → vs.length = ps.length
  run : ∀ (A : Around) (outer : List Env) (s : Shared) (H : Hp) (args : Args) (us : List Value) (vs : List V) (Q : VK) (E : XK),
    A.guards = some [] → Room k A → Env0 P w K mg base A outer s H → BindsTo s fd args (ps.zip us) → Vals vs us → sp vs H Q E →
    codeAny (model P w) A (.call (.ref f) args) (CR CX0 outer P w H s Q E) s

theorem FnG.up {P : Program} {w : World} {K : PySem.W.Frag} {mg : Str → Option Value} {base : Heap} {j k : Nat} {f : Addr}
    {fd : FuncData} {ps : List Str} {sp : Sp} (F : FnG P w K mg base j f fd ps sp) (h : j ≤ k) : FnG P w K mg base k f fd ps sp :=
  ⟨F.len, fun A outer s H args us vs Q E hg hr => F.run A outer s H args us vs Q E hg (hr.mono h)⟩

theorem Fun.okG {P : Program} {w : World} {K : PySem.W.Frag} {mg : Str → Option Value} {base : Heap}
    {x qual : Str} {st : Stmt} {f : Addr} {fd : FuncData} {N ps : List Str} {k : Nat} {sp : Sp}
    (F : Fun K x qual st f fd) (S : FnScope N ps (defScope st)) (len : ∀ vs H Q E, sp vs H Q E → vs.length = ps.length)
    (body : ∀ (cdv : Value) (A : Around) (outer : List Env) (s : Shared) (H : Hp) (vs : List V) (Q : VK) (E : XK),
      (A.deeper (envOfC qual (defScope st) s.heap.objs.size f cdv)).guards = some [] →
      Room k (A.deeper (envOfC qual (defScope st) s.heap.objs.size f cdv)) → sp vs H Q E →
      ∃ t, PSs (cxOf CX0 P w K mg base N qual (defScope st) f cdv A outer s H E).nox (defBody st) t ∧
        t { nx := fun _ H' => Q .non H', rt := Q } (start N vs) H) : FnG P w K mg base (k + 1) f fd ps sp := by
  obtain ⟨oc, od, kV, doc, pm, an, cdv, ct, osl, rfl, lk, hcd⟩ := F.ex
  refine ⟨len, fun A outer s H args us vs Q E hg hr e0 hb r hsp => ?_⟩
  have hlen := len _ _ _ _ hsp
  have inS : K.In s.heap :=
    e0.mod.kin.keeps fun b o e => (e0.bs b o e).1
  have nolim : s.heap.NoLimit :=
    e0.mod.nolimit.keeps fun b o e => (e0.bs b o e).1
  have kinds : ∀ y ∈ ps.zip us, (defScope st).names.lookup y.1 = some .local ∨
      ((defScope st).names.lookup y.1 = some .cell ∧ ((cellsFrom (s.heap.objs.size + 1) (defScope st).names []).lookup y.1).isSome = true) := by
    rintro ⟨n, v⟩ hy
    rcases S.par n (List.of_mem_zip hy).1 with q | q
    · exact Or.inl q
    · exact Or.inr ⟨q, PySem.W.cellsFrom_some _ _ _ (Or.inl q)⟩
  refine codeAny_call_function hr.depth (inS _ _ lk) rfl S.co S.gen rfl
    (PySem.W.codeRec_of inS hcd) (hb _ _ _ _ ?_)
  refine wpAny_newFunctionEnv_cells S.kind kinds fun env he s1 x => ?_
  subst he
  refine ⟨nolim.keeps x.toInCall.keep, codeAny_func ?_⟩
  obtain ⟨t, ht, hq⟩ := body cdv A outer s H vs Q E hg (hr.deeper _) hsp
  have I : Inv (cxOf CX0 P w K mg base N qual (defScope st) f cdv A outer s H E) [] (start N vs) H s1 :=
    inv_start S hr.hd e0 hlen r x
  refine wpAny_mono (ht.nox.run [] s1 (start N vs) H _ I hq) (fun fl s' hs => ?_) (fun e s' hs => hs)
  have fin : ∀ {σ' : L2.St} {H' : Hp} {v : V} {u : Value}, Inv (cxOf CX0 P w K mg base N qual (defScope st) f cdv A outer s H E) [] σ' H' s' →
      RelV v u → Q v H' → CE outer P w H s Q u s' := by
    intro σ' H' v u J rv q
    exact ⟨v, H', J.os, J.bare, J.base, J.hok, rv, q⟩
  cases fl with
  | ret u =>
    obtain ⟨v, σ', H', J, rv, q⟩ := hs
    exact fin J rv q
  | next =>
    obtain ⟨σ', H', J, q⟩ := hs
    exact fin (v := V.non) (u := Value.none) J rfl q
  | brk =>
    obtain ⟨_, _, _, q⟩ := hs
    exact q.elim
  | cont =>
    obtain ⟨_, _, _, q⟩ := hs
    exact q.elim

section
variable {X : Cx} {k : Nat} {f : Addr} {fd : FuncData} {ps : List Str} {sp : Sp} {dvs : List V} {ds : List Value} {x : Str} {p pos : Pos} {e : Expr} {es : List Expr} {t : TA}

/-- a call where no guard stands -/
theorem pe_callG (F : FnG X.prog X.w X.K X.mg X.base k f fd ps sp) (gd : X.A.guards = some []) (hr : Room k X.A) (hg : Gl X x) (hm : X.mg x = some (.ref f))
    (hk : PySem.W.keepIn X.K (.ref f) = true) (hb : Binds X.K fd ps ds) (hd : Vals dvs ds) (ha : PA X (e :: es) t)
    (hdb : (x == ("__debug__" : Str)) = false := by decide)
    (he : starEach (e :: es) X.env = (false, eval e X.env) :: starEach es X.env := by rfl)
    (hpl : (backTo pos (starEach es X.env)).any (·.1) = false := by rfl) :
    PE X (.Call (.Name x p) (e :: es) [] pos) (tCall sp dvs E0 t) := by
  refine ⟨fun pins s σ H Q I h => ?_⟩
  refine wpAny_Call_Name_kw (ld_glob I hg hm ?_ hdb)
  refine PySem.W.callWith_K (h₀ := X.base) I.ok.mod.kin hk
    (thn (ha.run pos pins s σ H _ I h) fun us s1 ⟨vs, H1, I1, r, q⟩ => ⟨I1.kIn, ?_⟩) he hpl
  have r2 : Vals (vs ++ dvs) (us ++ ds) := r.append hd
  have hl : (us ++ ds).length = ps.length := by
    rw [← r2.length]
    exact F.len _ _ _ _ q
  refine wpAny_call (codeAny_mono (F.run X.A X.stack s1 H1 ⟨us, []⟩ (us ++ ds) (vs ++ dvs) Q E0 gd hr I1.env0
    (hb s1 us I1.kIn hl) r2 q) fun r s' hq => ?_)
  cases r with
  | error e => exact (show False from hq).elim
  | ok fl =>
    cases fl with
    | ret u => exact I1.after hq
    | next => exact (show False from hq).elim
    | brk => exact (show False from hq).elim
    | cont => exact (show False from hq).elim
end

/-! ### repr of data -/
def rRepr (K : PySem.W.Frag) : List V → Hp → VK → Prop := fun xs H Q => ∃ v d, xs = [v] ∧ Dp K H v d ∧
  isDisplay d = true ∧ d.showable = true ∧ d.hasDict = false ∧ d.depth ≤ 30 ∧ d.shown.length ≤ sizeLine ∧ Q (.str d.shown) H
theorem call_reprD {X : Cx} (gd : X.A.guards = some []) (hu : X.A.units + 64 < cLine) : CallR X (.builtin "repr") (rRepr X.K) := by
  intro pins s σ H xs us Q I r h
  obtain ⟨v, d, rfl, hd, hdisp, hs, hnd, hdep, hlen, q⟩ := h
  cases r with
  | cons r1 rr =>
    cases rr
    obtain ⟨as, rd⟩ := Dp.reads I d v _ hd r1
    obtain ⟨a, rfl⟩ := isRef_of_reads rd hdisp
    refine repr_of_reads' rd hs (PyData.noDict_hsm hnd) gd (by omega) (fun _ _ e => e) (fun h' u tk hk => ?_) hlen
    exact ⟨.str d.shown, H, I.kept hk, ⟨u, rfl⟩, q⟩

/-! ### the law's own call -/
theorem law_callG {P : Program} {w : World} {K : PySem.W.Frag} {mg mb : Str → Option Value} {k : Nat} {fa a : Addr} {fd : FuncData} {x : Str} {sp : Sp}
    {s₁ : Shared} {vs : List Value} {ns : List Int} (KX : K.In s₁.heap) (hns : s₁.heap.Ns mainGlobals mg) (hb : s₁.heap.Ns builtinsNs mb)
    (hbb : ∀ x : Str, x ≠ "__name__" → mb x = bootBuiltins x) (hlim : s₁.heap.NoLimit) (hg : s₁.gens = #[])
    (ha : s₁.heap.get? a = some { cls := .type "list", data := .seq vs.toArray }) (hi : IntsAre vs ns) (hl : ns.length ≤ sizeLine) (hr : Room k callerA)
    (F : ∀ base : Heap, K.In base → base.Ns mainGlobals mg → FnG P w K mg base k fa fd [x] sp)
    (hbind : ∀ (s : Shared) (u : Value), BindsTo s fd ⟨[u], []⟩ [(x, u)])
    (hsp : ∀ H : Hp, Only H → SqL K H a (ns.map V.int) → sp [.ref a] H (fun v _ => v = .bl true) fun _ _ _ => False) :
    codeAny (model P w) callerA (.call (.ref fa) ⟨[.ref a], []⟩)
      (fun r s' => r = .ok (.ret (.bool true)) ∧ OldK s₁.heap s'.heap ∧ s'.os = s₁.os ∧ AllBare s'.gens) s₁ := by
  have core : ∀ H : Hp, Only H → SqL K H a (ns.map V.int) → HOk P w H s₁.heap → (∀ b, H b ≠ none → b = a ∧ K.lookup b = none) →
      codeAny (model P w) callerA (.call (.ref fa) ⟨[.ref a], []⟩)
        (fun r s' => r = .ok (.ret (.bool true)) ∧ OldK s₁.heap s'.heap ∧ s'.os = s₁.os ∧ AllBare s'.gens) s₁ := by
    intro H hO hS hok hA
    have get1 : ∀ {b : Addr} {o : Obj}, s₁.heap.get? b = some o → H b = none → (hidT s₁.heap H).get? b = some o :=
      fun e n => hidT_get e n
    have freeD : ∀ {b : Addr} {o : Obj} {es : Array DictEntry} {ep : Nat}, s₁.heap.get? b = some o → o.data = .dict es ep → H b = none := by
      intro b o es ep e d
      apply Classical.byContradiction
      intro hne
      have eb := (hA b hne).1
      rw [eb, ha] at e
      cases e
      exact nomatch (show Data.seq vs.toArray _ = Data.dict es ep from d)
    have spaces : ∀ {b : Addr} {m : Str → Option Value}, s₁.heap.Ns b m → (hidT s₁.heap H).Ns b m := by
      rintro b m ⟨o, es, ep, e, d, r⟩
      exact ⟨o, es, ep, get1 e (freeD e d), d, r⟩
    have inB : K.In (hidT s₁.heap H) := by
      intro b o e
      refine get1 (KX b o e) (Classical.byContradiction fun hne => ?_)
      have := (hA b hne).2
      rw [e] at this
      cases this
    have hM : Mod K mg (hidT s₁.heap H) := by
      obtain ⟨mc, h1, h2⟩ := hlim
      exact ⟨inB, spaces hns, ⟨mb, spaces hb, hbb⟩, ⟨mc, spaces h1, h2⟩⟩
    have e0 : Env0 P w K mg (hidT s₁.heap H) callerA [] s₁ H :=
      ⟨rfl, hM, fun b o e => of_hidT e, Nat.le_of_eq (hidT_size _ _), trivial, fun b hb => (List.not_mem_nil hb).elim, hok, .of_eq hg⟩
    have run := (F _ inB (spaces hns)).run callerA [] s₁ H ⟨[.ref a], []⟩ [.ref a] [.ref a] _ _ (by first | rfl | decide) hr e0
      (hbind s₁ (.ref a)) (.cons rfl .nil) (hsp H hO hS)
    refine codeAny_mono run fun r s' h => ?_
    cases r with
    | error e => exact (show False from h).elim
    | ok fl =>
      cases fl with
      | next => exact (show False from h).elim
      | brk => exact (show False from h).elim
      | cont => exact (show False from h).elim
      | ret u =>
        obtain ⟨v, H', os, bare, un, hok', r', q⟩ := h
        obtain rfl : v = .bl true := q
        obtain rfl : u = Value.bool true := r'
        refine ⟨rfl, OldK.of_keep fun b o e => ?_, os, bare⟩
        rcases hO b with q | ⟨ob, xs, z⟩
        · exact un.keep b o e q (fun z => (List.not_mem_nil z).elim) (by simp)
        · have z2 := un.frzs b ob _ z
          obtain ⟨e1, _⟩ := hok b _ z
          obtain ⟨e2, _⟩ := hok' b _ z2
          rw [e] at e1
          cases e1
          exact e2
  have rv := vals_ints hi
  have lenV := hi.length
  cases hk : K.lookup a with
  | some o =>
    have e := KX a o hk
    rw [ha] at e
    cases e
    refine core (fun _ => none) (fun _ => Or.inl rfl) ?_ ?_ (fun b z => (z rfl).elim)
    · refine Or.inr ⟨_, vs.toArray, _, hk, rfl, rfl, rfl, ?_, ?_⟩
      · rw [List.size_toArray, lenV]
        exact hl
      · simpa using rv
    · intro b u z
      exact nomatch (show (none : Option HO) = some u from z)
  | none =>
    have only : ∀ b, (if b = a then some (HO.frz { cls := .type "list", data := .seq vs.toArray } (.lst (ns.map V.int))) else none) ≠ none → b = a := by
      intro b z
      exact Classical.byContradiction fun hb => z (if_neg hb)
    refine core (fun b => if b = a then some (.frz { cls := .type "list", data := .seq vs.toArray } (.lst (ns.map V.int))) else none) ?_ ?_ ?_ ?_
    · intro b
      by_cases hb : b = a
      · exact Or.inr ⟨_, _, if_pos hb⟩
      · exact Or.inl (if_neg hb)
    · exact Or.inl (Or.inr ⟨{ cls := .type "list", data := .seq vs.toArray }, if_pos rfl⟩)
    · intro b u z
      have hb := only b (by rw [show (if b = a then _ else _) = some u from z]; exact fun q => nomatch q)
      subst hb
      cases (if_pos rfl).symm.trans z
      exact ⟨ha, by rw [List.length_map]; exact hl, vs, _, rv, ha⟩
    · intro b z
      have hb := only b z
      exact ⟨hb, by rw [hb]; exact hk⟩

theorem walk_ofG {l : PySem.W.OpenLaw} {n k : Nat} {q : Program} {loose : List Str} {XP : (Str → Option Value) → Heap → Prop} {YP : World → Heap → Prop}
    {d : DefRec} {K : Params → PySem.W.Frag} {sp : World → Sp} {x : Str}
    (hn : l.most = some n) (hn2 : n ≤ sizeLine) (hdf : d.params.defaults = []) (hr : Room k callerA)
    (hY : ∀ (w : World) (h : Heap), YP w h → (K w.params).In h)
    (F : ∀ (w : World) (mg : Str → Option Value) (fa : Addr) (h : Heap), (K w.params).In h → h.Ns mainGlobals mg → mg d.name = some (.ref fa) →
      ∃ fd : FuncData, (∀ (s : Shared) (u : Value), BindsTo s fd ⟨[u], []⟩ [(x, u)]) ∧
        ∀ base : Heap, (K w.params).In base → base.Ns mainGlobals mg → FnG l.prog w (K w.params) mg base k fa fd [x] (sp w))
    (hsp : ∀ (w : World) (H : Hp) (a : Addr) (ns : List Int), ns.length ≤ n → Only H → SqL (K w.params) H a (ns.map V.int) →
      sp w [.ref a] H (fun v _ => v = .bl true) fun _ _ _ => False) :
    PySem.W.WalkO q loose XP YP l.row.toRowW d [] (fun f vs => PySem.call f vs) := by
  refine Att.attach_call hn hdf fun w s₀ s₁ mg mb fa o pm cd doc a vs ns G Y ho hd hcd hmg hobj hints hlen hg => ?_
  obtain ⟨fd, hb, hF⟩ := F w mg fa _ (hY w _ Y) G.T.g hmg
  exact law_callG (hY w _ Y) G.T.g G.T.b G.T.builtins G.T.nolimit hg hobj hints (Nat.le_trans hlen hn2) hr hF hb
    (fun H hO hS => hsp w H a ns hlen hO hS)
end KR
namespace KR
open PySem PySem.Spec PyProof.Rows L2

/-! ### max of a tuple of whole numbers -/
theorem dpAll_ints {K : PySem.W.Frag} {H : Hp} : ∀ ns : List Int, DpAll K H (ns.map V.int) (ns.map PyData.int)
  | [] => .nil
  | n :: ns => .cons (.int n) (dpAll_ints ns)
def rMaxT (K : PySem.W.Frag) : List V → Hp → VK → Prop := fun vs H Q => ∃ (a : Addr) (ns : List Int), vs = [V.ref a] ∧ SqT K H a (ns.map V.int) ∧ ns ≠ [] ∧
  ∀ m, m ∈ ns → (∀ y, y ∈ ns → y ≤ m) → Q (.int m) H
theorem maxOf_spec : ∀ (r : List Int) (x : Int), PySem.W.maxOf x r ∈ x :: r ∧ ∀ y ∈ x :: r, y ≤ PySem.W.maxOf x r
  | [], x => by
    refine ⟨List.mem_cons_self, fun y hy => ?_⟩
    rw [List.mem_singleton.mp hy]
    exact Int.le_refl _
  | z :: r, x => by
    have e : PySem.W.maxOf x (z :: r) = PySem.W.maxOf (if decide (x < z) = true then z else x) r := rfl
    rw [e]
    obtain ⟨h1, h2⟩ := maxOf_spec r (if decide (x < z) = true then z else x)
    have h3 : x ≤ (if decide (x < z) = true then z else x) ∧ z ≤ (if decide (x < z) = true then z else x) := by
      by_cases h : x < z
      · rw [if_pos (decide_eq_true h)]
        omega
      · rw [if_neg (by simpa using h)]
        omega
    have h4 := h2 _ List.mem_cons_self
    refine ⟨?_, fun y hy => ?_⟩
    · rcases List.mem_cons.mp h1 with q | q
      · rw [q]
        by_cases h : x < z
        · rw [if_pos (decide_eq_true h)]
          exact List.mem_cons_of_mem _ List.mem_cons_self
        · rw [if_neg (by simpa using h)]
          exact List.mem_cons_self
      · exact List.mem_cons_of_mem _ (List.mem_cons_of_mem _ q)
    · rcases List.mem_cons.mp hy with q | q
      · rw [q]
        omega
      · rcases List.mem_cons.mp q with q | q
        · rw [q]
          omega
        · exact h2 y (List.mem_cons_of_mem _ q)
theorem call_maxT {X : Cx} (hc : X.calm = true) (hu : X.A.units + 64 < cLine) : CallR X (.builtin "max") (rMaxT X.K) := by
  intro pins s σ H vs us Q I r h
  obtain ⟨a, ns, rfl, hs, hne, q⟩ := h
  obtain ⟨its, rv, hl, _⟩ := I.tuple hs
  rw [Vals.ref1 r]
  cases ns with
  | nil => exact (hne rfl).elim
  | cons x xs =>
    obtain ⟨as, rd⟩ := Dp.readsAll I ((x :: xs).map PyData.int) _ its (dpAll_ints (x :: xs)) rv
    refine PySem.W.max_tuple_datum (x := x) (xs := xs) (vs := its.toArray) (I.ok.hd hc) (show s.heap.IsTuple a its.toArray from hl) ⟨as, by rw [show its.toArray.toList = its by simp]; exact rd⟩ (by show X.A.units + 1 + 0 < cLine; omega) fun i v h' tk hv hh hk => ?_
    obtain ⟨bs, rr⟩ := hh
    obtain ⟨t, rfl⟩ : ∃ t, v = .int (PySem.W.maxOf x xs) t := by
      cases rr with
      | int _ t => exact ⟨t, rfl⟩
    obtain ⟨h1, h2⟩ := maxOf_spec xs x
    exact ⟨.int _, H, I.kept hk, ⟨_, rfl⟩, q _ h1 h2⟩

/-! ### enumerate of a tuple -/
def IteT (K : PySem.W.Frag) (a : Addr) : It where
  go := fun i H => ∃ (xs : List V) (x : V), SqT K H a xs ∧ xs[i]? = some x
  yld := fun i H v H' => ∃ T x, v = .ref T ∧ H T = none ∧ H' = upd H T (.tup [.int (i : Nat), x]) ∧ ∀ xs, SqT K H a xs → xs[i]? = some x
  stop := fun i H => ∃ xs : List V, SqT K H a xs ∧ xs.length ≤ i
theorem turn_enumT {P : Program} {w : World} {K : PySem.W.Frag} {elts : List Expr} {kk : Nat} {tpos : Pos} (a e it : Addr) (hea : a ≠ it) (hee : a ≠ e) :
    Turn P w K (.Tuple elts kk tpos) (IteT K a) [e, it] e
      (fun i h => (∃ old, IsEnum h e it ((i : Nat) : Int) old) ∧ h.IsTupleIter it a i ∧ e ≠ it) where
  mem := List.mem_cons_self
  obj := by
    rintro i h ⟨⟨old, he⟩, ⟨o, ho, hc, hd⟩, _⟩ b hb
    rcases List.mem_cons.mp hb with z | z
    · subst z
      exact ⟨_, he, fun v q => nomatch q⟩
    · cases List.mem_singleton.mp z
      exact ⟨o, ho, fun v q => by rw [hd] at q; cases q⟩
  keep := by
    rintro i h h' ⟨⟨old, he⟩, hi, hne⟩ k
    exact ⟨⟨old, k e List.mem_cons_self _ he⟩, hi.at fun o q => k it (List.mem_cons_of_mem _ List.mem_cons_self) o q, hne⟩
  item := by
    intro X hP hw hK hc i pins s σ H E I hf st hg
    subst hP hw hK
    obtain ⟨⟨old, he⟩, hit, hne⟩ := st
    obtain ⟨xs, x, hq, hx⟩ := hg
    obtain ⟨its, rv, p, hz⟩ := I.tuple hq
    obtain ⟨u, hu, ru⟩ := rv.get hx
    have hT : s.heap.IsTuple a its.toArray := p
    have hel : e < s.heap.objs.size := Heap.lt_size he
    have hil : it < s.heap.objs.size := by
      obtain ⟨_, q, _⟩ := hit
      exact Heap.lt_size q
    have hlt : i < its.toArray.size := by
      have := (List.getElem?_eq_some_iff.mp hu).1
      simpa using this
    have D := Draws.tuple (prog := X.prog) (w := X.w) (A := X.A.in1) (I.ok.hd hc) it a hea its.toArray
    have hef : e ∉ [it, a] := by
      intro hm
      rcases List.mem_cons.mp hm with z | z
      · exact hne z
      · exact hee (List.mem_singleton.mp z).symm
    refine wpAny_pyNext_enum_itemD D he ⟨hit, hT⟩ hlt hne hef fun x' h' tk hP ho hit' hT' hsz hk => ?_
    have ex : x' = u := by
      have h1 : its.toArray[i]? = some u := by simpa using hu
      rw [show its.toArray[i]? = some x' from hP] at h1
      exact Option.some.inj h1
    subst ex
    refine ⟨_, rfl, wpAny_letOwnedTupleGo_enum (s := { s with heap := h', toks := tk + 1 }) ho fun h'' he' sb => ?_⟩
    have hT2 : h''.get? s.heap.objs.size = some { cls := .type "tuple", data := .seq #[.int i tk, x'] } :=
      (sb.2 _ (Nat.ne_of_gt hel)).trans hT'
    have new : ObjOk X.prog X.w (upd H s.heap.objs.size (.tup [.int (i : Nat), x])) h'' s.heap.objs.size (.tup [.int (i : Nat), x]) :=
      ⟨show 2 ≤ sizeLine by decide, [.int i tk, x'], .cons ⟨_, rfl⟩ (.cons ru .nil), _, hT2, rfl, _, rfl⟩
    have I1 : Inv X pins σ (upd H s.heap.objs.size (.tup [.int (i : Nat), x])) { s with heap := h'', toks := tk + 1 } := by
      refine I.turnedNew (ch := [e, it]) (fun b ob hb q => ?_) hf (Nat.le_refl _) new
      have hbe : b ≠ e := fun z => hb (by rw [z]; exact List.mem_cons_self)
      have hbi : b ≠ it := fun z => hb (by rw [z]; exact List.mem_cons_of_mem _ List.mem_cons_self)
      exact (sb.2 b hbe).trans (hk b ob hbe hbi q)
    refine ⟨.ref s.heap.objs.size, _, I1, rfl, ⟨_, x, rfl, I.hok.fresh (Nat.le_refl _), rfl, fun ys hy => ?_⟩, ⟨⟨x', ?_⟩, ?_, hne⟩, fun b hb => ?_⟩
    · rw [I.tuple_inj hy hq]
      exact hx
    · rw [show ((i + 1 : Nat) : Int) = (i : Int) + 1 by omega]
      exact he'
    · exact hit'.1.at fun o q => (sb.2 it (Ne.symm hne)).trans q
    · have hb' : b < s.heap.objs.size := by
        rcases List.mem_cons.mp hb with z | z
        · rw [z]
          exact hel
        · rw [List.mem_singleton.mp z]
          exact hil
      rw [upd_ne (Nat.ne_of_lt hb')]
      exact (hf b hb).1
  done := by
    intro X hP hw hK hc i pins s σ H E I hf st hg
    subst hP hw hK
    obtain ⟨⟨old, he⟩, hit, hne⟩ := st
    obtain ⟨xs, hq, hx⟩ := hg
    obtain ⟨its, rv, p, hz⟩ := I.tuple hq
    obtain ⟨f0, f1, f2, f3, f4, f5⟩ := hf it (List.mem_cons_of_mem _ List.mem_cons_self)
    have hl := rv.length
    have hT : s.heap.IsTuple a its.toArray := p
    have hT0 : s.TypeIs (.ref e) "enumerate" := ⟨_, he, rfl⟩
    unfold pyNext
    refine wpAny_bind (wpAny_attempt (wpAny_callSpecial?_slot (name := Str.ofString "__next__") hT0 F.slot_enumerate_next
      (wpAny_call_entry F.slot_enumerate_next hT0 F.entry_enumerate_next ?_ (F.args_enumerate_next_1 _))))
    show wpAny _ _ (field (.ref e) 2 >>= _) _ _ s
    refine wpAny_bind (wpAny_field he rfl (x := .ref it) rfl ?_)
    refine wpAny_bind (wpAny_nextOf_tuple_end (A := X.A.in1) (I.ok.hd hc) hit hT ?_ fun h' x he' hx' => ?_)
    · simp
      omega
    · obtain ⟨o, ho, hcl⟩ := hx'
      refine wpAny_bind (wpAny_isInstance (T := "StopIteration") (b := true) ⟨o, ho, hcl⟩ isSubtype_stop ?_)
      exact wpAny_pure ⟨rfl, I.turned (t' := s.toks) (fun b o hb q => he' b o hb q) f0 f1 f3 f4 f5⟩
  self := fun A i s Q E st h => let ⟨⟨_, he⟩, _⟩ := st; wpAny_pyIter_enum he h
def iEnumT (K : PySem.W.Frag) (ta : TA) : TI := fun σ H R => ta σ H fun vs H1 => ∃ a xs, vs = [.ref a] ∧ SqT K H1 a xs ∧ R (IteT K a) H1
set_option maxHeartbeats 4000000 in
theorem meets_enumT (t : Addr) (items : Array Value) :
    Meets (Builtin.«enumerate.__new__» ⟨[.type "enumerate", .ref t], []⟩) (fun _ R s => s.heap.IsTuple t items ∧
      R (.ok (.ret (.ref (s.heap.push { cls := .type "tuple_iterator", data := .fields #[.ref t, .int 0 0] }).objs.size)))
        { s with heap := (s.heap.push { cls := .type "tuple_iterator", data := .fields #[.ref t, .int 0 0] }).push { cls := .type "enumerate", data := .fields #[.none, .bool false, .ref s.heap.objs.size, rawInt 0, .none, .none] } }) :=
  .of_wp fun prog w A R s h => by
    obtain ⟨hp, g, d, tk, os⟩ := s
    obtain ⟨h1, h⟩ := h
    have hsub := sub_enumerate
    have B := begins_tuple t items
    have q1 : ∀ {A' : Around} {E : Value → Shared → Prop} {Q : Value → Shared → Prop},
        Q (.ref hp.objs.size) ⟨hp.push { cls := .type "tuple_iterator", data := .fields #[.ref t, .int 0 0] }, g, d, tk, os⟩ → wpAny (model prog w) A' (pyIter (.ref t)) Q E ⟨hp, g, d, tk, os⟩ :=
      fun q => B.iter prog w _ _ ⟨hp, g, d, tk, os⟩ _ h1 q
    wp_walk using q1
    refine wpAny_stack_any fun st => wpAny_pure ?_
    split
    · rename_i c _ _ _ _ _
      cases (c == Value.type "enumerate")
      · wp_walk using q1
        exact ⟨_, rfl, h⟩
      · wp_walk using q1
        exact ⟨_, rfl, h⟩
    · wp_walk using q1
      exact ⟨_, rfl, h⟩
theorem call_enumT {prog : Program} {w : World} {A : Around} {E : Value → Shared → Prop} {s : Shared} {t : Addr} {items : Array Value} {Q : Value → Shared → Prop} (hT : s.heap.IsTuple t items)
    (h : ∀ h', IsEnum h' (s.heap.objs.size + 1) s.heap.objs.size 0 .none → h'.IsTupleIter s.heap.objs.size t 0 → h'.objs.size = s.heap.objs.size + 2 →
      (∀ b o, s.heap.get? b = some o → h'.get? b = some o) → Q (.ref (s.heap.objs.size + 1)) { s with heap := h' }) :
    wpAny (model prog w) A (call (.type "enumerate") [.ref t]) Q E s := by
  refine callType_new F.called_enumerate (by decide) (F.typeCall_enumerate_1 _) (F.newCall_enumerate_1 _) (fun obj => F.args_object_init_2 obj _) F.entry_enumerate_new
    (meets_enumT t items) ⟨hT, ?_⟩
  have hz : (s.heap.push { cls := .type "tuple_iterator", data := .fields #[.ref t, .int 0 0] }).objs.size = s.heap.objs.size + 1 := Heap.size_push ..
  show _ ∧ _
  rw [hz]
  have he : IsEnum ((s.heap.push { cls := .type "tuple_iterator", data := .fields #[.ref t, .int 0 0] }).push
      { cls := .type "enumerate", data := .fields #[.none, .bool false, .ref s.heap.objs.size, rawInt 0, .none, .none] }) (s.heap.objs.size + 1) s.heap.objs.size 0 .none := by
    have q := Heap.get?_push_size (s.heap.push { cls := .type "tuple_iterator", data := .fields #[.ref t, .int 0 0] })
      (o := { cls := .type "enumerate", data := .fields #[.none, .bool false, .ref s.heap.objs.size, rawInt 0, .none, .none] }) rfl
    rw [hz] at q
    exact q
  refine ⟨⟨_, he, rfl⟩, h _ he ⟨{ cls := .type "tuple_iterator", data := .fields #[.ref t, .int 0 0] }, Heap.get?_push_of_some _ (Heap.get?_push_size _ rfl), rfl, rfl⟩ (by rw [Heap.size_push, hz]) fun b o x => ?_⟩
  exact Heap.get?_push_of_some _ (Heap.get?_push_of_some _ x)
theorem pi_enumT {X : Cx} {e : Expr} {ta : TA} {p pos tpos : Pos} {elts : List Expr} {kk : Nat} (hg : Gl X "enumerate") (hm : X.mg "enumerate" = none)
    (ha : PA X [e] ta) (hs : starEach [e] X.env = [(false, eval e X.env)] := by rfl) :
    PI X (.Tuple elts kk tpos) (.Call (.Name "enumerate" p) [e] [] pos) (iEnumT X.K ta) := by
  refine ⟨fun pins s σ H R I h => ?_⟩
  refine Call_ (ld_blt I hg hm boot_enumerate (PyProof.Rows.callWith_type1
    (thn (ha.run pos pins s σ H _ I h) fun us s1 ⟨vs, H1, I1, r1, q1⟩ => ?_) hs rfl))
  obtain ⟨a, xs, ex, hq, q⟩ := q1
  subst ex
  rw [Vals.ref1 r1]
  obtain ⟨its, rv, p', hz⟩ := I1.tuple hq
  have hT : s1.heap.IsTuple a its.toArray := p'
  have hal : a < s1.heap.objs.size := by
    obtain ⟨o, ho, _⟩ := id hT
    exact Heap.lt_size ho
  refine call_enumT hT fun h' he hit hsz hk => wpAny_pyIter_enum he ?_
  have I2 : Inv X pins σ H1 { s1 with heap := h' } := I1.kept (t' := s1.toks) hk
  refine ⟨s1.heap.objs.size + 1, [s1.heap.objs.size + 1, s1.heap.objs.size], _, _, H1, rfl, I2,
    turn_enumT a (s1.heap.objs.size + 1) s1.heap.objs.size (Nat.ne_of_lt hal) (Nat.ne_of_lt (Nat.lt_succ_of_lt hal)), ⟨⟨.none, he⟩, hit, Nat.succ_ne_self _⟩, fun b hb => ?_, q⟩
  have hle : s1.heap.objs.size ≤ b := by
    rcases List.mem_cons.mp hb with z | z
    · rw [z]
      exact Nat.le_add_right _ _
    · rw [List.mem_singleton.mp z]
      exact Nat.le_refl _
  exact I1.fpOk hle (I1.hok.fresh hle)
end KR
/-! list(zip(t, u)) of two tuples -/
namespace KR
open PySem PySem.Spec PySem.W PyProof.Rows L2 RZ

section
variable {prog : Program} {w : World} {A : Around} {E : Value → Shared → Prop} {s : Shared}
theorem zipH_item {z TI TO T i1 i2 l1 l2 : Addr} {f : Bool} {oT : Obj} {k1 k2 : Nat} {xs ys : Array Value} {x y : Value} {Q : Option Value → Shared → Prop}
    (D : ZipApart z TI TO i1 i2 l1 l2) (hz : IsZipHeld s.heap z TI TO T f) (hT : s.heap.get? T = some oT) (hTI : IsPair s.heap TI (.ref i1) (.ref i2))
    (h1 : s.heap.IsTupleIter i1 l1 k1) (h2 : s.heap.IsTupleIter i2 l2 k2) (hl1 : s.heap.IsTuple l1 xs) (hl2 : s.heap.IsTuple l2 ys) (hx : xs[k1]? = some x) (hy : ys[k2]? = some y)
    (hQ : ∀ h', IsZipHeld h' z TI TO T true → h'.IsTupleIter i1 l1 (k1 + 1) → h'.IsTupleIter i2 l2 (k2 + 1) → IsPair h' s.heap.objs.size x y → h'.objs.size = s.heap.objs.size + 1 →
      (∀ c o, c ≠ z → c ≠ i1 → c ≠ i2 → s.heap.get? c = some o → h'.get? c = some o) → Q (some (.ref s.heap.objs.size)) { s with heap := h' }) :
    wpAny (model prog w) A (pyNext (.ref z)) Q E s := by
  have hTy : s.TypeIs (.ref z) "zip" := ⟨_, hz, rfl⟩
  unfold pyNext
  refine wpAny_bind (wpAny_attempt (wpAny_callSpecial?_slot (name := Str.ofString "__next__") hTy F.slot_zip_next
    (wpAny_call_entry F.slot_zip_next hTy F.entry_zip_next ?_ (F.args_zip_next_1 _))))
  show wpAny _ _ (field (.ref z) 2 >>= _) _ _ s
  refine wpAny_bind (wpAny_field hz rfl (x := .bool false) rfl ?_)
  show wpAny _ _ (field (.ref z) 3 >>= _) _ _ s
  refine wpAny_bind (wpAny_field hz rfl (x := .ref TI) rfl ?_)
  refine wpAny_bind (wpAny_seqItems hTI rfl ?_)
  show wpAny _ _ (Builtin.SmallTypes.ownedTupleIsFree (.ref z) >>= _) _ _ s
  refine wpAny_bind (wpAny_tupleHeld_zip hz hT fun g1 zz1 sb1 => ?_)
  simp only [Bool.false_eq_true, if_false]
  refine wpAny_bind ?_
  rw [← Array.forIn_toList]
  simp only [List.forIn_cons, List.forIn_nil]
  refine wpAny_bind (wpAny_bind (wpAny_holding ?_))
  show wpAny _ _ (Builtin.SmallTypes.nextOf (.ref i1) >>= _) _ _ { s with heap := g1 }
  refine wpAny_bind (wpAny_nextOf_tuple_item (s := { s with heap := g1 }) (h1.extBut sb1.extBut D.i1z) (hl1.extBut sb1.extBut D.l1z) hx fun g2 it2 sb2 => wpAny_pure ?_)
  refine wpAny_pure ?_
  refine wpAny_bind (wpAny_bind (wpAny_holding ?_))
  show wpAny _ _ (Builtin.SmallTypes.nextOf (.ref i2) >>= _) _ _ { s with heap := g2 }
  refine wpAny_bind (wpAny_nextOf_tuple_item (s := { s with heap := g2 }) ((h2.extBut sb1.extBut D.i2z).extBut sb2.extBut D.i12.symm)
    ((hl2.extBut sb1.extBut D.l2z).extBut sb2.extBut D.l2i1) hy fun g3 it3 sb3 => wpAny_pure ?_)
  refine wpAny_pure (wpAny_pure ?_)
  show wpAny _ _ (newTuple [x, y] >>= _) _ _ { s with heap := g3 }
  refine wpAny_bind (wpAny_newTuple ?_)
  have size3 : g3.objs.size = s.heap.objs.size := by rw [sb3.1, sb2.1, sb1.1]
  have zz3 : IsZipHeld g3 z TI TO T true := sb3.extBut _ _ D.i2z.symm (sb2.extBut _ _ D.i1z.symm zz1)
  have kp : ∀ c o, c ≠ z → c ≠ i1 → c ≠ i2 → s.heap.get? c = some o → g3.get? c = some o :=
    fun c o c1 c2 c3 e => sb3.extBut _ _ c3 (sb2.extBut _ _ c2 (sb1.extBut _ _ c1 e))
  have it1 : g3.IsTupleIter i1 l1 (k1 + 1) := it2.extBut sb3.extBut D.i12
  have pr : IsPair (g3.push { cls := .type "tuple", data := .seq #[x, y] }) g3.objs.size x y := Heap.get?_push_size _ rfl
  have sz4 : (g3.push { cls := .type "tuple", data := .seq #[x, y] }).objs.size = g3.objs.size + 1 := Heap.size_push ..
  refine wpAny_pure ⟨_, rfl, wpAny_pure ?_⟩
  show Q (some (.ref g3.objs.size)) _
  rw [size3] at pr sz4 ⊢
  exact hQ _ (Heap.get?_push_of_some _ zz3) (it1.at fun o e => Heap.get?_push_of_some _ e) (it3.at fun o e => Heap.get?_push_of_some _ e) pr sz4
    fun c o c1 c2 c3 e => Heap.get?_push_of_some _ (kp c o c1 c2 c3 e)
theorem zipH_end {z TI TO T i1 i2 l1 l2 : Addr} {f : Bool} {oT : Obj} {k1 : Nat} {xs : Array Value} {Q : Option Value → Shared → Prop} (hh : A.handled = none)
    (D : ZipApart z TI TO i1 i2 l1 l2) (hz : IsZipHeld s.heap z TI TO T f) (hT : s.heap.get? T = some oT) (hTI : IsPair s.heap TI (.ref i1) (.ref i2))
    (h1 : s.heap.IsTupleIter i1 l1 k1) (hl1 : s.heap.IsTuple l1 xs) (hx : xs[k1]? = none)
    (hQ : ∀ h', (∀ c o, c ≠ z → c ≠ i1 → s.heap.get? c = some o → h'.get? c = some o) → Q none { s with heap := h' }) : wpAny (model prog w) A (pyNext (.ref z)) Q E s := by
  have hTy : s.TypeIs (.ref z) "zip" := ⟨_, hz, rfl⟩
  unfold pyNext
  refine wpAny_bind (wpAny_attempt (wpAny_callSpecial?_slot (name := Str.ofString "__next__") hTy F.slot_zip_next
    (wpAny_call_entry F.slot_zip_next hTy F.entry_zip_next ?_ (F.args_zip_next_1 _))))
  show wpAny _ _ (field (.ref z) 2 >>= _) _ _ s
  refine wpAny_bind (wpAny_field hz rfl (x := .bool false) rfl ?_)
  show wpAny _ _ (field (.ref z) 3 >>= _) _ _ s
  refine wpAny_bind (wpAny_field hz rfl (x := .ref TI) rfl ?_)
  refine wpAny_bind (wpAny_seqItems hTI rfl ?_)
  show wpAny _ _ (Builtin.SmallTypes.ownedTupleIsFree (.ref z) >>= _) _ _ s
  refine wpAny_bind (wpAny_tupleHeld_zip hz hT fun g1 zz1 sb1 => ?_)
  simp only [Bool.false_eq_true, if_false]
  refine wpAny_bind ?_
  rw [← Array.forIn_toList]
  simp only [List.forIn_cons, List.forIn_nil]
  refine wpAny_bind (wpAny_bind (wpAny_holding ?_))
  show wpAny _ _ (Builtin.SmallTypes.nextOf (.ref i1) >>= _) _ _ { s with heap := g1 }
  refine wpAny_bind (wpAny_nextOf_tuple_end (s := { s with heap := g1 }) hh (h1.extBut sb1.extBut D.i1z) (hl1.extBut sb1.extBut D.l1z) hx fun g2 e sb2 he => ?_)
  obtain ⟨o, ho, hcl⟩ := he
  refine wpAny_bind (wpAny_isInstance (T := "StopIteration") (b := true) ⟨o, ho, hcl⟩ isSubtype_stop ?_)
  exact wpAny_pure (hQ g2 fun c o c1 c2 q => sb2 _ _ c2 (sb1.extBut _ _ c1 q))
end

section
variable {X : Cx} {pins : List (Addr × Obj)} {σ : L2.St}
/-- where the zip stands -/
def ZState (z TI TO i1 i2 a b S : Addr) (i : Nat) (h : Heap) : Prop :=
  IsPair h TI (.ref i1) (.ref i2) ∧ h.IsTupleIter i1 a i ∧ h.IsTupleIter i2 b i ∧
  ((IsZip h z TI TO .none ∧ ∃ u v, IsPair h TO u v) ∨
    ∃ T f oT, IsZipHeld h z TI TO T f ∧ h.get? T = some oT ∧ T ≠ S ∧ T ≠ z ∧ T ≠ i1 ∧ T ≠ i2 ∧ ∃ o2, h.get? TO = some o2)

theorem zl_loop {z TI TO i1 i2 a b S : Addr} {xs ys : List V} {R : Result → Shared → Prop} {H₀ : Hp} (D : ZipApart z TI TO i1 i2 a b) (hl : xs.length = ys.length) (hln : xs.length < sizeLine)
    (hS : S ∉ [z, TI, TO, i1, i2]) (hc : X.calm = true) (hS0 : H₀ S = none)
    (hR : ∀ (ts : List Addr) (H' : Hp) s', Inv X pins σ H' s' → Same H₀ H' → H' S = some (.lst (ts.map V.ref)) → ts.length = xs.length →
      (∀ (i : Nat) (t : Addr), ts[i]? = some t → H₀ t = none ∧ ∃ x y, xs[i]? = some x ∧ ys[i]? = some y ∧ H' t = some (.tup [x, y])) → R (.ok (.ret .none)) s') :
    ∀ (k i : Nat) (ts : List Addr) (H : Hp) (s : Shared), xs.length - i = k → i ≤ xs.length → ts.length = i → Inv X pins σ H s → Same H₀ H →
      SqT X.K H a xs → SqT X.K H b ys → H S = some (.lst (ts.map V.ref)) → (∀ c ∈ [z, TI, TO, i1, i2], FpOk X pins H c) →
      (∀ (i : Nat) (t : Addr), ts[i]? = some t → H₀ t = none ∧ ∃ x y, xs[i]? = some x ∧ ys[i]? = some y ∧ H t = some (.tup [x, y])) →
      ZState z TI TO i1 i2 a b S i s.heap → codeAny (model X.prog X.w) X.A.in1 (.builtin "list.extend.loop" ⟨[.ref S, .ref z, .none], []⟩) R s := by
  have Sz : S ≠ z := fun e => hS (by rw [e]; simp)
  have STI : S ≠ TI := fun e => hS (by rw [e]; simp)
  have STO : S ≠ TO := fun e => hS (by rw [e]; simp)
  have Si1 : S ≠ i1 := fun e => hS (by rw [e]; simp)
  have Si2 : S ≠ i2 := fun e => hS (by rw [e]; simp)
  intro k
  induction k with
  | zero =>
    intro i ts H s hk hi hts I sm qa qb eS fp tt st
    have e1 : i = xs.length := by omega
    obtain ⟨hTI, h1, h2, hz⟩ := st
    obtain ⟨its, rv, p1, _⟩ := I.tuple qa
    have l1 := rv.length
    have hend : its.toArray[i]? = none := by
      simp
      omega
    refine codeAny_builtin F.entry_extend_loop ?_
    rw [Around.under_plainId F.plain_extend_loop _]
    show wpAny _ _ (pyNext (.ref z) >>= _) _ _ s
    have fin : ∀ h' : Heap, (∀ c o, c ∉ [z, TI, TO, i1, i2] → s.heap.get? c = some o → h'.get? c = some o) → R (.ok (.ret .none)) { s with heap := h' } := by
      intro h' kp
      refine hR ts H _ (I.turnedL (t' := s.toks) (ch := [z, TI, TO, i1, i2]) kp fp) sm eS (by omega) tt
    rcases hz with ⟨hz, u, v, hTO⟩ | ⟨T, f, oT, hz, hT, n1, n2, n3, n4, o2, hO2⟩
    · obtain ⟨its2, rv2, p2, _⟩ := I.tuple qb
      refine wpAny_bind (pyNext_zipT_end (A := X.A.in1.in1) (I.ok.hd hc) D hz hTI hTO h1 h2 (show s.heap.IsTuple a its.toArray from p1) (show s.heap.IsTuple b its2.toArray from p2) (.inl hend) fun h' kp => ?_)
      exact wpAny_pure (fin h' fun c o hcm e => kp c o (fun q => hcm (by simp [q])) (fun q => hcm (by simp [q])) (fun q => hcm (by simp [q])) (fun q => hcm (by simp [q])) e)
    · refine wpAny_bind (zipH_end (A := X.A.in1.in1) (I.ok.hd hc) D hz hT hTI h1 (show s.heap.IsTuple a its.toArray from p1) hend fun h' kp => ?_)
      exact wpAny_pure (fin h' fun c o hcm e => kp c o (fun q => hcm (by simp [q])) (fun q => hcm (by simp [q])) e)
  | succ k ih =>
    intro i ts H s hk hi hts I sm qa qb eS fp tt st
    have hlt : i < xs.length := by omega
    have hlt2 : i < ys.length := by omega
    obtain ⟨hTI, h1, h2, hz⟩ := st
    obtain ⟨its, rv, p1, _⟩ := I.tuple qa
    obtain ⟨its2, rv2, p2, _⟩ := I.tuple qb
    have gx : xs[i]? = some xs[i] := List.getElem?_eq_getElem hlt
    have gy : ys[i]? = some ys[i] := List.getElem?_eq_getElem hlt2
    obtain ⟨u, hu, ru⟩ := rv.get gx
    obtain ⟨u2, hu2, ru2⟩ := rv2.get gy
    have au : its.toArray[i]? = some u := by simpa using hu
    have au2 : its2.toArray[i]? = some u2 := by simpa using hu2
    refine codeAny_builtin F.entry_extend_loop ?_
    rw [Around.under_plainId F.plain_extend_loop _]
    show wpAny _ _ (pyNext (.ref z) >>= _) _ _ s
    have lt : ∀ {c : Addr}, H c ≠ none → c < s.heap.objs.size := fun {c} hne => by
      cases q : H c with
      | none => exact (hne q).elim
      | some o => exact (I.hok c o q).lt
    have old5 : ∀ c ∈ [z, TI, TO, i1, i2], c < s.heap.objs.size → True := fun _ _ _ => trivial
    have new := I.hok.fresh (Nat.le_refl s.heap.objs.size)
    have go : ∀ h' : Heap, (∀ c o, c ∉ [z, TI, TO, i1, i2] → s.heap.get? c = some o → h'.get? c = some o) → IsPair h' s.heap.objs.size u u2 → h'.objs.size = s.heap.objs.size + 1 →
        (∀ c ∈ [z, TI, TO, i1, i2], c < s.heap.objs.size) → ZState z TI TO i1 i2 a b S (i + 1) h' →
        wpAny (model X.prog X.w) X.A.in1.in1 (updateSeq S (·.push (.ref s.heap.objs.size)) >>= fun _ => again (.builtin "list.extend.loop" ⟨[.ref S, .ref z, .none], []⟩))
          (fun fin s' => match fin with | .done f => R (.ok f) s' | .again c' => c'.quiet = true ∧ codeAny (model X.prog X.w) X.A.in1 c' R s') (fun e s' => R (.error e) s') { s with heap := h' } := by
      intro h' kp pr sz old st'
      have ob : ObjOk X.prog X.w (upd H s.heap.objs.size (.tup [xs[i], ys[i]])) h' s.heap.objs.size (.tup [xs[i], ys[i]]) :=
        ⟨show 2 ≤ sizeLine by decide, [u, u2], .cons ru (.cons ru2 .nil), _, pr, rfl, _, rfl⟩
      have I1 : Inv X pins σ (upd H s.heap.objs.size (.tup [xs[i], ys[i]])) { s with heap := h' } := I.turnedNew (t' := s.toks) kp fp (Nat.le_refl _) ob
      have nS : S ≠ s.heap.objs.size := ne_of_none eS new
      have eS1 : (upd H s.heap.objs.size (.tup [xs[i], ys[i]])) S = some (.lst (ts.map V.ref)) := by
        rw [upd_ne nS]
        exact eS
      obtain ⟨hz', its3, n3, ri, e3⟩ := I1.hok S _ eS1
      have l3 := ri.length
      rw [List.length_map] at l3
      have sm1 : Same H (upd H s.heap.objs.size (.tup [xs[i], ys[i]])) := fun c o e => by
        rw [upd_ne (ne_of_none e new)]
        exact e
      refine wpAny_bind (wpAny_updateSeq e3 rfl (wpAny_pure ⟨plainId_quiet F.plain_extend_loop _, ?_⟩) ?_)
      · have I2 : Inv X pins σ (upd (upd H s.heap.objs.size (.tup [xs[i], ys[i]])) S (.lst ((ts ++ [s.heap.objs.size]).map V.ref)))
            { s with heap := h'.update S (Obj.mapSeq (·.push (.ref s.heap.objs.size))) } := by
          have up := Heap.get?_update_self (Obj.mapSeq (·.push (Value.ref s.heap.objs.size))) e3 rfl
          refine I1.write (t' := s.toks) (by rw [eS1]; trivial) (.inl rfl) (fun c o hcS q => ?_) ⟨_, up⟩ ⟨?_, its3 ++ [.ref s.heap.objs.size], n3 + 1, ?_, ?_⟩
          · exact (Heap.get?_update_other _ _ (fun q' : S = c => hcS q'.symm)).trans q
          · rw [List.length_map, List.length_append]
            show ts.length + 1 ≤ sizeLine
            omega
          · rw [List.map_append]
            exact ri.append (.cons rfl .nil)
          · refine up.trans ?_
            simp [Obj.mapSeq]
        have keepS : ∀ c o, c ≠ S → h'.get? c = some o → (h'.update S (Obj.mapSeq (·.push (.ref s.heap.objs.size)))).get? c = some o :=
          fun c o hcS q => (Heap.get?_update_other _ _ (fun q' : S = c => hcS q'.symm)).trans q
        have sm2 : Same H₀ (upd (upd H s.heap.objs.size (.tup [xs[i], ys[i]])) S (.lst ((ts ++ [s.heap.objs.size]).map V.ref))) := fun c o e => by
          rw [upd_ne (fun q => by rw [q, hS0] at e; cases e)]
          exact sm1 c o (sm c o e)
        have seqs : ∀ (c : Addr) (vs : List V), c ≠ S → SqT X.K H c vs → SqT X.K (upd (upd H s.heap.objs.size (.tup [xs[i], ys[i]])) S (.lst ((ts ++ [s.heap.objs.size]).map V.ref))) c vs := by
          intro c vs hcS q
          rcases q with (q | ⟨o, q⟩) | q
          · exact .inl (.inl (by rw [upd_ne hcS]; exact sm1 _ _ q))
          · exact .inl (.inr ⟨o, by rw [upd_ne hcS]; exact sm1 _ _ q⟩)
          · exact .inr q
        have Sa : a ≠ S := fun q => by
          obtain ⟨o, ho, hcl, _⟩ := p1
          have := (I.hok S _ eS)
          obtain ⟨_, _, _, _, e⟩ := this
          rw [← q, ho] at e
          cases e
          exact nomatch (show Value.type "list" = Value.type "tuple" from hcl)
        have Sb : b ≠ S := fun q => by
          obtain ⟨o, ho, hcl, _⟩ := p2
          have := (I.hok S _ eS)
          obtain ⟨_, _, _, _, e⟩ := this
          rw [← q, ho] at e
          cases e
          exact nomatch (show Value.type "list" = Value.type "tuple" from hcl)
        refine ih (i + 1) (ts ++ [s.heap.objs.size]) _ _ (by omega) hlt (by rw [List.length_append, hts]; rfl) I2 sm2 (seqs a xs Sa qa) (seqs b ys Sb qb) upd_same (fun c hcm => ?_) (fun j t hj => ?_) ?_
        · have hcS : c ≠ S := fun q => hS (by rw [← q]; exact hcm)
          have f := fp c hcm
          refine ⟨?_, f.2⟩
          rw [upd_ne hcS, upd_ne (Nat.ne_of_lt (old c hcm))]
          exact f.1
        · by_cases hjl : j < ts.length
          · rw [List.getElem?_append_left hjl] at hj
            obtain ⟨q0, x, y, q1, q2, q3⟩ := tt j t hj
            refine ⟨q0, x, y, q1, q2, ?_⟩
            have htS : t ≠ S := fun q => by rw [q, eS] at q3; cases q3
            rw [upd_ne htS]
            exact sm1 _ _ q3
          · rw [List.getElem?_append_right (by omega)] at hj
            have hj0 : j - ts.length = 0 := by
              apply Classical.byContradiction
              intro q
              rw [List.getElem?_eq_none (by show 1 ≤ _; omega)] at hj
              cases hj
            rw [hj0] at hj
            cases hj
            have ej : j = i := by omega
            subst ej
            refine ⟨sm.free new, _, _, gx, gy, ?_⟩
            rw [upd_ne nS.symm, upd_same]
        · obtain ⟨s1, s2, s3, s4⟩ := st'
          refine ⟨keepS _ _ STI.symm s1, s2.at fun o e => keepS _ o Si1.symm e, s3.at fun o e => keepS _ o Si2.symm e, ?_⟩
          rcases s4 with ⟨s4, v1, v2, s5⟩ | ⟨T, f, oT, s4, s5, s6, s7⟩
          · exact .inl ⟨keepS _ _ Sz.symm s4, v1, v2, keepS _ _ STO.symm s5⟩
          · obtain ⟨m1, m2, m3, o2, m4⟩ := s7
            exact .inr ⟨T, f, oT, keepS _ _ Sz.symm s4, keepS _ _ s6 s5, s6, m1, m2, m3, o2, keepS _ _ STO.symm m4⟩
      · rw [List.size_toArray]
        omega
    have hil1 : i1 < s.heap.objs.size := by
      obtain ⟨_, q, _⟩ := h1
      exact Heap.lt_size q
    have hil2 : i2 < s.heap.objs.size := by
      obtain ⟨_, q, _⟩ := h2
      exact Heap.lt_size q
    have hSl : S < s.heap.objs.size := lt (by rw [eS]; exact fun q => nomatch q)
    rcases hz with ⟨hz, v1, v2, hTO⟩ | ⟨T, f, oT, hz, hT, n1, n2, n3, n4, o2, hO2⟩
    · have all5 : ∀ c ∈ [z, TI, TO, i1, i2], c < s.heap.objs.size := by
        intro c hcm
        simp only [List.mem_cons, List.not_mem_nil, or_false] at hcm
        rcases hcm with q | q | q | q | q
        · rw [q]; exact Heap.lt_size hz
        · rw [q]; exact Heap.lt_size hTI
        · rw [q]; exact Heap.lt_size hTO
        · rw [q]; exact hil1
        · rw [q]; exact hil2
      refine wpAny_bind (pyNext_zipT_item D hz hTI hTO h1 h2 (show s.heap.IsTuple a its.toArray from p1) (show s.heap.IsTuple b its2.toArray from p2) au au2 fun h' a1 a2 a3 a4 a5 a6 kp => ?_)
      refine go h' (fun c o hcm e => kp c o (fun q => hcm (by simp [q])) (fun q => hcm (by simp [q])) (fun q => hcm (by simp [q])) (fun q => hcm (by simp [q])) e) a5 a6 all5 ?_
      exact ⟨kp _ _ D.TIz D.TITO D.TIi1 D.TIi2 hTI, a3, a4, .inr ⟨s.heap.objs.size, false, _, a1, a5, Nat.ne_of_gt hSl, Nat.ne_of_gt (Heap.lt_size hz), Nat.ne_of_gt hil1, Nat.ne_of_gt hil2, _, a2⟩⟩
    · refine wpAny_bind (zipH_item D hz hT hTI h1 h2 (show s.heap.IsTuple a its.toArray from p1) (show s.heap.IsTuple b its2.toArray from p2) au au2 fun h' a1 a3 a4 a5 a6 kp => ?_)
      refine go h' (fun c o hcm e => kp c o (fun q => hcm (by simp [q])) (fun q => hcm (by simp [q])) (fun q => hcm (by simp [q])) e) a5 a6 ?_ ?_
      · intro c hcm
        simp only [List.mem_cons, List.not_mem_nil, or_false] at hcm
        rcases hcm with q | q | q | q | q
        · rw [q]; exact Heap.lt_size hz
        · rw [q]; exact Heap.lt_size hTI
        · rw [q]; exact Heap.lt_size hO2
        · rw [q]; exact hil1
        · rw [q]; exact hil2
      · exact ⟨kp _ _ D.TIz D.TIi1 D.TIi2 hTI, a3, a4, .inr ⟨T, true, oT, a1, kp _ _ n2 n3 n4 hT, n1, n2, n3, n4, o2, kp _ _ D.TOz D.TOi1 D.TOi2 hO2⟩⟩
end

theorem zip_nolen : typeLookup (.type "zip") "__len__" = pure none := by rw [typeLookup_type, builtinLookup_eq_fast]; kernel_rfl
theorem zip_nohint : typeLookup (.type "zip") "__length_hint__" = pure none := by rw [typeLookup_type, builtinLookup_eq_fast]; kernel_rfl

section
variable {X : Cx} {pins : List (Addr × Obj)} {σ : L2.St}
/-- what list(zip(t, u)) gives -/
def Zipped (xs ys : List V) (H : Hp) (Q : VK) : Prop := ∀ (l : Addr) (ts : List Addr) (H' : Hp), H l = none → Same H H' → H' l = some (.lst (ts.map V.ref)) → ts.length = xs.length →
  (∀ (i : Nat) (t : Addr), ts[i]? = some t → H t = none ∧ ∃ x y, xs[i]? = some x ∧ ys[i]? = some y ∧ H' t = some (.tup [x, y])) → Q (.ref l) H'
theorem call_lzip {z TI TO i1 i2 a b : Addr} {xs ys : List V} {H : Hp} {s : Shared} {Q : VK} (D : ZipApart z TI TO i1 i2 a b) (hl : xs.length = ys.length) (hln : xs.length < sizeLine)
    (hc : X.calm = true) (I : Inv X pins σ H s) (qa : SqT X.K H a xs) (qb : SqT X.K H b ys) (fp : ∀ c ∈ [z, TI, TO, i1, i2], FpOk X pins H c)
    (hz : IsZip s.heap z TI TO .none) (hTI : IsPair s.heap TI (.ref i1) (.ref i2)) (hTO : IsPair s.heap TO .none .none)
    (h1 : s.heap.IsTupleIter i1 a 0) (h2 : s.heap.IsTupleIter i2 b 0) (q : Zipped xs ys H Q) :
    wpAny (model X.prog X.w) X.A (call (.type "list") [.ref z]) (EP X pins σ Q) X.xe s := by
  have all5 : ∀ c ∈ [z, TI, TO, i1, i2], c < s.heap.objs.size := by
    intro c hcm
    simp only [List.mem_cons, List.not_mem_nil, or_false] at hcm
    rcases hcm with q | q | q | q | q
    · rw [q]; exact Heap.lt_size hz
    · rw [q]; exact Heap.lt_size hTI
    · rw [q]; exact Heap.lt_size hTO
    · rw [q]; obtain ⟨_, q', _⟩ := h1; exact Heap.lt_size q'
    · rw [q]; obtain ⟨_, q', _⟩ := h2; exact Heap.lt_size q'
  have hSf : s.heap.objs.size ∉ [z, TI, TO, i1, i2] := fun hm => Nat.lt_irrefl _ (all5 _ hm)
  have new := I.hok.fresh (Nat.le_refl s.heap.objs.size)
  refine callType_codes (Q₁ := fun obj s₁ => obj = .ref s.heap.objs.size ∧ s₁ = { s with heap := s.heap.push { cls := .type "list", data := .seq #[] } }) F.called_list (F.typeCall_list_1 _) F.entry_list_init
    (code_list_new _ ⟨rfl, rfl⟩) fun obj s₁ e => ?_
  obtain ⟨rfl, rfl⟩ := e
  have hS : (s.heap.push { cls := .type "list", data := .seq #[] }).get? s.heap.objs.size = some { cls := .type "list", data := .seq #[] } := Heap.get?_push_size _ rfl
  refine ⟨⟨_, hS, rfl⟩, F.args_list_init_2 _ _, ?_⟩
  have kp0 : ∀ c o, s.heap.get? c = some o → (s.heap.push { cls := .type "list", data := .seq #[] }).get? c = some o := fun c o e => Heap.get?_push_of_some _ e
  show wpAny _ _ (do let old ← Builtin.List.listItems (.ref s.heap.objs.size); Builtin.List.listUpdate (.ref s.heap.objs.size) (fun _ => #[]); letGo old.toList.reverse; Builtin.List.listExtendWith (.ref s.heap.objs.size) (.ref z) .none) _ _ _
  refine wpAny_bind ?_
  unfold Builtin.List.listItems
  refine wpAny_bind (wpAny_seqItems hS rfl (wpAny_pure ?_))
  show wpAny _ _ (updateSeq s.heap.objs.size (fun _ => #[]) >>= fun _ => letGo (#[] : Array Value).toList.reverse >>= fun _ => Builtin.List.listExtendWith (.ref s.heap.objs.size) (.ref z) .none) _ _ _
  refine wpAny_bind (wpAny_updateSeq hS rfl ?_)
  have hS2 := Heap.get?_update_self (Obj.mapSeq (fun _ => (#[] : Array Value))) hS rfl
  have kp1 : ∀ c o, s.heap.get? c = some o → ((s.heap.push { cls := .type "list", data := .seq #[] }).update s.heap.objs.size (Obj.mapSeq (fun _ => (#[] : Array Value)))).get? c = some o :=
    fun c o e => (Heap.get?_update_other _ _ (Nat.ne_of_gt (Heap.lt_size e))).trans (kp0 c o e)
  refine wpAny_bind (wpAny_letGo ?_)
  generalize ((s.heap.push { cls := .type "list", data := .seq #[] }).update s.heap.objs.size (Obj.mapSeq (fun _ => (#[] : Array Value)))) = g1 at hS2 kp1 ⊢
  have hTy : ({ s with heap := g1 } : Shared).TypeIs (.ref z) "zip" := ⟨_, kp1 _ _ hz, rfl⟩
  unfold Builtin.List.listExtendWith
  refine wpAny_bind (wpAny_typeOf hTy ?_)
  have n1 : Builtin.List.listSameRef (.ref s.heap.objs.size) (.ref z) = false := by
    simp [Builtin.List.listSameRef, Nat.ne_of_gt (Heap.lt_size hz)]
  have n2 : (Value.type "zip" == Value.type "list") = false := by decide
  have n3 : (Value.type "zip" == Value.type "tuple") = false := by decide
  simp only [n1, n2, n3, Bool.or_false, Bool.false_eq_true, if_false]
  refine wpAny_bind (wpAny_pyIter_zip (kp1 _ _ hz) ?_)
  refine wpAny_bind (wpAny_holding ?_)
  unfold Builtin.List.listLengthHint
  refine wpAny_bind (wpAny_specialOf hTy zip_nolen ?_)
  show wpAny _ _ (specialOf (Value.ref z) (Str.ofString "__length_hint__") >>= _) _ _ _
  refine wpAny_bind (wpAny_specialOf hTy zip_nohint ?_)
  refine wpAny_pure ?_
  show wpAny _ _ (rule "list.extend.makes-room" >>= fun _ => Builtin.List.listTouch (.ref s.heap.objs.size) >>= fun _ =>
    again (.builtin "list.extend.loop" ⟨[.ref s.heap.objs.size, .ref z, .none], []⟩)) _ _ _
  refine wpAny_bind (wpAny_rule ?_)
  refine wpAny_bind ?_
  show wpAny _ _ (updateSeq s.heap.objs.size (·.push .none) >>= fun _ => updateSeq s.heap.objs.size (·.pop)) _ _ _
  refine wpAny_bind (wpAny_updateSeq hS2 rfl ?_)
  have hS3 := Heap.get?_update_self (Obj.mapSeq (·.push Value.none)) hS2 rfl
  refine wpAny_updateSeq (hz := by seq_fits) hS3 rfl ?_
  have hS4 := Heap.get?_update_self (Obj.mapSeq (·.pop)) hS3 rfl
  have kp2 : ∀ c o, s.heap.get? c = some o → ((g1.update s.heap.objs.size (Obj.mapSeq (·.push Value.none))).update s.heap.objs.size (Obj.mapSeq (·.pop))).get? c = some o :=
    fun c o e => (Heap.get?_update_other _ _ (Nat.ne_of_gt (Heap.lt_size e))).trans ((Heap.get?_update_other _ _ (Nat.ne_of_gt (Heap.lt_size e))).trans (kp1 c o e))
  generalize ((g1.update s.heap.objs.size (Obj.mapSeq (·.push Value.none))).update s.heap.objs.size (Obj.mapSeq (·.pop))) = g2 at hS4 kp2 ⊢
  have I2 : Inv X pins σ (upd H s.heap.objs.size (.lst [])) { s with heap := g2 } := by
    refine I.laid (t' := s.toks) kp2 (Nat.le_refl _) ⟨Nat.zero_le _, [], _, .nil, hS4⟩
  have sm : Same H (upd H s.heap.objs.size (.lst [])) := fun c o e => by
    rw [upd_ne (ne_of_none e new)]
    exact e
  have sqt : ∀ (c : Addr) (vs : List V), SqT X.K H c vs → SqT X.K (upd H s.heap.objs.size (.lst [])) c vs := by
    intro c vs q
    rcases q with (q | ⟨o, q⟩) | q
    · exact .inl (.inl (sm _ _ q))
    · exact .inl (.inr ⟨o, sm _ _ q⟩)
    · exact .inr q
  refine wpAny_pure ⟨plainId_quiet F.plain_extend_loop _, zl_loop D hl hln hSf hc new (fun ts H' s' I' sm' eS len tt => ⟨rfl, .ref s.heap.objs.size, H', I', rfl, q _ ts H' new sm' eS len tt⟩)
    xs.length 0 [] _ _ (Nat.sub_zero _) (Nat.zero_le _) rfl I2 sm (sqt a xs qa) (sqt b ys qb) upd_same (fun c hcm => ?_) (fun i t h => by simp at h) ?_⟩
  · have f := fp c hcm
    refine ⟨?_, f.2⟩
    rw [upd_ne (Nat.ne_of_lt (all5 c hcm))]
    exact f.1
  · exact ⟨kp2 _ _ hTI, h1.at fun o e => kp2 _ o e, h2.at fun o e => kp2 _ o e, .inl ⟨kp2 _ _ hz, _, _, kp2 _ _ hTO⟩⟩

/-- list(zip(e, e2)), two tuples of one length -/
theorem pe_lzip {e e2 : Expr} {ta : TA} {p p2 pos pos2 : Pos} (hc : X.calm = true) (hg : Gl X "list") (hm : X.mg "list" = none) (hg2 : Gl X "zip") (hm2 : X.mg "zip" = none) (ha : PA X [e, e2] ta)
    (hs : starEach [e, e2] X.env = (false, eval e X.env) :: starEach [e2] X.env := by rfl) (hpl : (backTo pos2 (starEach [e2] X.env)).any (·.1) = false := by rfl)
    (hs1 : starEach [.Call (.Name "zip" p2) [e, e2] [] pos2] X.env = [(false, eval (.Call (.Name "zip" p2) [e, e2] [] pos2) X.env)] := by rfl) :
    PE X (.Call (.Name "list" p) [.Call (.Name "zip" p2) [e, e2] [] pos2] [] pos)
      (fun σ H Q => ta σ H fun vs H1 => ∃ a b xs ys, vs = [.ref a, .ref b] ∧ SqT X.K H1 a xs ∧ SqT X.K H1 b ys ∧ xs.length = ys.length ∧ xs.length < sizeLine ∧ Zipped xs ys H1 Q) := by
  refine ⟨fun pins s σ H Q I h => ?_⟩
  refine Call_ (ld_blt I hg hm boot_list (PyProof.Rows.callWith_type1 (args_cons (Call_ (ld_blt I hg2 hm2 PyProof.Rows.boot_zip (PyProof.Rows.callWith_type1
    (thn (ha.run pos2 pins s σ H _ I h) fun us s1 ⟨vs, H1, I1, r1, q1⟩ => ?_) hs hpl))) hs1) hs1 rfl))
  obtain ⟨a, b, xs, ys, ex, qa, qb, hl, hln, q⟩ := q1
  subst ex
  cases r1 with
  | cons r rr =>
    cases rr with
    | cons r' rr =>
      cases rr
      cases r
      cases r'
      obtain ⟨its, rv, p1, _⟩ := I1.tuple qa
      obtain ⟨its2, rv2, p2', _⟩ := I1.tuple qb
      obtain ⟨o1, ho1, _⟩ := id p1
      obtain ⟨o2, ho2, _⟩ := id p2'
      refine call_zipT (show s1.heap.IsTuple a its.toArray from p1) (show s1.heap.IsTuple b its2.toArray from p2') fun h' hz hTI hTO h1 h2 hsz hk => ?_
      have I2 : Inv X pins σ H1 { s1 with heap := h' } := I1.kept (t' := s1.toks) hk
      refine args_nil (call_lzip (PySem.W.ktu_apart s1.heap.objs.size a b (Heap.lt_size ho1) (Heap.lt_size ho2)) hl hln hc I2 qa qb (fun c hcm => ?_) hz hTI hTO h1 h2 q)
      have hle : s1.heap.objs.size ≤ c := by
        simp only [List.mem_cons, List.not_mem_nil, or_false] at hcm
        rcases hcm with z | z | z | z | z
        · rw [z]; exact Nat.le_add_right _ _
        · rw [z]; exact Nat.le_add_right _ _
        · rw [z]; exact Nat.le_add_right _ _
        · rw [z]; exact Nat.le_refl _
        · rw [z]; exact Nat.le_add_right _ _
      exact I1.fpOk hle (I1.hok.fresh hle)
end
end KR
/-! setdefault where the keys are tuples -/
namespace KR
open PySem PySem.Spec PyProof.Rows L2
section
variable {X : Cx} {pins : List (Addr × Obj)} {σ : L2.St} {H : Hp} {s : Shared} {a b : Addr} {d : V} {r : Value} {A : Around} {E : Value → Shared → Prop} {kvs : List (List L2.Key × V)} {k : List L2.Key}
theorem d_setdT {Q : Value → Shared → Prop} (hu : A.units + 1 < cLine) (I : Inv X pins σ H s) (e : H a = some (.dT kvs)) (eb : H b = some (.tup (k.map kV))) (rd : RelV d r) (l : kvs.length < sizeLine)
    (h1 : ∀ v, valV kvs k = some v → ∀ w' s', Inv X pins σ H s' → RelV v w' → Q w' s')
    (h2 : valV kvs k = none → ∀ s', Inv X pins σ (upd H a (.dT (putK kvs k d))) s' → Q r s') :
    wpAny (model X.prog X.w) A (call (.builtin "dict.setdefault") [.ref a, .ref b, r]) Q E s := by
  obtain ⟨z, hd, xs, rel, dd⟩ := dt_of I.hok e
  have hz : xs.length ≤ sizeLine := by
    rw [← Paired.length rel]
    exact z
  have vk := rel.val k
  refine call_setdefault_heap (hsz := hz) (tupleKind_room_in1 hu) (key_of I.hok eb) hd dd (fun p hp => ?_) (fun hn h' dd' hs => ?_)
  · rw [hp] at vk
    cases q0 : valV kvs k with
    | none =>
      rw [q0] at vk
      exact (show False from vk).elim
    | some v0 =>
      rw [q0] at vk
      exact h1 v0 q0 _ _ (I.tok _) vk
  · rw [hn] at vk
    cases q0 : valV kvs k with
    | some v0 =>
      rw [q0] at vk
      exact (show False from vk).elim
    | none =>
      have hl : (putK kvs k d).length ≤ sizeLine := by
        have := length_putK kvs k d
        omega
      refine h2 q0 _ ?_
      obtain ⟨q, es, ep, hq, g2, g3, g4, _, g5⟩ := dd'
      refine d_write I (by rw [e]; exact True.intro) hs ⟨q, hq⟩ ⟨hl, hd, _, (rel.put k eb rd).keeps fun c ys ec => ?_, q, es, ep, hq, g2, g3, g4, g5⟩
      rw [upd_ne (ne_of ec e (fun z => nomatch z))]
      exact ec
end
/-- d.setdefault(y, z), keys that are tuples -/
def tDSetT (td ty tx : TE) : TE := fun σ H Q => td σ H fun x H1 => ∃ a, x = .ref a ∧ IsD H1 a ∧ ty σ H1 fun y H2 => tx σ H2 fun z H3 =>
  ∃ (kvs : List (List L2.Key × V)) (k : List L2.Key) (b : Addr), H3 a = some (.dT kvs) ∧ y = .ref b ∧ H3 b = some (.tup (k.map kV)) ∧ kvs.length < sizeLine ∧
  (∀ v, valV kvs k = some v → Q v H3) ∧ (valV kvs k = none → Q z (upd H3 a (.dT (putK kvs k z))))
theorem pe_dsetdT {X : Cx} {o e f : Expr} {td ty tx : TE} {apos cpos : Pos} (hu : X.A.units + 1 < cLine) (ho : PE X o td) (he : PE X e ty) (hf : PE X f tx) (m : M2 X o "setdefault" apos e f cpos) :
    PE X (.Call (.Attribute o "setdefault" apos) [e, f] [] cpos) (tDSetT td ty tx) := by
  refine ⟨fun pins s σ H Q I h => ?_⟩
  refine wpAny_Call_method m.base m.few m.line PySem.F.plainAttrs_dict PySem.F.slot_dict_setdefault PySem.F.type_dict_setdefault
    (thn (ho.run pins s σ H _ I h) fun u s1 ⟨x, H1, I1, rx, a, ex, d, q1⟩ => ?_)
  subst ex
  obtain rfl : u = Value.ref a := rx
  obtain ⟨t1, t2, _⟩ := isD_at I1 d
  refine ⟨t1, t2, ?_⟩
  rw [m.trees]
  refine Calls.callWith_builtin rfl (Calls.evalArgs_plain (Calls.spliced_cons (thn (he.run pins s1 σ H1 _ I1 q1) fun iv s2 ⟨y, H2, I2, ry, q2⟩ =>
    Calls.spliced_cons (thn (hf.run pins s2 σ H2 _ I2 q2) fun fv s3 ⟨z, H3, I3, rz, kvs, k, b, ea, ey, eb, hl, q3, q4⟩ => Calls.spliced_nil ?_))))
  subst ey
  cases (show iv = Value.ref b from ry)
  exact d_setdT hu I3 ea eb rz hl (fun v hv w' s4 I4 rw' => ⟨v, _, I4, rw', q3 v hv⟩) fun hn s4 I4 => ⟨z, _, I4, rz, q4 hn⟩
end KR
/-! short words: a def by its name and promise -/
namespace KR
open PySem PySem.Spec PyProof.Rows L2

/-- the built-ins that the text does not hide -/
structure Bt (mg : Str → Option Value) : Prop where
  len : mg "len" = none
  range : mg "range" = none
  enumerate : mg "enumerate" = none
  zip : mg "zip" = none
  isinstance : mg "isinstance" = none
  int : mg "int" = none
  bool : mg "bool" = none
  tuple : mg "tuple" = none
  list : mg "list" = none
  max : mg "max" = none
  min : mg "min" = none
  repr : mg "repr" = none
  set : mg "set" = none
  sum : mg "sum" = none
  sorted : mg "sorted" = none
def Cst (mg : Str → Option Value) (x : Str) (v : Int) : Prop := ∃ t, mg x = some (.int v t)
def DefAt (K : PySem.W.Frag) (mg : Str → Option Value) (x : Str) (st : Stmt) : Prop := ∃ f fd, Fun K x x st f fd ∧ mg x = some (.ref f)
def Use (P : Program) (w : World) (K : PySem.W.Frag) (mg : Str → Option Value) (base : Heap) (x : Str) (k : Nat) (ps : List Str) (sp : Sp) : Prop :=
  ∃ f fd, FnOk P w K mg base CX0 k f fd ps sp ∧ mg x = some (.ref f) ∧ PySem.W.keepIn K (.ref f) = true ∧ Binds K fd ps []
def UseG (P : Program) (w : World) (K : PySem.W.Frag) (mg : Str → Option Value) (base : Heap) (x : Str) (k : Nat) (ps : List Str) (sp : Sp) : Prop :=
  ∃ f fd, FnG P w K mg base k f fd ps sp ∧ mg x = some (.ref f) ∧ PySem.W.keepIn K (.ref f) = true ∧ Binds K fd ps []

section
variable {P : Program} {w : World} {K : PySem.W.Frag} {mg : Str → Option Value} {base : Heap} {x : Str} {st : Stmt} {k : Nat} {ps : List Str} {sp : Sp}
theorem use_of (D : DefAt K mg x st) (ok : ∀ f fd, Fun K x x st f fd → FnOk P w K mg base CX0 k f fd ps sp)
    (h : ∀ (kV doc pm : Value) (an : Option Addr) (cdv ct : Value) (us : List Value), us.length = ps.length → bindArgs (PySem.W.fnOf x x (defArgs st) (defBody st) (defScope st) .none kV doc pm an cdv ct) ⟨us, []⟩ = pure (ps.zip us)) :
    Use P w K mg base x k ps sp := by
  obtain ⟨f, fd, F, hm⟩ := D
  exact ⟨f, fd, ok f fd F, hm, F.kp, F.binds h⟩
theorem use_ofG (D : DefAt K mg x st) (ok : ∀ f fd, Fun K x x st f fd → FnG P w K mg base k f fd ps sp)
    (h : ∀ (kV doc pm : Value) (an : Option Addr) (cdv ct : Value) (us : List Value), us.length = ps.length → bindArgs (PySem.W.fnOf x x (defArgs st) (defBody st) (defScope st) .none kV doc pm an cdv ct) ⟨us, []⟩ = pure (ps.zip us)) :
    UseG P w K mg base x k ps sp := by
  obtain ⟨f, fd, F, hm⟩ := D
  exact ⟨f, fd, ok f fd F, hm, F.kp, F.binds h⟩
end
section
variable {X : Cx} {x : Str} {j k : Nat} {ps : List Str} {sp : Sp} {e : Expr} {es : List Expr} {t : TA} {p pos : Pos} {v : Int}
theorem pe_use (u : Use X.prog X.w X.K X.mg X.base x j ps sp) (le : j ≤ k) (hr : Room k X.A) (hg : Gl X x) (ha : PA X (e :: es) t)
    (hdb : (x == ("__debug__" : Str)) = false := by decide) (he : starEach (e :: es) X.env = (false, eval e X.env) :: starEach es X.env := by rfl)
    (hpl : (backTo pos (starEach es X.env)).any (·.1) = false := by rfl) : PE X (.Call (.Name x p) (e :: es) [] pos) (tCall sp [] E0 t) := by
  obtain ⟨f, fd, F, hm, kp, b⟩ := u
  exact pe_call F (hr.mono le) hg hm kp b .nil pass0 ha hdb he hpl
theorem pe_useG (u : UseG X.prog X.w X.K X.mg X.base x j ps sp) (gd : X.A.guards = some []) (le : j ≤ k) (hr : Room k X.A) (hg : Gl X x) (ha : PA X (e :: es) t)
    (hdb : (x == ("__debug__" : Str)) = false := by decide) (he : starEach (e :: es) X.env = (false, eval e X.env) :: starEach es X.env := by rfl)
    (hpl : (backTo pos (starEach es X.env)).any (·.1) = false := by rfl) : PE X (.Call (.Name x p) (e :: es) [] pos) (tCall sp [] E0 t) := by
  obtain ⟨f, fd, F, hm, kp, b⟩ := u
  exact pe_callG F gd (hr.mono le) hg hm kp b .nil ha hdb he hpl
theorem pe_cst (hg : Gl X x) (h : Cst X.mg x v) (hd : (x == ("__debug__" : Str)) = false := by decide) : PE X (.Name x pos) (tC (.int v)) := by
  obtain ⟨t, h⟩ := h
  exact pe_glob hg h ⟨t, rfl⟩ hd
end
/-- seqs kept -/
theorem sameT {K : PySem.W.Frag} {H H' : Hp} {a : Addr} {xs : List V} (e : Same H H') (h : SqT K H a xs) : SqT K H' a xs := by
  rcases h with (h | ⟨o, h⟩) | h
  · exact .inl (.inl (e _ _ h))
  · exact .inl (.inr ⟨o, e _ _ h⟩)
  · exact .inr h
theorem same_new {H : Hp} {p : Addr} {o : HO} (h : H p = none) : Same H (upd H p o) := fun b x e => by
  rw [upd_ne (ne_of_none e h)]
  exact e
/-- an object that H does not know was changed -/
theorem same_mut {H H' : Hp} {p : Addr} {o : HO} (e : Same H H') (h : H p = none) : Same H (upd H' p o) := fun a u ha => by
  rw [upd_ne (ne_of_none ha h)]
  exact e a u ha
theorem sqT {K : PySem.W.Frag} {H : Hp} {a : Addr} {xs : List V} (h : H a = some (.tup xs)) : SqT K H a xs := .inl (.inl h)
theorem sqL {K : PySem.W.Frag} {H : Hp} {a : Addr} {xs : List V} (h : H a = some (.lst xs)) : SqL K H a xs := .inl (.inl h)
end KR
/-! loops over enumerate(tuple), over a tuple, over a range, by an invariant -/
namespace KR
open PySem PySem.Spec PyProof.Rows L2
theorem for_enumT {K : PySem.W.Frag} {a : Addr} {xs : List V} {g : TG} {tb : TS} {D : Ends} {σ : L2.St} {H : Hp} (Pv : Nat → L2.St → Hp → Prop) (h0 : Pv 0 σ H)
    (hq : ∀ i σ H, Pv i σ H → SqT K H a xs)
    (hs : ∀ (i : Nat) (x : V) (T : Addr) (σ : L2.St) (H : Hp), xs[i]? = some x → Pv i σ H → H T = none →
      g (.ref T) σ (upd H T (.tup [.int (i : Nat), x])) fun σ2 H2 => tb { D with nx := Pv (i + 1), ct := Pv (i + 1), bk := D.nx } σ2 H2)
    (hd : ∀ σ H, Pv xs.length σ H → D.nx σ H) :
    ∃ W : Nat → Nat → L2.St → Hp → Prop, (∃ m, W 0 m σ H) ∧ ∀ i m σ H, W i m σ H →
      ((IteT K a).stop i H ∧ D.nx σ H) ∨ ((IteT K a).go i H ∧ ∃ N : L2.St → Hp → Prop, (∀ σ' H', N σ' H' → ∃ m', m' < m ∧ W (i + 1) m' σ' H') ∧
        ∀ v H', (IteT K a).yld i H v H' → g v σ H' fun σ2 H2 => tb { D with nx := N, ct := N, bk := D.nx } σ2 H2) := by
  refine ⟨fun i m σ H => m = xs.length - i ∧ i ≤ xs.length ∧ Pv i σ H, ⟨xs.length, rfl, Nat.zero_le _, h0⟩, ?_⟩
  rintro i m σ H ⟨rfl, hi, p⟩
  have q := hq i σ H p
  by_cases hlt : i < xs.length
  · have hx : xs[i]? = some xs[i] := List.getElem?_eq_getElem hlt
    refine .inr ⟨⟨xs, _, q, hx⟩, Pv (i + 1), fun σ' H' p' => ⟨xs.length - (i + 1), by omega, rfl, hlt, p'⟩, fun v H' y => ?_⟩
    obtain ⟨T, x', rfl, hT, rfl, f1⟩ := y
    exact hs i x' T σ H (f1 xs q) p hT
  · have e : i = xs.length := by omega
    subst e
    exact .inl ⟨⟨xs, q, Nat.le_refl _⟩, hd σ H p⟩
theorem for_enumL {K : PySem.W.Frag} {a : Addr} {xs : List V} {g : TG} {tb : TS} {D : Ends} {σ : L2.St} {H : Hp} (Pv : Nat → L2.St → Hp → Prop) (h0 : Pv 0 σ H)
    (hq : ∀ i σ H, Pv i σ H → SqL K H a xs)
    (hs : ∀ (i : Nat) (x : V) (T : Addr) (σ : L2.St) (H : Hp), xs[i]? = some x → Pv i σ H → H T = none →
      g (.ref T) σ (upd H T (.tup [.int (i : Nat), x])) fun σ2 H2 => tb { D with nx := Pv (i + 1), ct := Pv (i + 1), bk := D.nx } σ2 H2)
    (hd : ∀ σ H, Pv xs.length σ H → D.nx σ H) :
    ∃ W : Nat → Nat → L2.St → Hp → Prop, (∃ m, W 0 m σ H) ∧ ∀ i m σ H, W i m σ H →
      ((Ite K a).stop i H ∧ D.nx σ H) ∨ ((Ite K a).go i H ∧ ∃ N : L2.St → Hp → Prop, (∀ σ' H', N σ' H' → ∃ m', m' < m ∧ W (i + 1) m' σ' H') ∧
        ∀ v H', (Ite K a).yld i H v H' → g v σ H' fun σ2 H2 => tb { D with nx := N, ct := N, bk := D.nx } σ2 H2) := by
  refine ⟨fun i m σ H => m = xs.length - i ∧ i ≤ xs.length ∧ Pv i σ H, ⟨xs.length, rfl, Nat.zero_le _, h0⟩, ?_⟩
  rintro i m σ H ⟨rfl, hi, p⟩
  have q := hq i σ H p
  by_cases hlt : i < xs.length
  · have hx : xs[i]? = some xs[i] := List.getElem?_eq_getElem hlt
    refine .inr ⟨⟨xs, _, q, hx⟩, Pv (i + 1), fun σ' H' p' => ⟨xs.length - (i + 1), by omega, rfl, hlt, p'⟩, fun v H' y => ?_⟩
    obtain ⟨T, x', rfl, hT, rfl, f1⟩ := y
    exact hs i x' T σ H (f1 xs q) p hT
  · have e : i = xs.length := by omega
    subst e
    exact .inl ⟨⟨xs, q, Nat.le_refl _⟩, hd σ H p⟩
/-- an item of a mapped list -/
theorem map_at {α β : Type} {f : α → β} {xs : List α} {i : Nat} {y : β} (h : (xs.map f)[i]? = some y) : ∃ x, xs[i]? = some x ∧ y = f x := by
  rw [List.getElem?_map] at h
  cases e : xs[i]? with
  | none =>
    rw [e] at h
    cases h
  | some x =>
    rw [e] at h
    exact ⟨x, rfl, (Option.some.inj h).symm⟩
theorem at_map {α β : Type} {f : α → β} {xs : List α} {i : Nat} {x : α} (h : xs[i]? = some x) : (xs.map f)[i]? = some (f x) := by
  rw [List.getElem?_map, h]
  rfl
/-- a seq's place -/
theorem atI_of {xs : List V} {i : Int} {j : Nat} {v : V} (e : i = (j : Int)) (h : xs[j]? = some v) : atI xs i = some v := at_of e h
end KR
/-! comprehensions of two clauses: a list, then a range -/
namespace KR
open PySem PySem.Spec PyProof.Rows L2
theorem in_range {lo : Int} {n : Nat} {g1 : TG} {tt1 : TT} {te : TE} {vs1 : List Nat} {σ2 : L2.St} {H4 : Hp} {D : Addr} {Nx : Hp → Prop} (Pw : Nat → Hp → Prop) (h0 : Pw 0 H4)
    (hs : ∀ j H, j < n → Pw j H → g1 (.int (lo + (j : Nat))) (wipe σ2 vs1) H fun σ3 H5 => wipe σ3 vs1 = wipe σ2 vs1 ∧ tt1 σ3 H5 fun b H6 =>
      if b = true then te σ3 H6 fun y H7 => ∃ acc, H7 D = some (.lst acc) ∧ acc.length < sizeLine ∧ Pw (j + 1) (upd H7 D (.lst (acc ++ [y]))) else Pw (j + 1) H6)
    (hd : ∀ H, Pw n H → Nx H) :
    ∃ W1 : Nat → Nat → Hp → Prop, (∃ m, W1 0 m H4) ∧ ∀ j k H, W1 j k H →
      ((Itr lo n).stop j H ∧ Nx H) ∨ ((Itr lo n).go j H ∧ ∃ Nx1 : Hp → Prop, (∀ H', Nx1 H' → ∃ k', k' < k ∧ W1 (j + 1) k' H') ∧
        ∀ x H', (Itr lo n).yld j H x H' → g1 x (wipe σ2 vs1) H' fun σ3 H5 => wipe σ3 vs1 = wipe σ2 vs1 ∧ tt1 σ3 H5 fun b H6 =>
          if b = true then te σ3 H6 fun y H7 => ∃ acc, H7 D = some (.lst acc) ∧ acc.length < sizeLine ∧ Nx1 (upd H7 D (.lst (acc ++ [y]))) else Nx1 H6) := by
  refine ⟨fun j k H => k = n - j ∧ j ≤ n ∧ Pw j H, ⟨n, by simp, Nat.zero_le _, h0⟩, ?_⟩
  rintro j k H ⟨rfl, hj, p⟩
  by_cases hlt : j < n
  · refine .inr ⟨hlt, Pw (j + 1), fun H' p' => ⟨n - (j + 1), by omega, rfl, hlt, p'⟩, fun x H' y => ?_⟩
    obtain ⟨e, y⟩ := y
    subst e y
    exact hs j _ hlt p
  · have e : j = n := by omega
    subst e
    exact .inl ⟨Nat.le_refl _, hd H p⟩
theorem lc2_list {K : PySem.W.Frag} {a : Addr} {xs : List V} {g : TG} {tt : TT} {wi1 : TI} {g1 : TG} {tt1 : TT} {te : TE} {vs vs1 : List Nat} {σ : L2.St} {H1 : Hp} {D : Addr} {Qd : Hp → Prop}
    (Pv : Nat → Hp → Prop) (h0 : Pv 0 (upd H1 D (.lst []))) (hl : ∀ i H, i ≤ xs.length → Pv i H → SqL K H a xs)
    (hs : ∀ i x H, xs[i]? = some x → Pv i H → g x (wipe σ vs) H fun σ2 H2 => wipe σ2 vs = wipe σ vs ∧ tt σ2 H2 fun b H3 =>
      if b = true then wi1 σ2 H3 fun J1 H4 => ∃ W1 : Nat → Nat → Hp → Prop, (∃ m, W1 0 m H4) ∧ ∀ j k H, W1 j k H →
        (J1.stop j H ∧ Pv (i + 1) H) ∨ (J1.go j H ∧ ∃ Nx1 : Hp → Prop, (∀ H', Nx1 H' → ∃ k', k' < k ∧ W1 (j + 1) k' H') ∧ ∀ x H', J1.yld j H x H' →
          g1 x (wipe σ2 vs1) H' fun σ3 H5 => wipe σ3 vs1 = wipe σ2 vs1 ∧ tt1 σ3 H5 fun b H6 =>
          if b = true then te σ3 H6 fun y H7 => ∃ acc, H7 D = some (.lst acc) ∧ acc.length < sizeLine ∧ Nx1 (upd H7 D (.lst (acc ++ [y]))) else Nx1 H6)
      else Pv (i + 1) H3) (hd : ∀ H, Pv xs.length H → Qd H) :
    ∃ W : Nat → Nat → Hp → Prop, (∃ m, W 0 m (upd H1 D (.lst []))) ∧ ∀ i m H, W i m H →
      ((Itl K a).stop i H ∧ Qd H) ∨ ((Itl K a).go i H ∧ ∃ Nx : Hp → Prop, (∀ H', Nx H' → ∃ m', m' < m ∧ W (i + 1) m' H') ∧ ∀ x H', (Itl K a).yld i H x H' →
        g x (wipe σ vs) H' fun σ2 H2 => wipe σ2 vs = wipe σ vs ∧ tt σ2 H2 fun b H3 =>
        if b = true then wi1 σ2 H3 fun J1 H4 => ∃ W1 : Nat → Nat → Hp → Prop, (∃ m, W1 0 m H4) ∧ ∀ j k H, W1 j k H →
          (J1.stop j H ∧ Nx H) ∨ (J1.go j H ∧ ∃ Nx1 : Hp → Prop, (∀ H', Nx1 H' → ∃ k', k' < k ∧ W1 (j + 1) k' H') ∧ ∀ x H', J1.yld j H x H' →
            g1 x (wipe σ2 vs1) H' fun σ3 H5 => wipe σ3 vs1 = wipe σ2 vs1 ∧ tt1 σ3 H5 fun b H6 =>
            if b = true then te σ3 H6 fun y H7 => ∃ acc, H7 D = some (.lst acc) ∧ acc.length < sizeLine ∧ Nx1 (upd H7 D (.lst (acc ++ [y]))) else Nx1 H6)
        else Nx H3) := by
  refine ⟨fun i m H => m = xs.length - i ∧ i ≤ xs.length ∧ Pv i H, ⟨xs.length, by simp, Nat.zero_le _, h0⟩, ?_⟩
  rintro i m H ⟨rfl, hi, p⟩
  have q := hl i H hi p
  by_cases hlt : i < xs.length
  · refine .inr ⟨⟨xs, xs[i], q, by simp [hlt]⟩, Pv (i + 1), fun H' p' => ⟨xs.length - (i + 1), by omega, rfl, hlt, p'⟩, fun x H' y => ?_⟩
    obtain ⟨e, y⟩ := y
    subst e
    exact hs i x _ (y xs q) p
  · have e : i = xs.length := by omega
    subst e
    exact .inl ⟨⟨xs, q, Nat.le_refl _⟩, hd H p⟩
end KR
/-! the rules with the written part told, for a comprehension's block -/
namespace KR
open PySem PySem.Spec PyProof.Rows L2
section
variable {X : Cx} {K : PySem.W.Frag} {tg l e e2 o : Expr} {tl te to : TE} {ta t : TA} {es : List Expr} {T id : String} {r : V → List V → Hp → VK → Prop} {name : Str}
theorem k_ixl (hK : X.K = K) : IxR X (rIxL K) := by
  subst hK
  exact ix_list
theorem k_ixt (hK : X.K = K) : IxR X (rIxT K) := by
  subst hK
  exact ix_tup
theorem k_list (hK : X.K = K) (hl : PE X l tl) : PI X tg l (iList K tl) := by
  subst hK
  exact pi_list hl
theorem k_tup (hK : X.K = K) (hl : PE X l tl) : PI X tg l (iTup K tl) := by
  subst hK
  exact pi_tup hl
theorem k_isi (hK : X.K = K) : CallR X (.builtin "isinstance") (rIsi K) := by
  subst hK
  exact call_isi
theorem k_slt (hK : X.K = K) : SlR X (rSlT K) := by
  subst hK
  exact sl_tup
theorem k_sll (hK : X.K = K) : SlR X (rSlL K) := by
  subst hK
  exact sl_list
theorem k_catT (hK : X.K = K) : OpR X (binaryOp .Add) (rCatT K) := by
  subst hK
  exact op_catT
theorem k_in (hK : X.K = K) : OpR X (compareOp .In) (rIn K false) := by
  subst hK
  exact op_in_seq
theorem k_notIn (hK : X.K = K) : OpR X (compareOp .NotIn) (rIn K true) := by
  subst hK
  exact op_notIn_seq
def rLenK (K : PySem.W.Frag) : List V → Hp → VK → Prop := fun xs H Q => ∃ p ys, xs = [.ref p] ∧ (SqL K H p ys ∨ SqT K H p ys) ∧ Q (.int ys.length) H
theorem k_len (hK : X.K = K) : CallR X (.builtin "len") (rLenK K) := by
  subst hK
  exact call_len_seq
def rListK (K : PySem.W.Frag) : List V → Hp → VK → Prop := fun xs H Q => ∃ p ys, xs = [.ref p] ∧ (SqL K H p ys ∨ SqT K H p ys) ∧ ∀ l, H l = none → Q (.ref l) (upd H l (.lst ys))
theorem k_listOf (hK : X.K = K) : CallR X (.type "list") (rListK K) := by
  subst hK
  exact call_list_of
def rTupK (K : PySem.W.Frag) : List V → Hp → VK → Prop := fun xs H Q => ∃ p ys, xs = [.ref p] ∧ ((SqL K H p ys ∧ ∀ l, H l = none → Q (.ref l) (upd H l (.tup ys))) ∨ (SqT K H p ys ∧ Q (.ref p) H))
theorem k_tupOf (hK : X.K = K) : CallR X (.type "tuple") (rTupK K) := by
  subst hK
  exact call_tuple_of
theorem k_eqD (hK : X.K = K) (hu : X.A.units + 64 < cLine) : OpR X (compareOp .Eq) (rEqD K) := by
  subst hK
  exact op_eqD hu
theorem k_neD (hK : X.K = K) (hu : X.A.units + 64 < cLine) : OpR X (compareOp .NotEq) (rNeD K) := by
  subst hK
  exact op_neD hu
theorem k_maxT (hK : X.K = K) (hc : X.calm = true) (hu : X.A.units + 64 < cLine) : CallR X (.builtin "max") (rMaxT K) := by
  subst hK
  exact call_maxT hc hu
theorem k_max (hK : X.K = K) (hc : X.calm = true) : CallR X (.builtin "max") (rMax K) := by
  subst hK
  exact cr_max hc
theorem k_sum (hK : X.K = K) (hc : X.calm = true) : CallR X (.builtin "sum") (rSum K) := by
  subst hK
  exact cr_sum hc
theorem k_repr (hK : X.K = K) (gd : X.A.guards = some []) (hu : X.A.units + 64 < cLine) : CallR X (.builtin "repr") (rRepr K) := by
  subst hK
  exact call_reprD gd hu
theorem k_enumT {p pos tpos : Pos} {elts : List Expr} {kk : Nat} (hK : X.K = K) (hg : Gl X "enumerate") (hm : X.mg "enumerate" = none) (ha : PA X [e] ta)
    (hs : starEach [e] X.env = [(false, eval e X.env)] := by rfl) : PI X (.Tuple elts kk tpos) (.Call (.Name "enumerate" p) [e] [] pos) (iEnumT K ta) := by
  subst hK
  exact pi_enumT hg hm ha hs
theorem k_enum {p pos tpos : Pos} {elts : List Expr} {kk : Nat} (hK : X.K = K) (hg : Gl X "enumerate") (hm : X.mg "enumerate" = none) (ha : PA X [e] ta)
    (hs : starEach [e] X.env = [(false, eval e X.env)] := by rfl) : PI X (.Tuple elts kk tpos) (.Call (.Name "enumerate" p) [e] [] pos) (iEnum K ta) := by
  subst hK
  exact pi_enum hg hm ha hs
theorem k_zip {p pos tpos : Pos} {elts : List Expr} {kk : Nat} (hK : X.K = K) (hg : Gl X "zip") (hm : X.mg "zip" = none) (ha : PA X [e, e2] ta)
    (hs : starEach [e, e2] X.env = (false, eval e X.env) :: starEach [e2] X.env := by rfl) (hpl : (backTo pos (starEach [e2] X.env)).any (·.1) = false := by rfl) :
    PI X (.Tuple elts kk tpos) (.Call (.Name "zip" p) [e, e2] [] pos) (RZ.iZipA K ta) := by
  subst hK
  exact RZ.pi_zipA hg hm ha hs hpl
def tLzip (K : PySem.W.Frag) (ta : TA) : TE := fun σ H Q => ta σ H fun vs H1 => ∃ a b xs ys, vs = [.ref a, .ref b] ∧ SqT K H1 a xs ∧ SqT K H1 b ys ∧ xs.length = ys.length ∧ xs.length < sizeLine ∧ Zipped xs ys H1 Q
theorem k_lzip {p p2 pos pos2 : Pos} (hK : X.K = K) (hc : X.calm = true) (hg : Gl X "list") (hm : X.mg "list" = none) (hg2 : Gl X "zip") (hm2 : X.mg "zip" = none) (ha : PA X [e, e2] ta)
    (hs : starEach [e, e2] X.env = (false, eval e X.env) :: starEach [e2] X.env := by rfl) (hpl : (backTo pos2 (starEach [e2] X.env)).any (·.1) = false := by rfl)
    (hs1 : starEach [.Call (.Name "zip" p2) [e, e2] [] pos2] X.env = [(false, eval (.Call (.Name "zip" p2) [e, e2] [] pos2) X.env)] := by rfl) :
    PE X (.Call (.Name "list" p) [.Call (.Name "zip" p2) [e, e2] [] pos2] [] pos) (tLzip K ta) := by
  subst hK
  exact pe_lzip hc hg hm hg2 hm2 ha hs hpl hs1
theorem k_bm {apos cpos : Pos} (hK : X.K = K) (pa : PlainAttrs T) (slot : Slot T name id) (hty : typeOf (.builtin id) = pure (.type "method_descriptor")) (hm : MtR X id r) (ho : PE X o to) (ha : PA X (e :: es) t)
    (hbase : attributeBase o name X.env (eval o X.env) = eval o X.env := by rfl)
    (hfew : ((backTo cpos (starEach (e :: es) X.env)).all (fun x => !x.1) && (backToKw cpos (keywordEach [] X.env)).all (fun x => x.1.isSome)
      && decide ((e :: es).length + ([] : List Keyword).length + (if ([] : List Keyword).isEmpty then 0 else 1) < 30)) = true := by rfl)
    (hline : (apos.endLine == cpos.line) = true := by rfl) (hs : starEach (e :: es) X.env = (false, eval e X.env) :: starEach es X.env := by rfl)
    (hplain : (backTo cpos (starEach es X.env)).any (·.1) = false := by rfl) : PE X (.Call (.Attribute o name apos) (e :: es) [] cpos) (tBM K T r to t) := by
  subst hK
  exact pe_bm pa slot hty hm ho ha hbase hfew hline hs hplain
theorem k_star {p : Pos} {e : Expr} (hK : X.K = K) (he : PE X e te) (hr : PA X es t) (hs : starEach (.Starred e p :: es) X.env = (true, eval e X.env) :: starEach es X.env := by rfl) : PA X (.Starred e p :: es) (StX.tStar K te t) := by
  subst hK
  exact StX.pa_star he hr hs
theorem k_fld {apos : Pos} {f : Str} (hK : X.K = K) (h : PE X o te) (hx : attributeBase o f X.env (eval o X.env) = eval o X.env) : PE X (.Attribute o f apos) (tFld K te f) := by
  subst hK
  exact pe_fld h hx
end
end KR
/-! methods and instances by their names -/
namespace KR
open PySem PySem.Spec PyProof.Rows L2
def MAt (K : PySem.W.Frag) (C : Addr) (m qual : Str) (st : Stmt) : Prop := ∃ f fd, Fun K m qual st f fd ∧ Meth K C m f
def IAt (K : PySem.W.Frag) (C : Addr) (qual : Str) (st : Stmt) : Prop := ∃ f fd, Fun K "__init__" qual st f fd ∧ Mk K C f
def MUse (P : Program) (w : World) (K : PySem.W.Frag) (mg : Str → Option Value) (base : Heap) (C : Addr) (m : Str) (k : Nat) (ps : List Str) (sp : Sp) : Prop :=
  ∃ f fd, FnOk P w K mg base CX0 k f fd ps sp ∧ Meth K C m f ∧ Binds K fd ps []
def KUse (P : Program) (w : World) (K : PySem.W.Frag) (mg : Str → Option Value) (base : Heap) (C : Addr) (x : Str) (k : Nat) (ps : List Str) (sp : Sp) : Prop :=
  ∃ f fd, FnOk P w K mg base CX0 k f fd ps sp ∧ Mk K C f ∧ mg x = some (.ref C) ∧ Binds K fd ps []
section
variable {P : Program} {w : World} {K : PySem.W.Frag} {mg : Str → Option Value} {base : Heap} {x m qual : Str} {st : Stmt} {k : Nat} {ps : List Str} {sp : Sp} {C : Addr}
theorem muse_of (D : MAt K C m qual st) (ok : ∀ f fd, Fun K m qual st f fd → FnOk P w K mg base CX0 k f fd ps sp)
    (h : ∀ (kV doc pm : Value) (an : Option Addr) (cdv ct : Value) (us : List Value), us.length = ps.length → bindArgs (PySem.W.fnOf m qual (defArgs st) (defBody st) (defScope st) .none kV doc pm an cdv ct) ⟨us, []⟩ = pure (ps.zip us)) :
    MUse P w K mg base C m k ps sp := by
  obtain ⟨f, fd, F, hm⟩ := D
  exact ⟨f, fd, ok f fd F, hm, F.binds h⟩
theorem kuse_of (D : IAt K C qual st) (hm : mg x = some (.ref C)) (ok : ∀ f fd, Fun K "__init__" qual st f fd → FnOk P w K mg base CX0 k f fd ps sp)
    (h : ∀ (kV doc pm : Value) (an : Option Addr) (cdv ct : Value) (us : List Value), us.length = ps.length → bindArgs (PySem.W.fnOf "__init__" qual (defArgs st) (defBody st) (defScope st) .none kV doc pm an cdv ct) ⟨us, []⟩ = pure (ps.zip us)) :
    KUse P w K mg base C x k ps sp := by
  obtain ⟨f, fd, F, mk⟩ := D
  exact ⟨f, fd, ok f fd F, mk, hm, F.binds h⟩
end
section
variable {X : Cx} {x m : Str} {j k : Nat} {ps : List Str} {sp : Sp} {o e : Expr} {es : List Expr} {ta : TE} {t : TA} {p pos apos : Pos} {C : Addr}
theorem pe_mUse {pl : Sem Bool} (he : PE X o ta) (c : Cls X.K C) (u : MUse X.prog X.w X.K X.mg X.base C m j ps sp) (le : j ≤ k) (hr : Room k X.A) (ha : PA X (e :: es) t)
    (hst : starEach (e :: es) X.env = (false, eval e X.env) :: starEach es X.env := by rfl) (hpl : (backTo pos (starEach es X.env)).any (·.1) = false := by rfl)
    (ht : eval (.Call (.Attribute o m apos) (e :: es) [] pos) X.env = (do
      let ov ← eval o X.env
      standAt apos.atName
      let (f, first) ← holding [ov] (getMethod ov m pl)
      callWith pos f first (backTo pos (starEach (e :: es) X.env)) (backToKw pos (keywordEach [] X.env))) := by rfl) :
    PE X (.Call (.Attribute o m apos) (e :: es) [] pos) (tMeth C m sp [] E0 ta t) := by
  obtain ⟨f, fd, F, hm, b⟩ := u
  exact pe_meth he c hm F (hr.mono le) b .nil pass0 ha hst hpl ht
theorem pe_kUse (u : KUse X.prog X.w X.K X.mg X.base C x j ps sp) (le : j + 1 ≤ k) (hr : Room k X.A) (hg : Gl X x) (ha : PA X (e :: es) t)
    (hdb : (x == ("__debug__" : Str)) = false := by decide) (he : starEach (e :: es) X.env = (false, eval e X.env) :: starEach es X.env := by rfl)
    (hpl : (backTo pos (starEach es X.env)).any (·.1) = false := by rfl) : PE X (.Call (.Name x p) (e :: es) [] pos) (tMake C sp [] E0 t) := by
  obtain ⟨f, fd, F, mk, hm, b⟩ := u
  exact pe_make mk F (hr.mono le) hg hm b .nil pass0 ha hdb he hpl
end
theorem ixN_nat {n j : Nat} {i : Int} (e : i = (j : Int)) (h : j < n) : ixN n i = some j := by
  subst e
  unfold ixN
  rw [if_pos (by omega), if_pos (by omega)]
  rfl
end KR
/-! partings: the mathematics -/
namespace KM
/-- blocks numbered as they are first met, m of them ahead -/
def Rg : Int → List Int → Prop
  | _, [] => True
  | m, x :: r => 0 ≤ x ∧ x ≤ m ∧ Rg (if x = m then m + 1 else m) r
/-- how many blocks, m of them ahead -/
def bc : Int → List Int → Int
  | m, [] => m
  | m, x :: r => bc (if x = m then m + 1 else m) r
structure Par (p : List Int) : Prop where
  ne : p ≠ []
  le : p.length ≤ 60
  rg : Rg 0 p
theorem bc_app : ∀ (m : Int) (xs ys : List Int), bc m (xs ++ ys) = bc (bc m xs) ys
  | _, [], _ => rfl
  | m, x :: xs, ys => bc_app (if x = m then m + 1 else m) xs ys
theorem rg_app : ∀ (m : Int) (xs ys : List Int), Rg m (xs ++ ys) ↔ Rg m xs ∧ Rg (bc m xs) ys
  | _, [], _ => ⟨fun h => ⟨trivial, h⟩, fun h => h.2⟩
  | m, x :: xs, ys => by
    show (0 ≤ x ∧ x ≤ m ∧ Rg _ (xs ++ ys)) ↔ (0 ≤ x ∧ x ≤ m ∧ Rg _ xs) ∧ _
    rw [rg_app]
    exact ⟨fun ⟨a, b, c, d⟩ => ⟨⟨a, b, c⟩, d⟩, fun ⟨⟨a, b, c⟩, d⟩ => ⟨a, b, c, d⟩⟩
theorem bc_ge : ∀ (m : Int) (xs : List Int), m ≤ bc m xs
  | _, [] => Int.le_refl _
  | m, x :: xs => by
    have h := bc_ge (if x = m then m + 1 else m) xs
    show m ≤ bc (if x = m then m + 1 else m) xs
    split at h <;> split <;> first | omega | contradiction
theorem bc_le : ∀ (m : Int) (xs : List Int), bc m xs ≤ m + xs.length
  | m, [] => by
    show m ≤ m + ((0 : Nat) : Int)
    omega
  | m, x :: xs => by
    have h := bc_le (if x = m then m + 1 else m) xs
    show bc (if x = m then m + 1 else m) xs ≤ m + ((xs.length + 1 : Nat) : Int)
    split at h <;> split <;> first | omega | contradiction
theorem rg_at {p : List Int} {i : Nat} {x : Int} (h : Rg 0 p) (hx : p[i]? = some x) : 0 ≤ x ∧ x ≤ bc 0 (p.take i) := by
  obtain ⟨hi, e⟩ := List.getElem?_eq_some_iff.mp hx
  have e2 : p = p.take i ++ (x :: p.drop (i + 1)) := by
    rw [← e, List.getElem_cons_drop, List.take_append_drop]
  rw [e2, rg_app] at h
  have h2 : 0 ≤ x ∧ x ≤ bc 0 (p.take i) ∧ Rg _ (p.drop (i + 1)) := h.2
  exact ⟨h2.1, h2.2.1⟩
theorem bc_take {p : List Int} {i : Nat} {x : Int} (hx : p[i]? = some x) : bc 0 (p.take (i + 1)) = if x = bc 0 (p.take i) then bc 0 (p.take i) + 1 else bc 0 (p.take i) := by
  rw [List.take_add_one, hx, bc_app]
  rfl
/-- all values lie below the number of blocks, each number below it is one -/
theorem rg_mem : ∀ (m : Int) (p : List Int), 0 ≤ m → Rg m p → (∀ x ∈ p, 0 ≤ x ∧ x < bc m p) ∧ ∀ y, m ≤ y → y < bc m p → y ∈ p
  | m, [], hm, _ => ⟨fun x hx => (nomatch hx), fun y h1 h2 => by
    have h2' : y < m := h2
    omega⟩
  | m, x :: r, hm, h => by
    obtain ⟨h0, h1, h2⟩ := h
    have hm2 : 0 ≤ (if x = m then m + 1 else m) := by split <;> omega
    obtain ⟨ih1, ih2⟩ := rg_mem (if x = m then m + 1 else m) r hm2 h2
    have e : bc m (x :: r) = bc (if x = m then m + 1 else m) r := rfl
    have g := bc_ge (if x = m then m + 1 else m) r
    rw [e]
    refine ⟨fun y hy => ?_, fun y h3 h4 => ?_⟩
    · rcases List.mem_cons.mp hy with q | q
      · subst q
        refine ⟨h0, ?_⟩
        split at g <;> split <;> first | omega | contradiction
      · exact ih1 y q
    · by_cases hy : x = y
      · rw [hy]
        exact List.mem_cons_self
      · refine List.mem_cons_of_mem _ (ih2 y ?_ h4)
        split <;> omega
theorem par_max {p : List Int} (h : Par p) {m : Int} (hm : m ∈ p) (hle : ∀ y ∈ p, y ≤ m) : m + 1 = bc 0 p := by
  obtain ⟨h1, h2⟩ := rg_mem 0 p (Int.le_refl _) h.rg
  have a := (h1 m hm).2
  have b0 := (h1 m hm).1
  by_cases e : m + 1 = bc 0 p
  · exact e
  · have := hle (bc 0 p - 1) (h2 _ (by omega) (by omega))
    omega
/-- two partings with the same kernel are one -/
theorem rg_unique : ∀ (n : Nat) (p q : List Int), p.length = n → q.length = n → Rg 0 p → Rg 0 q →
    (∀ (i j : Nat) (x y u v : Int), p[i]? = some x → p[j]? = some y → q[i]? = some u → q[j]? = some v → (x = y ↔ u = v)) → p = q ∧ bc 0 p = bc 0 q
  | 0, p, q, hp, hq, _, _, _ => by
    rw [List.eq_nil_of_length_eq_zero hp, List.eq_nil_of_length_eq_zero hq]
    exact ⟨rfl, rfl⟩
  | n + 1, p, q, hp, hq, rp, rq, h => by
    obtain ⟨p', x, rfl⟩ : ∃ p' x, p = p' ++ [x] := ⟨p.dropLast, p.getLast (by intro e; rw [e] at hp; cases hp), (List.dropLast_concat_getLast _).symm⟩
    obtain ⟨q', u, rfl⟩ : ∃ q' u, q = q' ++ [u] := ⟨q.dropLast, q.getLast (by intro e; rw [e] at hq; cases hq), (List.dropLast_concat_getLast _).symm⟩
    have lp : p'.length = n := by simpa using hp
    have lq : q'.length = n := by simpa using hq
    rw [rg_app] at rp rq
    have gp : ∀ {i : Nat} {z : Int}, p'[i]? = some z → (p' ++ [x])[i]? = some z := fun {i z} e => by
      have := (List.getElem?_eq_some_iff.mp e).1
      rw [List.getElem?_append_left this]
      exact e
    have gq : ∀ {i : Nat} {z : Int}, q'[i]? = some z → (q' ++ [u])[i]? = some z := fun {i z} e => by
      have := (List.getElem?_eq_some_iff.mp e).1
      rw [List.getElem?_append_left this]
      exact e
    obtain ⟨e1, e2⟩ := rg_unique n p' q' lp lq rp.1 rq.1 fun i j a b c d h1 h2 h3 h4 => h i j a b c d (gp h1) (gp h2) (gq h3) (gq h4)
    subst e1
    have lastp : (p' ++ [x])[n]? = some x := by
      rw [List.getElem?_append_right (by omega), lp]
      simp
    have lastq : (p' ++ [u])[n]? = some u := by
      rw [List.getElem?_append_right (by omega), lp]
      simp
    obtain ⟨x0, x1, _⟩ := rp.2
    obtain ⟨u0, u1, _⟩ := rq.2
    obtain ⟨m1, m2⟩ := rg_mem 0 p' (Int.le_refl _) rp.1
    have exu : x = u := by
      by_cases hx : x < bc 0 p'
      · obtain ⟨i, hi, ei⟩ := List.getElem_of_mem (m2 x x0 hx)
        have e3 : p'[i]? = some x := by rw [List.getElem?_eq_getElem hi, ei]
        exact ((h i n x x x u (gp e3) lastp (gq e3) lastq).mp rfl)
      · by_cases hu : u < bc 0 p'
        · obtain ⟨i, hi, ei⟩ := List.getElem_of_mem (m2 u u0 hu)
          have e3 : p'[i]? = some u := by rw [List.getElem?_eq_getElem hi, ei]
          exact ((h i n u x u u (gp e3) lastp (gq e3) lastq).mpr rfl).symm
        · omega
    subst exu
    exact ⟨rfl, rfl⟩

/-! ### numbering -/
variable {α : Type} [DecidableEq α]
def ins (ks : List α) (x : α) : List α := if x ∈ ks then ks else ks ++ [x]
def firsts (xs : List α) : List α := xs.foldl ins []
def num (xs : List α) : List Int := xs.map fun x => (((firsts xs).idxOf x : Nat) : Int)
theorem firsts_snoc (xs : List α) (x : α) : firsts (xs ++ [x]) = ins (firsts xs) x := by
  unfold firsts
  rw [List.foldl_append]
  rfl
theorem ins_nodup {ks : List α} (h : ks.Nodup) (x : α) : (ins ks x).Nodup := by
  unfold ins
  split
  · exact h
  · rename_i hx
    rw [List.nodup_append]
    refine ⟨h, by simp, fun a ha b hb => ?_⟩
    rw [List.mem_singleton.mp hb]
    intro e
    exact hx (e ▸ ha)
theorem mem_ins {ks : List α} {x y : α} : y ∈ ins ks x ↔ y ∈ ks ∨ y = x := by
  unfold ins
  split
  · rename_i hx
    exact ⟨Or.inl, fun h => h.elim id fun e => e ▸ hx⟩
  · rw [List.mem_append, List.mem_singleton]
theorem firsts_rec {P : List α → Prop} (h0 : P []) (hs : ∀ xs x, P xs → P (xs ++ [x])) : ∀ xs, P xs := by
  intro xs
  have : ∀ n (xs : List α), xs.length = n → P xs := by
    intro n
    induction n with
    | zero =>
      intro xs h
      rw [List.eq_nil_of_length_eq_zero h]
      exact h0
    | succ n ih =>
      intro xs h
      have hne : xs ≠ [] := by
        intro e
        rw [e] at h
        cases h
      rw [← List.dropLast_concat_getLast hne]
      exact hs _ _ (ih _ (by rw [List.length_dropLast, h]; rfl))
  exact this _ xs rfl
theorem firsts_nodup (xs : List α) : (firsts xs).Nodup := by
  refine firsts_rec (P := fun xs => (firsts xs).Nodup) (by exact List.nodup_nil) (fun xs x h => ?_) xs
  rw [firsts_snoc]
  exact ins_nodup h x
theorem mem_firsts {y : α} (xs : List α) : y ∈ firsts xs ↔ y ∈ xs := by
  refine firsts_rec (P := fun xs => y ∈ firsts xs ↔ y ∈ xs) (by exact Iff.rfl) (fun xs x h => ?_) xs
  rw [firsts_snoc, mem_ins, h, List.mem_append, List.mem_singleton]
theorem idx_ins {ks : List α} {x y : α} (hy : y ∈ ks) : (ins ks x).idxOf y = ks.idxOf y := by
  unfold ins
  split
  · rfl
  · rw [List.idxOf_append, if_pos hy]
theorem num_snoc (xs : List α) (x : α) : num (xs ++ [x]) = num xs ++ [if x ∈ firsts xs then (((firsts xs).idxOf x : Nat) : Int) else ((firsts xs).length : Int)] := by
  unfold num
  rw [List.map_append, firsts_snoc]
  congr 1
  · refine List.map_congr_left fun y hy => ?_
    rw [idx_ins ((mem_firsts xs).mpr hy)]
  · show [_] = [_]
    congr 1
    split
    · rename_i h
      show (((ins (firsts xs) x).idxOf x : Nat) : Int) = _
      rw [idx_ins h]
    · rename_i h
      show (((ins (firsts xs) x).idxOf x : Nat) : Int) = _
      unfold ins
      rw [if_neg h, List.idxOf_append, if_neg h]
      simp
theorem firsts_len (xs : List α) : ((firsts xs).length : Int) = bc 0 (num xs) ∧ Rg 0 (num xs) := by
  refine firsts_rec (P := fun xs => ((firsts xs).length : Int) = bc 0 (num xs) ∧ Rg 0 (num xs)) ⟨rfl, trivial⟩ (fun xs x h => ?_) xs
  obtain ⟨h1, h2⟩ := h
  rw [num_snoc, firsts_snoc, bc_app, rg_app, ← h1]
  unfold ins
  by_cases hx : x ∈ firsts xs
  · rw [if_pos hx, if_pos hx]
    have hl := List.idxOf_lt_length_of_mem hx
    refine ⟨?_, h2, ?_⟩
    · show _ = if _ then _ else _
      rw [if_neg (by omega)]
    · exact ⟨by omega, by omega, trivial⟩
  · rw [if_neg hx, if_neg hx]
    refine ⟨?_, h2, ?_⟩
    · show _ = if _ then _ else _
      rw [if_pos rfl, List.length_append]
      show ((_ + 1 : Nat) : Int) = _
      show _ = bc _ []
      show _ = (_ : Int) + 1
      omega
    · exact ⟨by omega, by omega, trivial⟩
theorem num_rg (xs : List α) : Rg 0 (num xs) := (firsts_len xs).2
theorem num_len (xs : List α) : (num xs).length = xs.length := by
  unfold num
  rw [List.length_map]
theorem num_get {xs : List α} {i : Nat} {x : α} (h : xs[i]? = some x) : (num xs)[i]? = some (((firsts xs).idxOf x : Nat) : Int) := by
  unfold num
  rw [List.getElem?_map, h]
  rfl
theorem num_ker {xs : List α} {i j : Nat} {x y : α} {u v : Int} (hi : xs[i]? = some x) (hj : xs[j]? = some y) (ui : (num xs)[i]? = some u) (vj : (num xs)[j]? = some v) : u = v ↔ x = y := by
  rw [num_get hi] at ui
  rw [num_get hj] at vj
  cases ui
  cases vj
  constructor
  · intro e
    have e' : (firsts xs).idxOf x = (firsts xs).idxOf y := by omega
    have hx := (mem_firsts xs).mpr (List.mem_of_getElem? hi)
    have hy := (mem_firsts xs).mpr (List.mem_of_getElem? hj)
    have a := List.getElem_idxOf (List.idxOf_lt_length_of_mem hx)
    have b := List.getElem_idxOf (List.idxOf_lt_length_of_mem hy)
    rw [← a, ← b]
    congr 1
  · intro e
    rw [e]
theorem num_par {xs : List α} (h : xs ≠ []) (hl : xs.length ≤ 60) : Par (num xs) :=
  ⟨fun e => h (List.eq_nil_of_length_eq_zero (by rw [← num_len xs, e]; rfl)), by rw [num_len]; exact hl, num_rg xs⟩
/-- a parting is told by its kernel -/
theorem num_is {xs : List α} {q : List Int} (hl : q.length = xs.length) (hq : Rg 0 q)
    (h : ∀ (i j : Nat) (x y : α) (u v : Int), xs[i]? = some x → xs[j]? = some y → q[i]? = some u → q[j]? = some v → (x = y ↔ u = v)) : num xs = q := by
  refine (rg_unique xs.length (num xs) q (num_len xs) hl (num_rg xs) hq fun i j a b u v h1 h2 h3 h4 => ?_).1
  have li := (List.getElem?_eq_some_iff.mp h1).1
  have lj := (List.getElem?_eq_some_iff.mp h2).1
  rw [num_len] at li lj
  have gi : xs[i]? = some xs[i] := List.getElem?_eq_getElem li
  have gj : xs[j]? = some xs[j] := List.getElem?_eq_getElem lj
  rw [num_ker gi gj h1 h2]
  exact h i j _ _ u v gi gj h3 h4
end KM
namespace KM
/-! doors by block; all partings -/
def doorsOf (p : List Int) (b : Int) : List Int := (p.zipIdx.filter fun q => decide (q.1 = b)).map fun q => ((q.2 : Nat) : Int)
theorem doorsOf_snoc (p : List Int) (x b : Int) : doorsOf (p ++ [x]) b = doorsOf p b ++ (if x = b then [((p.length : Nat) : Int)] else []) := by
  unfold doorsOf
  rw [List.zipIdx_append, List.filter_append, List.map_append]
  by_cases h : x = b
  · simp [h]
  · simp [h]
theorem doorsOf_len (p : List Int) (b : Int) : (doorsOf p b).length ≤ p.length := by
  unfold doorsOf
  rw [List.length_map]
  refine Nat.le_trans (List.length_filter_le _ _) ?_
  rw [List.length_zipIdx]
  exact Nat.le_refl _
theorem doorsOf_small (p : List Int) (b : Int) : ∀ x ∈ doorsOf p b, 0 ≤ x ∧ x < p.length := by
  intro x hx
  unfold doorsOf at hx
  obtain ⟨q, hq, rfl⟩ := List.mem_map.mp hx
  have h1 := (List.mem_filter.mp hq).1
  have h2 := List.mem_zipIdx h1
  omega
/-- a row and one door more, into each block and a new one -/
def ext (row : List Int) : List (List Int) := (List.range (bc 0 row + 1).toNat).map fun b => row ++ [((b : Nat) : Int)]
def allP : Nat → List (List Int)
  | 0 => [[0]]
  | n + 1 => (allP n).flatMap ext
theorem allP_ok : ∀ (n : Nat), ∀ r ∈ allP n, Rg 0 r ∧ r.length = n + 1
  | 0, r, h => by
    rw [List.mem_singleton.mp h]
    exact ⟨⟨Int.le_refl _, Int.le_refl _, trivial⟩, rfl⟩
  | n + 1, r, h => by
    obtain ⟨q, hq, hr⟩ := List.mem_flatMap.mp h
    obtain ⟨b, hb, rfl⟩ := List.mem_map.mp hr
    obtain ⟨h1, h2⟩ := allP_ok n q hq
    have hb := List.mem_range.mp hb
    have := bc_ge 0 q
    refine ⟨?_, by rw [List.length_append, h2]; rfl⟩
    rw [rg_app]
    exact ⟨h1, by omega, by omega, trivial⟩
theorem allP_count : ∀ n : Fin 8, (allP n.val).length ≤ 4140 := by decide +kernel
theorem ext_len (row : List Int) : (ext row).length = (bc 0 row + 1).toNat := by
  unfold ext
  rw [List.length_map, List.length_range]
theorem flat_take {α β : Type} (f : α → List β) {xs : List α} {i : Nat} {x : α} (h : xs[i]? = some x) : (xs.take (i + 1)).flatMap f = (xs.take i).flatMap f ++ f x := by
  rw [List.take_add_one, h]
  simp
theorem flat_le {α β : Type} (f : α → List β) {xs : List α} {i : Nat} {x : α} (h : xs[i]? = some x) : ((xs.take i).flatMap f).length + (f x).length ≤ (xs.flatMap f).length := by
  have e : xs = xs.take (i + 1) ++ xs.drop (i + 1) := (List.take_append_drop _ _).symm
  have e2 : (xs.flatMap f).length = ((xs.take (i + 1)).flatMap f).length + ((xs.drop (i + 1)).flatMap f).length := by
    conv => lhs; rw [e]
    rw [List.flatMap_append, List.length_append]
  rw [e2, flat_take f h, List.length_append]
  omega
theorem ext_take {row : List Int} {j : Nat} (hj : j < (bc 0 row + 1).toNat) : (ext row).take (j + 1) = (ext row).take j ++ [row ++ [((j : Nat) : Int)]] := by
  have h : (ext row)[j]? = some (row ++ [((j : Nat) : Int)]) := by
    unfold ext
    rw [List.getElem?_map, List.getElem?_range hj]
    rfl
  rw [List.take_add_one, h]
  rfl
end KM
namespace KM
/-! ### clumps: roots -/
def up (hs : List Nat) (x : Nat) : Nat := hs.getD x x
def Dn (hs : List Nat) : Prop := ∀ x, up hs x ≤ x
def rt (hs : List Nat) : Nat → Nat → Nat
  | 0, x => x
  | f + 1, x => if up hs x = x then x else rt hs f (up hs x)
/-- more fuel changes nothing -/
theorem rt_more {hs : List Nat} (h : Dn hs) : ∀ (f x k : Nat), x ≤ f → rt hs (f + k) x = rt hs f x := by
  intro f
  induction f with
  | zero =>
    intro x k hx
    have e0 : x = 0 := by omega
    subst e0
    have e : up hs 0 = 0 := by have := h 0; omega
    cases k with
    | zero => rfl
    | succ k =>
      show rt hs (0 + (k + 1)) 0 = 0
      rw [Nat.zero_add]
      show (if up hs 0 = 0 then 0 else _) = 0
      rw [if_pos e]
  | succ f ih =>
    intro x k hx
    rw [show f + 1 + k = (f + k) + 1 by omega]
    show (if up hs x = x then x else rt hs (f + k) (up hs x)) = (if up hs x = x then x else rt hs f (up hs x))
    have hx0 := h x
    by_cases e : up hs x = x
    · rw [if_pos e, if_pos e]
    · rw [if_neg e, if_neg e, ih _ k (by omega)]
def root (hs : List Nat) (x : Nat) : Nat := rt hs x x
theorem root_fuel {hs : List Nat} (h : Dn hs) {f x : Nat} (hx : x ≤ f) : rt hs f x = root hs x := by
  have := rt_more h x x (f - x) (Nat.le_refl _)
  rw [show x + (f - x) = f by omega] at this
  exact this
theorem root_at {hs : List Nat} (h : Dn hs) (x : Nat) : root hs x = if up hs x = x then x else root hs (up hs x) := by
  have hx0 := h x
  cases x with
  | zero =>
    rw [if_pos (by omega)]
    rfl
  | succ x =>
    show (if up hs (x + 1) = x + 1 then x + 1 else rt hs x (up hs (x + 1))) = _
    by_cases e : up hs (x + 1) = x + 1
    · rw [if_pos e, if_pos e]
    · rw [if_neg e, if_neg e, root_fuel h (by omega)]
theorem root_self {hs : List Nat} (h : Dn hs) {x : Nat} (e : up hs x = x) : root hs x = x := by
  rw [root_at h, if_pos e]
theorem root_up {hs : List Nat} (h : Dn hs) (x : Nat) : root hs (up hs x) = root hs x := by
  rw [root_at h x]
  by_cases e : up hs x = x
  · rw [if_pos e, e, root_self h e]
  · rw [if_neg e]
theorem root_le {hs : List Nat} (h : Dn hs) : ∀ (n x : Nat), x ≤ n → root hs x ≤ x ∧ up hs (root hs x) = root hs x
  | 0, x, hx => by
    have e0 : x = 0 := by omega
    subst e0
    have e : up hs 0 = 0 := by have := h 0; omega
    rw [root_self h e]
    exact ⟨Nat.le_refl _, e⟩
  | n + 1, x, hx => by
    have hx0 := h x
    by_cases e : up hs x = x
    · rw [root_self h e]
      exact ⟨Nat.le_refl _, e⟩
    · have ih := root_le h n (up hs x) (by omega)
      rw [root_up h] at ih
      exact ⟨by omega, ih.2⟩
theorem up_root {hs : List Nat} (h : Dn hs) (x : Nat) : up hs (root hs x) = root hs x := (root_le h x x (Nat.le_refl _)).2
theorem root_le' {hs : List Nat} (h : Dn hs) (x : Nat) : root hs x ≤ x := (root_le h x x (Nat.le_refl _)).1
theorem up_set {hs : List Nat} {x v y : Nat} (hx : x < hs.length) : up (hs.set x v) y = if y = x then v else up hs y := by
  unfold up
  rw [List.getD_eq_getElem?_getD, List.getElem?_set, List.getD_eq_getElem?_getD]
  by_cases e : x = y
  · subst e
    simp [hx]
  · have e2 : ¬ y = x := fun q => e q.symm
    simp [e, e2]
theorem dn_set {hs : List Nat} (h : Dn hs) {x v : Nat} (hx : x < hs.length) (hv : v ≤ x) : Dn (hs.set x v) := fun y => by
  rw [up_set hx]
  split
  · omega
  · exact h y
/-- a shorter way: the roots stay -/
theorem root_halve {hs : List Nat} (h : Dn hs) {x : Nat} (hx : x < hs.length) : ∀ (n y : Nat), y ≤ n → root (hs.set x (up hs (up hs x))) y = root hs y := by
  have hv : up hs (up hs x) ≤ x := Nat.le_trans (h _) (h x)
  have h2 := dn_set h hx hv
  intro n
  induction n with
  | zero =>
    intro y hy
    have e0 : y = 0 := by omega
    subst e0
    have a := root_le' h 0
    have b := root_le' h2 0
    omega
  | succ n ih =>
    intro y hy
    rw [root_at h2, up_set hx]
    by_cases e : y = x
    · subst e
      rw [if_pos rfl]
      by_cases e2 : up hs (up hs y) = y
      · have e3 : up hs y = y := by
          have := h (up hs y)
          have := h y
          omega
        rw [if_pos e2, root_self h e3]
      · have lt : up hs (up hs y) < y := by
          have := h (up hs y)
          have := h y
          omega
        rw [if_neg e2, ih _ (by omega), root_up h, root_up h]
    · rw [if_neg e]
      have hy0 := h y
      by_cases e2 : up hs y = y
      · rw [if_pos e2, root_self h e2]
      · rw [if_neg e2, ih _ (by omega), root_up h]
/-- two roots made one -/
theorem root_unite {hs : List Nat} (h : Dn hs) {a b : Nat} (hb : b < hs.length) (ea : up hs a = a) (eb : up hs b = b) (lt : a < b) : ∀ (n y : Nat), y ≤ n → root (hs.set b a) y = if root hs y = b then a else root hs y := by
  have h2 := dn_set h hb (Nat.le_of_lt lt)
  intro n
  induction n with
  | zero =>
    intro y hy
    have e0 : y = 0 := by omega
    subst e0
    have p := root_le' h 0
    have q := root_le' h2 0
    rw [if_neg (by omega)]
    omega
  | succ n ih =>
    intro y hy
    rw [root_at h2, up_set hb]
    by_cases e : y = b
    · subst e
      rw [if_pos rfl, if_neg (by omega), ih _ (by omega), root_self h ea, root_self h eb, if_neg (by omega), if_pos rfl]
    · rw [if_neg e]
      have hy0 := h y
      by_cases e2 : up hs y = y
      · rw [if_pos e2, root_self h e2, if_neg e]
      · rw [if_neg e2, ih _ (by omega), root_up h]
/-! ### what is glued together -/
def J (R : Nat → Nat → Prop) (a b x y : Nat) : Prop := R x y ∨ (R x a ∧ R b y) ∨ (R x b ∧ R a y)
def glue (ts : List (Nat × Nat)) : Nat → Nat → Prop := ts.foldl (fun R t => J R t.1 t.2) Eq
theorem glue_snoc (ts : List (Nat × Nat)) (t : Nat × Nat) : glue (ts ++ [t]) = J (glue ts) t.1 t.2 := by
  unfold glue
  rw [List.foldl_append]
  rfl
structure Eqv (R : Nat → Nat → Prop) : Prop where
  refl : ∀ x, R x x
  symm : ∀ x y, R x y → R y x
  trans : ∀ x y z, R x y → R y z → R x z
theorem J_eqv {R : Nat → Nat → Prop} (h : Eqv R) (a b : Nat) : Eqv (J R a b) := by
  refine ⟨fun x => .inl (h.refl x), fun x y q => ?_, fun x y z q1 q2 => ?_⟩
  · rcases q with q | ⟨q, r⟩ | ⟨q, r⟩
    · exact .inl (h.symm _ _ q)
    · exact .inr (.inr ⟨h.symm _ _ r, h.symm _ _ q⟩)
    · exact .inr (.inl ⟨h.symm _ _ r, h.symm _ _ q⟩)
  · have t := h.trans
    have s := h.symm
    rcases q1 with q1 | ⟨q1, r1⟩ | ⟨q1, r1⟩ <;> rcases q2 with q2 | ⟨q2, r2⟩ | ⟨q2, r2⟩
    · exact .inl (t _ _ _ q1 q2)
    · exact .inr (.inl ⟨t _ _ _ q1 q2, r2⟩)
    · exact .inr (.inr ⟨t _ _ _ q1 q2, r2⟩)
    · exact .inr (.inl ⟨q1, t _ _ _ r1 q2⟩)
    · exact .inr (.inl ⟨q1, r2⟩)
    · exact .inl (t _ _ _ q1 r2)
    · exact .inr (.inr ⟨q1, t _ _ _ r1 q2⟩)
    · exact .inl (t _ _ _ q1 r2)
    · exact .inr (.inr ⟨q1, r2⟩)
theorem glue_eqv (ts : List (Nat × Nat)) : Eqv (glue ts) := by
  refine firsts_rec' (P := fun ts => Eqv (glue ts)) ⟨fun _ => rfl, fun _ _ h => Eq.symm h, fun _ _ _ h1 h2 => Eq.trans h1 h2⟩ (fun ts t h => ?_) ts
  rw [glue_snoc]
  exact J_eqv h _ _
where
  firsts_rec' {α : Type} {P : List α → Prop} (h0 : P []) (hs : ∀ xs x, P xs → P (xs ++ [x])) : ∀ xs, P xs := by
    intro xs
    have : ∀ n (xs : List α), xs.length = n → P xs := by
      intro n
      induction n with
      | zero =>
        intro xs h
        rw [List.eq_nil_of_length_eq_zero h]
        exact h0
      | succ n ih =>
        intro xs h
        have hne : xs ≠ [] := by
          intro e
          rw [e] at h
          cases h
        rw [← List.dropLast_concat_getLast hne]
        exact hs _ _ (ih _ (by rw [List.length_dropLast, h]; rfl))
    exact this _ xs rfl
/-- the roots behind a tie -/
theorem tie_roots {hs hs' : List Nat} {R : Nat → Nat → Prop} {a b : Nat} (e : Eqv R) (h : ∀ x y, root hs x = root hs y ↔ R x y)
    (h' : ∀ y, root hs' y = if root hs y = max (root hs a) (root hs b) then min (root hs a) (root hs b) else root hs y) (x y : Nat) : root hs' x = root hs' y ↔ J R a b x y := by
  unfold J
  rw [h' x, h' y, ← h x y, ← h x a, ← h b y, ← h x b, ← h a y]
  generalize root hs x = rx
  generalize root hs y = ry
  generalize root hs a = ra
  generalize root hs b = rb
  rcases Nat.lt_trichotomy ra rb with g | g | g
  · rw [Nat.max_eq_right (by omega), Nat.min_eq_left (by omega)]
    split <;> split <;> omega
  · subst g
    rw [Nat.max_self, Nat.min_self]
    split <;> split <;> omega
  · rw [Nat.max_eq_left (by omega), Nat.min_eq_right (by omega)]
    split <;> split <;> omega
/-- labels behind a tie -/
theorem tie_labels {L L' : Nat → Int} {R : Nat → Nat → Prop} {a b : Nat} {S : Nat → Prop} (h : ∀ x y, S x → S y → (L x = L y ↔ R x y)) (sa : S a) (sb : S b)
    (h' : ∀ y, S y → L' y = if L y = L b then L a else L y) (x y : Nat) (sx : S x) (sy : S y) : L' x = L' y ↔ J R a b x y := by
  unfold J
  rw [h' x sx, h' y sy, ← h x y sx sy, ← h x a sx sa, ← h b y sb sy, ← h x b sx sb, ← h a y sa sy]
  generalize L x = rx
  generalize L y = ry
  generalize L a = ra
  generalize L b = rb
  split <;> split <;> omega
theorem up_range (n x : Nat) : up (List.range n) x = x := by
  unfold up
  rw [List.getD_eq_getElem?_getD]
  by_cases h : x < n
  · rw [List.getElem?_range h]
    rfl
  · rw [List.getElem?_eq_none (by rw [List.length_range]; omega)]
    rfl
theorem dn_range (n : Nat) : Dn (List.range n) := fun x => by
  rw [up_range]
  exact Nat.le_refl _
theorem root_range (n x : Nat) : root (List.range n) x = x := root_self (dn_range n) (up_range n x)
end KM
namespace KQ
open PySem PySem.Spec PyProof.Rows L2 KR
def topS (i : Nat) : Stmt := PySem.Challenge.pw_fittingdoors_k03_whole_rings_and_trees.main.body.getD i (.Pass ⟨0, 0, 0, 0⟩)
section
variable {P : Program} {w : World} {K : PySem.W.Frag} {mg : Str → Option Value} {base : Heap}
abbrev s_is_integer : Stmt := topS 2
theorem sc_is_integer : FnScope ["value"] ["value"] (defScope s_is_integer) := ⟨rfl, rfl, rfl, by decide +kernel, rfl, by decide +kernel, by decide +kernel⟩
def spIsInteger : Sp := fun vs H Q _ => ∃ i : Int, vs = [.int i] ∧ Q (.bl true) H
theorem ok_is_integer (D : DefAt K mg "is_integer" s_is_integer) (T : Bt mg) : Use P w K mg base "is_integer" 1 ["value"] spIsInteger := by
  refine use_of D (fun f fd F => F.ok sc_is_integer (fun vs H Q E h => ?_) (fun cdv A outer s H vs Q E hr h => ?_)) (fun _ _ _ _ _ _ us hl => match us, hl with | [_], _ => rfl)
  · obtain ⟨i, rfl, _⟩ := h
    rfl
  · obtain ⟨i, rfl, q⟩ := h
    refine ⟨_, (pss_one (ps_ret (pe_and (pe_callB (k_isi (K := K) rfl) (by rfl) T.isinstance (by decide +kernel) (pa_cons (pv 0) (pa_cons (pe_bltn (v := .ty "int") (by rfl) T.int (by decide +kernel) rfl) pa_nil))) (pe_one (pe_not (pe_callB (k_isi (K := K) rfl) (by rfl) T.isinstance (by decide +kernel) (pa_cons (pv 0) (pa_cons (pe_bltn (v := .ty "bool") (by rfl) T.bool (by decide +kernel) rfl) pa_nil)))))))), ?_⟩
    refine ⟨_, rfl, _, _, _, _, true, rfl, .ty _, .base (.int i), kit_ty (by decide +kernel), true, rfl, iteT ?_⟩
    exact ⟨_, rfl, _, _, _, _, false, rfl, .ty _, .base (.int i), kit_ty (by decide +kernel), _, rfl, q⟩
abbrev s_is_integer_within : Stmt := topS 3
theorem sc_is_integer_within : FnScope ["value", "least", "most"] ["value", "least", "most"] (defScope s_is_integer_within) := ⟨rfl, rfl, rfl, by decide +kernel, rfl, by decide +kernel, by decide +kernel⟩
def spIntW : Sp := fun vs H Q _ => ∃ i lo hi : Int, vs = [.int i, .int lo, .int hi] ∧ Q (.bl (decide (lo ≤ i ∧ i ≤ hi))) H
theorem ok_is_integer_within (D : DefAt K mg "is_integer_within" s_is_integer_within) (T : Bt mg) (u_is_integer : Use P w K mg base "is_integer" 1 ["value"] spIsInteger) :
    Use P w K mg base "is_integer_within" 2 ["value", "least", "most"] spIntW := by
  refine use_of D (fun f fd F => F.ok sc_is_integer_within (fun vs H Q E h => ?_) (fun cdv A outer s H vs Q E hr h => ?_)) (fun _ _ _ _ _ _ us hl => match us, hl with | [_, _, _], _ => rfl)
  · obtain ⟨i, lo, hi, rfl, _⟩ := h
    rfl
  · obtain ⟨i, lo, hi, rfl, q⟩ := h
    refine ⟨_, (pss_one (ps_ret (pe_and (pe_use u_is_integer (by decide) hr (by rfl) (pa_cons (pv 0) pa_nil)) (pe_one (pe_chain op_le op_le (pv 1) (pv 0) (pv 2)))))), ?_⟩
    refine ⟨_, rfl, i, rfl, true, rfl, iteT ?_⟩
    refine ⟨_, rfl, _, rfl, lo, i, rfl, rfl, _, rfl, ?_⟩
    by_cases h1 : lo ≤ i
    · rw [decide_eq_true h1]
      refine iteT ⟨_, rfl, i, hi, rfl, rfl, ?_⟩
      have e : decide (lo ≤ i ∧ i ≤ hi) = decide (i ≤ hi) := by simp [h1]
      rw [e] at q
      exact q
    · rw [decide_eq_false h1]
      refine iteF ?_
      have e : decide (lo ≤ i ∧ i ≤ hi) = false := by simp [h1]
      rw [e] at q
      exact q
abbrev s_is_tuple_within : Stmt := topS 4
theorem sc_is_tuple_within : FnScope ["value", "least", "most"] ["value", "least", "most"] (defScope s_is_tuple_within) := ⟨rfl, rfl, rfl, by decide +kernel, rfl, by decide +kernel, by decide +kernel⟩
def spTupW (K : PySem.W.Frag) : Sp := fun vs H Q _ => ∃ (a : Addr) (xs : List V) (lo hi : Int), vs = [.ref a, .int lo, .int hi] ∧ SqT K H a xs ∧ TyX K H (.ref a) (.type "tuple") ∧ Q (.bl (decide (lo ≤ xs.length ∧ (xs.length : Int) ≤ hi))) H
theorem ok_is_tuple_within (D : DefAt K mg "is_tuple_within" s_is_tuple_within) (T : Bt mg) :
    Use P w K mg base "is_tuple_within" 1 ["value", "least", "most"] (spTupW K) := by
  refine use_of D (fun f fd F => F.ok sc_is_tuple_within (fun vs H Q E h => ?_) (fun cdv A outer s H vs Q E hr h => ?_)) (fun _ _ _ _ _ _ us hl => match us, hl with | [_, _, _], _ => rfl)
  · obtain ⟨a, xs, lo, hi, rfl, _⟩ := h
    rfl
  · obtain ⟨a, xs, lo, hi, rfl, hs, ht, q⟩ := h
    refine ⟨_, (pss_one (ps_ret (pe_and (pe_callB (k_isi (K := K) rfl) (by rfl) T.isinstance (by decide +kernel) (pa_cons (pv 0) (pa_cons (pe_bltn (v := .ty "tuple") (by rfl) T.tuple (by decide +kernel) rfl) pa_nil))) (pe_one (pe_chain op_le op_le (pv 1) (pe_callB (k_len (K := K) rfl) (by rfl) T.len PySem.boot_len (pa_cons (pv 0) pa_nil)) (pv 2)))))), ?_⟩
    refine ⟨_, rfl, _, _, _, _, true, rfl, .ty _, ht, kit_ty (by decide +kernel), true, rfl, iteT ?_⟩
    refine ⟨_, rfl, _, rfl, a, xs, rfl, .inr hs, lo, _, rfl, rfl, _, rfl, ?_⟩
    by_cases h1 : lo ≤ (xs.length : Int)
    · rw [decide_eq_true h1]
      refine iteT ⟨_, rfl, _, hi, rfl, rfl, ?_⟩
      have e : decide (lo ≤ (xs.length : Int) ∧ (xs.length : Int) ≤ hi) = decide ((xs.length : Int) ≤ hi) := by simp [h1]
      rw [e] at q
      exact q
    · rw [decide_eq_false h1]
      refine iteF ?_
      have e : decide (lo ≤ (xs.length : Int) ∧ (xs.length : Int) ≤ hi) = false := by simp [h1]
      rw [e] at q
      exact q
end
end KQ
namespace KQ
open PySem PySem.Spec PyProof.Rows L2 KR KM
section
variable {P : Program} {w : World} {K : PySem.W.Frag} {mg : Str → Option Value} {base : Heap}
/-- a tuple of whole numbers stands at a -/
def TI (H : Hp) (a : Addr) (p : List Int) : Prop := H a = some (.tup (p.map V.int))
theorem TI.mono {H H' : Hp} {a : Addr} {p : List Int} (h : TI H a p) (e : Same H H') : TI H' a p := e _ _ h
theorem TI.ty {H : Hp} {a : Addr} {p : List Int} (h : TI H a p) : TyX K H (.ref a) (.type "tuple") := .base (.tup h)
theorem TI.seq {H : Hp} {a : Addr} {p : List Int} (h : TI H a p) : SqT K H a (p.map V.int) := .inl (.inl h)
abbrev s_first_wrong_block : Stmt := topS 11
theorem sc_first_wrong_block : FnScope ["blocks", "many", "place", "block"] ["blocks"] (defScope s_first_wrong_block) := ⟨rfl, rfl, rfl, by decide +kernel, rfl, by decide +kernel, by decide +kernel⟩
def spFwb : Sp := fun vs H Q _ => ∃ a p, vs = [.ref a] ∧ TI H a p ∧ Par p ∧ ∀ H', Same H H' → Q .non H'
theorem ok_first_wrong_block (D : DefAt K mg "first_wrong_block" s_first_wrong_block) (T : Bt mg) :
    Use P w K mg base "first_wrong_block" 3 ["blocks"] spFwb := by
  refine use_of D (fun f fd F => F.ok sc_first_wrong_block (fun vs H Q E h => ?_) (fun cdv A outer s H vs Q E hr h => ?_)) (fun _ _ _ _ _ _ us hl => match us, hl with | [_], _ => rfl)
  · obtain ⟨a, p, rfl, _⟩ := h
    rfl
  · obtain ⟨a, p, rfl, hp, par, q⟩ := h
    refine ⟨_, (pss_cons (ps_set (i := 1) sc_first_wrong_block.nd rfl (Or.inl rfl) pe_int)
      (pss_cons (ps_for PassesOwn.never rfl (k_enumT (K := K) rfl (by rfl) T.enumerate (pa_cons (pv 0) pa_nil)) (pg_tup rfl (pgs_cons (pg_name (i := 2) sc_first_wrong_block.nd rfl (Or.inl rfl)) (pgs_cons (pg_name (i := 3) sc_first_wrong_block.nd rfl (Or.inl rfl)) pgs_nil)))
      (pss_cons (ps_if (PW.pt (pw_or (pt_not (pt_val (pe_callB (k_isi (K := K) rfl) (by rfl) T.isinstance (by decide +kernel) (pa_cons (pv 3) (pa_cons (pe_bltn (v := .ty "int") (by rfl) T.int (by decide +kernel) rfl) pa_nil))))) (pw_or (pt_val (pe_callB (k_isi (K := K) rfl) (by rfl) T.isinstance (by decide +kernel) (pa_cons (pv 3) (pa_cons (pe_bltn (v := .ty "bool") (by rfl) T.bool (by decide +kernel) rfl) pa_nil)))) (pw_or (pt_cmpR op_lt (pv 3) pe_int (nomark _)) (pw_or1 (pt_cmpR op_gt (pv 3) (pv 1) (nomark _))))))) (pss_one (ps_ret (pv 2))) pss_nil)
      (pss_one (ps_if (pt_cmpR op_eq (pv 3) (pv 1) (nomark _)) (pss_one (ps_aug (i := 1) sc_first_wrong_block.nd rfl (Or.inl rfl) pe_int ip_add)) pss_nil))))
      (pss_one (ps_ret pe_non)))), ?_⟩
    refine ⟨_, rfl, a, _, rfl, hp.seq, for_enumT (K := K) (a := a) (xs := p.map V.int)
      (fun i σ H1 => ∃ y2 y3, σ = [some (.ref a), some (.int (bc 0 (p.take i))), y2, y3] ∧ Same H H1)
      ⟨none, none, rfl, Same.refl H⟩ (fun i σ H1 ⟨_, _, _, sm⟩ => (hp.mono sm).seq) ?_ ?_⟩
    · rintro i v T1 σ H1 hi ⟨y2, y3, rfl, sm⟩ hT
      obtain ⟨x, hx, rfl⟩ := map_at hi
      obtain ⟨x0, x1⟩ := rg_at par.rg hx
      refine ⟨T1, _, rfl, .inl (.inl upd_same), rfl, _, _, rfl, _, [], rfl, rfl, ?_⟩
      refine ⟨_, rfl, _, _, _, _, true, rfl, .ty _, .base (.int x), kit_ty (by decide +kernel), true, rfl, iteF ?_⟩
      refine ⟨_, rfl, _, _, _, _, false, rfl, .ty _, .base (.int x), kit_ty (by decide +kernel), false, rfl, iteF ?_⟩
      refine ⟨_, rfl, x, 0, rfl, rfl, _, rfl, ?_⟩
      rw [decide_eq_false (show ¬ x < 0 by omega)]
      refine iteF ⟨_, rfl, _, rfl, x, bc 0 (p.take i), rfl, rfl, _, rfl, ?_⟩
      rw [decide_eq_false (show ¬ x > bc 0 (p.take i) by omega)]
      refine iteF ?_
      · refine ⟨_, rfl, _, rfl, rfl, _, rfl, ite2 (fun e => ?_) (fun e => ?_)⟩
        · have e' : x = bc 0 (p.take i) := V.int.inj (of_decide_eq_true e)
          refine ⟨_, rfl, _, _, rfl, rfl, ?_⟩
          refine ⟨some (.int (i : Nat)), some (.int x), ?_, sm.trans (same_new hT)⟩
          rw [bc_take hx, if_pos e']
          rfl
        · have e' : ¬ x = bc 0 (p.take i) := fun z => e (decide_eq_true (by rw [z]))
          refine ⟨some (.int (i : Nat)), some (.int x), ?_, sm.trans (same_new hT)⟩
          rw [bc_take hx, if_neg e']
          rfl
    · rintro σ H1 ⟨y2, y3, rfl, sm⟩
      exact q H1 sm
def spIsPar : Sp := fun vs H Q _ => ∃ a p, vs = [.ref a] ∧ TI H a p ∧ Par p ∧ ∀ H', Same H H' → Q (.bl true) H'
theorem par_le {p : List Int} (h : Par p) : decide ((1 : Int) ≤ ((p.map V.int).length : Int) ∧ ((p.map V.int).length : Int) ≤ 60) = true := by
  refine decide_eq_true ?_
  rw [List.length_map]
  have h1 := h.le
  have h2 : p.length ≠ 0 := fun e => h.ne (List.eq_nil_of_length_eq_zero e)
  omega
abbrev s_need_parting : Stmt := topS 12
theorem sc_need_parting : FnScope ["parting", "place"] ["parting"] (defScope s_need_parting) := ⟨rfl, rfl, rfl, by decide +kernel, rfl, by decide +kernel, by decide +kernel⟩
def spNeed : Sp := fun vs H Q _ => ∃ a p, vs = [.ref a] ∧ TI H a p ∧ Par p ∧ ∀ H', Same H H' → Q (.ref a) H'
theorem ok_need_parting (D : DefAt K mg "need_parting" s_need_parting) (T : Bt mg) (c_MOST_DOORS : Cst mg "MOST_DOORS" 60) (u_is_tuple_within : Use P w K mg base "is_tuple_within" 1 ["value", "least", "most"] (spTupW K))
    (u_first_wrong_block : Use P w K mg base "first_wrong_block" 3 ["blocks"] spFwb) : Use P w K mg base "need_parting" 4 ["parting"] spNeed := by
  refine use_of D (fun f fd F => F.ok sc_need_parting (fun vs H Q E h => ?_) (fun cdv A outer s H vs Q E hr h => ?_)) (fun _ _ _ _ _ _ us hl => match us, hl with | [_], _ => rfl)
  · obtain ⟨a, p, rfl, _⟩ := h
    rfl
  · obtain ⟨a, p, rfl, hp, par, q⟩ := h
    refine ⟨_, (pss_cons (ps_if (pt_not (pt_val (pe_use u_is_tuple_within (by decide) hr (by rfl) (pa_cons (pv 0) (pa_cons pe_int (pa_cons (pe_cst (by rfl) c_MOST_DOORS) pa_nil)))))) (pss_one ps_never) pss_nil)
      (pss_cons (ps_set (i := 1) sc_need_parting.nd rfl (Or.inl rfl) (pe_use u_first_wrong_block (by decide) hr (by rfl) (pa_cons (pv 0) pa_nil)))
      (pss_cons (ps_if (pt_cmpR op_notN (pv 1) pe_non (nomark _)) (pss_one ps_never) pss_nil)
      (pss_one (ps_ret (pe_callTy (k_tupOf (K := K) rfl) (by rfl) T.tuple (by decide +kernel) (pa_cons (pv 0) pa_nil))))))), ?_⟩
    refine ⟨_, rfl, a, _, _, _, rfl, hp.seq, hp.ty, true, ?_, iteF ?_⟩
    · rw [par_le par]
    · refine ⟨_, rfl, a, p, rfl, hp, par, fun H1 sm => ?_⟩
      refine ⟨_, rfl, rfl, _, rfl, iteF ?_⟩
      exact ⟨_, rfl, a, _, rfl, .inr ⟨(hp.mono sm).seq, q H1 sm⟩⟩
abbrev s_need_parting_of : Stmt := topS 13
theorem sc_need_parting_of : FnScope ["parting", "doors"] ["parting", "doors"] (defScope s_need_parting_of) := ⟨rfl, rfl, rfl, by decide +kernel, rfl, by decide +kernel, by decide +kernel⟩
def spNeedOf : Sp := fun vs H Q _ => ∃ a p, vs = [.ref a, .int (p.length : Int)] ∧ TI H a p ∧ Par p ∧ ∀ H', Same H H' → Q (.ref a) H'
theorem ok_need_parting_of (D : DefAt K mg "need_parting_of" s_need_parting_of) (T : Bt mg) (u_need_parting : Use P w K mg base "need_parting" 4 ["parting"] spNeed) :
    Use P w K mg base "need_parting_of" 5 ["parting", "doors"] spNeedOf := by
  refine use_of D (fun f fd F => F.ok sc_need_parting_of (fun vs H Q E h => ?_) (fun cdv A outer s H vs Q E hr h => ?_)) (fun _ _ _ _ _ _ us hl => match us, hl with | [_, _], _ => rfl)
  · obtain ⟨a, p, rfl, _⟩ := h
    rfl
  · obtain ⟨a, p, rfl, hp, par, q⟩ := h
    refine ⟨_, (pss_cons (ps_expr (pe_use u_need_parting (by decide) hr (by rfl) (pa_cons (pv 0) pa_nil)))
      (pss_cons (ps_if (pt_cmpR op_ne (pe_callB (k_len (K := K) rfl) (by rfl) T.len PySem.boot_len (pa_cons (pv 0) pa_nil)) (pv 1) (nomark _)) (pss_one ps_never) pss_nil)
      (pss_one (ps_ret (pe_callTy (k_tupOf (K := K) rfl) (by rfl) T.tuple (by decide +kernel) (pa_cons (pv 0) pa_nil)))))), ?_⟩
    refine ⟨_, rfl, a, p, rfl, hp, par, fun H1 sm => ?_⟩
    refine ⟨_, rfl, a, _, rfl, .inr (hp.mono sm).seq, _, rfl, rfl, _, rfl, ?_⟩
    rw [List.length_map, decide_eq_true rfl]
    refine iteF ?_
    exact ⟨_, rfl, a, _, rfl, .inr ⟨(hp.mono sm).seq, q H1 sm⟩⟩
abbrev s_need_two_partings : Stmt := topS 14
theorem sc_need_two_partings : FnScope ["parting", "other"] ["parting", "other"] (defScope s_need_two_partings) := ⟨rfl, rfl, rfl, by decide +kernel, rfl, by decide +kernel, by decide +kernel⟩
def spTwo : Sp := fun vs H Q _ => ∃ a b p r, vs = [.ref a, .ref b] ∧ TI H a p ∧ TI H b r ∧ Par p ∧ Par r ∧ p.length = r.length ∧ ∀ H', Same H H' → Q .non H'
theorem ok_need_two_partings (D : DefAt K mg "need_two_partings" s_need_two_partings) (T : Bt mg) (u_need_parting : Use P w K mg base "need_parting" 4 ["parting"] spNeed)
    (u_need_parting_of : Use P w K mg base "need_parting_of" 5 ["parting", "doors"] spNeedOf) : Use P w K mg base "need_two_partings" 6 ["parting", "other"] spTwo := by
  refine use_of D (fun f fd F => F.ok sc_need_two_partings (fun vs H Q E h => ?_) (fun cdv A outer s H vs Q E hr h => ?_)) (fun _ _ _ _ _ _ us hl => match us, hl with | [_, _], _ => rfl)
  · obtain ⟨a, b, p, r, rfl, _⟩ := h
    rfl
  · obtain ⟨a, b, p, r, rfl, hp, hb, par, parb, hl, q⟩ := h
    refine ⟨_, (pss_cons (ps_expr (pe_use u_need_parting (by decide) hr (by rfl) (pa_cons (pv 0) pa_nil)))
      (pss_one (ps_expr (pe_use u_need_parting_of (by decide) hr (by rfl) (pa_cons (pv 1) (pa_cons (pe_callB (k_len (K := K) rfl) (by rfl) T.len PySem.boot_len (pa_cons (pv 0) pa_nil)) pa_nil)))))), ?_⟩
    refine ⟨_, rfl, a, p, rfl, hp, par, fun H1 sm => ?_⟩
    refine ⟨_, rfl, _, rfl, a, _, rfl, .inr (hp.mono sm).seq, b, r, ?_, hb.mono sm, parb, fun H2 sm2 => q H2 (sm.trans sm2)⟩
    rw [List.length_map, hl]
    rfl
abbrev s_block_count : Stmt := topS 16
theorem sc_block_count : FnScope ["parting"] ["parting"] (defScope s_block_count) := ⟨rfl, rfl, rfl, by decide +kernel, rfl, by decide +kernel, by decide +kernel⟩
def spCount : Sp := fun vs H Q _ => ∃ a p, vs = [.ref a] ∧ TI H a p ∧ Par p ∧ Q (.int (bc 0 p)) H
theorem ok_block_count (D : DefAt K mg "block_count" s_block_count) (T : Bt mg) : Use P w K mg base "block_count" 1 ["parting"] spCount := by
  refine use_of D (fun f fd F => F.ok sc_block_count (fun vs H Q E h => ?_) (fun cdv A outer s H vs Q E hr h => ?_)) (fun _ _ _ _ _ _ us hl => match us, hl with | [_], _ => rfl)
  · obtain ⟨a, p, rfl, _⟩ := h
    rfl
  · obtain ⟨a, p, rfl, hp, par, q⟩ := h
    refine ⟨_, (pss_one (ps_ret (pe_op op_add (pe_callB (k_maxT (K := K) rfl rfl hr.units) (by rfl) T.max (by decide +kernel) (pa_cons (pv 0) pa_nil)) pe_int))), ?_⟩
    refine ⟨_, rfl, a, p, rfl, hp.seq, par.ne, fun m hm hle => ?_⟩
    refine ⟨_, _, rfl, rfl, ?_⟩
    show Q (.int (m + 1)) H
    rw [par_max par hm hle]
    exact q
def spSize : Sp := fun vs H Q _ => ∃ a p, vs = [.ref a] ∧ TI H a p ∧ Par p ∧ ∀ H', Same H H' → Q (.int (bc 0 p)) H'
end
end KQ
namespace KQ
open PySem PySem.Spec PyProof.Rows L2 KR KM
/-! ### a dict of the first ones' places -/
section
variable {α κ : Type} [DecidableEq α] [DecidableEq κ]
def dg (f : α → κ) (ks : List α) : List (κ × V) := ks.zipIdx.map fun p => (f p.1, V.int ((p.2 : Nat) : Int))
theorem dg_len (f : α → κ) (ks : List α) : (dg f ks).length = ks.length := by
  unfold dg
  rw [List.length_map, List.length_zipIdx]
theorem dg_snoc (f : α → κ) (ks : List α) (x : α) : dg f (ks ++ [x]) = dg f ks ++ [(f x, V.int ((ks.length : Nat) : Int))] := by
  unfold dg
  rw [List.zipIdx_append, List.map_append]
  simp
theorem dg_any {f : α → κ} (hf : ∀ a b, f a = f b → a = b) (ks : List α) (x : α) : ((dg f ks).any fun kv => decide (kv.1 = f x)) = decide (x ∈ ks) := by
  refine firsts_rec (P := fun ks => ((dg f ks).any fun kv => decide (kv.1 = f x)) = decide (x ∈ ks)) (by simp [dg]) (fun ks y h => ?_) ks
  rw [dg_snoc, List.any_append, h]
  simp only [List.any_cons, List.any_nil, Bool.or_false, List.mem_append, List.mem_singleton]
  by_cases e : x = y
  · subst e
    simp
  · have e2 : f y ≠ f x := fun q => e (hf _ _ q).symm
    simp [e, e2]
theorem dg_val {f : α → κ} (hf : ∀ a b, f a = f b → a = b) (ks : List α) (x : α) (h : ks.Nodup) :
    valV (dg f ks) (f x) = if x ∈ ks then some (V.int ((ks.idxOf x : Nat) : Int)) else none := by
  refine firsts_rec (P := fun ks => ks.Nodup → valV (dg f ks) (f x) = if x ∈ ks then some (V.int ((ks.idxOf x : Nat) : Int)) else none) (fun _ => rfl) (fun ks y ih hn => ?_) ks h
  rw [List.nodup_append] at hn
  have ih := ih hn.1
  have hy : y ∉ ks := fun hm => hn.2.2 y hm y (List.mem_singleton.mpr rfl) rfl
  unfold valV at ih ⊢
  rw [dg_snoc, List.find?_append, Option.map_or, ih]
  by_cases hx : x ∈ ks
  · rw [if_pos hx, if_pos (List.mem_append_left _ hx), List.idxOf_append, if_pos hx]
    rfl
  · rw [if_neg hx]
    by_cases e : x = y
    · subst e
      rw [if_pos (List.mem_append_right _ (List.mem_singleton.mpr rfl)), List.idxOf_append, if_neg hx]
      simp
    · have e2 : f y ≠ f x := fun q => e (hf _ _ q).symm
      rw [if_neg (by simp [hx, e])]
      simp [e2]
theorem dg_put {f : α → κ} (hf : ∀ a b, f a = f b → a = b) (ks : List α) (x : α) (hx : x ∉ ks) : putK (dg f ks) (f x) (V.int ((ks.length : Nat) : Int)) = dg f (ks ++ [x]) := by
  unfold putK
  rw [if_neg (by rw [dg_any hf]; simp [hx]), dg_snoc]
end
def kI (x : Int) : L2.Key := Sum.inl x
theorem kI_inj : ∀ a b, kI a = kI b → a = b := fun _ _ e => Sum.inl.inj e
def kP (x : Int × Int) : List L2.Key := [Sum.inl x.1, Sum.inl x.2]
theorem kP_inj : ∀ a b, kP a = kP b → a = b := fun a b e => by
  unfold kP at e
  simp only [List.cons.injEq, Sum.inl.injEq, and_true] at e
  exact Prod.ext e.1 e.2
theorem take_snoc {α : Type} {xs : List α} {i : Nat} {x : α} (h : xs[i]? = some x) : xs.take (i + 1) = xs.take i ++ [x] := by
  rw [List.take_add_one, h]
  rfl
theorem small_of {n : Nat} (h : n ≤ 100000) : n < sizeLine := Nat.lt_of_le_of_lt h (by decide)
/-- one more: what comes, where the key is there, where it isn't -/
theorem num_old {α : Type} [DecidableEq α] {xs : List α} {x : α} (h : x ∈ firsts xs) : num (xs ++ [x]) = num xs ++ [(((firsts xs).idxOf x : Nat) : Int)] ∧ firsts (xs ++ [x]) = firsts xs := by
  rw [num_snoc, firsts_snoc, if_pos h]
  exact ⟨rfl, if_pos h⟩
theorem num_new {α : Type} [DecidableEq α] {xs : List α} {x : α} (h : x ∉ firsts xs) : num (xs ++ [x]) = num xs ++ [((firsts xs).length : Int)] ∧ firsts (xs ++ [x]) = firsts xs ++ [x] := by
  rw [num_snoc, firsts_snoc, if_neg h]
  exact ⟨rfl, if_neg h⟩
theorem firsts_le {α : Type} [DecidableEq α] (xs : List α) : (firsts xs).length ≤ xs.length := by
  refine firsts_rec (P := fun xs => (firsts xs).length ≤ xs.length) (Nat.le_refl _) (fun xs x h => ?_) xs
  rw [firsts_snoc]
  unfold ins
  split
  · rw [List.length_append]
    omega
  · rw [List.length_append, List.length_append]
    show _ + 1 ≤ _ + 1
    omega
section
variable {P : Program} {w : World} {K : PySem.W.Frag} {mg : Str → Option Value} {base : Heap}
abbrev s_numbered : Stmt := topS 15
theorem sc_numbered : FnScope ["blocks", "numbers", "block"] ["blocks"] (defScope s_numbered) := ⟨rfl, rfl, rfl, by decide +kernel, rfl, by decide +kernel, by decide +kernel⟩
/-- numbered of whole numbers: a tuple (b = true), a list -/
def spNumT : Sp := fun vs H Q _ => ∃ a xs, vs = [.ref a] ∧ TI H a xs ∧ xs.length ≤ 1000 ∧ ∀ H' p, Same H H' → TI H' p (num xs) → Q (.ref p) H'
def spNumL : Sp := fun vs H Q _ => ∃ (a : Addr) (xs : List Int), vs = [.ref a] ∧ H a = some (.lst (xs.map V.int)) ∧ xs.length ≤ 1000 ∧ ∀ H' p, Same H H' → TI H' p (num xs) → Q (.ref p) H'
/-- of pairs -/
def PairsAt (H : Hp) (ts : List Addr) (xs : List (Int × Int)) : Prop := ts.length = xs.length ∧ ∀ (i : Nat) (t : Addr), ts[i]? = some t → ∃ x, xs[i]? = some x ∧ H t = some (.tup [.int x.1, .int x.2])
def spNumP : Sp := fun vs H Q _ => ∃ (a : Addr) (ts : List Addr) (xs : List (Int × Int)), vs = [.ref a] ∧ H a = some (.lst (ts.map V.ref)) ∧ PairsAt H ts xs ∧ xs.length ≤ 1000 ∧ ∀ H' p, Same H H' → TI H' p (num xs) → Q (.ref p) H'
theorem ok_numberedT (D : DefAt K mg "numbered" s_numbered) (T : Bt mg) : Use P w K mg base "numbered" 1 ["blocks"] spNumT := by
  refine use_of D (fun f fd F => F.ok sc_numbered (fun vs H Q E h => ?_) (fun cdv A outer s H vs Q E hr h => ?_)) (fun _ _ _ _ _ _ us hl => match us, hl with | [_], _ => rfl)
  · obtain ⟨a, p, rfl, _⟩ := h
    rfl
  · obtain ⟨a, xs, rfl, hp, hl, q⟩ := h
    refine ⟨_, (pss_cons (ps_set (i := 1) sc_numbered.nd rfl (Or.inr rfl) pe_dnewK)
      (pss_one (ps_ret (pe_callTy (k_tupOf (K := K) rfl) (by rfl) T.tuple (by decide +kernel) (pa_cons (pe_lc (own := [("block", 2)]) rfl sc_numbered.nd (k_tup (K := K) rfl (pv 0)) (blkOk_by (N := ["blocks", "numbers", "block"]) (sc := defScope s_numbered) (by decide +kernel)) (fun _ _ _ _ _ => (pg_name (i := 2) sc_numbered.nd rfl (Or.inl rfl))) (fun _ _ _ _ _ => pts_nil) (fun _ _ _ _ _ => (pe_dsetd (pv 1) (pv 2) (pe_callB call_lenD (by rfl) T.len PySem.boot_len (pa_cons (pv 1) pa_nil)) ⟨by rfl, by rfl, by rfl, by rfl⟩))) pa_nil))))), ?_⟩
    refine fun d nd => ?_
    have s0 : Same H (upd H d (.dK [])) := same_new nd
    refine ⟨_, rfl, a, rfl, ⟨_, (hp.mono s0).seq⟩, fun L nL => ?_⟩
    have s1 : Same H (upd (upd H d (.dK [])) L (.lst [])) := s0.trans (same_new nL)
    have ndL : d ≠ L := fun e => by rw [e, upd_same] at nL; cases nL
    refine lc_tup (K := K) (a := a) (xs := xs.map V.int) (fun i H1 => Same H H1 ∧ H1 d = some (.dK (dg kI (firsts (xs.take i)))) ∧ H1 L = some (.lst ((num (xs.take i)).map V.int)))
      ⟨s1, ?_, ?_⟩ (fun i H1 _ ⟨sm, _, _⟩ => (hp.mono sm).seq) ?_ ?_
    · rw [upd_ne ndL, upd_same]
      rfl
    · rw [upd_same]
      rfl
    · rintro i v H1 hi ⟨sm, ed, eL⟩
      obtain ⟨x, hx, rfl⟩ := map_at hi
      refine ⟨rfl, ?_⟩
      refine ⟨_, rfl, d, rfl, .inl ⟨_, .inl ed⟩, _, rfl, _, rfl, d, _, rfl, ed, _, kI x, ed, rfl, ?_, fun v hv => ?_, fun hn => ?_⟩
      · rw [dg_len]
        have := firsts_le (xs.take i)
        rw [List.length_take] at this
        exact small_of (by omega)
      · rw [dg_val kI_inj _ _ (firsts_nodup _)] at hv
        by_cases hm : x ∈ firsts (xs.take i)
        · rw [if_pos hm] at hv
          cases hv
          obtain ⟨e1, e2⟩ := num_old hm
          refine ⟨_, eL, ?_, ?_⟩
          · rw [List.length_map, num_len, List.length_take]
            exact small_of (by omega)
          · rw [take_snoc hx, e1, e2]
            refine ⟨same_mut sm (s0.free nL), ?_, ?_⟩
            · rw [upd_ne ndL]
              exact ed
            · rw [upd_same, List.map_append]
              rfl
        · rw [if_neg hm] at hv
          cases hv
      · rw [dg_val kI_inj _ _ (firsts_nodup _)] at hn
        by_cases hm : x ∈ firsts (xs.take i)
        · rw [if_pos hm] at hn
          cases hn
        · obtain ⟨e1, e2⟩ := num_new hm
          rw [dg_len]
          refine ⟨_, by rw [upd_ne ndL.symm]; exact eL, ?_, ?_⟩
          · rw [List.length_map, num_len, List.length_take]
            exact small_of (by omega)
          · rw [take_snoc hx, e1, e2]
            refine ⟨same_mut (same_mut sm nd) (s0.free nL), ?_, ?_⟩
            · rw [upd_ne ndL, upd_same, dg_put kI_inj _ _ hm]
            · rw [upd_same, List.map_append]
              rfl
    · rintro H1 ⟨sm, ed, eL⟩
      refine ⟨L, _, rfl, .inl ⟨.inl (.inl eL), fun l hl => ?_⟩⟩
      refine q _ l (sm.trans (same_new hl)) ?_
      show upd H1 l _ l = _
      rw [upd_same, List.length_map, List.take_length]
end
end KQ
namespace KQ
open PySem PySem.Spec PyProof.Rows L2 KR KM
section
variable {P : Program} {w : World} {K : PySem.W.Frag} {mg : Str → Option Value} {base : Heap}
theorem ok_numberedL (D : DefAt K mg "numbered" s_numbered) (T : Bt mg) : Use P w K mg base "numbered" 1 ["blocks"] spNumL := by
  refine use_of D (fun f fd F => F.ok sc_numbered (fun vs H Q E h => ?_) (fun cdv A outer s H vs Q E hr h => ?_)) (fun _ _ _ _ _ _ us hl => match us, hl with | [_], _ => rfl)
  · obtain ⟨a, p, rfl, _⟩ := h
    rfl
  · obtain ⟨a, xs, rfl, hp, hl, q⟩ := h
    refine ⟨_, (pss_cons (ps_set (i := 1) sc_numbered.nd rfl (Or.inr rfl) pe_dnewK)
      (pss_one (ps_ret (pe_callTy (k_tupOf (K := K) rfl) (by rfl) T.tuple (by decide +kernel) (pa_cons (pe_lc (own := [("block", 2)]) rfl sc_numbered.nd (k_list (K := K) rfl (pv 0)) (blkOk_by (N := ["blocks", "numbers", "block"]) (sc := defScope s_numbered) (by decide +kernel)) (fun _ _ _ _ _ => (pg_name (i := 2) sc_numbered.nd rfl (Or.inl rfl))) (fun _ _ _ _ _ => pts_nil) (fun _ _ _ _ _ => (pe_dsetd (pv 1) (pv 2) (pe_callB call_lenD (by rfl) T.len PySem.boot_len (pa_cons (pv 1) pa_nil)) ⟨by rfl, by rfl, by rfl, by rfl⟩))) pa_nil))))), ?_⟩
    refine fun d nd => ?_
    have s0 : Same H (upd H d (.dK [])) := same_new nd
    refine ⟨_, rfl, a, rfl, ⟨_, .inl (.inl (s0 _ _ hp))⟩, fun L nL => ?_⟩
    have s1 : Same H (upd (upd H d (.dK [])) L (.lst [])) := s0.trans (same_new nL)
    have ndL : d ≠ L := fun e => by rw [e, upd_same] at nL; cases nL
    refine lc_list (K := K) (a := a) (xs := xs.map V.int) (fun i H1 => Same H H1 ∧ H1 d = some (.dK (dg kI (firsts (xs.take i)))) ∧ H1 L = some (.lst ((num (xs.take i)).map V.int)))
      ⟨s1, ?_, ?_⟩ (fun i H1 _ ⟨sm, _, _⟩ => .inl (.inl (sm _ _ hp))) ?_ ?_
    · rw [upd_ne ndL, upd_same]
      rfl
    · rw [upd_same]
      rfl
    · rintro i v H1 hi ⟨sm, ed, eL⟩
      obtain ⟨x, hx, rfl⟩ := map_at hi
      refine ⟨rfl, ?_⟩
      refine ⟨_, rfl, d, rfl, .inl ⟨_, .inl ed⟩, _, rfl, _, rfl, d, _, rfl, ed, _, kI x, ed, rfl, ?_, fun v hv => ?_, fun hn => ?_⟩
      · rw [dg_len]
        have := firsts_le (xs.take i)
        rw [List.length_take] at this
        exact small_of (by omega)
      · rw [dg_val kI_inj _ _ (firsts_nodup _)] at hv
        by_cases hm : x ∈ firsts (xs.take i)
        · rw [if_pos hm] at hv
          cases hv
          obtain ⟨e1, e2⟩ := num_old hm
          refine ⟨_, eL, ?_, ?_⟩
          · rw [List.length_map, num_len, List.length_take]
            exact small_of (by omega)
          · rw [take_snoc hx, e1, e2]
            refine ⟨same_mut sm (s0.free nL), ?_, ?_⟩
            · rw [upd_ne ndL]
              exact ed
            · rw [upd_same, List.map_append]
              rfl
        · rw [if_neg hm] at hv
          cases hv
      · rw [dg_val kI_inj _ _ (firsts_nodup _)] at hn
        by_cases hm : x ∈ firsts (xs.take i)
        · rw [if_pos hm] at hn
          cases hn
        · obtain ⟨e1, e2⟩ := num_new hm
          rw [dg_len]
          refine ⟨_, by rw [upd_ne ndL.symm]; exact eL, ?_, ?_⟩
          · rw [List.length_map, num_len, List.length_take]
            exact small_of (by omega)
          · rw [take_snoc hx, e1, e2]
            refine ⟨same_mut (same_mut sm nd) (s0.free nL), ?_, ?_⟩
            · rw [upd_ne ndL, upd_same, dg_put kI_inj _ _ hm]
            · rw [upd_same, List.map_append]
              rfl
    · rintro H1 ⟨sm, ed, eL⟩
      refine ⟨L, _, rfl, .inl ⟨.inl (.inl eL), fun l hl => ?_⟩⟩
      refine q _ l (sm.trans (same_new hl)) ?_
      show upd H1 l _ l = _
      rw [upd_same, List.length_map, List.take_length]
theorem ok_numberedP (D : DefAt K mg "numbered" s_numbered) (T : Bt mg) : Use P w K mg base "numbered" 1 ["blocks"] spNumP := by
  refine use_of D (fun f fd F => F.ok sc_numbered (fun vs H Q E h => ?_) (fun cdv A outer s H vs Q E hr h => ?_)) (fun _ _ _ _ _ _ us hl => match us, hl with | [_], _ => rfl)
  · obtain ⟨a, ts, p, rfl, _⟩ := h
    rfl
  · obtain ⟨a, ts, xs, rfl, hp, ⟨pl, pt⟩, hl, q⟩ := h
    refine ⟨_, (pss_cons (ps_set (i := 1) sc_numbered.nd rfl (Or.inr rfl) pe_dnewT)
      (pss_one (ps_ret (pe_callTy (k_tupOf (K := K) rfl) (by rfl) T.tuple (by decide +kernel) (pa_cons (pe_lc (own := [("block", 2)]) rfl sc_numbered.nd (k_list (K := K) rfl (pv 0)) (blkOk_by (N := ["blocks", "numbers", "block"]) (sc := defScope s_numbered) (by decide +kernel)) (fun _ _ _ _ _ => (pg_name (i := 2) sc_numbered.nd rfl (Or.inl rfl))) (fun _ _ _ _ _ => pts_nil) (fun _ _ _ _ _ => (pe_dsetdT (hu_of hr) (pv 1) (pv 2) (pe_callB call_len_dT (by rfl) T.len PySem.boot_len (pa_cons (pv 1) pa_nil)) ⟨by rfl, by rfl, by rfl, by rfl⟩))) pa_nil))))), ?_⟩
    refine fun d nd => ?_
    have s0 : Same H (upd H d (.dT [])) := same_new nd
    refine ⟨_, rfl, a, rfl, ⟨_, .inl (.inl (s0 _ _ hp))⟩, fun L nL => ?_⟩
    have s1 : Same H (upd (upd H d (.dT [])) L (.lst [])) := s0.trans (same_new nL)
    have ndL : d ≠ L := fun e => by rw [e, upd_same] at nL; cases nL
    refine lc_list (K := K) (a := a) (xs := ts.map V.ref) (fun i H1 => Same H H1 ∧ H1 d = some (.dT (dg kP (firsts (xs.take i)))) ∧ H1 L = some (.lst ((num (xs.take i)).map V.int)))
      ⟨s1, ?_, ?_⟩ (fun i H1 _ ⟨sm, _, _⟩ => .inl (.inl (sm _ _ hp))) ?_ ?_
    · rw [upd_ne ndL, upd_same]
      rfl
    · rw [upd_same]
      rfl
    · rintro i v H1 hi ⟨sm, ed, eL⟩
      obtain ⟨t, ht, rfl⟩ := map_at hi
      obtain ⟨x, hx, et⟩ := pt i t ht
      have et1 : H1 t = some (.tup ((kP x).map kV)) := sm _ _ et
      refine ⟨rfl, ?_⟩
      refine ⟨_, rfl, d, rfl, .inr ⟨_, .inl ed⟩, _, rfl, _, rfl, d, _, rfl, ed, _, kP x, t, ed, rfl, et1, ?_, fun v hv => ?_, fun hn => ?_⟩
      · rw [dg_len]
        have := firsts_le (xs.take i)
        rw [List.length_take] at this
        exact small_of (by omega)
      · rw [dg_val kP_inj _ _ (firsts_nodup _)] at hv
        by_cases hm : x ∈ firsts (xs.take i)
        · rw [if_pos hm] at hv
          cases hv
          obtain ⟨e1, e2⟩ := num_old hm
          refine ⟨_, eL, ?_, ?_⟩
          · rw [List.length_map, num_len, List.length_take]
            exact small_of (by omega)
          · rw [take_snoc hx, e1, e2]
            refine ⟨same_mut sm (s0.free nL), ?_, ?_⟩
            · rw [upd_ne ndL]
              exact ed
            · rw [upd_same, List.map_append]
              rfl
        · rw [if_neg hm] at hv
          cases hv
      · rw [dg_val kP_inj _ _ (firsts_nodup _)] at hn
        by_cases hm : x ∈ firsts (xs.take i)
        · rw [if_pos hm] at hn
          cases hn
        · obtain ⟨e1, e2⟩ := num_new hm
          rw [dg_len]
          refine ⟨_, by rw [upd_ne ndL.symm]; exact eL, ?_, ?_⟩
          · rw [List.length_map, num_len, List.length_take]
            exact small_of (by omega)
          · rw [take_snoc hx, e1, e2]
            refine ⟨same_mut (same_mut sm nd) (s0.free nL), ?_, ?_⟩
            · rw [upd_ne ndL, upd_same, dg_put kP_inj _ _ hm]
            · rw [upd_same, List.map_append]
              rfl
    · rintro H1 ⟨sm, ed, eL⟩
      refine ⟨L, _, rfl, .inl ⟨.inl (.inl eL), fun l hl => ?_⟩⟩
      refine q _ l (sm.trans (same_new hl)) ?_
      show upd H1 l _ l = _
      rw [upd_same, List.length_map, pl, List.take_length]
def spPof : Sp := fun vs H Q _ => ∃ a xs, vs = [.ref a] ∧ TI H a xs ∧ xs ≠ [] ∧ xs.length ≤ 60 ∧ ∀ H' p, Same H H' → TI H' p (num xs) → Q (.ref p) H'
/-- unlike doors below many -/
structure Drs (ds : List Int) (many : Int) : Prop where
  ne : ds ≠ []
  le : ds.length ≤ 60
  nd : ds.Nodup
  at_ : ∀ d ∈ ds, 0 ≤ d ∧ d < many
def spDrs : Sp := fun vs H Q _ => ∃ a ds many, vs = [.ref a, .int many] ∧ TI H a ds ∧ Drs ds many ∧ ∀ H', Same H H' → Q .non H'
end
end KQ
namespace KQ
open PySem PySem.Spec PyProof.Rows L2 KR KM StX
section
variable {P : Program} {w : World} {K : PySem.W.Frag} {mg : Str → Option Value} {base : Heap}
/-- a list of tuples of whole numbers; a tuple of such -/
def LT (H : Hp) (a : Addr) (xss : List (List Int)) : Prop := ∃ ts : List Addr, H a = some (.lst (ts.map V.ref)) ∧ ts.length = xss.length ∧ ∀ (i : Nat) (t : Addr), ts[i]? = some t → ∃ xs, xss[i]? = some xs ∧ TI H t xs
def TT (H : Hp) (a : Addr) (xss : List (List Int)) : Prop := ∃ ts : List Addr, H a = some (.tup (ts.map V.ref)) ∧ ts.length = xss.length ∧ ∀ (i : Nat) (t : Addr), ts[i]? = some t → ∃ xs, xss[i]? = some xs ∧ TI H t xs
theorem TT.mono {H H' : Hp} {a : Addr} {xss : List (List Int)} (h : TT H a xss) (e : Same H H') : TT H' a xss := by
  obtain ⟨ts, h1, h2, h3⟩ := h
  exact ⟨ts, e _ _ h1, h2, fun i t ht => let ⟨xs, q1, q2⟩ := h3 i t ht; ⟨xs, q1, q2.mono e⟩⟩
theorem LT.mono {H H' : Hp} {a : Addr} {xss : List (List Int)} (h : LT H a xss) (e : Same H H') : LT H' a xss := by
  obtain ⟨ts, h1, h2, h3⟩ := h
  exact ⟨ts, e _ _ h1, h2, fun i t ht => let ⟨xs, q1, q2⟩ := h3 i t ht; ⟨xs, q1, q2.mono e⟩⟩
def pick (p ds : List Int) : List Int := ds.map fun d => p.getD d.toNat 0
theorem get_of {p : List Int} {d : Int} (h0 : 0 ≤ d) (h1 : d < p.length) : p[d.toNat]? = some (p.getD d.toNat 0) := by
  have h : d.toNat < p.length := by omega
  rw [List.getElem?_eq_getElem h, List.getD_eq_getElem?_getD, List.getElem?_eq_getElem h]
  rfl
def spSome : Sp := fun vs H Q _ => ∃ a b p ds, vs = [.ref a, .ref b] ∧ TI H a p ∧ TI H b ds ∧ Par p ∧ Drs ds p.length ∧ ∀ H' r, Same H H' → TI H' r (num (pick p ds)) → Q (.ref r) H'
/-- the rows: a list of lists -/
def Rows (H : Hp) (a : Addr) (p : List Int) (many : Nat) : Prop := ∃ rs : List Addr, H a = some (.lst (rs.map V.ref)) ∧ rs.length = many ∧ rs.Nodup ∧ ∀ (b : Nat) (t : Addr), rs[b]? = some t → H t = some (.lst ((doorsOf p b).map V.int))
def spRows : Sp := fun vs H Q _ => ∃ a p, vs = [.ref a] ∧ TI H a p ∧ Par p ∧ ∀ H' l, Same H H' → Rows H' l p (bc 0 p).toNat → Q (.ref l) H'
end
end KQ
namespace KQ
open PySem PySem.Spec PyProof.Rows L2 KR KM StX
section
variable {P : Program} {w : World} {K : PySem.W.Frag} {mg : Str → Option Value} {base : Heap}
def blockList (p : List Int) : List (List Int) := (List.range (bc 0 p).toNat).map fun b => doorsOf p ((b : Nat) : Int)
theorem blockList_at {p : List Int} {b : Nat} (h : b < (bc 0 p).toNat) : (blockList p)[b]? = some (doorsOf p b) := by
  unfold blockList
  rw [List.getElem?_map, List.getElem?_range h]
  rfl
def spBlocks : Sp := fun vs H Q _ => ∃ a p, vs = [.ref a] ∧ TI H a p ∧ Par p ∧ ∀ H' r, Same H H' → TT H' r (blockList p) → Q (.ref r) H'
def besideP (p r : List Int) : List Int := p ++ r.map fun b => bc 0 p + b
def spBeside : Sp := fun vs H Q _ => ∃ a b p r, vs = [.ref a, .ref b] ∧ TI H a p ∧ TI H b r ∧ Par p ∧ Par r ∧ p.length + r.length ≤ 60 ∧ ∀ H' t, Same H H' → TI H' t (besideP p r) → Q (.ref t) H'
/-- two doors in one block of the one are in one block of the other -/
def Finer (p r : List Int) : Prop := ∀ (i j : Nat) (x y z : Int), p[i]? = some x → p[j]? = some x → r[i]? = some y → r[j]? = some z → y = z
def spLies : Sp := fun vs H Q _ => ∃ a b p r, vs = [.ref a, .ref b] ∧ TI H a p ∧ TI H b r ∧ p.length = r.length ∧ p.length ≤ 60 ∧ ∀ H' c, Same H H' → (c = true ↔ Finer p r) → Q (.bl c) H'
/-- what the dict knows: each block of the one so far with that of the other at its first door -/
def Known (p r : List Int) (i : Nat) (kvs : List (L2.Key × V)) : Prop := kvs.length ≤ i ∧ ∀ x : Int, (∀ v, valV kvs (kI x) = some v → ∃ (j : Nat) (y : Int), j < i ∧ p[j]? = some x ∧ r[j]? = some y ∧ v = .int y) ∧
  (valV kvs (kI x) = none → ∀ j, j < i → p[j]? ≠ some x)
theorem valV_put {κ : Type} [DecidableEq κ] (kvs : List (κ × V)) (k k' : κ) (v : V) (h : valV kvs k = none) : valV (putK kvs k v) k' = if k' = k then some v else valV kvs k' := by
  have hn : (kvs.any fun kv => decide (kv.1 = k)) = false := by
    unfold valV at h
    rw [Option.map_eq_none_iff, List.find?_eq_none] at h
    rw [List.any_eq_false]
    exact h
  unfold putK
  rw [if_neg (by rw [hn]; exact Bool.false_ne_true)]
  unfold valV
  rw [List.find?_append, Option.map_or]
  by_cases e : k' = k
  · subst e
    rw [if_pos rfl]
    unfold valV at h
    rw [h]
    simp
  · rw [if_neg e]
    have e2 : ¬ k = k' := fun q => e q.symm
    simp [e2]
theorem putK_len {κ : Type} [DecidableEq κ] (kvs : List (κ × V)) (k : κ) (v : V) : (putK kvs k v).length ≤ kvs.length + 1 := length_putK kvs k v
end
end KQ
namespace KQ
open PySem PySem.Spec PyProof.Rows L2 KR KM StX
section
variable {P : Program} {w : World} {K : PySem.W.Frag} {mg : Str → Option Value} {base : Heap}
def spFiner : Sp := fun vs H Q _ => ∃ a b p r, vs = [.ref a, .ref b] ∧ TI H a p ∧ TI H b r ∧ Par p ∧ Par r ∧ p.length = r.length ∧ ∀ H' c, Same H H' → (c = true ↔ Finer p r) → Q (.bl c) H'
def spBelow : Sp := fun vs H Q _ => ∃ a b p r, vs = [.ref a, .ref b] ∧ TI H a p ∧ TI H b r ∧ Par p ∧ Par r ∧ p.length = r.length ∧ ∀ H' t, Same H H' → TI H' t (num (p.zip r)) → Q (.ref t) H'
theorem zipped_pairs {p r : List Int} {H H' : Hp} {ts : List Addr} (hl : p.length = r.length) (tl : ts.length = (p.map V.int).length)
    (tt : ∀ (i : Nat) (t : Addr), ts[i]? = some t → H t = none ∧ ∃ x y, (p.map V.int)[i]? = some x ∧ (r.map V.int)[i]? = some y ∧ H' t = some (.tup [x, y])) : PairsAt H' ts (p.zip r) := by
  refine ⟨?_, fun i t ht => ?_⟩
  · rw [tl, List.length_map, List.length_zip]
    omega
  · obtain ⟨_, x, y, h1, h2, h3⟩ := tt i t ht
    obtain ⟨x', hx, rfl⟩ := map_at h1
    obtain ⟨y', hy, rfl⟩ := map_at h2
    refine ⟨(x', y'), ?_, h3⟩
    rw [List.getElem?_zip_eq_some]
    exact ⟨hx, hy⟩
def spPofD : Sp := fun vs H Q _ => ∃ n : Nat, vs = [.int ((n + 1 : Nat) : Int)] ∧ n < 8 ∧ ∀ H' t, Same H H' → TT H' t (allP n) → Q (.ref t) H'
end
end KQ
namespace KQ
open PySem PySem.Spec PyProof.Rows L2 KR KM StX
section
variable {P : Program} {w : World} {K : PySem.W.Frag} {mg : Str → Option Value} {base : Heap}
/-! ### clumps -/
def cf (l : Addr) (m : Int) : List (Str × V) := putF "many" (.int m) (putF "heads" (.ref l) [])
theorem hm_ne : ¬ (("heads" : Str) = "many") := by decide +kernel
theorem cf_heads (l : Addr) (m : Int) : (cf l m).lookup ("heads" : Str) = some (.ref l) := by
  unfold cf
  rw [lookup_putF, if_neg hm_ne, lookup_putF, if_pos rfl]
theorem cf_many (l : Addr) (m : Int) : (cf l m).lookup ("many" : Str) = some (.int m) := by
  unfold cf
  rw [lookup_putF, if_pos rfl]
theorem cf_no (l : Addr) (m : Int) {x : Str} (h1 : ¬ x = "many") (h2 : ¬ x = "heads") : (cf l m).lookup x = none := by
  unfold cf
  rw [lookup_putF, if_neg h1, lookup_putF, if_neg h2]
  rfl
theorem cf_eq (l : Addr) (m : Int) : cf l m = ([("heads", V.ref l), ("many", V.int m)] : List (Str × V)) := by
  show (if ("heads" : Str) = "many" then [(("heads" : Str), V.int m)] else (("heads" : Str), V.ref l) :: putF "many" (V.int m) []) = _
  rw [if_neg hm_ne]
  rfl
theorem cf_put (l : Addr) (m m' : Int) : putF "many" (.int m') (cf l m) = cf l m' := by
  rw [cf_eq, cf_eq]
  show (if ("heads" : Str) = "many" then _ else (("heads" : Str), V.ref l) :: (if ("many" : Str) = "many" then [(("many" : Str), V.int m')] else _)) = _
  rw [if_neg hm_ne, if_pos rfl]
def hv (hs : List Nat) : List V := hs.map fun n => V.int ((n : Nat) : Int)
/-- clumps stand at o, their heads in the list at l -/
def CAt (C : Addr) (H : Hp) (o l : Addr) (hs : List Nat) (m : Int) : Prop := (∃ dx, H o = some (.ins C dx (cf l m))) ∧ H l = some (.lst (hv hs))
def But (l : Addr) (H H' : Hp) : Prop := ∀ b u, H b = some u → b ≠ l → H' b = some u
theorem hv_at {hs : List Nat} {x : Nat} (h : x < hs.length) : (hv hs)[x]? = some (.int ((up hs x : Nat) : Int)) := by
  unfold hv up
  rw [List.getElem?_map, List.getElem?_eq_getElem h, List.getD_eq_getElem?_getD, List.getElem?_eq_getElem h]
  rfl
theorem hv_set (hs : List Nat) (x v : Nat) : (hv hs).set x (.int ((v : Nat) : Int)) = hv (hs.set x v) := by
  unfold hv
  rw [List.map_set]
theorem hv_len (hs : List Nat) : (hv hs).length = hs.length := List.length_map ..
theorem rgV_hv (n : Nat) : rgV 0 ((n : Nat) : Int) = hv (List.range n) := by
  unfold rgV hv
  rw [show (((n : Nat) : Int) - 0).toNat = n by omega]
  refine List.map_congr_left fun x _ => ?_
  show V.int (0 + _) = _
  rw [Int.zero_add]
abbrev s_Clumps___init__ : Stmt := inClass (topS 29) 0
theorem sc_Clumps___init__ : FnScope ["self", "number"] ["self", "number"] (defScope s_Clumps___init__) := ⟨rfl, rfl, rfl, by decide +kernel, rfl, by decide +kernel, by decide +kernel⟩
def spInit (C : Addr) : Sp := fun vs H Q _ => ∃ (o dx : Addr) (n : Nat), vs = [.ref o, .int ((n : Nat) : Int)] ∧ H o = some (.ins C dx []) ∧ n ≤ 1000 ∧
  ∀ H' l, CAt C H' o l (List.range n) n → H l = none → But o H H' → Q .non H'
theorem ok_init {C : Addr} (D : IAt K C "Clumps.__init__" s_Clumps___init__) (T : Bt mg) (cC : Cls K C) (nH : NoAttr K C "heads") (nM : NoAttr K C "many") (hm : mg "Clumps" = some (.ref C)) :
    KUse P w K mg base C "Clumps" 1 ["self", "number"] (spInit C) := by
  refine kuse_of D hm (fun f fd F => F.ok sc_Clumps___init__ (fun vs H Q E h => ?_) (fun cdv A outer s H vs Q E hr h => ?_)) (fun _ _ _ _ _ _ us hl => match us, hl with | [_, _], _ => rfl)
  · obtain ⟨o, dx, n, rfl, _⟩ := h
    rfl
  · obtain ⟨o, dx, n, rfl, ho, hn, q⟩ := h
    refine ⟨_, (pss_cons (ps_fld (pv 0) (pe_listRg rfl (by rfl) T.list (prg_1 (by rfl) T.range (pv 1))) rfl)
      (pss_one (ps_fld (pv 0) (pv 1) rfl))), ?_⟩
    refine ⟨_, rfl, _, rfl, RgOk.of_le (by omega) (by omega) (by omega) (by omega), fun l nl => ?_⟩
    have nol : o ≠ l := ne_of_none ho nl
    refine ⟨_, rfl, o, C, dx, [], rfl, by rw [upd_ne nol]; exact ho, cC, nH, by show 0 < 1000; decide, ?_⟩
    refine ⟨_, rfl, _, rfl, o, C, dx, _, rfl, upd_same, cC, nM, by show 1 < 1000; decide, ?_⟩
    refine q _ l ⟨⟨dx, upd_same⟩, ?_⟩ nl (fun b u hb hne => ?_)
    · rw [upd_ne nol.symm, upd_ne nol.symm, upd_same]
      exact congrArg (fun z => some (HO.lst z)) (rgV_hv n)
    · rw [upd_ne hne, upd_ne hne, upd_ne (ne_of_none hb nl)]
      exact hb
abbrev s_Clumps_head : Stmt := inClass (topS 29) 1
theorem sc_Clumps_head : FnScope ["self", "thing"] ["self", "thing"] (defScope s_Clumps_head) := ⟨rfl, rfl, rfl, by decide +kernel, rfl, by decide +kernel, by decide +kernel⟩
def spHead (C : Addr) : Sp := fun vs H Q _ => ∃ (o l : Addr) (hs : List Nat) (m : Int) (x : Nat), vs = [.ref o, .int ((x : Nat) : Int)] ∧ CAt C H o l hs m ∧ Dn hs ∧ x < hs.length ∧
  ∀ H' hs', CAt C H' o l hs' m → Dn hs' → hs'.length = hs.length → (∀ y, root hs' y = root hs y) → But l H H' → Q (.int ((root hs x : Nat) : Int)) H'
theorem ok_head {C : Addr} (D : MAt K C "head" "Clumps.head" s_Clumps_head) (T : Bt mg) (cC : Cls K C) (nH : NoAttr K C "heads") : MUse P w K mg base C "head" 1 ["self", "thing"] (spHead C) := by
  refine muse_of D (fun f fd F => F.ok sc_Clumps_head (fun vs H Q E h => ?_) (fun cdv A outer s H vs Q E hr h => ?_)) (fun _ _ _ _ _ _ us hl => match us, hl with | [_, _], _ => rfl)
  · obtain ⟨o, l, hs, m, x, rfl, _⟩ := h
    rfl
  · obtain ⟨o, l, hs, m, x, rfl, ⟨⟨dx, ho⟩, el⟩, dn, hx, q⟩ := h
    have nol : o ≠ l := ne_of ho el (by intro z; cases z)
    refine ⟨_, (pss_cons (ps_while PassesOwn.never (pt_cmpR op_ne (pe_ix (k_ixl (K := K) rfl) (k_fld (K := K) rfl (pv 0) rfl) (pv 1) (fun _ _ => rfl)) (pv 1) (nomark _)) (pss_cons (ps_asg (pe_ix (k_ixl (K := K) rfl) (k_fld (K := K) rfl (pv 0) rfl) (pe_ix (k_ixl (K := K) rfl) (k_fld (K := K) rfl (pv 0) rfl) (pv 1) (fun _ _ => rfl)) (fun _ _ => rfl)) (pg_sub (k_fld (K := K) rfl (pv 0) rfl) (pv 1) set_list))
      (pss_one (ps_set (i := 1) sc_Clumps_head.nd rfl (Or.inl rfl) (pe_ix (k_ixl (K := K) rfl) (k_fld (K := K) rfl (pv 0) rfl) (pv 1) (fun _ _ => rfl))))))
      (pss_one (ps_ret (pv 1)))), ?_⟩
    refine ⟨fun g σ H1 => ∃ (hs1 : List Nat) (y : Nat), σ = [some (.ref o), some (.int ((y : Nat) : Int))] ∧ g = y ∧ H1 o = some (.ins C dx (cf l m)) ∧ H1 l = some (.lst (hv hs1)) ∧ Dn hs1 ∧ hs1.length = hs.length ∧
      (∀ z, root hs1 z = root hs z) ∧ root hs y = root hs x ∧ y < hs.length ∧ But l H H1, ⟨x, hs, x, rfl, rfl, ho, el, dn, rfl, fun _ => rfl, rfl, hx, fun _ _ e _ => e⟩, ?_⟩
    rintro g σ H1 ⟨hs1, y, rfl, rfl, ho1, el1, dn1, hl1, hr1, hry, hy, but⟩
    have hy1 : g < hs1.length := by omega
    have a1 := hv_at hy1
    refine ⟨_, rfl, o, C, dx, _, _, rfl, ho1, cC, nH, cf_heads _ _, _, rfl, l, hv hs1, ((g : Nat) : Int), .int ((up hs1 g : Nat) : Int), rfl, rfl, .inl (.inl el1), atI_of rfl a1, _, rfl, rfl, _, rfl, ite2 (fun e => ?_) (fun e => ?_)⟩
    · have ne : up hs1 g ≠ g := by
        intro e2
        rw [e2, decide_eq_true rfl] at e
        cases e
      have lt : up hs1 g < g := by
        have := dn1 g
        omega
      have a2 := hv_at (show up hs1 g < hs1.length by omega)
      refine ⟨_, fun σ' H' n => n, ?_⟩
      refine ⟨_, rfl, o, C, dx, _, _, rfl, ho1, cC, nH, cf_heads _ _, _, rfl, o, C, dx, _, _, rfl, ho1, cC, nH, cf_heads _ _, _, rfl, l, _, _, _, rfl, rfl, .inl (.inl el1), atI_of rfl a1, l, _, _, _, rfl, rfl, .inl (.inl el1), atI_of rfl a2, ?_⟩
      refine ⟨_, rfl, o, C, dx, _, _, rfl, ho1, cC, nH, cf_heads _ _, _, rfl, l, _, _, _, rfl, rfl, el1, ixN_nat rfl (by rw [hv_len]; exact hy1), ?_⟩
      rw [hv_set]
      have ho2 : (upd H1 l (.lst (hv (hs1.set g (up hs1 (up hs1 g)))))) o = some (.ins C dx (cf l m)) := by rw [upd_ne nol]; exact ho1
      have hd2 := dn_set dn1 hy1 (Nat.le_trans (dn1 (up hs1 g)) (dn1 g))
      have a3 := hv_at (hs := hs1.set g (up hs1 (up hs1 g))) (x := g) (by rw [List.length_set]; exact hy1)
      rw [up_set hy1, if_pos rfl] at a3
      refine ⟨_, rfl, o, C, dx, _, _, rfl, ho2, cC, nH, cf_heads _ _, _, rfl, l, _, _, _, rfl, rfl, .inl (.inl upd_same), atI_of rfl a3, ?_⟩
      have lt2 : up hs1 (up hs1 g) < g := by
        have := dn1 (up hs1 g)
        omega
      refine ⟨up hs1 (up hs1 g), lt2, hs1.set g (up hs1 (up hs1 g)), up hs1 (up hs1 g), rfl, rfl, ho2, upd_same, hd2, by rw [List.length_set]; exact hl1, fun z => ?_, ?_, by omega, fun b u hb hne => ?_⟩
      · rw [root_halve dn1 hy1 z z (Nat.le_refl _)]
        exact hr1 z
      · rw [← hry, ← hr1, ← hr1 g, root_up dn1, root_up dn1]
      · rw [upd_ne hne]
        exact but b u hb hne
    · have e2 : up hs1 g = g := by
        apply Classical.byContradiction
        intro ne
        refine e ?_
        rw [decide_eq_false (fun z => ne (by have := V.int.inj z; omega))]
        rfl
      have e3 : root hs x = g := by
        rw [← hry, ← hr1, root_self dn1 e2]
      refine ⟨_, rfl, ?_⟩
      have := q H1 hs1 ⟨⟨dx, ho1⟩, el1⟩ dn1 hl1 hr1 but
      rw [e3] at this
      exact this
abbrev s_Clumps_unite : Stmt := inClass (topS 29) 2
theorem sc_Clumps_unite : FnScope ["self", "thing", "other", "here", "there"] ["self", "thing", "other"] (defScope s_Clumps_unite) := ⟨rfl, rfl, rfl, by decide +kernel, rfl, by decide +kernel, by decide +kernel⟩
def spUnite (C : Addr) : Sp := fun vs H Q _ => ∃ (o l : Addr) (hs : List Nat) (m : Int) (a b : Nat), vs = [.ref o, .int ((a : Nat) : Int), .int ((b : Nat) : Int)] ∧ CAt C H o l hs m ∧ Dn hs ∧ a < hs.length ∧ b < hs.length ∧
  ∀ H' hs', CAt C H' o l hs' (if root hs a = root hs b then m else m - 1) → Dn hs' → hs'.length = hs.length →
    (∀ y, root hs' y = if root hs y = max (root hs a) (root hs b) then min (root hs a) (root hs b) else root hs y) → (∀ c u, H c = some u → c ≠ l → c ≠ o → H' c = some u) → Q (.bl (!decide (root hs a = root hs b))) H'
theorem ok_unite {C : Addr} (D : MAt K C "unite" "Clumps.unite" s_Clumps_unite) (T : Bt mg) (cC : Cls K C) (nH : NoAttr K C "heads") (nM : NoAttr K C "many") (u_m_head : MUse P w K mg base C "head" 1 ["self", "thing"] (spHead C)) :
    MUse P w K mg base C "unite" 2 ["self", "thing", "other"] (spUnite C) := by
  refine muse_of D (fun f fd F => F.ok sc_Clumps_unite (fun vs H Q E h => ?_) (fun cdv A outer s H vs Q E hr h => ?_)) (fun _ _ _ _ _ _ us hl => match us, hl with | [_, _, _], _ => rfl)
  · obtain ⟨o, l, hs, m, a, b, rfl, _⟩ := h
    rfl
  · obtain ⟨o, l, hs, m, a, b, rfl, ⟨⟨dx, ho⟩, el⟩, dn, ha, hb, q⟩ := h
    refine ⟨_, (pss_cons (ps_set (i := 3) sc_Clumps_unite.nd rfl (Or.inl rfl) (pe_mUse (pv 0) cC u_m_head (by decide) hr (pa_cons (pv 1) pa_nil)))
      (pss_cons (ps_set (i := 4) sc_Clumps_unite.nd rfl (Or.inl rfl) (pe_mUse (pv 0) cC u_m_head (by decide) hr (pa_cons (pv 2) pa_nil)))
      (pss_cons (ps_if (pt_cmpR op_eq (pv 3) (pv 4) (nomark _)) (pss_one (ps_ret pe_bl)) pss_nil)
      (pss_cons (ps_asg (pe_callB (call_min2 rfl) (by rfl) T.min (by decide +kernel) (pa_cons (pv 3) (pa_cons (pv 4) pa_nil))) (pg_sub (k_fld (K := K) rfl (pv 0) rfl) (pe_callB (call_max2 rfl) (by rfl) T.max (by decide +kernel) (pa_cons (pv 3) (pa_cons (pv 4) pa_nil))) set_list))
      (pss_cons (ps_fldaug (pv 0) pe_int in_sub)
      (pss_one (ps_ret pe_bl))))))), ?_⟩
    refine ⟨_, rfl, o, dx, _, rfl, ho, cf_no _ _ (by decide +kernel) (by decide +kernel), _, rfl, o, l, hs, m, a, rfl, ⟨⟨dx, ho⟩, el⟩, dn, ha, fun H1 hs1 ⟨⟨dx1, ho1⟩, el1⟩ dn1 hl1 hr1 but1 => ?_⟩
    refine ⟨_, rfl, o, dx1, _, rfl, ho1, cf_no _ _ (by decide +kernel) (by decide +kernel), _, rfl, o, l, hs1, m, b, rfl, ⟨⟨dx1, ho1⟩, el1⟩, dn1, by omega, fun H2 hs2 ⟨⟨dx2, ho2⟩, el2⟩ dn2 hl2 hr2 but2 => ?_⟩
    have nol : o ≠ l := ne_of ho el (by intro z; cases z)
    have r2 : ∀ y, root hs2 y = root hs y := fun y => by rw [hr2, hr1]
    rw [hr1 b]
    refine ⟨_, rfl, _, rfl, rfl, _, rfl, ite2 (fun e => ?_) (fun e => ?_)⟩
    · have e1 : root hs a = root hs b := by
        have := V.int.inj (of_decide_eq_true e)
        omega
      have q1 := q H2 hs2
      rw [if_pos e1] at q1
      have q2 := q1 ⟨⟨dx2, ho2⟩, el2⟩ dn2 (by omega) (fun y => ?_) (fun c u hc h1 _ => but2 c u (but1 c u hc h1) h1)
      · rw [decide_eq_true e1] at q2
        exact q2
      · rw [r2, e1, Nat.max_self, Nat.min_self]
        split <;> omega
    · have e1 : ¬ root hs a = root hs b := fun z => e (decide_eq_true (by rw [z]))
      have la := root_le' dn a
      have lb := root_le' dn b
      have emax : (if ((root hs b : Nat) : Int) > ((root hs a : Nat) : Int) then ((root hs b : Nat) : Int) else ((root hs a : Nat) : Int)) = ((max (root hs a) (root hs b) : Nat) : Int) := by
        rcases Nat.lt_or_gt_of_ne e1 with g | g
        · rw [if_pos (by omega), Nat.max_eq_right (by omega)]
        · rw [if_neg (by omega), Nat.max_eq_left (by omega)]
      have emin : (if ((root hs b : Nat) : Int) < ((root hs a : Nat) : Int) then ((root hs b : Nat) : Int) else ((root hs a : Nat) : Int)) = ((min (root hs a) (root hs b) : Nat) : Int) := by
        rcases Nat.lt_or_gt_of_ne e1 with g | g
        · rw [if_neg (by omega), Nat.min_eq_left (by omega)]
        · rw [if_pos (by omega), Nat.min_eq_right (by omega)]
      have hmx : max (root hs a) (root hs b) < hs2.length := by omega
      refine ⟨_, rfl, _, rfl, _, _, rfl, ?_⟩
      refine ⟨_, rfl, o, C, dx2, _, _, rfl, ho2, cC, nH, cf_heads _ _, _, rfl, _, rfl, _, _, rfl, ?_⟩
      refine ⟨l, hv hs2, _, max (root hs a) (root hs b), rfl, rfl, el2, ixN_nat emax (by rw [hv_len]; exact hmx), ?_⟩
      rw [emin, hv_set]
      have ho3 : (upd H2 l (.lst (hv (hs2.set (max (root hs a) (root hs b)) (min (root hs a) (root hs b)))))) o = some (.ins C dx2 (cf l m)) := by
        rw [upd_ne nol]
        exact ho2
      refine ⟨_, rfl, o, C, dx2, _, _, rfl, ho3, cC, nM, cf_many _ _, m, 1, rfl, rfl, dx2, _, ho3, by rw [cf_eq]; show 2 < 1000; decide, ?_⟩
      have q1 := q (upd (upd H2 l (.lst (hv (hs2.set (max (root hs a) (root hs b)) (min (root hs a) (root hs b)))))) o (.ins C dx2 (cf l (m - 1)))) (hs2.set (max (root hs a) (root hs b)) (min (root hs a) (root hs b)))
      rw [if_neg e1] at q1
      have upa : up hs2 (root hs a) = root hs a := by
        rw [← r2 a]
        exact up_root dn2 a
      have upb : up hs2 (root hs b) = root hs b := by
        rw [← r2 b]
        exact up_root dn2 b
      have q2 := q1 ⟨⟨dx2, upd_same⟩, by rw [upd_ne nol.symm]; exact upd_same⟩ (dn_set dn2 hmx (by omega)) (by rw [List.length_set]; omega) (fun y => ?_) (fun c u hc h1 h2 => ?_)
      · rw [decide_eq_false e1] at q2
        have e9 : putF "many" (V.int (m - 1)) (cf l m) = cf l (m - 1) := cf_put l m (m - 1)
        show Q (.bl true) (upd _ o (.ins C dx2 (putF "many" (V.int (m - 1)) (cf l m))))
        rw [e9]
        exact q2
      · rw [← r2 y]
        rcases Nat.lt_or_gt_of_ne e1 with g | g
        · rw [Nat.max_eq_right (by omega), Nat.min_eq_left (by omega)]
          exact root_unite dn2 (by omega) upa upb g y y (Nat.le_refl _)
        · rw [Nat.max_eq_left (by omega), Nat.min_eq_right (by omega)]
          exact root_unite dn2 (by omega) upb upa g y y (Nat.le_refl _)
      · rw [upd_ne h2, upd_ne h1]
        exact but2 c u (but1 c u hc h1) h1
end
end KQ
namespace KQ
open PySem PySem.Spec PyProof.Rows L2 KR KM StX
section
variable {P : Program} {w : World} {K : PySem.W.Frag} {mg : Str → Option Value} {base : Heap}
abbrev s_finest_above : Stmt := topS 31
theorem sc_finest_above : FnScope ["parting", "other", "many", "clumps", "low", "high", "block"] ["parting", "other"] (defScope s_finest_above) := ⟨rfl, rfl, rfl, by decide +kernel, rfl, by decide +kernel, by decide +kernel⟩
def tiesOf (p r : List Int) : List (Nat × Nat) := (p.zip r).map fun q => (q.1.toNat, (bc 0 p + q.2).toNat)
theorem ties_at {p r : List Int} {i : Nat} {x y : Int} (hx : p[i]? = some x) (hy : r[i]? = some y) : (tiesOf p r)[i]? = some (x.toNat, (bc 0 p + y).toNat) := by
  unfold tiesOf
  refine at_map (x := (x, y)) ?_
  rw [List.getElem?_zip_eq_some]
  exact ⟨hx, hy⟩
theorem ties_len {p r : List Int} (h : p.length = r.length) : (tiesOf p r).length = p.length := by
  unfold tiesOf
  rw [List.length_map, List.length_zip]
  omega
def spAbove : Sp := fun vs H Q _ => ∃ a b p r, vs = [.ref a, .ref b] ∧ TI H a p ∧ TI H b r ∧ Par p ∧ Par r ∧ p.length = r.length ∧
  ∀ H' t (L : Nat → Int), Same H H' → (∀ x y, L x = L y ↔ glue (tiesOf p r) x y) → TI H' t (num (p.map fun b => L b.toNat)) → Q (.ref t) H'
theorem ok_finest_above {C : Addr} (D : DefAt K mg "finest_above" s_finest_above) (T : Bt mg) (cC : Cls K C) (u_need_two_partings : Use P w K mg base "need_two_partings" 6 ["parting", "other"] spTwo) (u_block_count : Use P w K mg base "block_count" 1 ["parting"] spCount)
    (u_Clumps : KUse P w K mg base C "Clumps" 1 ["self", "number"] (spInit C)) (u_m_unite : MUse P w K mg base C "unite" 2 ["self", "thing", "other"] (spUnite C)) (u_m_head : MUse P w K mg base C "head" 1 ["self", "thing"] (spHead C))
    (u_numbered : Use P w K mg base "numbered" 1 ["blocks"] spNumL) : Use P w K mg base "finest_above" 7 ["parting", "other"] spAbove := by
  refine use_of D (fun f fd F => F.ok sc_finest_above (fun vs H Q E h => ?_) (fun cdv A outer s H vs Q E hr h => ?_)) (fun _ _ _ _ _ _ us hl => match us, hl with | [_, _], _ => rfl)
  · obtain ⟨a, b, p, r, rfl, _⟩ := h
    rfl
  · obtain ⟨a, b, p, r, rfl, hp, hb, par, parb, hl, q⟩ := h
    refine ⟨_, (pss_cons (ps_expr (pe_use u_need_two_partings (by decide) hr (by rfl) (pa_cons (pv 0) (pa_cons (pv 1) pa_nil))))
      (pss_cons (ps_set (i := 2) sc_finest_above.nd rfl (Or.inl rfl) (pe_use u_block_count (by decide) hr (by rfl) (pa_cons (pv 0) pa_nil)))
      (pss_cons (ps_set (i := 3) sc_finest_above.nd rfl (Or.inr rfl) (pe_kUse u_Clumps (by decide) hr (by rfl) (pa_cons (pe_op op_add (pv 2) (pe_use u_block_count (by decide) hr (by rfl) (pa_cons (pv 1) pa_nil))) pa_nil)))
      (pss_cons (ps_for PassesOwn.never rfl (k_zip (K := K) rfl (by rfl) T.zip (pa_cons (pv 0) (pa_cons (pv 1) pa_nil))) (pg_tup rfl (pgs_cons (pg_name (i := 4) sc_finest_above.nd rfl (Or.inl rfl)) (pgs_cons (pg_name (i := 5) sc_finest_above.nd rfl (Or.inl rfl)) pgs_nil)))
      (pss_one (ps_expr (pe_mUse (pv 3) cC u_m_unite (by decide) hr (pa_cons (pv 4) (pa_cons (pe_op op_add (pv 2) (pv 5)) pa_nil))))))
      (pss_one (ps_ret (pe_use u_numbered (by decide) hr (by rfl) (pa_cons (pe_lc (own := [("block", 6)]) rfl sc_finest_above.nd (k_tup (K := K) rfl (pv 0)) (blkOk_by (N := ["parting", "other", "many", "clumps", "low", "high", "block"]) (sc := defScope s_finest_above) (by decide +kernel)) (fun _ _ _ _ _ => (pg_name (i := 6) sc_finest_above.nd rfl (Or.inl rfl))) (fun _ _ _ _ _ => pts_nil) (fun _ _ _ _ _ => (pe_mUse (pv 3) cC u_m_head (by decide) hr (pa_cons (pv 6) pa_nil)))) pa_nil)))))))), ?_⟩
    have g0 := bc_ge 0 p
    have g1 := bc_le 0 p
    have g2 := par.le
    have g3 := bc_ge 0 r
    have g4 := bc_le 0 r
    have g5 := parb.le
    refine ⟨_, rfl, _, rfl, a, b, p, r, rfl, hp, hb, par, parb, hl, fun H1 s1 => ?_⟩
    refine ⟨_, rfl, a, p, rfl, hp.mono s1, par, ?_⟩
    refine ⟨_, rfl, _, rfl, b, r, rfl, hb.mono s1, parb, bc 0 p, bc 0 r, rfl, rfl, ?_⟩
    intro o dx no ndx nox
    refine ⟨o, dx, (bc 0 p + bc 0 r).toNat, ?_, upd_same, by omega, fun H2 l ⟨⟨dx2, ho2⟩, el2⟩ nl2 but2 => ⟨rfl, ?_⟩⟩
    · rw [show (((bc 0 p + bc 0 r).toNat : Nat) : Int) = bc 0 p + bc 0 r by omega]
      rfl
    have s2 : Same H1 H2 := Same.made no ndx but2
    have s12 := s1.trans s2
    have no1 : H o = none := s1.free no
    have nl1 : H l = none := by
      have e0 : Same H1 (upd (upd H1 dx (.own o)) o (.ins C dx [])) := fun c u e => by
        rw [upd_ne (ne_of_none e no), upd_ne (ne_of_none e ndx)]
        exact e
      exact s1.free (e0.free nl2)
    refine ⟨_, rfl, _, rfl, a, b, _, _, rfl, .inr ⟨(hp.mono s12).seq, (hb.mono s12).seq, ?_⟩⟩
    refine RZ.for_zipT (K := K) (a := a) (b := b) (xs := p.map V.int) (ys := r.map V.int) (by rw [List.length_map, List.length_map, hl])
      (fun i σ H3 => ∃ y4 y5, σ = [some (.ref a), some (.ref b), some (.int (bc 0 p)), some (.ref o), y4, y5, none] ∧ Same H H3 ∧ ∃ hs m, CAt C H3 o l hs m ∧ Dn hs ∧ hs.length = (bc 0 p + bc 0 r).toNat ∧
        ∀ x y, root hs x = root hs y ↔ glue ((tiesOf p r).take i) x y)
      ⟨none, none, rfl, s12, List.range (bc 0 p + bc 0 r).toNat, _, ⟨⟨dx2, ho2⟩, el2⟩, ?_, List.length_range, ?_⟩
      (fun i σ H3 ⟨_, _, _, sm, _⟩ => ⟨(hp.mono sm).seq, (hb.mono sm).seq⟩) ?_ ?_
    · exact dn_range _
    · intro x y
      rw [root_range, root_range]
      exact Iff.rfl
    · rintro i v1 v2 T1 σ H3 hi1 hi2 ⟨y4, y5, rfl, sm, hs, m, ⟨⟨dx3, ho3⟩, el3⟩, dn, hlen, hgl⟩ hT
      obtain ⟨x, hx, rfl⟩ := map_at hi1
      obtain ⟨y, hy, rfl⟩ := map_at hi2
      obtain ⟨x0, x1⟩ := (rg_mem 0 p (Int.le_refl _) par.rg).1 x (List.mem_of_getElem? hx)
      obtain ⟨y0, y1⟩ := (rg_mem 0 r (Int.le_refl _) parb.rg).1 y (List.mem_of_getElem? hy)
      refine ⟨T1, _, rfl, .inl (.inl upd_same), rfl, _, _, rfl, _, [], rfl, rfl, ?_⟩
      have ho4 : (upd H3 T1 (.tup [.int x, .int y])) o = some (.ins C dx3 (cf l m)) := by rw [upd_ne (ne_of_none ho3 hT)]; exact ho3
      have el4 : (upd H3 T1 (.tup [.int x, .int y])) l = some (.lst (hv hs)) := by rw [upd_ne (ne_of_none el3 hT)]; exact el3
      refine ⟨_, rfl, o, dx3, _, rfl, ho4, cf_no _ _ (by decide +kernel) (by decide +kernel), _, rfl, _, rfl, _, rfl, bc 0 p, y, rfl, rfl, ?_⟩
      refine ⟨o, l, hs, m, x.toNat, (bc 0 p + y).toNat, ?_, ⟨⟨dx3, ho4⟩, el4⟩, dn, by omega, by omega, fun H4 hs4 hC4 dn4 hl4 hr4 but4 => ?_⟩
      · rw [show ((x.toNat : Nat) : Int) = x by omega, show (((bc 0 p + y).toNat : Nat) : Int) = bc 0 p + y by omega]
        rfl
      · refine ⟨some (.int x), some (.int y), rfl, fun c u hc => ?_, hs4, _, hC4, dn4, by omega, fun u v => ?_⟩
        · refine but4 c u (same_new hT c u (sm c u hc)) ?_ ?_
          · intro e
            rw [e, nl1] at hc
            cases hc
          · intro e
            rw [e, no1] at hc
            cases hc
        · rw [take_snoc (ties_at hx hy), glue_snoc]
          exact tie_roots (glue_eqv _) hgl hr4 u v
    · rintro σ H3 ⟨y4, y5, rfl, sm, hs, m, ⟨⟨dx3, ho3⟩, el3⟩, dn, hlen, hgl⟩
      rw [List.length_map, ← ties_len hl, List.take_length] at hgl
      refine ⟨_, rfl, a, rfl, ⟨_, (hp.mono sm).seq⟩, fun R nR => ?_⟩
      have nRo : o ≠ R := ne_of_none ho3 nR
      have nRl : l ≠ R := ne_of_none el3 nR
      refine lc_tup (K := K) (a := a) (xs := p.map V.int) (fun i H4 => Same H H4 ∧ H4 R = some (.lst (((p.take i).map fun b => (((root hs b.toNat : Nat)) : Int)).map V.int)) ∧
          ∃ hs4, CAt C H4 o l hs4 m ∧ Dn hs4 ∧ hs4.length = hs.length ∧ ∀ y, root hs4 y = root hs y)
        ⟨sm.trans (same_new nR), upd_same, hs, ⟨⟨dx3, by rw [upd_ne nRo]; exact ho3⟩, by rw [upd_ne nRl]; exact el3⟩, dn, rfl, fun _ => rfl⟩ (fun i H4 _ ⟨sm4, _⟩ => (hp.mono sm4).seq) ?_ ?_
      · rintro i v H4 hi ⟨sm4, eR, hs4, ⟨⟨dx4, ho4⟩, el4⟩, dn4, hl4, hr4⟩
        obtain ⟨x, hx, rfl⟩ := map_at hi
        obtain ⟨x0, x1⟩ := (rg_mem 0 p (Int.le_refl _) par.rg).1 x (List.mem_of_getElem? hx)
        refine ⟨rfl, _, rfl, o, dx4, _, rfl, ho4, cf_no _ _ (by decide +kernel) (by decide +kernel), _, rfl, o, l, hs4, m, x.toNat, ?_, ⟨⟨dx4, ho4⟩, el4⟩, dn4, by omega, fun H5 hs5 ⟨⟨dx5, ho5⟩, el5⟩ dn5 hl5 hr5 but5 => ?_⟩
        · rw [show ((x.toNat : Nat) : Int) = x by omega]
          rfl
        · have eR5 := but5 R _ eR nRl.symm
          refine ⟨_, eR5, ?_, fun c u hc => ?_, ?_, hs5, ⟨⟨dx5, by rw [upd_ne nRo]; exact ho5⟩, by rw [upd_ne nRl]; exact el5⟩, dn5, by omega, fun y => by rw [hr5, hr4]⟩
          · rw [List.length_map, List.length_map, List.length_take]
            exact small_of (by omega)
          · have h1 := but5 c u (sm4 c u hc) (fun e => by rw [e, nl1] at hc; cases hc)
            rw [upd_ne (fun e => by rw [e, sm.free nR] at hc; cases hc)]
            exact h1
          · rw [upd_same, take_snoc hx, List.map_append, List.map_append, hr4]
            rfl
      · rintro H4 ⟨sm4, eR, _⟩
        rw [List.length_map, List.take_length] at eR
        refine ⟨R, _, rfl, eR, ?_, fun H5 t s5 ht => q H5 t (fun x => ((root hs x : Nat) : Int)) (sm4.trans s5) (fun x y => ?_) ht⟩
        · rw [List.length_map]
          omega
        · rw [← hgl x y]
          omega
end
end KQ
namespace KQ
open PySem PySem.Spec PyProof.Rows L2 KR KM StX
section
variable {P : Program} {w : World} {K : PySem.W.Frag} {mg : Str → Option Value} {base : Heap}
theorem nb {i : Int} {b : Nat} (h0 : 0 ≤ i) (h : i < 2 ^ b) : i.natAbs < 2 ^ b := by
  have : ((i.natAbs : Nat) : Int) < ((2 ^ b : Nat) : Int) := by
    rw [Int.natAbs_of_nonneg h0]
    push_cast
    exact h
  omega
theorem fm {i j : Int} (h : 0 < j) : 0 ≤ i.fmod j ∧ i.fmod j < j := ⟨Int.fmod_nonneg_of_pos _ h, Int.fmod_lt_of_pos _ h⟩
abbrev s__law_mixed : Stmt := topS 33
theorem sc__law_mixed : FnScope ["cell", "n", "blend"] ["cell", "n"] (defScope s__law_mixed) := ⟨rfl, rfl, rfl, by decide +kernel, rfl, by decide +kernel, by decide +kernel⟩
def spMixed : Sp := fun vs H Q _ => ∃ c n, vs = [.int c, .int n] ∧ 0 ≤ c ∧ c < 2 ^ 40 ∧ 0 ≤ n ∧ n < 2 ^ 24 ∧ ∀ r, 0 ≤ r → r < 2 ^ 31 → Q (.int r) H
theorem ok_mixed (D : DefAt K mg "_law_mixed" s__law_mixed) (T : Bt mg) : Use P w K mg base "_law_mixed" 1 ["cell", "n"] spMixed := by
  refine use_of D (fun f fd F => F.ok sc__law_mixed (fun vs H Q E h => ?_) (fun cdv A outer s H vs Q E hr h => ?_)) (fun _ _ _ _ _ _ us hl => match us, hl with | [_, _], _ => rfl)
  · obtain ⟨c, n, rfl, _⟩ := h
    rfl
  · obtain ⟨c, n, rfl, c0, c1, n0, n1, q⟩ := h
    refine ⟨_, (pss_cons (ps_set (i := 2) sc__law_mixed.nd rfl (Or.inl rfl) (pe_op op_add (pe_op op_add (pe_op op_modN (pe_callTy call_int1 (by rfl) T.int (by decide +kernel) (pa_cons (pe_op op_mulW (pe_op op_mulW (pv 0) (pe_op op_add pe_int (pe_op op_mulW pe_int (pv 1)))) pe_int) pa_nil)) pe_int) (pe_op op_mulW (pe_op op_mulW pe_int (pv 1)) (pv 1))) (pe_op op_mulW pe_int (pv 1))))
      (pss_one (ps_ret (pe_op op_fdivW (pe_op op_modN (pe_callTy call_int1 (by rfl) T.int (by decide +kernel) (pa_cons (pe_op op_mulW (pv 2) pe_int) pa_nil)) pe_int) pe_int)))), ?_⟩
    have e2 : (2 : Int) ^ 24 = 16777216 := by decide
    have hn : n.natAbs < 2 ^ 24 := nb n0 n1
    have hc : c.natAbs < 2 ^ 40 := nb c0 c1
    have h1 : (2 * n).natAbs < 2 ^ (2 + 24) := wide_lt (by decide) hn
    have h2 : (1 + 2 * n).natAbs < 2 ^ 27 := nb (by omega) (by omega)
    have h3 : (c * (1 + 2 * n)).natAbs < 2 ^ (40 + 27) := wide_lt hc h2
    have h4 : (7919 * n).natAbs < 2 ^ (13 + 24) := wide_lt (by decide) hn
    have h5 : (7919 * n * n).natAbs < 2 ^ (37 + 24) := wide_lt h4 hn
    have h6 : (104729 * n).natAbs < 2 ^ (17 + 24) := wide_lt (by decide) hn
    have f1 := fm (i := c * (1 + 2 * n) * 48271) (j := 2147483647) (by decide)
    generalize hX : (c * (1 + 2 * n) * 48271).fmod 2147483647 = X at f1
    have e3 : (2 : Nat) ^ (37 + 24) = 2305843009213693952 := by decide
    have e4 : (2 : Nat) ^ (17 + 24) = 2199023255552 := by decide
    have e5 : (2 : Nat) ^ 70 = 1180591620717411303424 := by decide
    have h7 : (X + 7919 * n * n + 104729 * n).natAbs < 2 ^ 70 := by
      generalize 7919 * n * n = u at *
      generalize 104729 * n = v at *
      omega
    generalize hY : X + 7919 * n * n + 104729 * n = Y at h7
    have f2 := fm (i := Y * 69621) (j := 2147483629) (by decide)
    generalize hZ : (Y * 69621).fmod 2147483629 = Z at f2
    subst hZ hY hX
    refine ⟨_, rfl, _, rfl, 2, n, rfl, rfl, wide_mul (by decide : (2 : Int).natAbs < 2 ^ 2) hn (by decide) (by decide) (by decide), 1, 2 * n, rfl, rfl, c, 1 + 2 * n, rfl, rfl, wide_mul hc h2 (by decide) (by decide) (by decide), ?_⟩
    refine ⟨c * (1 + 2 * n), 48271, rfl, rfl, wide_mul h3 (by decide : (48271 : Int).natAbs < 2 ^ 16) (by decide) (by decide) (by decide), .inl ⟨_, rfl, ?_⟩⟩
    refine ⟨_, 2147483647, rfl, rfl, (show (2147483647 : Int) ≠ 0 by decide), ?_⟩
    refine ⟨_, rfl, 7919, n, rfl, rfl, wide_mul (by decide : (7919 : Int).natAbs < 2 ^ 13) hn (by decide) (by decide) (by decide), _, rfl, 7919 * n, n, rfl, rfl, wide_mul h4 hn (by decide) (by decide) (by decide), ?_⟩
    refine ⟨_, _, rfl, rfl, _, rfl, 104729, n, rfl, rfl, wide_mul (by decide : (104729 : Int).natAbs < 2 ^ 17) hn (by decide) (by decide) (by decide), _, _, rfl, rfl, ?_⟩
    refine ⟨_, rfl, _, 69621, rfl, rfl, wide_mul h7 (by decide : (69621 : Int).natAbs < 2 ^ 17) (by decide) (by decide) (by decide), .inl ⟨_, rfl, ?_⟩⟩
    refine ⟨_, 2147483629, rfl, rfl, (show (2147483629 : Int) ≠ 0 by decide), _, 7, rfl, rfl, wide_div (by decide) (by decide : (7 : Int).natAbs < 2 ^ 3) (by decide) (by decide), ?_⟩
    exact q _ (by omega) (by omega)
theorem depth0 : ∀ (ns : List Int), PyData.depthAll (ns.map .int) = 0
  | [] => rfl
  | n :: r => by simp only [List.map, PyData.depthAll, PyData.depth, depth0 r]; rfl
theorem lay0 : ∀ (ns : List Int), PyData.canLayAll0 (ns.map .int) = true
  | [] => rfl
  | n :: r => by simp only [List.map, PyData.canLayAll0, PyData.canLay0, lay0 r, Bool.and_self]
theorem shaped_ints (ns : List Int) : SeqAt.shaped (.list (ns.map .int)) = true := by
  unfold SeqAt.shaped
  simp only [PyData.canLay0, lay0, PyData.depth, depth0]
  rfl
theorem eqv_nil (ns : List Int) : (!PyData.eqv (.list (ns.map .int)) (.list [])) = !ns.isEmpty := by
  cases ns <;> rfl
abbrev s__law_draw : Stmt := topS 35
theorem sc__law_draw : FnScope ["m", "limit", "n", "lot", "here", "cell"] ["m", "limit"] (defScope s__law_draw) := ⟨rfl, rfl, rfl, by decide +kernel, rfl, by decide +kernel, by decide +kernel⟩
/-- the state of the draws: the dict, its lists, at most b draws so far -/
structure MS (H : Hp) (m c g : Addr) (b : Int) : Prop where
  ex : ∃ (cs gs : List Int) (n : Int), H m = some (.dK [(.inr "cells", .ref c), (.inr "great", .ref g), (.inr "spot", .int n)]) ∧ H c = some (.lst (cs.map V.int)) ∧ H g = some (.lst (gs.map V.int)) ∧
    cs.length = 64 ∧ (∀ x ∈ cs, 0 ≤ x ∧ x < 2147483647) ∧ c ≠ g ∧ gs.length ≤ 63 ∧ 0 ≤ n ∧ n ≤ b
/-- all but m and g stays -/
def Kept (H H' : Hp) (m g : Addr) : Prop := ∀ a u, H a = some u → a ≠ m → a ≠ g → H' a = some u
def spDraw : Sp := fun vs H Q _ => ∃ m c g b limit, vs = [.ref m, .int limit] ∧ MS H m c g b ∧ b ≤ 1000000 ∧ 1 ≤ limit ∧ limit ≤ 2 ^ 30 ∧ ∀ H' d, Kept H H' m g → MS H' m c g (b + 1) → 0 ≤ d → d < limit → Q (.int d) H'
theorem ok_draw (D : DefAt K mg "_law_draw" s__law_draw) (T : Bt mg) (u__law_mixed : Use P w K mg base "_law_mixed" 1 ["cell", "n"] spMixed) : Use P w K mg base "_law_draw" 2 ["m", "limit"] spDraw := by
  refine use_of D (fun f fd F => F.ok sc__law_draw (fun vs H Q E h => ?_) (fun cdv A outer s H vs Q E hr h => ?_)) (fun _ _ _ _ _ _ us hl => match us, hl with | [_, _], _ => rfl)
  · obtain ⟨m, c, g, b, limit, rfl, _⟩ := h
    rfl
  · obtain ⟨m, c, g, b, limit, rfl, ⟨cs, gs, n, hm, hc, hg, lc, rc, cg, lg, n0, n1⟩, b1, l1, l2, q⟩ := h
    refine ⟨_, (pss_cons (ps_set (i := 2) sc__law_draw.nd rfl (Or.inl rfl) (pe_dget (hu_of hr) (pv 0) pe_str (fun _ _ => rfl)))
      (pss_cons (ps_dput (hu_of hr) (pv 0) pe_str (pe_op op_add (pv 2) pe_int) rfl)
      (pss_cons (ps_if (pt_cmpR (k_neD (K := K) rfl hr.units) (pe_dget (hu_of hr) (pv 0) pe_str (fun _ _ => rfl)) (pe_lst pa_nil) (nomark _)) (pss_cons (ps_set (i := 3) sc__law_draw.nd rfl (Or.inl rfl) (pe_dget (hu_of hr) (pv 0) pe_str (fun _ _ => rfl)))
      (pss_cons (ps_set (i := 4) sc__law_draw.nd rfl (Or.inl rfl) (pe_op op_modN (pe_callTy call_int1 (by rfl) T.int (by decide +kernel) (pa_cons (pv 2) pa_nil)) (pe_callB (k_len (K := K) rfl) (by rfl) T.len PySem.boot_len (pa_cons (pv 3) pa_nil))))
      (pss_cons (ps_set (i := 5) sc__law_draw.nd rfl (Or.inl rfl) (pe_ix (k_ixl (K := K) rfl) (pv 3) (pv 4) (fun _ _ => rfl)))
      (pss_one (ps_if (pt_cmpR op_gt (pv 5) pe_int (nomark _)) (pss_cons (ps_asg (pe_op op_fdivW (pv 5) (pv 1)) (pg_sub (pv 3) (pv 4) set_list))
      (pss_one (ps_ret (pe_op op_modN (pe_callTy call_int1 (by rfl) T.int (by decide +kernel) (pa_cons (pv 5) pa_nil)) (pv 1))))) pss_nil))))) pss_nil)
      (pss_cons (ps_set (i := 3) sc__law_draw.nd rfl (Or.inl rfl) (pe_dget (hu_of hr) (pv 0) pe_str (fun _ _ => rfl)))
      (pss_one (ps_ret (pe_op op_modN (pe_callTy call_int1 (by rfl) T.int (by decide +kernel) (pa_cons (pe_use u__law_mixed (by decide) hr (by rfl) (pa_cons (pe_use u__law_mixed (by decide) hr (by rfl) (pa_cons (pe_op op_add (pe_ix (k_ixl (K := K) rfl) (pv 3) (pe_op op_modN (pe_callTy call_int1 (by rfl) T.int (by decide +kernel) (pa_cons (pv 2) pa_nil)) pe_int) (fun _ _ => rfl)) (pe_op op_mulW pe_int (pe_op op_fdivW (pv 2) pe_int))) (pa_cons (pv 2) pa_nil))) (pa_cons (pe_op op_add (pv 2) pe_int) pa_nil))) pa_nil)) (pv 1)))))))), ?_⟩
    have mc : m ≠ c := fun e => by rw [e, hc] at hm; cases hm
    have mg' : m ≠ g := fun e => by rw [e, hg] at hm; cases hm
    have e2 : (2 : Int) ^ 30 = 1073741824 := by decide
    refine ⟨_, rfl, m, _, rfl, .k (k := .inr "spot") hm, ?_⟩
    refine ⟨_, rfl, _, _, rfl, rfl, _, rfl, m, _, rfl, .k (k := .inr "spot") hm (small_of (Nat.le_of_ble_eq_true rfl)), ?_⟩
    rw [show putK [((.inr "cells" : L2.Key), V.ref c), (.inr "great", .ref g), (.inr "spot", .int n)] (.inr "spot") (V.int (n + 1)) = [(.inr "cells", .ref c), (.inr "great", .ref g), (.inr "spot", .int (n + 1))] from rfl]
    generalize hH1 : upd H m (.dK [((.inr "cells" : L2.Key), V.ref c), (.inr "great", .ref g), (.inr "spot", .int (n + 1))]) = H1
    have hm1 : H1 m = some (.dK [((.inr "cells" : L2.Key), V.ref c), (.inr "great", .ref g), (.inr "spot", .int (n + 1))]) := by rw [← hH1, upd_same]
    have hc1 : H1 c = some (.lst (cs.map V.int)) := by rw [← hH1, upd_ne mc.symm]; exact hc
    have hg1 : H1 g = some (.lst (gs.map V.int)) := by rw [← hH1, upd_ne mg'.symm]; exact hg
    have k1 : Kept H H1 m g := fun a u ha na _ => by rw [← hH1, upd_ne na]; exact ha
    refine ⟨_, rfl, m, _, rfl, .k (k := .inr "great") hm1, Nat.zero_le _, fun p np => ?_⟩
    have npg : p ≠ g := fun e => by rw [e, hg1] at np; cases np
    have npm : p ≠ m := fun e => by rw [e, hm1] at np; cases np
    have npc : p ≠ c := fun e => by rw [e, hc1] at np; cases np
    have hm2 : (upd H1 p (.lst [])) m = some (.dK [((.inr "cells" : L2.Key), V.ref c), (.inr "great", .ref g), (.inr "spot", .int (n + 1))]) := by rw [upd_ne npm.symm]; exact hm1
    have hc2 : (upd H1 p (.lst [])) c = some (.lst (cs.map V.int)) := by rw [upd_ne npc.symm]; exact hc1
    have hg2 : (upd H1 p (.lst [])) g = some (.lst (gs.map V.int)) := by rw [upd_ne npg.symm]; exact hg1
    have k2 : Kept H (upd H1 p (.lst [])) m g := fun a u ha na nb => by rw [upd_ne (ne_of_none (k1 a u ha na nb) np)]; exact k1 a u ha na nb
    refine ⟨.list (gs.map PyData.int), .list [], .lst (sqL hg2) (dpAll_ints gs), .lst (sqL (xs := []) upd_same) .nil, shaped_ints gs, rfl, _, rfl, ?_⟩
    rw [eqv_nil]
    generalize hH2 : upd H1 p (.lst []) = H2 at *
    have fin : ∀ H3, (∀ a u, H2 a = some u → a ≠ g → H3 a = some u) → (∃ gs' : List Int, H3 g = some (.lst (gs'.map V.int)) ∧ gs'.length = gs.length) → Kept H H3 m g ∧ MS H3 m c g (b + 1) := by
      intro H3 h3 ⟨gs', hg3, lg3⟩
      exact ⟨fun a u ha na nb => h3 a u (k2 a u ha na nb) nb, ⟨cs, gs', n + 1, h3 _ _ hm2 mg', h3 _ _ hc2 cg, hg3, lc, rc, cg, by omega, by omega, by omega⟩⟩
    have fin2 := fin H2 (fun a u ha _ => ha) ⟨gs, hg2, rfl⟩
    have f64 := fm (i := n) (j := 64) (by decide)
    have hat : ∃ x, cs[(n.fmod 64).toNat]? = some x ∧ 0 ≤ x ∧ x < 2147483647 := by
      have hl : (n.fmod 64).toNat < cs.length := by omega
      exact ⟨_, List.getElem?_eq_getElem hl, rc _ (List.getElem_mem hl)⟩
    obtain ⟨x, hx, x0, x1⟩ := hat
    have hd : 0 ≤ n / 64 ∧ n / 64 ≤ n := ⟨by omega, by omega⟩
    have e24 : (2 : Int) ^ 24 = 16777216 := by decide
    have e40 : (2 : Int) ^ 40 = 1099511627776 := by decide
    have e31 : (2 : Int) ^ 31 = 2147483648 := by decide
    cases gs with
    | nil =>
      refine ⟨_, rfl, m, _, rfl, .k (k := .inr "cells") hm2, ?_⟩
      refine ⟨_, rfl, _, rfl, .inl ⟨n, rfl, n, 64, rfl, rfl, (show (64 : Int) ≠ 0 by decide), c, _, n.fmod 64, V.int x, rfl, rfl, sqL hc2, atI_of (j := (n.fmod 64).toNat) (by omega) (at_map hx), ?_⟩⟩
      refine ⟨_, rfl, n, 64, rfl, rfl, wide_div (by decide) (by decide : (64 : Int).natAbs < 2 ^ 7) (by decide) (by decide), 31, n / 64, rfl, rfl, wide_mul (by decide : (31 : Int).natAbs < 2 ^ 5) (nb (b := 24) (by omega) (by omega)) (by decide) (by decide) (by decide), x, 31 * (n / 64), rfl, rfl, _, rfl, ?_⟩
      refine ⟨x + 31 * (n / 64), n, rfl, by omega, by omega, by omega, by omega, fun r r0 r1 => ⟨_, rfl, n, 7, rfl, rfl, r, n + 7, rfl, r0, by omega, by omega, by omega, fun r2 r3 r4 => .inl ⟨r2, rfl, _, rfl, r2, limit, rfl, rfl, (show limit ≠ 0 by omega), ?_⟩⟩⟩
      exact q _ _ fin2.1 fin2.2 (fm (by omega)).1 (fm (by omega)).2
    | cons g0 gr =>
      have fG := fm (i := n) (j := (((g0 :: gr).length : Nat) : Int)) (by rw [List.length_cons]; omega)
      have hat2 : ∃ y, (g0 :: gr)[(n.fmod ((g0 :: gr).length : Nat)).toNat]? = some y := ⟨_, List.getElem?_eq_getElem (by omega)⟩
      obtain ⟨y, hy⟩ := hat2
      refine ⟨_, rfl, m, _, rfl, .k (k := .inr "great") hm2, ?_⟩
      refine ⟨_, rfl, .inl ⟨n, rfl, _, rfl, g, _, rfl, .inl (sqL hg2), n, _, rfl, rfl, ?_, ?_⟩⟩
      · rw [List.length_map, List.length_cons]
        omega
      rw [List.length_map]
      refine ⟨_, rfl, _, rfl, g, _, _, V.int y, rfl, rfl, sqL hg2, atI_of (j := (n.fmod ((g0 :: gr).length : Nat)).toNat) (by omega) (at_map hy), ?_⟩
      refine ⟨_, rfl, y, 0, rfl, rfl, _, rfl, ?_⟩
      by_cases hpos : 0 < y
      · rw [decide_eq_true hpos]
        refine ⟨_, rfl, _, rfl, y, limit, rfl, rfl, wide_div (by omega) (nb (b := 31) (by omega) (by omega)) (by decide) (by decide), _, rfl, _, rfl, g, _, _, (n.fmod ((g0 :: gr).length : Nat)).toNat, rfl, rfl, hg2, ?_, ?_⟩
        · unfold ixN
          rw [List.length_map, if_pos fG.1, if_pos fG.2]
        refine ⟨_, rfl, .inl ⟨y, rfl, _, rfl, y, limit, rfl, rfl, (show limit ≠ 0 by omega), ?_⟩⟩
        have fin3 := fin (upd H2 g (.lst (((g0 :: gr).map V.int).set (n.fmod ((g0 :: gr).length : Nat)).toNat (V.int (y / limit))))) (fun a u ha na => by rw [upd_ne na]; exact ha)
          ⟨(g0 :: gr).set (n.fmod ((g0 :: gr).length : Nat)).toNat (y / limit), by rw [upd_same, List.map_set], by rw [List.length_set]⟩
        exact q _ _ fin3.1 fin3.2 (fm (by omega)).1 (fm (by omega)).2
      · rw [decide_eq_false hpos]
        refine ⟨_, rfl, m, _, rfl, .k (k := .inr "cells") hm2, ?_⟩
        refine ⟨_, rfl, _, rfl, .inl ⟨n, rfl, n, 64, rfl, rfl, (show (64 : Int) ≠ 0 by decide), c, _, n.fmod 64, V.int x, rfl, rfl, sqL hc2, atI_of (j := (n.fmod 64).toNat) (by omega) (at_map hx), ?_⟩⟩
        refine ⟨_, rfl, n, 64, rfl, rfl, wide_div (by decide) (by decide : (64 : Int).natAbs < 2 ^ 7) (by decide) (by decide), 31, n / 64, rfl, rfl, wide_mul (by decide : (31 : Int).natAbs < 2 ^ 5) (nb (b := 24) (by omega) (by omega)) (by decide) (by decide) (by decide), x, 31 * (n / 64), rfl, rfl, _, rfl, ?_⟩
        refine ⟨x + 31 * (n / 64), n, rfl, by omega, by omega, by omega, by omega, fun r r0 r1 => ⟨_, rfl, n, 7, rfl, rfl, r, n + 7, rfl, r0, by omega, by omega, by omega, fun r2 r3 r4 => .inl ⟨r2, rfl, _, rfl, r2, limit, rfl, rfl, (show limit ≠ 0 by omega), ?_⟩⟩⟩
        exact q _ _ fin2.1 fin2.2 (fm (by omega)).1 (fm (by omega)).2
end
end KQ
namespace KQ
open PySem PySem.Spec PyProof.Rows L2 KR KM StX
section
variable {P : Program} {w : World} {K : PySem.W.Frag} {mg : Str → Option Value} {base : Heap}
theorem sameSL {K : PySem.W.Frag} {H H' : Hp} {a : Addr} {xs : List V} (e : Same H H') (h : SqL K H a xs) : SqL K H' a xs := by
  rcases h with (h | ⟨o, h⟩) | h
  · exact .inl (.inl (e _ _ h))
  · exact .inl (.inr ⟨o, e _ _ h⟩)
  · exact .inr h
def Cells (cs : List Int) : Prop := cs.length = 64 ∧ ∀ x ∈ cs, 0 ≤ x ∧ x < 2147483647
theorem Cells.set {cs : List Int} (h : Cells cs) (j : Nat) {v : Int} (h0 : 0 ≤ v) (h1 : v < 2147483647) : Cells (cs.set j v) := by
  refine ⟨by rw [List.length_set]; exact h.1, fun x hx => ?_⟩
  rcases List.mem_or_eq_of_mem_set hx with hx | rfl
  · exact h.2 x hx
  · exact ⟨h0, h1⟩
theorem Cells.at_ {cs : List Int} (h : Cells cs) {j : Nat} (hj : j < 64) : ∃ x, cs[j]? = some x ∧ 0 ≤ x ∧ x < 2147483647 :=
  ⟨_, List.getElem?_eq_getElem (by rw [h.1]; exact hj), h.2 _ (List.getElem_mem _)⟩
theorem ixN_of {n : Nat} {i : Int} (h0 : 0 ≤ i) (h1 : i < (n : Int)) : ixN n i = some i.toNat := by
  unfold ixN
  rw [if_pos h0, if_pos h1]
abbrev s__law_folded : Stmt := topS 34
theorem sc__law_folded : FnScope ["script", "found", "n", "cell"] ["script"] (defScope s__law_folded) := ⟨rfl, rfl, rfl, by decide +kernel, rfl, by decide +kernel, by decide +kernel⟩
def spFolded (K : PySem.W.Frag) : Sp := fun vs H Q _ => ∃ (a : Addr) (ns : List Int), vs = [.ref a] ∧ SqL K H a (ns.map V.int) ∧ ns.length ≤ 63 ∧
  ∀ H' l cs, Same H H' → H l = none → H' l = some (.lst (List.map V.int cs)) → Cells cs → Q (.ref l) H'
theorem ok_folded (D : DefAt K mg "_law_folded" s__law_folded) (T : Bt mg) : Use P w K mg base "_law_folded" 1 ["script"] (spFolded K) := by
  refine use_of D (fun f fd F => F.ok sc__law_folded (fun vs H Q E h => ?_) (fun cdv A outer s H vs Q E hr h => ?_)) (fun _ _ _ _ _ _ us hl => match us, hl with | [_], _ => rfl)
  · obtain ⟨a, ns, rfl, _⟩ := h
    rfl
  · obtain ⟨a, ns, rfl, hs, hl, q⟩ := h
    refine ⟨_, (pss_cons (ps_setLc (i := 1) (own := [("n", 2)]) rfl sc__law_folded.nd rfl rfl (sw_true rfl rfl rfl (by decide +kernel)) (pi_range1 (by rfl) T.range (pa_cons pe_int pa_nil)) (blkOk_by (N := ["script", "found", "n", "cell"]) (sc := defScope s__law_folded) (by decide +kernel)) (fun _ _ _ _ _ => (pg_name (i := 2) sc__law_folded.nd rfl (Or.inl rfl))) (fun _ _ _ _ _ => pts_nil) (fun _ _ _ _ _ => (pe_op op_add pe_int (pv 2))))
      (pss_cons (ps_for PassesOwn.never rfl (k_enum (K := K) rfl (by rfl) T.enumerate (pa_cons (pv 0) pa_nil)) (pg_tup rfl (pgs_cons (pg_name (i := 2) sc__law_folded.nd rfl (Or.inl rfl)) (pgs_cons (pg_name (i := 3) sc__law_folded.nd rfl (Or.inl rfl)) pgs_nil)))
      (pss_one (ps_asg (pe_op op_modN (pe_callTy call_int1 (by rfl) T.int (by decide +kernel) (pa_cons (pe_op op_add (pe_op op_mulW (pe_ix (k_ixl (K := K) rfl) (pv 1) (pe_op op_modN (pe_callTy call_int1 (by rfl) T.int (by decide +kernel) (pa_cons (pv 2) pa_nil)) pe_int) (fun _ _ => rfl)) pe_int) (pv 3)) pa_nil)) pe_int) (pg_sub (pv 1) (pe_op op_modN (pe_callTy call_int1 (by rfl) T.int (by decide +kernel) (pa_cons (pv 2) pa_nil)) pe_int) set_list))))
      (pss_cons (ps_for PassesOwn.never rfl (pi_range2 (by rfl) T.range (pa_cons pe_int (pa_cons pe_int pa_nil))) (pg_name (i := 2) sc__law_folded.nd rfl (Or.inl rfl))
      (pss_one (ps_asg (pe_op op_modN (pe_callTy call_int1 (by rfl) T.int (by decide +kernel) (pa_cons (pe_op op_add (pe_ix (k_ixl (K := K) rfl) (pv 1) (pv 2) (fun _ _ => rfl)) (pe_op op_mulW (pe_ix (k_ixl (K := K) rfl) (pv 1) (pe_op op_sub (pv 2) pe_int) (fun _ _ => rfl)) pe_int)) pa_nil)) pe_int) (pg_sub (pv 1) (pv 2) set_list))))
      (pss_one (ps_ret (pv 1)))))), ?_⟩
    refine ⟨_, rfl, by decide, by decide, fun L nL => ?_⟩
    refine lc_range (fun i H1 => Same H H1 ∧ H1 L = some (.lst (((List.range i).map fun k => (17 + (k : Nat) : Int)).map V.int))) ⟨same_new nL, upd_same⟩ ?_ ?_
    · rintro i H1 hi ⟨sm, eL⟩
      refine ⟨rfl, _, rfl, _, _, rfl, rfl, _, eL, ?_, same_mut sm nL, ?_⟩
      · rw [List.length_map, List.length_map, List.length_range]
        exact small_of (by omega)
      · rw [upd_same, List.range_succ, List.map_append, List.map_append, Int.zero_add]
        rfl
    · rintro H1 ⟨sm, eL⟩
      refine ⟨_, rfl, a, _, rfl, sameSL sm hs, for_enumL (K := K) (a := a) (xs := ns.map V.int)
        (fun i σ H2 => ∃ y2 y3, σ = [some (.ref a), some (.ref L), y2, y3] ∧ Same H H2 ∧ ∃ cs, H2 L = some (.lst (List.map V.int cs)) ∧ Cells cs)
        ⟨none, none, rfl, sm, _, eL, ?_⟩ (fun i σ H2 ⟨_, _, _, sm, _⟩ => sameSL sm hs) ?_ ?_⟩
      · refine ⟨by rw [List.length_map, List.length_range]; rfl, fun x hx => ?_⟩
        obtain ⟨k, hk, rfl⟩ := List.mem_map.mp hx
        have := List.mem_range.mp hk
        have e : ((64 : Int)).toNat = 64 := rfl
        omega
      · rintro i v T1 σ H2 hi ⟨y2, y3, rfl, sm, cs, eL, ok⟩ hT
        obtain ⟨x, hx, rfl⟩ := map_at hi
        have nTL : T1 ≠ L := fun e => by rw [e, eL] at hT; cases hT
        have eL2 : (upd H2 T1 (.tup [.int (i : Nat), .int x])) L = some (.lst (cs.map V.int)) := by rw [upd_ne nTL.symm]; exact eL
        have f64 := fm (i := ((i : Nat) : Int)) (j := 64) (by decide)
        obtain ⟨y, hy, y0, y1⟩ := ok.at_ (j := (((i : Nat) : Int).fmod 64).toNat) (by omega)
        refine ⟨T1, _, rfl, .inl (.inl upd_same), rfl, _, _, rfl, _, [], rfl, rfl, ?_⟩
        refine ⟨_, rfl, _, rfl, .inl ⟨_, rfl, _, 64, rfl, rfl, (show (64 : Int) ≠ 0 by decide), L, _, _, V.int y, rfl, rfl, sqL eL2, atI_of (j := (((i : Nat) : Int).fmod 64).toNat) (by omega) (at_map hy), ?_⟩⟩
        refine ⟨y, 48271, rfl, rfl, wide_mul (nb (b := 31) y0 (by omega)) (by decide : (48271 : Int).natAbs < 2 ^ 16) (by decide) (by decide) (by decide), _, rfl, y * 48271, x, rfl, rfl, .inl ⟨_, rfl, ?_⟩⟩
        refine ⟨_, 2147483647, rfl, rfl, (show (2147483647 : Int) ≠ 0 by decide), _, rfl, _, rfl, .inl ⟨_, rfl, _, 64, rfl, rfl, (show (64 : Int) ≠ 0 by decide), L, _, _, (((i : Nat) : Int).fmod 64).toNat, rfl, rfl, eL2, ?_, ?_⟩⟩
        · rw [List.length_map, ok.1]
          exact ixN_of f64.1 f64.2
        have fz := fm (i := y * 48271 + x) (j := 2147483647) (by decide)
        refine ⟨some (.int (i : Nat)), some (.int x), rfl, same_mut (same_new hT |> sm.trans) nL, cs.set (((i : Nat) : Int).fmod 64).toNat _, ?_, ok.set _ fz.1 fz.2⟩
        rw [upd_same, List.map_set]
      · rintro σ H2 ⟨y2, y3, rfl, sm, cs, eL, ok⟩
        refine ⟨1, 64, rfl, by decide, for_range (lo := 1) (n := ((64 : Int) - 1).toNat)
          (fun i σ H3 => ∃ y2, σ = [some (.ref a), some (.ref L), y2, y3] ∧ Same H H3 ∧ ∃ cs, H3 L = some (.lst (List.map V.int cs)) ∧ Cells cs)
          ⟨y2, rfl, sm, cs, eL, ok⟩ ?_ ?_⟩
        · rintro i σ H3 hi ⟨y2, rfl, sm, cs, eL, ok⟩
          have hi63 : i < 63 := hi
          obtain ⟨x, hx, x0, x1⟩ := ok.at_ (j := i + 1) (by omega)
          obtain ⟨y, hy, y0, y1⟩ := ok.at_ (j := i) (by omega)
          refine ⟨_, rfl, _, rfl, L, _, 1 + (i : Nat), V.int x, rfl, rfl, sqL eL, atI_of (j := i + 1) (by omega) (at_map hx), ?_⟩
          refine ⟨_, rfl, _, rfl, _, _, rfl, rfl, L, _, 1 + (i : Nat) - 1, V.int y, rfl, rfl, sqL eL, atI_of (j := i) (by omega) (at_map hy), ?_⟩
          refine ⟨y, 16807, rfl, rfl, wide_mul (nb (b := 31) y0 (by omega)) (by decide : (16807 : Int).natAbs < 2 ^ 15) (by decide) (by decide) (by decide), x, y * 16807, rfl, rfl, .inl ⟨_, rfl, ?_⟩⟩
          refine ⟨_, 2147483647, rfl, rfl, (show (2147483647 : Int) ≠ 0 by decide), _, rfl, _, rfl, L, _, 1 + (i : Nat), i + 1, rfl, rfl, eL, ?_, ?_⟩
          · rw [List.length_map, ok.1]
            exact ixN_nat (by omega) (by omega)
          have fz := fm (i := x + y * 16807) (j := 2147483647) (by decide)
          refine ⟨_, rfl, same_mut sm nL, cs.set (i + 1) _, ?_, ok.set _ fz.1 fz.2⟩
          rw [upd_same, List.map_set]
        · rintro σ H3 ⟨y2, rfl, sm, cs, eL, ok⟩
          exact ⟨_, rfl, q _ _ _ sm nL eL ok⟩
abbrev s__law_begun : Stmt := topS 36
theorem sc__law_begun : FnScope ["script", "m", "cell"] ["script"] (defScope s__law_begun) := ⟨rfl, rfl, rfl, by decide +kernel, rfl, by decide +kernel, by decide +kernel⟩
def spBegun (K : PySem.W.Frag) : Sp := fun vs H Q _ => ∃ (a : Addr) (ns : List Int), vs = [.ref a] ∧ SqL K H a (ns.map V.int) ∧ ns.length ≤ 63 ∧
  ∀ H' m c g, MS H' m c g 0 → Q (.ref m) H'
theorem ok_begun (D : DefAt K mg "_law_begun" s__law_begun) (T : Bt mg) (u__law_folded : Use P w K mg base "_law_folded" 1 ["script"] (spFolded K)) : Use P w K mg base "_law_begun" 2 ["script"] (spBegun K) := by
  refine use_of D (fun f fd F => F.ok sc__law_begun (fun vs H Q E h => ?_) (fun cdv A outer s H vs Q E hr h => ?_)) (fun _ _ _ _ _ _ us hl => match us, hl with | [_], _ => rfl)
  · obtain ⟨a, ns, rfl, _⟩ := h
    rfl
  · obtain ⟨a, ns, rfl, hs, hl, q⟩ := h
    refine ⟨_, (pss_cons (ps_set (i := 1) sc__law_begun.nd rfl (Or.inl rfl) (pe_disp (pps_cons pe_str (pe_use u__law_folded (by decide) hr (by rfl) (pa_cons (pv 0) pa_nil)) (pps_cons pe_str (pe_lst pa_nil) (pps_cons pe_str pe_int pps_nil))) (by rfl) (by rfl) (fun z => by cases z) (by decide)))
      (pss_cons (ps_dput (hu_of hr) (pv 1) pe_str (pe_lc (own := [("cell", 2)]) rfl sc__law_begun.nd (k_list (K := K) rfl (pv 0)) (blkOk_by (N := ["script", "m", "cell"]) (sc := defScope s__law_begun) (by decide +kernel)) (fun _ _ _ _ _ => (pg_name (i := 2) sc__law_begun.nd rfl (Or.inl rfl))) (fun _ _ _ _ _ => pts_nil) (fun _ _ _ _ _ => (pe_ifExp (pt_cmpR op_ge (pv 2) (pe_op op_pow pe_int pe_int) (nomark _)) (pv 2) pe_int))) rfl)
      (pss_one (ps_ret (pv 1))))), ?_⟩
    refine fun m nm => ⟨_, rfl, a, ns, rfl, sameSL (same_new nm) hs, hl, fun H1 c cs s1 nc hc ok => ⟨Nat.zero_le _, fun g ng => ?_⟩⟩
    have mc : m ≠ c := fun e => by rw [← e, upd_same] at nc; cases nc
    have hm1 : H1 m = some (.dK []) := s1 _ _ upd_same
    have mg1 : m ≠ g := fun e => by rw [e, ng] at hm1; cases hm1
    have cg : c ≠ g := fun e => by rw [e, ng] at hc; cases hc
    refine ⟨by rw [upd_ne mg1]; exact hm1, [(.inr "cells", .ref c), (.inr "great", .ref g), (.inr "spot", .int 0)], rfl, Nat.le_of_ble_eq_true rfl, ?_⟩
    rw [show mergeK [] [((.inr "cells" : L2.Key), V.ref c), (.inr "great", .ref g), (.inr "spot", .int 0)] = [(.inr "cells", .ref c), (.inr "great", .ref g), (.inr "spot", .int 0)] from rfl]
    generalize hH2 : upd (upd H1 g (.lst [])) m (.dK [((.inr "cells" : L2.Key), V.ref c), (.inr "great", .ref g), (.inr "spot", .int 0)]) = H2
    have hm2 : H2 m = some (.dK [((.inr "cells" : L2.Key), V.ref c), (.inr "great", .ref g), (.inr "spot", .int 0)]) := by rw [← hH2, upd_same]
    have hc2 : H2 c = some (.lst (cs.map V.int)) := by rw [← hH2, upd_ne mc.symm, upd_ne cg]; exact hc
    have hs2 : SqL K H2 a (ns.map V.int) := by
      refine sameSL (fun b u hb => ?_) hs
      have h1 : H1 b = some u := (Same.trans (same_new nm) s1) b u hb
      rw [← hH2, upd_ne (ne_of_none hb nm), upd_ne (ne_of_none h1 ng)]
      exact h1
    refine ⟨_, rfl, a, rfl, ⟨_, hs2⟩, fun L nL => ?_⟩
    have Lm : L ≠ m := fun e => by rw [e, hm2] at nL; cases nL
    have Lc : L ≠ c := fun e => by rw [e, hc2] at nL; cases nL
    refine lc_list (K := K) (a := a) (xs := ns.map V.int) (fun i H3 => Same H2 H3 ∧ ∃ gs : List Int, H3 L = some (.lst (gs.map V.int)) ∧ gs.length = i) ⟨same_new nL, [], upd_same, rfl⟩
      (fun i H3 _ ⟨sm, _⟩ => sameSL sm hs2) ?_ ?_
    · rintro i v H3 hi ⟨sm, gs, eL, lg⟩
      obtain ⟨x, hx, rfl⟩ := map_at hi
      have hi63 : i < ns.length := (List.getElem?_eq_some_iff.mp hx).1
      have put : ∀ y : Int, ∃ acc, H3 L = some (.lst acc) ∧ acc.length < sizeLine ∧ (Same H2 (upd H3 L (.lst (acc ++ [V.int y]))) ∧ ∃ gs : List Int, upd H3 L (.lst (acc ++ [V.int y])) L = some (.lst (gs.map V.int)) ∧ gs.length = i + 1) := fun y =>
        ⟨_, eL, by rw [List.length_map]; exact small_of (by omega), same_mut sm nL, gs ++ [y], by rw [upd_same, List.map_append]; rfl, by rw [List.length_append, lg]; rfl⟩
      refine ⟨rfl, _, rfl, 10, 18, rfl, rfl, ⟨by decide, by decide, by decide⟩, x, _, rfl, rfl, _, rfl, ?_⟩
      by_cases hx2 : (10 : Int) ^ (18 : Int).toNat ≤ x
      · rw [decide_eq_true hx2]
        exact ⟨_, rfl, put x⟩
      · rw [decide_eq_false hx2]
        exact put 0
    · rintro H3 ⟨sm, gs, eL, lg⟩
      rw [List.length_map] at lg
      have hm3 := sm _ _ hm2
      refine ⟨_, rfl, m, _, rfl, .k (k := .inr "great") hm3 (small_of (Nat.le_of_ble_eq_true rfl)), ?_⟩
      rw [show putK [((.inr "cells" : L2.Key), V.ref c), (.inr "great", .ref g), (.inr "spot", .int 0)] (.inr "great") (V.ref L) = [(.inr "cells", .ref c), (.inr "great", .ref L), (.inr "spot", .int 0)] from rfl]
      refine ⟨_, rfl, q _ m c L ⟨cs, gs, 0, upd_same, ?_, ?_, ok.1, ok.2, Lc.symm, by omega, Int.le_refl _, Int.le_refl _⟩⟩
      · rw [upd_ne mc.symm]
        exact sm _ _ hc2
      · rw [upd_ne Lm]
        exact eL
end
end KQ
namespace KQ
open PySem PySem.Spec PyProof.Rows L2 KR KM StX
/-! ### data that repr shows in short -/
structure Nc (k W : Nat) (d : PyData) : Prop where
  sh : d.showable = true
  nd : d.hasDict = false
  dp : d.depth ≤ k
  lf : d.leavesShort 13 = true
  wt : d.weight ≤ W
structure NcA (k W : Nat) (ds : List PyData) : Prop where
  sh : PyData.showableAll ds = true
  nd : PyData.hasDictAll ds = false
  dp : PyData.depthAll ds ≤ k
  lf : PyData.leavesShortAll 13 ds = true
  wt : PyData.weightAll ds ≤ W
theorem Nc.le {k W k' W' : Nat} {d : PyData} (h : Nc k W d) (h1 : k ≤ k') (h2 : W ≤ W') : Nc k' W' d := ⟨h.sh, h.nd, Nat.le_trans h.dp h1, h.lf, Nat.le_trans h.wt h2⟩
theorem NcA.le {k W k' W' : Nat} {d : List PyData} (h : NcA k W d) (h1 : k ≤ k') (h2 : W ≤ W') : NcA k' W' d := ⟨h.sh, h.nd, Nat.le_trans h.dp h1, h.lf, Nat.le_trans h.wt h2⟩
theorem nc_nat : ∀ i : Fin 1024, Nc 0 10 (.int ((i.val : Nat) : Int)) := fun i => by
  have e : ((i.val : Int)).natAbs = i.val := rfl
  have hlog : i.val.log2 < 10 := by
    by_cases h0 : i.val = 0
    · rw [h0]
      decide
    · exact (Nat.log2_lt h0).2 (by have := i.isLt; omega)
  refine ⟨?_, rfl, Nat.le_refl _, ?_, ?_⟩
  · simp only [PyData.showable, e]
    exact decide_eq_true (by omega)
  · simp only [PyData.leavesShort]
    exact decide_eq_true (PyData.shown_int_le (by have := i.isLt; rw [e]; omega))
  · simp only [PyData.weight, e]
    split <;> omega
theorem nc_int {i : Int} (h0 : 0 ≤ i) (h1 : i < 1024) : Nc 0 10 (.int i) := by
  have h := nc_nat ⟨i.toNat, by omega⟩
  have e : ((i.toNat : Nat) : Int) = i := by omega
  rw [show (((⟨i.toNat, by omega⟩ : Fin 1024).val : Nat) : Int) = i from e] at h
  exact h
theorem nc_bool (b : Bool) : Nc 0 0 (.bool b) := ⟨rfl, rfl, Nat.le_refl _, rfl, Nat.le_refl _⟩
theorem nc_nil (k : Nat) : NcA k 0 [] := ⟨rfl, rfl, Nat.zero_le _, rfl, Nat.le_refl _⟩
theorem nc_cons {k W1 W2 : Nat} {d : PyData} {ds : List PyData} (h : Nc k W1 d) (hs : NcA k W2 ds) : NcA k (W1 + 1 + W2) (d :: ds) := by
  refine ⟨?_, ?_, ?_, ?_, ?_⟩
  · simp only [PyData.showableAll, h.sh, hs.sh]; rfl
  · simp only [PyData.hasDictAll, h.nd, hs.nd]; rfl
  · have a := h.dp
    have b := hs.dp
    simp only [PyData.depthAll]
    exact Nat.max_le.mpr ⟨a, b⟩
  · simp only [PyData.leavesShortAll, h.lf, hs.lf]; rfl
  · have a := h.wt
    have b := hs.wt
    simp only [PyData.weightAll]
    omega
theorem nc_all {k W : Nat} : ∀ {ds : List PyData}, (∀ d ∈ ds, Nc k W d) → NcA k ((W + 1) * ds.length) ds
  | [], _ => (nc_nil k).le (Nat.le_refl _) (Nat.zero_le _)
  | d :: ds, h => by
    refine (nc_cons (h d List.mem_cons_self) (nc_all fun x hx => h x (List.mem_cons_of_mem _ hx))).le (Nat.le_refl _) ?_
    rw [List.length_cons, Nat.mul_add]
    omega
theorem nc_tup {k W : Nat} {ds : List PyData} (h : NcA k W ds) : Nc (k + 1) W (.tuple ds) := by
  refine ⟨by simp only [PyData.showable, h.sh], by simp only [PyData.hasDict, h.nd], ?_, by simp only [PyData.leavesShort, h.lf], by simp only [PyData.weight]; exact h.wt⟩
  have := h.dp
  simp only [PyData.depth]
  omega
theorem nc_lst {k W : Nat} {ds : List PyData} (h : NcA k W ds) : Nc (k + 1) W (.list ds) := by
  refine ⟨by simp only [PyData.showable, h.sh], by simp only [PyData.hasDict, h.nd], ?_, by simp only [PyData.leavesShort, h.lf], by simp only [PyData.weight]; exact h.wt⟩
  have := h.dp
  simp only [PyData.depth]
  omega
theorem nc_ints {p : List Int} (h : ∀ x ∈ p, 0 ≤ x ∧ x < 1024) : NcA 0 (11 * p.length) (p.map PyData.int) := by
  have := nc_all (k := 0) (W := 10) (ds := p.map PyData.int) (fun d hd => by
    obtain ⟨x, hx, rfl⟩ := List.mem_map.mp hd
    exact nc_int (h x hx).1 (h x hx).2)
  rw [List.length_map] at this
  exact this
section
variable {P : Program} {w : World} {K : PySem.W.Frag} {mg : Str → Option Value} {base : Heap}
theorem dp_ti {H : Hp} {a : Addr} {p : List Int} (h : TI H a p) : Dp K H (.ref a) (.tuple (p.map PyData.int)) := .tup (h.seq) (dpAll_ints p)
abbrev s__law_like : Stmt := topS 37
theorem sc__law_like : FnScope ["got", "due"] ["got", "due"] (defScope s__law_like) := ⟨rfl, rfl, rfl, by decide +kernel, rfl, by decide +kernel, by decide +kernel⟩
def spLike (K : PySem.W.Frag) : Sp := fun vs H Q _ => ∃ x y d, vs = [x, y] ∧ Dp K H x d ∧ Dp K H y d ∧ isDisplay d = true ∧ Nc 20 (2 ^ 20) d ∧ Q (.bl true) H
theorem ok_like (D : DefAt K mg "_law_like" s__law_like) (T : Bt mg) : UseG P w K mg base "_law_like" 1 ["got", "due"] (spLike K) := by
  refine use_ofG D (fun f fd F => Fun.okG F sc__law_like (fun vs H Q E h => ?_) (fun cdv A outer s H vs Q E gd hr h => ?_)) (fun _ _ _ _ _ _ us hl => match us, hl with | [_, _], _ => rfl)
  · obtain ⟨x, y, d, rfl, _⟩ := h
    rfl
  · obtain ⟨x, y, d, rfl, hx, hy, dis, nc, q⟩ := h
    refine ⟨_, (pss_one (ps_ret (pe_cmpR op_eq (pe_callB (k_repr (K := K) rfl gd hr.units) (by rfl) T.repr (by decide +kernel) (pa_cons (pv 0) pa_nil)) (pe_callB (k_repr (K := K) rfl gd hr.units) (by rfl) T.repr (by decide +kernel) (pa_cons (pv 1) pa_nil)) (nomark _)))), ?_⟩
    have hl := PyData.shown_fits (B := 13) (by decide) (by decide) nc.lf nc.wt
    have dp : d.depth ≤ 30 := Nat.le_trans nc.dp (by decide)
    refine ⟨_, rfl, x, d, rfl, hx, dis, nc.sh, nc.nd, dp, hl, _, rfl, y, d, rfl, hy, dis, nc.sh, nc.nd, dp, hl, ?_⟩
    refine ⟨rfl, ?_⟩
    rw [decide_eq_true rfl]
    exact q
theorem Kept.trans {H H1 H2 : Hp} {m g : Addr} (h : Kept H H1 m g) (h2 : Kept H1 H2 m g) : Kept H H2 m g := fun a u ha na nb => h2 a u (h a u ha na nb) na nb
theorem Kept.of {H H' : Hp} {m g : Addr} (h : Same H H') : Kept H H' m g := fun a u ha _ _ => h a u ha
theorem MS.mono {H H' : Hp} {m c g : Addr} {b : Int} (h : MS H m c g b) (s : Same H H') : MS H' m c g b := by
  obtain ⟨cs, gs, n, h1, h2, h3, r⟩ := h
  exact ⟨cs, gs, n, s _ _ h1, s _ _ h2, s _ _ h3, r⟩
theorem MS.le {H : Hp} {m c g : Addr} {b b' : Int} (h : MS H m c g b) (l : b ≤ b') : MS H m c g b' := by
  obtain ⟨cs, gs, n, h1, h2, h3, h4, h5, h6, h7, h8, h9⟩ := h
  exact ⟨cs, gs, n, h1, h2, h3, h4, h5, h6, h7, h8, by omega⟩
/-- the state stays where another object is changed -/
theorem MS.put {H : Hp} {m c g : Addr} {b : Int} (h : MS H m c g b) {a : Addr} {o : HO} (n1 : a ≠ m) (n2 : a ≠ c) (n3 : a ≠ g) : MS (L2.upd H a o) m c g b := by
  obtain ⟨cs, gs, n, h1, h2, h3, r⟩ := h
  exact ⟨cs, gs, n, by rw [upd_ne n1.symm]; exact h1, by rw [upd_ne n2.symm]; exact h2, by rw [upd_ne n3.symm]; exact h3, r⟩
theorem MS.ne {H : Hp} {m c g : Addr} {b : Int} (h : MS H m c g b) {a : Addr} (n : H a = none) : a ≠ m ∧ a ≠ c ∧ a ≠ g := by
  obtain ⟨cs, gs, k, h1, h2, h3, r⟩ := h
  exact ⟨ne_of_none h1 n |>.symm, ne_of_none h2 n |>.symm, ne_of_none h3 n |>.symm⟩
theorem kept_mut {H H' : Hp} {m g p : Addr} {o : HO} (e : Kept H H' m g) (h : H p = none) : Kept H (L2.upd H' p o) m g := fun a u ha na nb => by
  rw [upd_ne (ne_of_none ha h)]
  exact e a u ha na nb
theorem Kept.ti {H H' : Hp} {m c g a : Addr} {b : Int} {p : List Int} (h : Kept H H' m g) (s : MS H m c g b) (t : TI H a p) : TI H' a p := by
  obtain ⟨cs, gs, k, h1, h2, h3, r⟩ := s
  refine h a _ t (fun e => ?_) (fun e => ?_)
  · have t' : H a = _ := t
    rw [e, h1] at t'
    cases t'
  · have t' : H a = _ := t
    rw [e, h3] at t'
    cases t'
theorem erase_perm {α : Type} : ∀ {ls : List α} {k : Nat} {x : α}, ls[k]? = some x → ([x] ++ ls.eraseIdx k).Perm ls
  | [], k, x, h => by simp at h
  | a :: r, 0, x, h => by
    obtain rfl : a = x := Option.some.inj h
    exact List.Perm.refl _
  | a :: r, k + 1, x, h => by
    have h' : r[k]? = some x := h
    exact (List.Perm.swap a x _).trans (List.Perm.cons a (erase_perm h'))
theorem erase_map {α β : Type} (f : α → β) : ∀ (ls : List α) (k : Nat), (ls.map f).eraseIdx k = (ls.eraseIdx k).map f
  | [], k => by simp
  | a :: r, 0 => rfl
  | a :: r, k + 1 => by
    show f a :: (r.map f).eraseIdx k = f a :: (r.eraseIdx k).map f
    rw [erase_map f r k]
abbrev s__law_order : Stmt := topS 40
theorem sc__law_order : FnScope ["m", "many", "left", "turn"] ["m", "many"] (defScope s__law_order) := ⟨rfl, rfl, rfl, by decide +kernel, rfl, by decide +kernel, by decide +kernel⟩
def spOrder : Sp := fun vs H Q _ => ∃ m c g b many, vs = [.ref m, .int many] ∧ MS H m c g b ∧ b ≤ 100000 ∧ 1 ≤ many ∧ many ≤ 64 ∧
  ∀ H' l (ds : List Int), Kept H H' m g → MS H' m c g (b + many) → H' l = some (.lst (ds.map V.int)) → H l = none → ds.length = many.toNat → ds.Nodup → (∀ d ∈ ds, 0 ≤ d ∧ d < many) → Q (.ref l) H'
theorem ok_order (D : DefAt K mg "_law_order" s__law_order) (T : Bt mg) (u__law_draw : Use P w K mg base "_law_draw" 2 ["m", "limit"] spDraw) : Use P w K mg base "_law_order" 3 ["m", "many"] spOrder := by
  refine use_of D (fun f fd F => F.ok sc__law_order (fun vs H Q E h => ?_) (fun cdv A outer s H vs Q E hr h => ?_)) (fun _ _ _ _ _ _ us hl => match us, hl with | [_, _], _ => rfl)
  · obtain ⟨m, c, g, b, many, rfl, _⟩ := h
    rfl
  · obtain ⟨m, c, g, b, many, rfl, ms, hb, m1, m2, q⟩ := h
    refine ⟨_, (pss_cons (ps_set (i := 2) sc__law_order.nd rfl (Or.inr rfl) (pe_listRg rfl (by rfl) T.list (prg_1 (by rfl) T.range (pv 1))))
      (pss_one (ps_ret (pe_lc (own := [("turn", 3)]) rfl sc__law_order.nd (pi_range1 (by rfl) T.range (pa_cons (pv 1) pa_nil)) (blkOk_by (N := ["m", "many", "left", "turn"]) (sc := defScope s__law_order) (by decide +kernel)) (fun _ _ _ _ _ => (pg_name (i := 3) sc__law_order.nd rfl (Or.inl rfl))) (fun _ _ _ _ _ => pts_nil) (fun _ _ _ _ _ => (k_bm (K := K) rfl PySem.F.plainAttrs_list PySem.F.slot_list_pop PySem.F.type_list_pop mt_popAt (pv 2) (pa_cons (pe_use u__law_draw (by decide) hr (by rfl) (pa_cons (pv 0) (pa_cons (pe_callB (k_len (K := K) rfl) (by rfl) T.len PySem.boot_len (pa_cons (pv 2) pa_nil)) pa_nil))) pa_nil))))))), ?_⟩
    obtain ⟨mn, rfl⟩ : ∃ n : Nat, many = (n : Int) := ⟨many.toNat, by omega⟩
    refine ⟨_, rfl, _, rfl, RgOk.of_le (by omega) (by omega) (by omega) (by omega), fun l nl => ?_⟩
    rw [rgV_hv]
    refine ⟨_, rfl, _, rfl, by omega, by omega, fun L nL => ?_⟩
    have lL : l ≠ L := fun e => by rw [← e, upd_same] at nL; cases nL
    have nL0 : H L = none := (same_new nl).free nL
    have ms1 : MS (upd (upd H l (.lst (hv (List.range mn)))) L (.lst [])) m c g b := (ms.mono (same_new nl)).mono (same_new nL)
    refine lc_range (fun i H1 => Kept H H1 m g ∧ MS H1 m c g (b + (i : Nat)) ∧ ∃ os ls : List Nat, H1 l = some (.lst (hv ls)) ∧ H1 L = some (.lst (hv os)) ∧ os.length = i ∧ (os ++ ls).Perm (List.range mn))
      ⟨kept_mut (Kept.of (same_new nl)) nL0, by simpa using ms1, [], List.range mn, by rw [upd_ne lL, upd_same], by rw [upd_same]; rfl, rfl, List.Perm.refl _⟩ ?_ ?_
    · rintro i H1 hi ⟨kp, ms2, os, ls, el, eL, ol, pm⟩
      have hlen : ls.length = mn - i := by
        have := pm.length_eq
        rw [List.length_append, ol, List.length_range] at this
        omega
      have himn : i < mn := by omega
      refine ⟨rfl, _, rfl, .inl ⟨rfl, _, .inl (.inl el)⟩, _, rfl, _, rfl, l, _, rfl, .inl (sqL el), m, c, g, _, _, rfl, ms2, by omega, ?_, ?_, fun H2 d k2 ms3 d0 d1 => ?_⟩
      · unfold hv
        rw [List.length_map]
        omega
      · unfold hv
        rw [List.length_map]
        omega
      have hvl : (hv ls).length = ls.length := by unfold hv; rw [List.length_map]
      rw [hvl] at d1
      obtain ⟨x, hx⟩ : ∃ x, ls[d.toNat]? = some x := ⟨_, List.getElem?_eq_getElem (by omega)⟩
      have lm : l ≠ m ∧ l ≠ g := by
        have := ms.ne nl
        exact ⟨this.1, this.2.2⟩
      have Lm : L ≠ m ∧ L ≠ g := by
        have := ms.ne nL0
        exact ⟨this.1, this.2.2⟩
      have el2 := k2 l _ el lm.1 lm.2
      have eL2 := k2 L _ eL Lm.1 Lm.2
      refine ⟨l, hv ls, d, d.toNat, .int ((x : Nat) : Int), rfl, rfl, el2, by omega, by omega, ?_, at_map hx, ?_⟩
      · have := (ixN_seq (ixN_of (n := ls.length) d0 d1)).1
        rw [hvl]
        exact this
      refine ⟨_, by rw [upd_ne lL.symm]; exact eL2, ?_, ?_⟩
      · unfold hv
        rw [List.length_map]
        exact small_of (by omega)
      refine ⟨kept_mut (kept_mut (kp.trans k2) nl) nL0, ?_, os ++ [x], ls.eraseIdx d.toNat, ?_, ?_, ?_, ?_⟩
      · have := ms3
        have n1 := ms.ne nl
        have n2 := ms.ne nL0
        rw [show b + ((i + 1 : Nat) : Int) = b + (i : Nat) + 1 by omega]
        exact (ms3.put n1.1 n1.2.1 n1.2.2).put n2.1 n2.2.1 n2.2.2
      · rw [upd_ne lL, upd_same]
        unfold hv
        rw [erase_map]
      · rw [upd_same]
        unfold hv
        rw [List.map_append]
        rfl
      · rw [List.length_append, ol]
        rfl
      · rw [List.append_assoc]
        exact (List.Perm.append_left os (erase_perm hx)).trans pm
    · rintro H1 ⟨kp, ms2, os, ls, el, eL, ol, pm⟩
      have l0 : ls = [] := by
        have := pm.length_eq
        rw [List.length_append, ol, List.length_range] at this
        exact List.length_eq_zero_iff.mp (by omega)
      subst l0
      rw [List.append_nil] at pm
      rw [show ((((mn : Nat) : Int)).toNat : Nat) = mn by omega] at ms2
      refine q H1 L (os.map fun x => ((x : Nat) : Int)) kp ms2 ?_ nL0 ?_ ?_ ?_
      · rw [eL, List.map_map]
        rfl
      · rw [List.length_map, ol]
      · exact List.pairwise_map.mpr ((pm.nodup_iff.mpr List.nodup_range).imp fun h e => h (by omega))
      · intro d hd
        obtain ⟨x, hx, rfl⟩ := List.mem_map.mp hd
        have := List.mem_range.mp (pm.mem_iff.mp hx)
        omega
end
end KQ
namespace KQ
open PySem PySem.Spec PyProof.Rows L2 KR KM StX
theorem dg_new {α κ : Type} [DecidableEq α] [DecidableEq κ] {f : α → κ} (hf : ∀ a b, f a = f b → a = b) {ks : List α} {x : α} (h : ks.Nodup) (hx : x ∉ ks) : valV (dg f (ks ++ [x])) (f x) = some (V.int ((ks.length : Nat) : Int)) := by
  have hn : (ks ++ [x]).Nodup := by
    rw [List.nodup_append]
    refine ⟨h, by simp, fun a ha b hb e => ?_⟩
    rw [List.mem_singleton.mp hb] at e
    exact hx (e ▸ ha)
  rw [dg_val hf _ _ hn, if_pos (by simp), List.idxOf_append, if_neg hx]
  simp
section
variable {P : Program} {w : World} {K : PySem.W.Frag} {mg : Str → Option Value} {base : Heap}
abbrev s__law_numbered : Stmt := topS 41
theorem sc__law_numbered : FnScope ["labels", "spots", "found", "label"] ["labels"] (defScope s__law_numbered) := ⟨rfl, rfl, rfl, by decide +kernel, rfl, by decide +kernel, by decide +kernel⟩
theorem ok_lnumL (D : DefAt K mg "_law_numbered" s__law_numbered) (T : Bt mg) : Use P w K mg base "_law_numbered" 1 ["labels"] spNumL := by
  refine use_of D (fun f fd F => F.ok sc__law_numbered (fun vs H Q E h => ?_) (fun cdv A outer s H vs Q E hr h => ?_)) (fun _ _ _ _ _ _ us hl => match us, hl with | [_], _ => rfl)
  · obtain ⟨a, p, rfl, _⟩ := h
    rfl
  · obtain ⟨a, xs, rfl, hp, hl, q⟩ := h
    refine ⟨_, (pss_cons (ps_par (i := 1) (j := 2) rfl sc__law_numbered.nd rfl rfl (by decide) rfl rfl (pa_cons pe_dnewK (pa_cons (pe_lst pa_nil) pa_nil)) (by rfl))
      (pss_cons (ps_for PassesOwn.never rfl (k_list (K := K) rfl (pv 0)) (pg_name (i := 3) sc__law_numbered.nd rfl (Or.inl rfl))
      (pss_cons (ps_if (pt_cmp (pc_dnotin (hu_of hr) (pv 3) (pv 1))) (pss_one (ps_dput (hu_of hr) (pv 1) (pv 3) (pe_callB call_lenD (by rfl) T.len PySem.boot_len (pa_cons (pv 1) pa_nil)) rfl)) pss_nil)
      (pss_one (ps_expr (k_bm (K := K) rfl PySem.F.plainAttrs_list PySem.F.slot_list_append PySem.F.type_list_append mt_append (pv 2) (pa_cons (pe_dget (hu_of hr) (pv 1) (pv 3) (fun _ _ => rfl)) pa_nil))))))
      (pss_one (ps_ret (pe_callTy (k_tupOf (K := K) rfl) (by rfl) T.tuple (by decide +kernel) (pa_cons (pv 2) pa_nil)))))), ?_⟩
    refine fun d nd => ⟨Nat.zero_le _, fun L nL => ?_⟩
    have s0 : Same H (upd H d (.dK [])) := same_new nd
    have s1 : Same H (upd (upd H d (.dK [])) L (.lst [])) := s0.trans (same_new nL)
    have nL0 : H L = none := s0.free nL
    have ndL : d ≠ L := fun e => by rw [e, upd_same] at nL; cases nL
    refine ⟨_, _, rfl, ?_⟩
    refine ⟨_, rfl, a, rfl, ⟨_, sqL (s1 _ _ hp)⟩, for_list (K := K) (a := a) (xs := xs.map V.int)
      (fun i σ H1 => ∃ y3, σ = [some (.ref a), some (.ref d), some (.ref L), y3] ∧ Same H H1 ∧ H1 d = some (.dK (dg kI (firsts (xs.take i)))) ∧ H1 L = some (.lst ((num (xs.take i)).map V.int)))
      ⟨none, rfl, s1, ?_, ?_⟩ (fun i σ H1 _ ⟨_, _, sm, _⟩ => sqL (sm _ _ hp)) ?_ ?_⟩
    · rw [upd_ne ndL, upd_same]
      rfl
    · rw [upd_same]
      rfl
    · rintro i v σ H1 hi ⟨y3, rfl, sm, ed, eL⟩
      obtain ⟨x, hx, rfl⟩ := map_at hi
      have small : ((num (xs.take i)).map V.int).length < sizeLine := by
        rw [List.length_map, num_len, List.length_take]
        exact small_of (by omega)
      have small2 : (dg kI (firsts (xs.take i))).length < sizeLine := by
        rw [dg_len]
        have := firsts_le (xs.take i)
        rw [List.length_take] at this
        exact small_of (by omega)
      by_cases hm : x ∈ firsts (xs.take i)
      · obtain ⟨e1, e2⟩ := num_old hm
        have gv : DGet H1 d (V.int x) (some (V.int (((firsts (xs.take i)).idxOf x : Nat) : Int))) := by
          have := DGet.k (k := kI x) ed
          rw [dg_val kI_inj _ _ (firsts_nodup _), if_pos hm] at this
          exact this
        refine ⟨_, rfl, _, rfl, d, _, rfl, gv, _, rfl, _, rfl, .inl ⟨rfl, _, .inl (.inl eL)⟩, _, rfl, _, rfl, d, _, rfl, gv, L, _, _, rfl, rfl, eL, small, some (.int x), rfl, same_mut sm nL0, ?_, ?_⟩
        · rw [upd_ne ndL, take_snoc hx, e2]
          exact ed
        · rw [upd_same, take_snoc hx, e1, List.map_append]
          rfl
      · obtain ⟨e1, e2⟩ := num_new hm
        have gv : DGet H1 d (V.int x) none := by
          have := DGet.k (k := kI x) ed
          rw [dg_val kI_inj _ _ (firsts_nodup _), if_neg hm] at this
          exact this
        have ed2 : (upd H1 d (.dK (putK (dg kI (firsts (xs.take i))) (kI x) (.int (((firsts (xs.take i)).length : Nat) : Int))))) d = some (.dK (dg kI (firsts (xs.take i) ++ [x]))) := by
          rw [upd_same, dg_put kI_inj _ _ hm]
        have gv2 : DGet (upd H1 d (.dK (putK (dg kI (firsts (xs.take i))) (kI x) (.int (((firsts (xs.take i)).length : Nat) : Int))))) d (V.int x) (some (V.int (((firsts (xs.take i)).length : Nat) : Int))) := by
          have := DGet.k (k := kI x) ed2
          rw [dg_new kI_inj (firsts_nodup _) hm] at this
          exact this
        have eL2 : (upd H1 d (.dK (putK (dg kI (firsts (xs.take i))) (kI x) (.int (((firsts (xs.take i)).length : Nat) : Int))))) L = some (.lst ((num (xs.take i)).map V.int)) := by
          rw [upd_ne ndL.symm]
          exact eL
        refine ⟨_, rfl, _, rfl, d, _, rfl, gv, _, rfl, _, rfl, d, _, rfl, ed, ?_⟩
        rw [dg_len]
        refine ⟨_, rfl, _, rfl, d, _, rfl, DPut.k (k := kI x) ed small2, ?_⟩
        refine ⟨_, rfl, .inl ⟨rfl, _, .inl (.inl eL2)⟩, _, rfl, _, rfl, d, _, rfl, gv2, L, _, _, rfl, rfl, eL2, small, some (.int x), rfl, same_mut (same_mut sm nd) nL0, ?_, ?_⟩
        · rw [upd_ne ndL, ed2, take_snoc hx, e2]
        · rw [upd_same, take_snoc hx, e1, List.map_append]
          rfl
    · rintro σ H1 ⟨y3, rfl, sm, ed, eL⟩
      refine ⟨_, rfl, L, _, rfl, .inl ⟨.inl (.inl eL), fun l hl => ?_⟩⟩
      refine q _ l (sm.trans (same_new hl)) ?_
      show upd H1 l _ l = _
      rw [upd_same, List.length_map, List.take_length]
theorem ok_lnumP (D : DefAt K mg "_law_numbered" s__law_numbered) (T : Bt mg) : Use P w K mg base "_law_numbered" 1 ["labels"] spNumP := by
  refine use_of D (fun f fd F => F.ok sc__law_numbered (fun vs H Q E h => ?_) (fun cdv A outer s H vs Q E hr h => ?_)) (fun _ _ _ _ _ _ us hl => match us, hl with | [_], _ => rfl)
  · obtain ⟨a, ts, xs, rfl, _⟩ := h
    rfl
  · obtain ⟨a, ts, xs, rfl, hp, pa, hl, q⟩ := h
    refine ⟨_, (pss_cons (ps_par (i := 1) (j := 2) rfl sc__law_numbered.nd rfl rfl (by decide) rfl rfl (pa_cons pe_dnewT (pa_cons (pe_lst pa_nil) pa_nil)) (by rfl))
      (pss_cons (ps_for PassesOwn.never rfl (k_list (K := K) rfl (pv 0)) (pg_name (i := 3) sc__law_numbered.nd rfl (Or.inl rfl))
      (pss_cons (ps_if (pt_cmp (pc_dnotin (hu_of hr) (pv 3) (pv 1))) (pss_one (ps_dput (hu_of hr) (pv 1) (pv 3) (pe_callB call_len_dT (by rfl) T.len PySem.boot_len (pa_cons (pv 1) pa_nil)) rfl)) pss_nil)
      (pss_one (ps_expr (k_bm (K := K) rfl PySem.F.plainAttrs_list PySem.F.slot_list_append PySem.F.type_list_append mt_append (pv 2) (pa_cons (pe_dget (hu_of hr) (pv 1) (pv 3) (fun _ _ => rfl)) pa_nil))))))
      (pss_one (ps_ret (pe_callTy (k_tupOf (K := K) rfl) (by rfl) T.tuple (by decide +kernel) (pa_cons (pv 2) pa_nil)))))), ?_⟩
    refine fun d nd => ⟨Nat.zero_le _, fun L nL => ?_⟩
    have s0 : Same H (upd H d (.dT [])) := same_new nd
    have s1 : Same H (upd (upd H d (.dT [])) L (.lst [])) := s0.trans (same_new nL)
    have nL0 : H L = none := s0.free nL
    have ndL : d ≠ L := fun e => by rw [e, upd_same] at nL; cases nL
    refine ⟨_, _, rfl, ?_⟩
    refine ⟨_, rfl, a, rfl, ⟨_, sqL (s1 _ _ hp)⟩, for_list (K := K) (a := a) (xs := ts.map V.ref)
      (fun i σ H1 => ∃ y3, σ = [some (.ref a), some (.ref d), some (.ref L), y3] ∧ Same H H1 ∧ H1 d = some (.dT (dg kP (firsts (xs.take i)))) ∧ H1 L = some (.lst ((num (xs.take i)).map V.int)))
      ⟨none, rfl, s1, ?_, ?_⟩ (fun i σ H1 _ ⟨_, _, sm, _⟩ => sqL (sm _ _ hp)) ?_ ?_⟩
    · rw [upd_ne ndL, upd_same]
      rfl
    · rw [upd_same]
      rfl
    · rintro i v σ H1 hi ⟨y3, rfl, sm, ed, eL⟩
      obtain ⟨t, ht, rfl⟩ := map_at hi
      obtain ⟨x, hx, et0⟩ := pa.2 i t ht
      have et : H1 t = some (.tup ((kP x).map kV)) := sm _ _ et0
      have etd : ∀ o : HO, (upd H1 d o) t = some (.tup ((kP x).map kV)) := fun o => by rw [upd_ne (fun e => by rw [e, nd] at et0; cases et0)]; exact et
      have small : ((num (xs.take i)).map V.int).length < sizeLine := by
        rw [List.length_map, num_len, List.length_take]
        exact small_of (by omega)
      have small2 : (dg kP (firsts (xs.take i))).length < sizeLine := by
        rw [dg_len]
        have := firsts_le (xs.take i)
        rw [List.length_take] at this
        exact small_of (by omega)
      by_cases hm : x ∈ firsts (xs.take i)
      · obtain ⟨e1, e2⟩ := num_old hm
        have gv : DGet H1 d (V.ref t) (some (V.int ((@List.idxOf (Int × Int) instBEqOfDecidableEq x (firsts (xs.take i)) : Nat) : Int))) := by
          have := DGet.t (k := kP x) ed et
          rw [dg_val kP_inj _ _ (firsts_nodup _), if_pos hm] at this
          exact this
        refine ⟨_, rfl, _, rfl, d, _, rfl, gv, _, rfl, _, rfl, .inl ⟨rfl, _, .inl (.inl eL)⟩, _, rfl, _, rfl, d, _, rfl, gv, L, _, _, rfl, rfl, eL, small, some (.ref t), rfl, same_mut sm nL0, ?_, ?_⟩
        · rw [upd_ne ndL, take_snoc hx, e2]
          exact ed
        · rw [upd_same, take_snoc hx, e1, List.map_append]
          rfl
      · obtain ⟨e1, e2⟩ := num_new hm
        have gv : DGet H1 d (V.ref t) none := by
          have := DGet.t (k := kP x) ed et
          rw [dg_val kP_inj _ _ (firsts_nodup _), if_neg hm] at this
          exact this
        have ed2 : (upd H1 d (.dT (putK (dg kP (firsts (xs.take i))) (kP x) (.int (((firsts (xs.take i)).length : Nat) : Int))))) d = some (.dT (dg kP (firsts (xs.take i) ++ [x]))) := by
          rw [upd_same, dg_put kP_inj _ _ hm]
        have gv2 : DGet (upd H1 d (.dT (putK (dg kP (firsts (xs.take i))) (kP x) (.int (((firsts (xs.take i)).length : Nat) : Int))))) d (V.ref t) (some (V.int (((firsts (xs.take i)).length : Nat) : Int))) := by
          have := DGet.t (k := kP x) ed2 (etd _)
          rw [dg_new kP_inj (firsts_nodup _) hm] at this
          exact this
        have eL2 : (upd H1 d (.dT (putK (dg kP (firsts (xs.take i))) (kP x) (.int (((firsts (xs.take i)).length : Nat) : Int))))) L = some (.lst ((num (xs.take i)).map V.int)) := by
          rw [upd_ne ndL.symm]
          exact eL
        refine ⟨_, rfl, _, rfl, d, _, rfl, gv, _, rfl, _, rfl, d, _, rfl, ed, ?_⟩
        rw [dg_len]
        refine ⟨_, rfl, _, rfl, d, _, rfl, DPut.t (k := kP x) ed et small2, ?_⟩
        refine ⟨_, rfl, .inl ⟨rfl, _, .inl (.inl eL2)⟩, _, rfl, _, rfl, d, _, rfl, gv2, L, _, _, rfl, rfl, eL2, small, some (.ref t), rfl, same_mut (same_mut sm nd) nL0, ?_, ?_⟩
        · rw [upd_ne ndL, ed2, take_snoc hx, e2]
        · rw [upd_same, take_snoc hx, e1, List.map_append]
          rfl
    · rintro σ H1 ⟨y3, rfl, sm, ed, eL⟩
      refine ⟨_, rfl, L, _, rfl, .inl ⟨.inl (.inl eL), fun l hl => ?_⟩⟩
      refine q _ l (sm.trans (same_new hl)) ?_
      show upd H1 l _ l = _
      rw [upd_same, List.length_map, pa.1, List.take_length]
end
end KQ
namespace KQ
open PySem PySem.Spec PyProof.Rows L2 KR KM StX
section
variable {P : Program} {w : World} {K : PySem.W.Frag} {mg : Str → Option Value} {base : Heap}
theorem Kept.free {H H1 : Hp} {m g L : Addr} (h : Kept H H1 m g) (n : H1 L = none) (n1 : L ≠ m) (n2 : L ≠ g) : H L = none := by
  cases e : H L with
  | none => rfl
  | some u =>
    rw [h L u e n1 n2] at n
    cases n
abbrev s__law_any_parting : Stmt := topS 42
theorem sc__law_any_parting : FnScope ["m", "many", "cap", "turn"] ["m", "many"] (defScope s__law_any_parting) := ⟨rfl, rfl, rfl, by decide +kernel, rfl, by decide +kernel, by decide +kernel⟩
def spAny : Sp := fun vs H Q _ => ∃ m c g b many, vs = [.ref m, .int many] ∧ MS H m c g b ∧ b ≤ 100000 ∧ 1 ≤ many ∧ many ≤ 60 ∧
  ∀ H' t p, Kept H H' m g → MS H' m c g (b + 1 + many) → TI H' t p → Par p → p.length = many.toNat → Q (.ref t) H'
theorem ok_any (D : DefAt K mg "_law_any_parting" s__law_any_parting) (T : Bt mg) (u__law_draw : Use P w K mg base "_law_draw" 2 ["m", "limit"] spDraw)
    (u__law_numbered : Use P w K mg base "_law_numbered" 1 ["labels"] spNumL) : Use P w K mg base "_law_any_parting" 3 ["m", "many"] spAny := by
  refine use_of D (fun f fd F => F.ok sc__law_any_parting (fun vs H Q E h => ?_) (fun cdv A outer s H vs Q E hr h => ?_)) (fun _ _ _ _ _ _ us hl => match us, hl with | [_, _], _ => rfl)
  · obtain ⟨m, c, g, b, many, rfl, _⟩ := h
    rfl
  · obtain ⟨m, c, g, b, many, rfl, ms, hb, m1, m2, q⟩ := h
    refine ⟨_, (pss_cons (ps_set (i := 2) sc__law_any_parting.nd rfl (Or.inr rfl) (pe_op op_add pe_int (pe_use u__law_draw (by decide) hr (by rfl) (pa_cons (pv 0) (pa_cons (pv 1) pa_nil)))))
      (pss_one (ps_ret (pe_use u__law_numbered (by decide) hr (by rfl) (pa_cons (pe_lc (own := [("turn", 3)]) rfl sc__law_any_parting.nd (pi_range1 (by rfl) T.range (pa_cons (pv 1) pa_nil)) (blkOk_by (N := ["m", "many", "cap", "turn"]) (sc := defScope s__law_any_parting) (by decide +kernel)) (fun _ _ _ _ _ => (pg_name (i := 3) sc__law_any_parting.nd rfl (Or.inl rfl))) (fun _ _ _ _ _ => pts_nil) (fun _ _ _ _ _ => (pe_use u__law_draw (by decide) hr (by rfl) (pa_cons (pv 0) (pa_cons (pv 2) pa_nil))))) pa_nil))))), ?_⟩
    refine ⟨_, rfl, _, rfl, m, c, g, b, many, rfl, ms, by omega, by omega, by omega, fun H1 d k1 ms1 d0 d1 => ⟨1, d, rfl, rfl, ?_⟩⟩
    refine ⟨_, rfl, _, rfl, by omega, by omega, fun L nL => ?_⟩
    have Ln := ms1.ne nL
    have nLH := k1.free nL Ln.1 Ln.2.2
    refine lc_range (fun i H2 => (∃ xs : List Int, H2 L = some (.lst (xs.map V.int)) ∧ xs.length = i) ∧ Kept H H2 m g ∧ MS H2 m c g (b + 1 + (i : Nat)))
      ⟨⟨[], upd_same, rfl⟩, kept_mut k1 nLH, by simpa using ms1.put Ln.1 Ln.2.1 Ln.2.2⟩ ?_ ?_
    · rintro i H2 hi ⟨⟨xs, eL, lx⟩, k2, ms2⟩
      refine ⟨rfl, _, rfl, _, rfl, m, c, g, _, _, rfl, ms2, by omega, by omega, by omega, fun H3 e k3 ms3 e0 e1 => ?_⟩
      have eL3 := k3 L _ eL Ln.1 Ln.2.2
      refine ⟨_, eL3, ?_, ⟨xs ++ [e], ?_, ?_⟩, ?_, ?_⟩
      · rw [List.length_map, lx]
        exact small_of (by omega)
      · rw [upd_same, List.map_append]
        rfl
      · rw [List.length_append, lx]
        rfl
      · exact kept_mut (k2.trans k3) nLH
      · rw [show b + 1 + ((i + 1 : Nat) : Int) = b + 1 + (i : Nat) + 1 by omega]
        exact ms3.put Ln.1 Ln.2.1 Ln.2.2
    · rintro H2 ⟨⟨xs, eL, lx⟩, k2, ms2⟩
      refine ⟨L, xs, rfl, eL, by omega, fun H3 t s3 ht => ?_⟩
      refine q H3 t (num xs) (k2.trans (Kept.of s3)) ?_ ht (num_par ?_ (by omega)) (by rw [num_len, lx])
      · have := ms2.mono s3
        rw [show (((many.toNat : Nat)) : Int) = many by omega] at this
        exact this
      · intro e
        rw [e] at lx
        simp at lx
        omega
def spCoarser : Sp := fun vs H Q _ => ∃ m c g b a p, vs = [.ref m, .ref a] ∧ MS H m c g b ∧ b ≤ 100000 ∧ TI H a p ∧ Par p ∧
  ∀ H' t r, Kept H H' m g → MS H' m c g (b + 61) → TI H' t r → Par r → r.length = p.length → Q (.ref t) H'
def Gd (p r : List Int) (s t : Nat) : Prop := p[s]? = p[t]? → r[s]? = r[t]?
theorem finer_gd {p r : List Int} (hl : p.length = r.length) : Finer p r ↔ ∀ t, t < p.length → ∀ s, s < t → Gd p r s t := by
  constructor
  · intro h t ht s hs e
    have hp := List.getElem?_eq_getElem ht
    have hr : r[t]? = some _ := List.getElem?_eq_getElem (by omega)
    have hr2 : r[s]? = some _ := List.getElem?_eq_getElem (by omega)
    rw [hp] at e
    rw [hr, hr2, h s t _ _ _ e hp hr2 hr]
  · intro h i j x y z hi hj yi zj
    have li := (List.getElem?_eq_some_iff.mp hi).1
    have lj := (List.getElem?_eq_some_iff.mp hj).1
    rcases Nat.lt_trichotomy i j with c | c | c
    · have := h j lj i c (by rw [hi, hj])
      rw [yi, zj] at this
      exact Option.some.inj this
    · subst c
      rw [yi] at zj
      exact Option.some.inj zj
    · have := h i li j c (by rw [hi, hj])
      rw [yi, zj] at this
      exact (Option.some.inj this).symm
def spLFiner : Sp := fun vs H Q _ => ∃ a b p r, vs = [.ref a, .ref b] ∧ TI H a p ∧ TI H b r ∧ p.length ≤ 60 ∧ p.length = r.length ∧ ∀ H' c, Same H H' → (c = true ↔ Finer p r) → Q (.bl c) H'
end
end KQ
namespace KQ
open PySem PySem.Spec PyProof.Rows L2 KR KM StX
section
variable {P : Program} {w : World} {K : PySem.W.Frag} {mg : Str → Option Value} {base : Heap}
/-- tuples of whole numbers, in their order -/
def Its (H : Hp) (ts : List Addr) (xss : List (List Int)) : Prop := ts.length = xss.length ∧ ∀ (i : Nat) (t : Addr), ts[i]? = some t → ∃ xs, xss[i]? = some xs ∧ TI H t xs
theorem Its.mono {H H' : Hp} {ts : List Addr} {xss : List (List Int)} (h : Its H ts xss) (s : Same H H') : Its H' ts xss := ⟨h.1, fun i t ht => let ⟨xs, a, b⟩ := h.2 i t ht; ⟨xs, a, b.mono s⟩⟩
theorem Its.put {H : Hp} {ts : List Addr} {xss : List (List Int)} {L : Addr} {xs : List V} {o : HO} (h : Its H ts xss) (e : H L = some (.lst xs)) : Its (upd H L o) ts xss := ⟨h.1, fun i t ht => by
  obtain ⟨ys, a, b⟩ := h.2 i t ht
  refine ⟨ys, a, ?_⟩
  have b' : H t = some (.tup (ys.map V.int)) := b
  show upd H L o t = _
  rw [upd_ne (fun q => by rw [q, e] at b'; cases b')]
  exact b'⟩
theorem Its.app {H : Hp} {ts us : List Addr} {xss yss : List (List Int)} (h : Its H ts xss) (g : Its H us yss) : Its H (ts ++ us) (xss ++ yss) := by
  refine ⟨by rw [List.length_append, List.length_append, h.1, g.1], fun i t ht => ?_⟩
  by_cases hi : i < ts.length
  · rw [List.getElem?_append_left hi] at ht
    obtain ⟨xs, a, b⟩ := h.2 i t ht
    exact ⟨xs, by rw [List.getElem?_append_left (by rw [← h.1]; exact hi)]; exact a, b⟩
  · rw [List.getElem?_append_right (by omega)] at ht
    obtain ⟨xs, a, b⟩ := g.2 _ t ht
    refine ⟨xs, ?_, b⟩
    rw [List.getElem?_append_right (by rw [← h.1]; omega), ← h.1]
    exact a
theorem Its.nil {H : Hp} : Its H [] [] := ⟨rfl, fun i t ht => by simp at ht⟩
theorem Its.one {H : Hp} {t : Addr} {xs : List Int} (h : TI H t xs) : Its H [t] [xs] := ⟨rfl, fun i u hu => by
  match i, hu with
  | 0, hu =>
    obtain rfl : t = u := Option.some.inj hu
    exact ⟨xs, rfl, h⟩
  | i + 1, hu => simp at hu⟩
theorem Its.lt {H : Hp} {l : Addr} {ts : List Addr} {xss : List (List Int)} (h : Its H ts xss) (e : H l = some (.lst (ts.map V.ref))) : LT H l xss := ⟨ts, e, h.1, h.2⟩
def spLParts : Sp := fun vs H Q _ => ∃ n : Nat, vs = [.int ((n + 1 : Nat) : Int)] ∧ n < 8 ∧ ∀ H' l, Same H H' → LT H' l (allP n) → Q (.ref l) H'
end
end KQ
namespace KQ
open PySem PySem.Spec PyProof.Rows L2 KR KM StX
section
variable {P : Program} {w : World} {K : PySem.W.Frag} {mg : Str → Option Value} {base : Heap}
abbrev s__law_hung : Stmt := topS 43
theorem sc__law_hung : FnScope ["parting", "other", "shift", "closing", "labels", "at", "one", "two", "label"] ["parting", "other"] (defScope s__law_hung) := ⟨rfl, rfl, rfl, by decide +kernel, rfl, by decide +kernel, by decide +kernel⟩
def LabOf (L : List Int) (x : Nat) : Int := L.getD x 0
def spHung : Sp := fun vs H Q _ => ∃ a b p r, vs = [.ref a, .ref b] ∧ TI H a p ∧ TI H b r ∧ Par p ∧ Par r ∧ p.length = r.length ∧
  ∀ H' t l cl (ls : List Int), Same H H' → H' t = some (.tup [.ref l, cl]) → H' l = some (.lst (ls.map V.int)) → ls.length = (bc 0 p + bc 0 r).toNat →
    (∀ x y, x < ls.length → y < ls.length → (LabOf ls x = LabOf ls y ↔ glue (tiesOf p r) x y)) → Q (.ref t) H'
theorem ok_hung (D : DefAt K mg "_law_hung" s__law_hung) (T : Bt mg) : Use P w K mg base "_law_hung" 1 ["parting", "other"] spHung := by
  refine use_of D (fun f fd F => F.ok sc__law_hung (fun vs H Q E h => ?_) (fun cdv A outer s H vs Q E hr h => ?_)) (fun _ _ _ _ _ _ us hl => match us, hl with | [_, _], _ => rfl)
  · obtain ⟨a, b, p, r, rfl, _⟩ := h
    rfl
  · obtain ⟨a, b, p, r, rfl, hp, hb, par, parb, hl, q⟩ := h
    refine ⟨_, (pss_cons (ps_par (i := 2) (j := 3) rfl sc__law_hung.nd rfl rfl (by decide) rfl rfl (pa_cons (pe_op op_add (pe_callB (k_maxT (K := K) rfl rfl hr.units) (by rfl) T.max (by decide +kernel) (pa_cons (pv 0) pa_nil)) pe_int) (pa_cons pe_non pa_nil)) (by rfl))
      (pss_cons (ps_set (i := 4) sc__law_hung.nd rfl (Or.inl rfl) (pe_listRg rfl (by rfl) T.list (prg_1 (by rfl) T.range (pe_op op_add (pe_op op_add (pv 2) (pe_callB (k_maxT (K := K) rfl rfl hr.units) (by rfl) T.max (by decide +kernel) (pa_cons (pv 1) pa_nil))) pe_int))))
      (pss_cons (ps_for PassesOwn.never rfl (pi_range1 (by rfl) T.range (pa_cons (pe_callB (k_len (K := K) rfl) (by rfl) T.len PySem.boot_len (pa_cons (pv 0) pa_nil)) pa_nil)) (pg_name (i := 5) sc__law_hung.nd rfl (Or.inl rfl))
      (pss_cons (ps_asg (pe_tup (pa_cons (pe_ix (k_ixl (K := K) rfl) (pv 4) (pe_ix (k_ixt (K := K) rfl) (pv 0) (pv 5) (fun _ _ => rfl)) (fun _ _ => rfl)) (pa_cons (pe_ix (k_ixl (K := K) rfl) (pv 4) (pe_op op_add (pv 2) (pe_ix (k_ixt (K := K) rfl) (pv 1) (pv 5) (fun _ _ => rfl))) (fun _ _ => rfl)) pa_nil))) (pg_tup rfl (pgs_cons (pg_name (i := 6) sc__law_hung.nd rfl (Or.inr rfl)) (pgs_cons (pg_name (i := 7) sc__law_hung.nd rfl (Or.inr rfl)) pgs_nil))))
      (pss_cons (ps_if (PW.pt (pw_and (pt_cmpR op_eq (pv 6) (pv 7) (nomark _)) (pw_and1 (pt_cmpR op_isN (pv 3) pe_non (nomark _))))) (pss_one (ps_set (i := 3) sc__law_hung.nd rfl (Or.inl rfl) (pv 5))) pss_nil)
      (pss_one (ps_if (pt_cmpR op_ne (pv 6) (pv 7) (nomark _)) (pss_one (ps_setLc (i := 4) (own := [("label", 8)]) rfl sc__law_hung.nd rfl rfl (sw_true rfl rfl rfl (by decide +kernel)) (k_list (K := K) rfl (pv 4)) (blkOk_by (N := ["parting", "other", "shift", "closing", "labels", "at", "one", "two", "label"]) (sc := defScope s__law_hung) (by decide +kernel)) (fun _ _ _ _ _ => (pg_name (i := 8) sc__law_hung.nd rfl (Or.inl rfl))) (fun _ _ _ _ _ => pts_nil) (fun _ _ _ _ _ => (pe_ifExp (pt_cmpR op_eq (pv 8) (pv 7) (nomark _)) (pv 6) (pv 8))))) pss_nil)))))
      (pss_one (ps_ret (pe_tup (pa_cons (pv 4) (pa_cons (pv 3) pa_nil)))))))), ?_⟩
    have g0 := bc_ge 0 p
    have g1 := bc_le 0 p
    have g2 := par.le
    have g3 := bc_ge 0 r
    have g4 := bc_le 0 r
    have g5 := parb.le
    refine ⟨_, rfl, a, p, rfl, hp.seq, par.ne, fun mx hm hle => ⟨_, _, rfl, rfl, ?_⟩⟩
    have em := par_max par hm hle
    refine ⟨_, _, rfl, ?_⟩
    refine ⟨_, rfl, _, rfl, b, r, rfl, hb.seq, parb.ne, fun my hm2 hle2 => ⟨_, _, rfl, rfl, _, _, rfl, rfl, _, rfl, ?_⟩⟩
    have em2 := par_max parb hm2 hle2
    refine ⟨RgOk.of_le (by omega) (by omega) (by omega) (by omega), fun l0 nl0 => ?_⟩
    rw [show mx + 1 + my + 1 = (((bc 0 p + bc 0 r).toNat : Nat) : Int) by omega, rgV_hv]
    have s0 : Same H (upd H l0 (.lst (hv (List.range (bc 0 p + bc 0 r).toNat)))) := same_new nl0
    have N1 : (bc 0 p + bc 0 r).toNat ≤ 120 := by omega
    refine ⟨_, rfl, a, _, rfl, .inr (hp.mono s0).seq, _, rfl, ?_⟩
    rw [List.length_map]
    refine ⟨by omega, by omega, for_range (lo := 0) (n := (((p.length : Nat) : Int)).toNat)
      (fun i σ H1 => ∃ cl l y5 y6 y7, σ = [some (.ref a), some (.ref b), some (.int (mx + 1)), some cl, some (.ref l), y5, y6, y7, none] ∧ Same H H1 ∧ (cl = .non ∨ ∃ n, cl = .int n) ∧ ∃ ls : List Int, H1 l = some (.lst (ls.map V.int)) ∧ ls.length = (bc 0 p + bc 0 r).toNat ∧
        ∀ x y, x < ls.length → y < ls.length → (LabOf ls x = LabOf ls y ↔ glue ((tiesOf p r).take i) x y))
      ⟨.non, l0, none, none, none, rfl, s0, .inl rfl, (List.range (bc 0 p + bc 0 r).toNat).map fun n => ((n : Nat) : Int), ?_, ?_, ?_⟩ ?_ ?_⟩
    · rw [upd_same]
      unfold hv
      rw [List.map_map]
      rfl
    · rw [List.length_map, List.length_range]
    · intro x y hx hy
      rw [List.length_map, List.length_range] at hx hy
      unfold LabOf
      rw [List.getD_eq_getElem?_getD, List.getD_eq_getElem?_getD, at_map (List.getElem?_range hx), at_map (List.getElem?_range hy)]
      show ((x : Nat) : Int) = ((y : Nat) : Int) ↔ x = y
      omega
    · rintro i σ H1 hi ⟨cl, l, y5, y6, y7, rfl, sm, hcl, ls, el, lln, hgl⟩
      have hip : i < p.length := by omega
      obtain ⟨x, hx⟩ : ∃ x, p[i]? = some x := ⟨_, List.getElem?_eq_getElem hip⟩
      obtain ⟨y, hy⟩ : ∃ y, r[i]? = some y := ⟨_, List.getElem?_eq_getElem (by omega)⟩
      obtain ⟨x0, x1⟩ := (rg_mem 0 p (Int.le_refl _) par.rg).1 x (List.mem_of_getElem? hx)
      obtain ⟨y0, y1⟩ := (rg_mem 0 r (Int.le_refl _) parb.rg).1 y (List.mem_of_getElem? hy)
      obtain ⟨u, hu⟩ : ∃ u, ls[x.toNat]? = some u := ⟨_, List.getElem?_eq_getElem (by omega)⟩
      obtain ⟨v, hv'⟩ : ∃ v, ls[(bc 0 p + y).toNat]? = some v := ⟨_, List.getElem?_eq_getElem (by omega)⟩
      refine ⟨_, rfl, _, rfl, _, rfl, a, _, _, .int x, rfl, rfl, (hp.mono sm).seq, atI_of (j := i) (by omega) (at_map hx), l, _, _, .int u, rfl, rfl, sqL el, atI_of (j := x.toNat) (by omega) (at_map hu), ?_⟩
      refine ⟨_, rfl, _, rfl, _, rfl, _, rfl, b, _, _, .int y, rfl, rfl, (hb.mono sm).seq, atI_of (j := i) (by omega) (at_map hy), _, _, rfl, rfl, l, _, mx + 1 + y, .int v, rfl, rfl, sqL el, atI_of (j := (bc 0 p + y).toNat) (by omega) (at_map hv'), ?_⟩
      refine ⟨by show 2 ≤ sizeLine; decide, fun T1 nT => ?_⟩
      refine ⟨T1, _, rfl, .inl (.inl upd_same), rfl, _, _, rfl, _, [], rfl, rfl, ?_⟩
      have s1 : Same H (upd H1 T1 (.tup [.int u, .int v])) := sm.trans (same_new nT)
      have el1 : (upd H1 T1 (.tup [.int u, .int v])) l = some (.lst (ls.map V.int)) := by rw [upd_ne (ne_of_none el nT)]; exact el
      have tie : ∀ ls' : List Int, ls'.length = ls.length → (∀ z, z < ls.length → LabOf ls' z = if LabOf ls z = v then u else LabOf ls z) →
          ∀ x y, x < ls'.length → y < ls'.length → (LabOf ls' x = LabOf ls' y ↔ glue ((tiesOf p r).take (i + 1)) x y) := by
        intro ls' hlen h' x2 y2 hx2 hy2
        rw [take_snoc (ties_at hx hy), glue_snoc]
        refine tie_labels (S := fun z => z < ls.length) (L := LabOf ls) (L' := LabOf ls') hgl ?_ ?_ (fun z hz => ?_) x2 y2 (by omega) (by omega)
        · show x.toNat < ls.length
          omega
        · show (bc 0 p + y).toNat < ls.length
          omega
        · rw [h' z hz]
          have e1 : LabOf ls (bc 0 p + y).toNat = v := by unfold LabOf; rw [List.getD_eq_getElem?_getD, hv']; rfl
          have e2 : LabOf ls x.toNat = u := by unfold LabOf; rw [List.getD_eq_getElem?_getD, hu]; rfl
          show (if LabOf ls z = v then u else LabOf ls z) = if LabOf ls z = LabOf ls (bc 0 p + y).toNat then LabOf ls x.toNat else LabOf ls z
          rw [e1, e2]
      refine ⟨_, rfl, _, rfl, rfl, _, rfl, ?_⟩
      by_cases e : u = v
      · subst e
        rw [decide_eq_true rfl]
        have same : ∀ x y, x < ls.length → y < ls.length → (LabOf ls x = LabOf ls y ↔ glue ((tiesOf p r).take (i + 1)) x y) := tie ls rfl fun z _ => by
          by_cases q' : LabOf ls z = u
          · rw [if_pos q', q']
          · rw [if_neg q']
        refine ⟨_, rfl, rfl, _, rfl, ?_⟩
        rcases hcl with rfl | ⟨n, rfl⟩
        · refine ⟨_, rfl, _, rfl, _, rfl, rfl, _, rfl, ?_⟩
          rw [decide_eq_true rfl]
          exact ⟨_, l, _, _, _, rfl, s1, .inr ⟨_, rfl⟩, ls, el1, lln, same⟩
        · refine ⟨_, rfl, _, rfl, rfl, _, rfl, ?_⟩
          rw [decide_eq_true rfl]
          exact ⟨_, l, _, _, _, rfl, s1, .inr ⟨_, rfl⟩, ls, el1, lln, same⟩
      · rw [decide_eq_false (fun q => e (V.int.inj q))]
        refine ⟨_, rfl, _, rfl, rfl, _, rfl, ?_⟩
        rw [decide_eq_false (fun q => e (V.int.inj q))]
        refine ⟨_, rfl, l, rfl, ⟨_, sqL el1⟩, fun M nM => ?_⟩
        refine lc_list (K := K) (a := l) (xs := ls.map V.int) (fun k H2 => Same (upd H1 T1 (.tup [.int u, .int v])) H2 ∧ H2 M = some (.lst (((ls.take k).map fun z => if z = v then u else z).map V.int)))
          ⟨same_new nM, upd_same⟩ (fun k H2 _ ⟨s2, _⟩ => sqL (s2 _ _ el1)) ?_ ?_
        · rintro k w2 H2 hk ⟨s2, eM⟩
          obtain ⟨z, hz, rfl⟩ := map_at hk
          have kl := (List.getElem?_eq_some_iff.mp hz).1
          have small : (((ls.take k).map fun z => if z = v then u else z).map V.int).length < sizeLine := by
            rw [List.length_map, List.length_map, List.length_take]
            exact small_of (by omega)
          refine ⟨rfl, _, rfl, _, rfl, rfl, _, rfl, ?_⟩
          by_cases e2 : z = v
          · rw [decide_eq_true (congrArg V.int e2)]
            refine ⟨_, rfl, _, eM, small, same_mut s2 nM, ?_⟩
            rw [upd_same, take_snoc hz, List.map_append, List.map_append]
            show _ = some (HO.lst (_ ++ [V.int (if z = v then u else z)]))
            rw [if_pos e2]
          · rw [decide_eq_false (fun q => e2 (V.int.inj q))]
            refine ⟨_, rfl, _, eM, small, same_mut s2 nM, ?_⟩
            rw [upd_same, take_snoc hz, List.map_append, List.map_append]
            show _ = some (HO.lst (_ ++ [V.int (if z = v then u else z)]))
            rw [if_neg e2]
        · rintro H2 ⟨s2, eM⟩
          rw [List.length_map, List.take_length] at eM
          refine ⟨_, M, _, _, _, rfl, s1.trans s2, hcl, _, eM, by rw [List.length_map]; exact lln, tie _ (by rw [List.length_map]) fun z hz => ?_⟩
          unfold LabOf
          rw [List.getD_eq_getElem?_getD, List.getD_eq_getElem?_getD, at_map (List.getElem?_eq_getElem hz), List.getElem?_eq_getElem hz]
          rfl
    · rintro σ H1 ⟨cl, l, y5, y6, y7, rfl, sm, hcl, ls, el, lln, hgl⟩
      rw [Int.toNat_natCast, ← ties_len hl, List.take_length] at hgl
      refine ⟨_, rfl, _, rfl, by show 2 ≤ sizeLine; decide, fun t nt => q _ t l cl ls (sm.trans (same_new nt)) upd_same ?_ lln hgl⟩
      rw [upd_ne (ne_of_none el nt)]
      exact el
end
end KQ
namespace KQ
open PySem PySem.Spec PyProof.Rows L2 KR KM
/-- lists of one kernel number alike -/
theorem num_congr {α β : Type} [DecidableEq α] [DecidableEq β] {xs : List α} {ys : List β} (hl : ys.length = xs.length)
    (h : ∀ (i j : Nat) (x y : α) (u v : β), xs[i]? = some x → xs[j]? = some y → ys[i]? = some u → ys[j]? = some v → (x = y ↔ u = v)) : num xs = num ys := by
  refine num_is (by rw [num_len, hl]) (num_rg ys) fun i j x y u v hi hj ui vj => ?_
  have li := (List.getElem?_eq_some_iff.mp hi).1
  have lj := (List.getElem?_eq_some_iff.mp hj).1
  have yi : ys[i]? = some _ := List.getElem?_eq_getElem (by omega)
  have yj : ys[j]? = some _ := List.getElem?_eq_getElem (by omega)
  rw [num_ker yi yj ui vj]
  exact h i j x y _ _ hi hj yi yj
/-- ties and glue -/
theorem glue_mem {t : Nat × Nat} : ∀ {ts : List (Nat × Nat)}, t ∈ ts → glue ts t.1 t.2 := by
  intro ts
  have : ∀ n (ts : List (Nat × Nat)), ts.length = n → t ∈ ts → glue ts t.1 t.2 := by
    intro n
    induction n with
    | zero => intro ts hl ht; rw [List.eq_nil_of_length_eq_zero hl] at ht; cases ht
    | succ n ih =>
      intro ts hl ht
      have hne : ts ≠ [] := fun e => by rw [e] at hl; cases hl
      rw [← List.dropLast_concat_getLast hne] at ht ⊢
      rw [glue_snoc]
      rcases List.mem_append.mp ht with ht | ht
      · exact .inl (ih _ (by rw [List.length_dropLast, hl]; rfl) ht)
      · rw [List.mem_singleton.mp ht]
        exact .inr (.inl ⟨(glue_eqv _).refl _, (glue_eqv _).refl _⟩)
  exact this _ ts rfl
theorem glue_map {φ : Nat → Nat} : ∀ (ts : List (Nat × Nat)) (R R' : Nat → Nat → Prop), (∀ x y, R' (φ x) (φ y) ↔ R x y) →
    ∀ x y, (ts.map fun t => (φ t.2, φ t.1)).foldl (fun R t => J R t.1 t.2) R' (φ x) (φ y) ↔ ts.foldl (fun R t => J R t.1 t.2) R x y
  | [], R, R', h, x, y => h x y
  | t :: ts, R, R', h, x, y => by
    refine glue_map ts (J R t.1 t.2) (J R' (φ t.2) (φ t.1)) (fun a b => ?_) x y
    unfold J
    rw [h, h, h, h, h]
    constructor
    · rintro (q | q | q)
      · exact .inl q
      · exact .inr (.inr q)
      · exact .inr (.inl q)
    · rintro (q | q | q)
      · exact .inl q
      · exact .inr (.inr q)
      · exact .inr (.inl q)
theorem zip_swap : ∀ (p r : List Int), r.zip p = (p.zip r).map fun q => (q.2, q.1)
  | [], [] => rfl
  | [], _ :: _ => rfl
  | _ :: _, [] => rfl
  | a :: p, b :: r => by
    rw [List.zip_cons_cons, List.zip_cons_cons, List.map_cons, zip_swap p r]
section
variable {p r : List Int}
theorem zip_at {i : Nat} {x y : Int} (hx : p[i]? = some x) (hy : r[i]? = some y) : (p.zip r)[i]? = some (x, y) := by
  rw [List.getElem?_zip_eq_some]
  exact ⟨hx, hy⟩
theorem tie_at {i : Nat} {x y : Int} (hx : p[i]? = some x) (hy : r[i]? = some y) : glue (tiesOf p r) x.toNat (bc 0 p + y).toNat :=
  glue_mem (t := (x.toNat, (bc 0 p + y).toNat)) (List.mem_of_getElem? (ties_at hx hy))
/-- the blocks of the one and of the other, named the other way about -/
def flip (P R x : Nat) : Nat := if x < P then R + x else if x < P + R then x - P else x
theorem flip_inj {P R x y : Nat} : flip P R x = flip P R y ↔ x = y := by
  unfold flip
  split <;> split <;> (try split) <;> (try split) <;> omega
theorem glue_flip (hp : Rg 0 p) (hr : Rg 0 r) (x y : Nat) :
    glue (tiesOf r p) (flip (bc 0 p).toNat (bc 0 r).toNat x) (flip (bc 0 p).toNat (bc 0 r).toNat y) ↔ glue (tiesOf p r) x y := by
  have e : tiesOf r p = (tiesOf p r).map fun t => (flip (bc 0 p).toNat (bc 0 r).toNat t.2, flip (bc 0 p).toNat (bc 0 r).toNat t.1) := by
    unfold tiesOf
    rw [List.map_map, zip_swap p r, List.map_map]
    refine List.map_congr_left fun q hq => ?_
    have h1 := (rg_mem 0 p (Int.le_refl _) hp).1 q.1 (List.of_mem_zip hq).1
    have h2 := (rg_mem 0 r (Int.le_refl _) hr).1 q.2 (List.of_mem_zip hq).2
    have e1 : flip (bc 0 p).toNat (bc 0 r).toNat (bc 0 p + q.2).toNat = q.2.toNat := by
      unfold flip
      rw [if_neg (by omega), if_pos (by omega)]
      omega
    have e2 : flip (bc 0 p).toNat (bc 0 r).toNat q.1.toNat = (bc 0 r + q.1).toNat := by
      unfold flip
      rw [if_pos (by omega)]
      omega
    show (q.2.toNat, (bc 0 r + q.1).toNat) = (_, _)
    rw [e1, e2]
  rw [e]
  exact glue_map (tiesOf p r) Eq Eq (fun _ _ => flip_inj) x y
/-- above of the one and the other, either way -/
theorem above_flip (hp : Rg 0 p) (hr : Rg 0 r) (hl : p.length = r.length) {L L' : Nat → Int} (h : ∀ x y, L x = L y ↔ glue (tiesOf p r) x y) (h' : ∀ x y, L' x = L' y ↔ glue (tiesOf r p) x y) :
    num (r.map fun b => L' b.toNat) = num (p.map fun b => L b.toNat) := by
  refine num_congr (by rw [List.length_map, List.length_map, hl]) fun i j x y u v hx hy hu hv => ?_
  obtain ⟨x, hx', rfl⟩ := map_at hx
  obtain ⟨y, hy', rfl⟩ := map_at hy
  obtain ⟨u, hu', rfl⟩ := map_at hu
  obtain ⟨v, hv', rfl⟩ := map_at hv
  rw [h, h']
  have a1 := (rg_mem 0 r (Int.le_refl _) hr).1 x (List.mem_of_getElem? hx')
  have a2 := (rg_mem 0 r (Int.le_refl _) hr).1 y (List.mem_of_getElem? hy')
  have f : ∀ z : Int, 0 ≤ z → z < bc 0 r → flip (bc 0 p).toNat (bc 0 r).toNat (bc 0 p + z).toNat = z.toNat := by
    intro z z0 z1
    have := bc_ge 0 p
    unfold flip
    rw [if_neg (by omega), if_pos (by omega)]
    omega
  rw [← f x a1.1 a1.2, ← f y a2.1 a2.2, glue_flip hp hr]
  have E := glue_eqv (tiesOf p r)
  have t1 := tie_at hu' hx'
  have t2 := tie_at hv' hy'
  constructor
  · intro q
    exact E.trans _ _ _ t1 (E.trans _ _ _ q (E.symm _ _ t2))
  · intro q
    exact E.trans _ _ _ (E.symm _ _ t1) (E.trans _ _ _ q t2)
/-- above by labels -/
theorem above_labels (hp : Rg 0 p) {L : Nat → Int} {ls : List Int} (hlen : bc 0 p ≤ ls.length) (h : ∀ x y, L x = L y ↔ glue (tiesOf p r) x y)
    (hg : ∀ x y, x < ls.length → y < ls.length → (LabOf ls x = LabOf ls y ↔ glue (tiesOf p r) x y)) : num (p.map fun b => LabOf ls b.toNat) = num (p.map fun b => L b.toNat) := by
  refine num_congr (by rw [List.length_map, List.length_map]) fun i j x y u v hx hy hu hv => ?_
  obtain ⟨x, hx', rfl⟩ := map_at hx
  obtain ⟨y, hy', rfl⟩ := map_at hy
  obtain ⟨u, hu', rfl⟩ := map_at hu
  obtain ⟨v, hv', rfl⟩ := map_at hv
  rw [hx'] at hu'
  rw [hy'] at hv'
  obtain rfl := Option.some.inj hu'
  obtain rfl := Option.some.inj hv'
  have a1 := (rg_mem 0 p (Int.le_refl _) hp).1 x (List.mem_of_getElem? hx')
  have a2 := (rg_mem 0 p (Int.le_refl _) hp).1 y (List.mem_of_getElem? hy')
  rw [hg x.toNat y.toNat (by omega) (by omega), h]
theorem num_at {α : Type} [DecidableEq α] {xs : List α} {i j : Nat} {x y : α} {u v : Int} (hi : xs[i]? = some x) (hj : xs[j]? = some y) (ui : (num xs)[i]? = some u) (vj : (num xs)[j]? = some v) (e : x = y) : u = v :=
  (num_ker hi hj ui vj).mpr e
theorem at_some {α : Type} {xs : List α} {i : Nat} (h : i < xs.length) : ∃ x, xs[i]? = some x := ⟨_, List.getElem?_eq_getElem h⟩
theorem finer_above1 {L : Nat → Int} : Finer p (num (p.map fun b => L b.toNat)) := by
  intro i j x y z hi hj yi zj
  exact num_at (at_map (f := fun b : Int => L b.toNat) hi) (at_map hj) yi zj rfl
theorem finer_above2 (hl : p.length = r.length) {L : Nat → Int} (h : ∀ x y, L x = L y ↔ glue (tiesOf p r) x y) : Finer r (num (p.map fun b => L b.toNat)) := by
  intro i j x y z hi hj yi zj
  have li := (List.getElem?_eq_some_iff.mp hi).1
  have lj := (List.getElem?_eq_some_iff.mp hj).1
  obtain ⟨u, hu⟩ := at_some (xs := p) (i := i) (by omega)
  obtain ⟨v, hv⟩ := at_some (xs := p) (i := j) (by omega)
  refine num_at (at_map (f := fun b : Int => L b.toNat) hu) (at_map hv) yi zj ((h _ _).mpr ?_)
  have E := glue_eqv (tiesOf p r)
  exact E.trans _ _ _ (tie_at hu hi) (E.symm _ _ (tie_at hv hj))
theorem finer_below1 (hl : p.length = r.length) : Finer (num (p.zip r)) p := by
  intro i j x y z hi hj yi zj
  have li := (List.getElem?_eq_some_iff.mp yi).1
  have lj := (List.getElem?_eq_some_iff.mp zj).1
  obtain ⟨u, hu⟩ := at_some (xs := r) (i := i) (by omega)
  obtain ⟨v, hv⟩ := at_some (xs := r) (i := j) (by omega)
  have := (num_ker (zip_at yi hu) (zip_at zj hv) hi hj).mp rfl
  exact (Prod.mk.inj this).1
theorem finer_below2 (hl : p.length = r.length) : Finer (num (p.zip r)) r := by
  intro i j x y z hi hj yi zj
  have li := (List.getElem?_eq_some_iff.mp yi).1
  have lj := (List.getElem?_eq_some_iff.mp zj).1
  obtain ⟨u, hu⟩ := at_some (xs := p) (i := i) (by omega)
  obtain ⟨v, hv⟩ := at_some (xs := p) (i := j) (by omega)
  have := (num_ker (zip_at hu yi) (zip_at hv zj) hi hj).mp rfl
  exact (Prod.mk.inj this).2
end
/-- codes of blocks -/
def Code (b v : Int) : Prop := ∃ d s : Int, 0 ≤ d ∧ (s = 1 ∨ s = -1) ∧ v = (d * 61 + b) * s
theorem code_inj {b b' v : Int} (h : Code b v) (h' : Code b' v) (b0 : 0 ≤ b) (b1 : b < 61) (c0 : 0 ≤ b') (c1 : b' < 61) : b = b' := by
  obtain ⟨d, s, d0, hs, e⟩ := h
  obtain ⟨d', s', d0', hs', e'⟩ := h'
  rcases hs with rfl | rfl <;> rcases hs' with rfl | rfl <;> omega
theorem num_codes {p xs : List Int} (hp : Rg 0 p) (p60 : p.length ≤ 60) (hl : xs.length = p.length) (h : ∀ (i : Nat) (x v : Int), p[i]? = some x → xs[i]? = some v → Code x v)
    (hf : ∀ (i j : Nat) (x u v : Int), p[i]? = some x → p[j]? = some x → xs[i]? = some u → xs[j]? = some v → u = v) : num xs = p := by
  refine num_is hl.symm hp fun i j x y u v hx hy hu hv => ⟨fun e => ?_, fun e => ?_⟩
  · have a1 := (rg_mem 0 p (Int.le_refl _) hp).1 u (List.mem_of_getElem? hu)
    have a2 := (rg_mem 0 p (Int.le_refl _) hp).1 v (List.mem_of_getElem? hv)
    have g := bc_le 0 p
    subst e
    exact code_inj (h i u x hu hx) (h j v x hv hy) a1.1 (by omega) a2.1 (by omega)
  · subst e
    exact hf i j u x y hu hv hx hy
end KQ
namespace KM
/-! ### heads that lead to roots, in any order -/
structure Wood (hs : List Nat) (ρ d : Nat → Nat) : Prop where
  root : ∀ x, up hs (ρ x) = ρ x
  self : ∀ x, up hs x = x → ρ x = x
  step : ∀ x, ρ (up hs x) = ρ x
  down : ∀ x, up hs x ≠ x → d (up hs x) < d x
  lt : ∀ x, x < hs.length → up hs x < hs.length
  rlt : ∀ x, x < hs.length → ρ x < hs.length
theorem wood_range (n : Nat) : Wood (List.range n) id (fun _ => 0) :=
  ⟨fun x => up_range n x, fun _ _ => rfl, fun x => up_range n x, fun x h => absurd (up_range n x) h, fun x h => by rw [up_range]; exact h, fun _ h => h⟩
theorem wood_unite {hs : List Nat} {ρ d : Nat → Nat} (w : Wood hs ρ d) {a b : Nat} (ha : a < hs.length) (hb : b < hs.length) (ea : up hs a = a) (eb : up hs b = b) (ne : a ≠ b) :
    Wood (hs.set b a) (fun y => if ρ y = b then a else ρ y) (fun y => d y + if ρ y = b then d a + 1 else 0) := by
  have ra := w.self a ea
  have rb := w.self b eb
  refine ⟨fun x => ?_, fun x => ?_, fun x => ?_, fun x => ?_, fun x hx => ?_, fun x hx => ?_⟩
  · show up (hs.set b a) (if ρ x = b then a else ρ x) = if ρ x = b then a else ρ x
    rw [up_set hb]
    by_cases e : ρ x = b
    · rw [if_pos e, if_neg ne, ea]
    · rw [if_neg e, if_neg e, w.root]
  · rw [up_set hb]
    show _ → (if ρ x = b then a else ρ x) = x
    by_cases e : x = b
    · rw [if_pos e]
      intro z
      exact absurd (z.trans e) ne
    · rw [if_neg e]
      intro z
      rw [w.self x z, if_neg e]
  · show (if ρ (up (hs.set b a) x) = b then a else ρ (up (hs.set b a) x)) = if ρ x = b then a else ρ x
    rw [up_set hb]
    by_cases e : x = b
    · subst e
      rw [if_pos rfl, ra, if_neg ne, rb, if_pos rfl]
    · rw [if_neg e, w.step]
  · show _ → d (up (hs.set b a) x) + (if ρ (up (hs.set b a) x) = b then d a + 1 else 0) < d x + (if ρ x = b then d a + 1 else 0)
    rw [up_set hb]
    by_cases e : x = b
    · subst e
      rw [if_pos rfl, ra, if_neg ne, rb, if_pos rfl]
      intro _
      omega
    · rw [if_neg e, w.step]
      intro z
      have := w.down x z
      omega
  · rw [List.length_set] at hx ⊢
    rw [up_set hb]
    split
    · exact ha
    · exact w.lt x hx
  · rw [List.length_set] at hx ⊢
    show (if ρ x = b then a else ρ x) < hs.length
    split
    · exact ha
    · exact w.rlt x hx
theorem wood_tie {ρ : Nat → Nat} {R : Nat → Nat → Prop} {a b : Nat} (h : ∀ x y, ρ x = ρ y ↔ R x y) (x y : Nat) :
    ((if ρ x = ρ b then ρ a else ρ x) = if ρ y = ρ b then ρ a else ρ y) ↔ J R a b x y := by
  unfold J
  rw [← h x y, ← h x a, ← h b y, ← h x b, ← h a y]
  generalize ρ x = rx
  generalize ρ y = ry
  generalize ρ a = ra
  generalize ρ b = rb
  split <;> split <;> omega
end KM
namespace KQ
open PySem PySem.Spec PyProof.Rows L2 KR KM StX
section
variable {P : Program} {w : World} {K : PySem.W.Frag} {mg : Str → Option Value} {base : Heap}
/-- no door closes a ring with doors ahead of it -/
def RingAt (p r : List Int) (i : Nat) : Prop := ∃ x y, p[i]? = some x ∧ r[i]? = some y ∧ glue ((tiesOf p r).take i) x.toNat (bc 0 p + y).toNat
def NoRing (p r : List Int) : Prop := ∀ i, ¬ RingAt p r i
theorem ring_lt {p r : List Int} {i : Nat} (h : RingAt p r i) : i < p.length := by
  obtain ⟨x, y, hx, _⟩ := h
  exact (List.getElem?_eq_some_iff.mp hx).1
abbrev s_has_no_ring : Stmt := topS 18
theorem sc_has_no_ring : FnScope ["parting", "other", "many", "heads", "low", "high"] ["parting", "other"] (defScope s_has_no_ring) := ⟨rfl, rfl, rfl, by decide +kernel, rfl, by decide +kernel, by decide +kernel⟩
def spNoRing : Sp := fun vs H Q _ => ∃ a b p r, vs = [.ref a, .ref b] ∧ TI H a p ∧ TI H b r ∧ Par p ∧ Par r ∧ p.length = r.length ∧
  ∀ H' c, Same H H' → (c = true ↔ NoRing p r) → Q (.bl c) H'
theorem ok_has_no_ring (D : DefAt K mg "has_no_ring" s_has_no_ring) (T : Bt mg) (u_block_count : Use P w K mg base "block_count" 1 ["parting"] spCount) : Use P w K mg base "has_no_ring" 3 ["parting", "other"] spNoRing := by
  refine use_of D (fun f fd F => F.ok sc_has_no_ring (fun vs H Q E h => ?_) (fun cdv A outer s H vs Q E hr h => ?_)) (fun _ _ _ _ _ _ us hl => match us, hl with | [_, _], _ => rfl)
  · obtain ⟨a, b, p, r, rfl, _⟩ := h
    rfl
  · obtain ⟨a, b, p, r, rfl, hp, hb, par, parb, hl, q⟩ := h
    refine ⟨_, (pss_cons (ps_set (i := 2) sc_has_no_ring.nd rfl (Or.inl rfl) (pe_use u_block_count (by decide) hr (by rfl) (pa_cons (pv 0) pa_nil)))
      (pss_cons (ps_set (i := 3) sc_has_no_ring.nd rfl (Or.inl rfl) (pe_listRg rfl (by rfl) T.list (prg_1 (by rfl) T.range (pe_op op_add (pv 2) (pe_use u_block_count (by decide) hr (by rfl) (pa_cons (pv 1) pa_nil))))))
      (pss_cons (ps_for PassesOwn.never rfl (k_zip (K := K) rfl (by rfl) T.zip (pa_cons (pv 0) (pa_cons (pv 1) pa_nil))) (pg_tup rfl (pgs_cons (pg_name (i := 4) sc_has_no_ring.nd rfl (Or.inl rfl)) (pgs_cons (pg_name (i := 5) sc_has_no_ring.nd rfl (Or.inl rfl)) pgs_nil)))
      (pss_cons (ps_aug (i := 5) sc_has_no_ring.nd rfl (Or.inl rfl) (pv 2) ip_add)
      (pss_cons (ps_while PassesOwn.never (pt_cmpR op_ne (pe_ix (k_ixl (K := K) rfl) (pv 3) (pv 4) (fun _ _ => rfl)) (pv 4) (nomark _)) (pss_one (ps_set (i := 4) sc_has_no_ring.nd rfl (Or.inl rfl) (pe_ix (k_ixl (K := K) rfl) (pv 3) (pv 4) (fun _ _ => rfl)))))
      (pss_cons (ps_while PassesOwn.never (pt_cmpR op_ne (pe_ix (k_ixl (K := K) rfl) (pv 3) (pv 5) (fun _ _ => rfl)) (pv 5) (nomark _)) (pss_one (ps_set (i := 5) sc_has_no_ring.nd rfl (Or.inl rfl) (pe_ix (k_ixl (K := K) rfl) (pv 3) (pv 5) (fun _ _ => rfl)))))
      (pss_cons (ps_if (pt_cmpR op_eq (pv 4) (pv 5) (nomark _)) (pss_one (ps_ret pe_bl)) pss_nil)
      (pss_one (ps_asg (pv 4) (pg_sub (pv 3) (pv 5) set_list))))))))
      (pss_one (ps_ret pe_bl))))), ?_⟩
    have g0 := bc_ge 0 p
    have g1 := bc_le 0 p
    have g2 := par.le
    have g3 := bc_ge 0 r
    have g4 := bc_le 0 r
    have g5 := parb.le
    refine ⟨_, rfl, a, p, rfl, hp, par, ?_⟩
    refine ⟨_, rfl, _, rfl, b, r, rfl, hb, parb, bc 0 p, bc 0 r, rfl, rfl, _, rfl, RgOk.of_le (by omega) (by omega) (by omega) (by omega), fun l nl => ?_⟩
    have s2 : Same H (upd H l (.lst (rgV 0 (bc 0 p + bc 0 r)))) := same_new nl
    have el2 : (upd H l (.lst (rgV 0 (bc 0 p + bc 0 r)))) l = some (.lst (hv (List.range (bc 0 p + bc 0 r).toNat))) := by
      rw [upd_same, ← rgV_hv, show (((bc 0 p + bc 0 r).toNat : Nat) : Int) = bc 0 p + bc 0 r by omega]
    refine ⟨_, rfl, _, rfl, a, b, _, _, rfl, .inr ⟨(hp.mono s2).seq, (hb.mono s2).seq, ?_⟩⟩
    refine RZ.for_zipT (K := K) (a := a) (b := b) (xs := p.map V.int) (ys := r.map V.int) (by rw [List.length_map, List.length_map, hl])
      (fun i σ H3 => ∃ y4 y5, σ = [some (.ref a), some (.ref b), some (.int (bc 0 p)), some (.ref l), y4, y5] ∧ Same H H3 ∧ (∀ j, j < i → ¬ RingAt p r j) ∧ ∃ hs ρ d, H3 l = some (.lst (hv hs)) ∧ Wood hs ρ d ∧ hs.length = (bc 0 p + bc 0 r).toNat ∧
        ∀ x y, ρ x = ρ y ↔ glue ((tiesOf p r).take i) x y)
      ⟨none, none, rfl, s2, fun j hj => absurd hj (Nat.not_lt_zero _), List.range (bc 0 p + bc 0 r).toNat, _, _, el2, wood_range _, List.length_range, fun x y => Iff.rfl⟩
      (fun i σ H3 ⟨_, _, _, sm, _⟩ => ⟨(hp.mono sm).seq, (hb.mono sm).seq⟩) ?_ ?_
    · rintro i v1 v2 T1 σ H3 hi1 hi2 ⟨y4, y5, rfl, sm, nr, hs, ρ, d, el3, wd, hlen, hgl⟩ hT
      obtain ⟨x, hx, rfl⟩ := map_at hi1
      obtain ⟨y, hy, rfl⟩ := map_at hi2
      obtain ⟨x0, x1⟩ := (rg_mem 0 p (Int.le_refl _) par.rg).1 x (List.mem_of_getElem? hx)
      obtain ⟨y0, y1⟩ := (rg_mem 0 r (Int.le_refl _) parb.rg).1 y (List.mem_of_getElem? hy)
      refine ⟨T1, _, rfl, .inl (.inl upd_same), rfl, _, _, rfl, _, [], rfl, rfl, ?_⟩
      have el4 : (upd H3 T1 (.tup [.int x, .int y])) l = some (.lst (hv hs)) := by rw [upd_ne (ne_of_none el3 hT)]; exact el3
      refine ⟨_, rfl, _, rfl, y, bc 0 p, rfl, rfl, ?_⟩
      have hyh : y + bc 0 p = (((bc 0 p + y).toNat : Nat) : Int) := by omega
      have hxh : x = ((x.toNat : Nat) : Int) := by omega
      generalize hX : x.toNat = xn at hxh
      generalize hY : (bc 0 p + y).toNat = yn at hyh
      have hxn : xn < hs.length := by omega
      have hyn : yn < hs.length := by omega
      refine ⟨fun g σ H4 => ∃ z : Nat, σ = [some (.ref a), some (.ref b), some (.int (bc 0 p)), some (.ref l), some (.int ((z : Nat) : Int)), some (.int ((yn : Nat) : Int))] ∧ g = d z ∧ ρ z = ρ xn ∧ z < hs.length ∧
        H4 = upd H3 T1 (.tup [.int x, .int y]), ⟨_, xn, by rw [← hxh, ← hyh]; rfl, rfl, rfl, hxn, rfl⟩, ?_⟩
      rintro g σ H4 ⟨z, rfl, rfl, hz, hzl, rfl⟩
      have az := hv_at hzl
      refine ⟨_, rfl, _, rfl, l, hv hs, ((z : Nat) : Int), .int ((up hs z : Nat) : Int), rfl, rfl, .inl (.inl el4), atI_of rfl az, _, rfl, rfl, _, rfl, ite2 (fun e => ?_) (fun e => ?_)⟩
      · have ne : up hs z ≠ z := by
          intro e2
          rw [e2, decide_eq_true rfl] at e
          cases e
        refine ⟨_, fun σ' H' n => n, ?_⟩
        refine ⟨_, rfl, _, rfl, l, hv hs, ((z : Nat) : Int), .int ((up hs z : Nat) : Int), rfl, rfl, .inl (.inl el4), atI_of rfl az, ?_⟩
        exact ⟨d (up hs z), wd.down z ne, up hs z, rfl, rfl, by rw [wd.step]; exact hz, wd.lt z hzl, rfl⟩
      · have ez : up hs z = z := by
          apply Classical.byContradiction
          intro ne
          refine e ?_
          rw [decide_eq_false (fun z => ne (by have := V.int.inj z; omega))]
          rfl
        have rz := wd.self z ez
        refine ⟨fun g σ H4 => ∃ u : Nat, σ = [some (.ref a), some (.ref b), some (.int (bc 0 p)), some (.ref l), some (.int ((z : Nat) : Int)), some (.int ((u : Nat) : Int))] ∧ g = d u ∧ ρ u = ρ yn ∧ u < hs.length ∧
          H4 = upd H3 T1 (.tup [.int x, .int y]), ⟨_, yn, rfl, rfl, rfl, hyn, rfl⟩, ?_⟩
        rintro g σ H4 ⟨u, rfl, rfl, hu, hul, rfl⟩
        have au := hv_at hul
        refine ⟨_, rfl, _, rfl, l, hv hs, ((u : Nat) : Int), .int ((up hs u : Nat) : Int), rfl, rfl, .inl (.inl el4), atI_of rfl au, _, rfl, rfl, _, rfl, ite2 (fun e => ?_) (fun e => ?_)⟩
        · have ne : up hs u ≠ u := by
            intro e2
            rw [e2, decide_eq_true rfl] at e
            cases e
          refine ⟨_, fun σ' H' n => n, ?_⟩
          refine ⟨_, rfl, _, rfl, l, hv hs, ((u : Nat) : Int), .int ((up hs u : Nat) : Int), rfl, rfl, .inl (.inl el4), atI_of rfl au, ?_⟩
          exact ⟨d (up hs u), wd.down u ne, up hs u, rfl, rfl, by rw [wd.step]; exact hu, wd.lt u hul, rfl⟩
        · have eu : up hs u = u := by
            apply Classical.byContradiction
            intro ne
            refine e ?_
            rw [decide_eq_false (fun z => ne (by have := V.int.inj z; omega))]
            rfl
          have ru := wd.self u eu
          refine ⟨_, rfl, _, rfl, rfl, _, rfl, ite2 (fun e2 => ?_) (fun e2 => ?_)⟩
          · have e3 : z = u := by have := V.int.inj (of_decide_eq_true e2); omega
            refine q _ false (fun c v hc => same_new hT c v (sm c v hc)) ⟨fun z => absurd z (by decide), fun nring => ?_⟩
            refine absurd ⟨x, y, hx, hy, (hgl _ _).mp ?_⟩ (nring i)
            rw [hX, hY, ← hz, ← hu, e3]
          · have e3 : z ≠ u := fun e4 => e2 (decide_eq_true (by rw [e4]))
            refine ⟨_, rfl, _, rfl, _, rfl, l, _, _, _, rfl, rfl, el4, ixN_nat rfl (by rw [hv_len]; exact hul), ?_⟩
            rw [hv_set]
            refine ⟨_, _, rfl, fun c v hc => by rw [upd_ne (ne_of_none hc nl)]; exact same_new hT c v (sm c v hc), fun j hj => ?_, hs.set u z, _, _, upd_same, wood_unite wd hzl hul ez eu e3, by rw [List.length_set]; exact hlen, fun v1 v2 => ?_⟩
            · by_cases ej : j = i
              · rintro ⟨x', y', hx', hy', hg'⟩
                subst ej
                rw [hx] at hx'
                rw [hy] at hy'
                obtain rfl := Option.some.inj hx'
                obtain rfl := Option.some.inj hy'
                have := (hgl _ _).mpr hg'
                rw [hX, hY, ← hz, ← hu, rz, ru] at this
                exact e3 this
              · exact nr j (by omega)
            · rw [take_snoc (ties_at hx hy), glue_snoc]
              have := wood_tie (a := xn) (b := yn) hgl v1 v2
              rw [← hz, ← hu, rz, ru] at this
              rw [hX, hY]
              exact this
    · rintro σ H3 ⟨y4, y5, rfl, sm, nr, _⟩
      rw [List.length_map] at nr
      exact q H3 true sm ⟨fun _ i hi => nr i (ring_lt hi) hi, fun _ => rfl⟩
abbrev s_meets : Stmt := topS 19
theorem sc_meets : FnScope ["parting", "other"] ["parting", "other"] (defScope s_meets) := ⟨rfl, rfl, rfl, by decide +kernel, rfl, by decide +kernel, by decide +kernel⟩
def Tree (p r : List Int) : Prop := bc 0 p + bc 0 r = p.length + 1 ∧ NoRing p r
def spMeets : Sp := fun vs H Q _ => ∃ a b p r, vs = [.ref a, .ref b] ∧ TI H a p ∧ TI H b r ∧ Par p ∧ Par r ∧ p.length = r.length ∧ ∀ H' c, Same H H' → (c = true ↔ Tree p r) → Q (.bl c) H'
theorem ok_meets (D : DefAt K mg "meets" s_meets) (T : Bt mg) (u_block_count : Use P w K mg base "block_count" 1 ["parting"] spCount) (u_has_no_ring : Use P w K mg base "has_no_ring" 3 ["parting", "other"] spNoRing) :
    Use P w K mg base "meets" 4 ["parting", "other"] spMeets := by
  refine use_of D (fun f fd F => F.ok sc_meets (fun vs H Q E h => ?_) (fun cdv A outer s H vs Q E hr h => ?_)) (fun _ _ _ _ _ _ us hl => match us, hl with | [_, _], _ => rfl)
  · obtain ⟨a, b, p, r, rfl, _⟩ := h
    rfl
  · obtain ⟨a, b, p, r, rfl, hp, hb, par, parb, hl, q⟩ := h
    refine ⟨_, (pss_cons (ps_if (pt_cmpR op_ne (pe_op op_add (pe_use u_block_count (by decide) hr (by rfl) (pa_cons (pv 0) pa_nil)) (pe_use u_block_count (by decide) hr (by rfl) (pa_cons (pv 1) pa_nil))) (pe_op op_add (pe_callB (k_len (K := K) rfl) (by rfl) T.len PySem.boot_len (pa_cons (pv 0) pa_nil)) pe_int) (nomark _)) (pss_one (ps_ret pe_bl)) pss_nil)
      (pss_one (ps_ret (pe_use u_has_no_ring (by decide) hr (by rfl) (pa_cons (pv 0) (pa_cons (pv 1) pa_nil)))))), ?_⟩
    refine ⟨_, rfl, a, p, rfl, hp, par, ⟨_, rfl, b, r, rfl, hb, parb, _, _, rfl, rfl, _, rfl, a, _, rfl, .inr hp.seq, _, _, rfl, rfl, rfl, _, rfl, ?_⟩⟩
    rw [List.length_map]
    by_cases e : bc 0 p + bc 0 r = p.length + 1
    · rw [decide_eq_true (congrArg V.int e)]
      exact ⟨_, rfl, _, rfl, a, b, p, r, rfl, hp, hb, par, parb, hl, fun H' c s hc => q H' c s (hc.trans ⟨fun h => ⟨e, h⟩, fun h => h.2⟩)⟩
    · rw [decide_eq_false (fun z => e (V.int.inj z))]
      exact q H false (fun _ _ z => z) ⟨fun z => absurd z (by decide), fun z => absurd z.1 e⟩
abbrev s_meet_in_tree : Stmt := topS 20
theorem sc_meet_in_tree : FnScope ["parting", "other"] ["parting", "other"] (defScope s_meet_in_tree) := ⟨rfl, rfl, rfl, by decide +kernel, rfl, by decide +kernel, by decide +kernel⟩
theorem ok_meet_in_tree (D : DefAt K mg "meet_in_tree" s_meet_in_tree) (T : Bt mg) (u_need_two_partings : Use P w K mg base "need_two_partings" 6 ["parting", "other"] spTwo) (u_meets : Use P w K mg base "meets" 4 ["parting", "other"] spMeets) :
    Use P w K mg base "meet_in_tree" 7 ["parting", "other"] spMeets := by
  refine use_of D (fun f fd F => F.ok sc_meet_in_tree (fun vs H Q E h => ?_) (fun cdv A outer s H vs Q E hr h => ?_)) (fun _ _ _ _ _ _ us hl => match us, hl with | [_, _], _ => rfl)
  · obtain ⟨a, b, p, r, rfl, _⟩ := h
    rfl
  · obtain ⟨a, b, p, r, rfl, hp, hb, par, parb, hl, q⟩ := h
    refine ⟨_, (pss_cons (ps_expr (pe_use u_need_two_partings (by decide) hr (by rfl) (pa_cons (pv 0) (pa_cons (pv 1) pa_nil))))
      (pss_one (ps_ret (pe_use u_meets (by decide) hr (by rfl) (pa_cons (pv 0) (pa_cons (pv 1) pa_nil)))))), ?_⟩
    exact ⟨_, rfl, _, rfl, a, b, p, r, rfl, hp, hb, par, parb, hl, fun H1 s1 => ⟨_, rfl, _, rfl, a, b, p, r, rfl, hp.mono s1, hb.mono s1, par, parb, hl, fun H' c s hc => q H' c (s1.trans s) hc⟩⟩
abbrev s_meet_in_wood : Stmt := topS 21
theorem sc_meet_in_wood : FnScope ["parting", "other"] ["parting", "other"] (defScope s_meet_in_wood) := ⟨rfl, rfl, rfl, by decide +kernel, rfl, by decide +kernel, by decide +kernel⟩
theorem ok_meet_in_wood (D : DefAt K mg "meet_in_wood" s_meet_in_wood) (T : Bt mg) (u_need_two_partings : Use P w K mg base "need_two_partings" 6 ["parting", "other"] spTwo) (u_has_no_ring : Use P w K mg base "has_no_ring" 3 ["parting", "other"] spNoRing) :
    Use P w K mg base "meet_in_wood" 7 ["parting", "other"] spNoRing := by
  refine use_of D (fun f fd F => F.ok sc_meet_in_wood (fun vs H Q E h => ?_) (fun cdv A outer s H vs Q E hr h => ?_)) (fun _ _ _ _ _ _ us hl => match us, hl with | [_, _], _ => rfl)
  · obtain ⟨a, b, p, r, rfl, _⟩ := h
    rfl
  · obtain ⟨a, b, p, r, rfl, hp, hb, par, parb, hl, q⟩ := h
    refine ⟨_, (pss_cons (ps_expr (pe_use u_need_two_partings (by decide) hr (by rfl) (pa_cons (pv 0) (pa_cons (pv 1) pa_nil))))
      (pss_one (ps_ret (pe_use u_has_no_ring (by decide) hr (by rfl) (pa_cons (pv 0) (pa_cons (pv 1) pa_nil)))))), ?_⟩
    exact ⟨_, rfl, _, rfl, a, b, p, r, rfl, hp, hb, par, parb, hl, fun H1 s1 => ⟨_, rfl, _, rfl, a, b, p, r, rfl, hp.mono s1, hb.mono s1, par, parb, hl, fun H' c s hc => q H' c (s1.trans s) hc⟩⟩
end
end KQ
namespace KM
/-- how many unlike items -/
def dcount (xs : List Int) : Nat := (firsts xs).length
theorem sub_len {α : Type} [DecidableEq α] : ∀ {xs ys : List α}, xs.Nodup → (∀ x ∈ xs, x ∈ ys) → xs.length ≤ ys.length
  | [], _, _, _ => Nat.zero_le _
  | x :: xs, ys, h, s => by
    have hx := s x List.mem_cons_self
    rw [List.nodup_cons] at h
    have e := List.length_erase_of_mem hx
    have l := List.length_pos_of_mem hx
    have := sub_len (xs := xs) (ys := ys.erase x) h.2 fun y hy => (List.mem_erase_of_ne (fun q : y = x => h.1 (by rw [← q]; exact hy))).mpr (s y (List.mem_cons_of_mem _ hy))
    rw [List.length_cons]
    omega
theorem same_len {α : Type} [DecidableEq α] {xs ys : List α} (h : xs.Nodup) (g : ys.Nodup) (e : ∀ x, x ∈ xs ↔ x ∈ ys) : xs.length = ys.length :=
  Nat.le_antisymm (sub_len h fun x hx => (e x).mp hx) (sub_len g fun x hx => (e x).mpr hx)
/-- one of two unlike items put for the other -/
theorem dcount_merge {xs : List Int} {u v : Int} (hu : u ∈ xs) (hv : v ∈ xs) (n : u ≠ v) : dcount (xs.map fun z => if z = v then u else z) + 1 = dcount xs := by
  unfold dcount
  have hv' : v ∈ firsts xs := (mem_firsts xs).mpr hv
  have l := List.length_pos_of_mem hv'
  have e := List.length_erase_of_mem hv'
  have := same_len (firsts_nodup (xs.map fun z => if z = v then u else z)) ((firsts_nodup xs).erase v) (fun x => by
    rw [mem_firsts, (firsts_nodup xs).mem_erase_iff, mem_firsts, List.mem_map]
    constructor
    · rintro ⟨z, hz, rfl⟩
      by_cases q : z = v
      · rw [if_pos q]
        exact ⟨n, hu⟩
      · rw [if_neg q]
        exact ⟨q, hz⟩
    · rintro ⟨q, hx⟩
      exact ⟨x, hx, by rw [if_neg q]⟩)
  omega
theorem dcount_range (n : Nat) : dcount ((List.range n).map fun k => ((k : Nat) : Int)) = n := by
  unfold dcount
  have nd : ((List.range n).map fun k => ((k : Nat) : Int)).Nodup := List.pairwise_map.mpr (List.nodup_range.imp fun h e => h (by omega))
  rw [same_len (firsts_nodup _) nd fun x => mem_firsts _, List.length_map, List.length_range]
/-- lists of the same items -/
theorem dcount_same {xs ys : List Int} (h : ∀ x, x ∈ xs ↔ x ∈ ys) : dcount xs = dcount ys :=
  same_len (firsts_nodup _) (firsts_nodup _) fun x => by rw [mem_firsts, mem_firsts, h]
theorem dcount_num (xs : List Int) : ((dcount xs : Nat) : Int) = bc 0 (num xs) := (firsts_len xs).1
end KM
namespace KQ
open PySem PySem.Spec PyProof.Rows L2 KR KM StX
section
variable {P : Program} {w : World} {K : PySem.W.Frag} {mg : Str → Option Value} {base : Heap}
/-- what the door says that closes the first ring, with the doors ahead of i -/
def ClosedBy (p r : List Int) (i : Nat) (cl : V) : Prop := (cl = .non ∧ ∀ j, j < i → ¬ RingAt p r j) ∨ ∃ n : Nat, cl = .int ((n : Nat) : Int) ∧ n < i ∧ RingAt p r n ∧ ∀ j, j < n → ¬ RingAt p r j
theorem closed_next {p r : List Int} {i : Nat} {cl : V} (h : ClosedBy p r i cl) (n : ¬ RingAt p r i) : ClosedBy p r (i + 1) cl := by
  rcases h with ⟨e, h⟩ | ⟨k, e, hk, h1, h2⟩
  · refine .inl ⟨e, fun j hj => ?_⟩
    by_cases q : j = i
    · rw [q]
      exact n
    · exact h j (by omega)
  · exact .inr ⟨k, e, by omega, h1, h2⟩
def spHung2 : Sp := fun vs H Q _ => ∃ a b p r, vs = [.ref a, .ref b] ∧ TI H a p ∧ TI H b r ∧ Par p ∧ Par r ∧ p.length = r.length ∧
  ∀ H' t l cl (ls : List Int), Same H H' → H' t = some (.tup [.ref l, cl]) → H' l = some (.lst (ls.map V.int)) → ls.length = (bc 0 p + bc 0 r).toNat →
    (∀ x y, x < ls.length → y < ls.length → (LabOf ls x = LabOf ls y ↔ glue (tiesOf p r) x y)) → ClosedBy p r p.length cl → (cl = .non → dcount ls + p.length = ls.length) → (∀ x ∈ ls, 0 ≤ x ∧ x < ls.length) → Q (.ref t) H'
theorem ok_hung2 (D : DefAt K mg "_law_hung" s__law_hung) (T : Bt mg) : Use P w K mg base "_law_hung" 1 ["parting", "other"] spHung2 := by
  refine use_of D (fun f fd F => F.ok sc__law_hung (fun vs H Q E h => ?_) (fun cdv A outer s H vs Q E hr h => ?_)) (fun _ _ _ _ _ _ us hl => match us, hl with | [_, _], _ => rfl)
  · obtain ⟨a, b, p, r, rfl, _⟩ := h
    rfl
  · obtain ⟨a, b, p, r, rfl, hp, hb, par, parb, hl, q⟩ := h
    refine ⟨_, (pss_cons (ps_par (i := 2) (j := 3) rfl sc__law_hung.nd rfl rfl (by decide) rfl rfl (pa_cons (pe_op op_add (pe_callB (k_maxT (K := K) rfl rfl hr.units) (by rfl) T.max (by decide +kernel) (pa_cons (pv 0) pa_nil)) pe_int) (pa_cons pe_non pa_nil)) (by rfl))
      (pss_cons (ps_set (i := 4) sc__law_hung.nd rfl (Or.inl rfl) (pe_listRg rfl (by rfl) T.list (prg_1 (by rfl) T.range (pe_op op_add (pe_op op_add (pv 2) (pe_callB (k_maxT (K := K) rfl rfl hr.units) (by rfl) T.max (by decide +kernel) (pa_cons (pv 1) pa_nil))) pe_int))))
      (pss_cons (ps_for PassesOwn.never rfl (pi_range1 (by rfl) T.range (pa_cons (pe_callB (k_len (K := K) rfl) (by rfl) T.len PySem.boot_len (pa_cons (pv 0) pa_nil)) pa_nil)) (pg_name (i := 5) sc__law_hung.nd rfl (Or.inl rfl))
      (pss_cons (ps_asg (pe_tup (pa_cons (pe_ix (k_ixl (K := K) rfl) (pv 4) (pe_ix (k_ixt (K := K) rfl) (pv 0) (pv 5) (fun _ _ => rfl)) (fun _ _ => rfl)) (pa_cons (pe_ix (k_ixl (K := K) rfl) (pv 4) (pe_op op_add (pv 2) (pe_ix (k_ixt (K := K) rfl) (pv 1) (pv 5) (fun _ _ => rfl))) (fun _ _ => rfl)) pa_nil))) (pg_tup rfl (pgs_cons (pg_name (i := 6) sc__law_hung.nd rfl (Or.inr rfl)) (pgs_cons (pg_name (i := 7) sc__law_hung.nd rfl (Or.inr rfl)) pgs_nil))))
      (pss_cons (ps_if (PW.pt (pw_and (pt_cmpR op_eq (pv 6) (pv 7) (nomark _)) (pw_and1 (pt_cmpR op_isN (pv 3) pe_non (nomark _))))) (pss_one (ps_set (i := 3) sc__law_hung.nd rfl (Or.inl rfl) (pv 5))) pss_nil)
      (pss_one (ps_if (pt_cmpR op_ne (pv 6) (pv 7) (nomark _)) (pss_one (ps_setLc (i := 4) (own := [("label", 8)]) rfl sc__law_hung.nd rfl rfl (sw_true rfl rfl rfl (by decide +kernel)) (k_list (K := K) rfl (pv 4)) (blkOk_by (N := ["parting", "other", "shift", "closing", "labels", "at", "one", "two", "label"]) (sc := defScope s__law_hung) (by decide +kernel)) (fun _ _ _ _ _ => (pg_name (i := 8) sc__law_hung.nd rfl (Or.inl rfl))) (fun _ _ _ _ _ => pts_nil) (fun _ _ _ _ _ => (pe_ifExp (pt_cmpR op_eq (pv 8) (pv 7) (nomark _)) (pv 6) (pv 8))))) pss_nil)))))
      (pss_one (ps_ret (pe_tup (pa_cons (pv 4) (pa_cons (pv 3) pa_nil)))))))), ?_⟩
    have g0 := bc_ge 0 p
    have g1 := bc_le 0 p
    have g2 := par.le
    have g3 := bc_ge 0 r
    have g4 := bc_le 0 r
    have g5 := parb.le
    refine ⟨_, rfl, a, p, rfl, hp.seq, par.ne, fun mx hm hle => ⟨_, _, rfl, rfl, ?_⟩⟩
    have em := par_max par hm hle
    refine ⟨_, _, rfl, ?_⟩
    refine ⟨_, rfl, _, rfl, b, r, rfl, hb.seq, parb.ne, fun my hm2 hle2 => ⟨_, _, rfl, rfl, _, _, rfl, rfl, _, rfl, ?_⟩⟩
    have em2 := par_max parb hm2 hle2
    refine ⟨RgOk.of_le (by omega) (by omega) (by omega) (by omega), fun l0 nl0 => ?_⟩
    rw [show mx + 1 + my + 1 = (((bc 0 p + bc 0 r).toNat : Nat) : Int) by omega, rgV_hv]
    have s0 : Same H (upd H l0 (.lst (hv (List.range (bc 0 p + bc 0 r).toNat)))) := same_new nl0
    have N1 : (bc 0 p + bc 0 r).toNat ≤ 120 := by omega
    refine ⟨_, rfl, a, _, rfl, .inr (hp.mono s0).seq, _, rfl, ?_⟩
    rw [List.length_map]
    refine ⟨by omega, by omega, for_range (lo := 0) (n := (((p.length : Nat) : Int)).toNat)
      (fun i σ H1 => ∃ cl l y5 y6 y7, σ = [some (.ref a), some (.ref b), some (.int (mx + 1)), some cl, some (.ref l), y5, y6, y7, none] ∧ Same H H1 ∧ ClosedBy p r i cl ∧ ∃ ls : List Int, (cl = .non → dcount ls + i = ls.length) ∧ (∀ x ∈ ls, 0 ≤ x ∧ x < ls.length) ∧ H1 l = some (.lst (ls.map V.int)) ∧ ls.length = (bc 0 p + bc 0 r).toNat ∧
        ∀ x y, x < ls.length → y < ls.length → (LabOf ls x = LabOf ls y ↔ glue ((tiesOf p r).take i) x y))
      ⟨.non, l0, none, none, none, rfl, s0, .inl ⟨rfl, fun j hj => absurd hj (Nat.not_lt_zero _)⟩, (List.range (bc 0 p + bc 0 r).toNat).map fun n => ((n : Nat) : Int), (fun _ => by rw [dcount_range, List.length_map, List.length_range]; rfl), (fun x hx => by obtain ⟨k, hk, rfl⟩ := List.mem_map.mp hx; have := List.mem_range.mp hk; rw [List.length_map, List.length_range]; omega), ?_, ?_, ?_⟩ ?_ ?_⟩
    · rw [upd_same]
      unfold hv
      rw [List.map_map]
      rfl
    · rw [List.length_map, List.length_range]
    · intro x y hx hy
      rw [List.length_map, List.length_range] at hx hy
      unfold LabOf
      rw [List.getD_eq_getElem?_getD, List.getD_eq_getElem?_getD, at_map (List.getElem?_range hx), at_map (List.getElem?_range hy)]
      show ((x : Nat) : Int) = ((y : Nat) : Int) ↔ x = y
      omega
    · rintro i σ H1 hi ⟨cl, l, y5, y6, y7, rfl, sm, hcl, ls, hd, hbd, el, lln, hgl⟩
      have hip : i < p.length := by omega
      obtain ⟨x, hx⟩ : ∃ x, p[i]? = some x := ⟨_, List.getElem?_eq_getElem hip⟩
      obtain ⟨y, hy⟩ : ∃ y, r[i]? = some y := ⟨_, List.getElem?_eq_getElem (by omega)⟩
      obtain ⟨x0, x1⟩ := (rg_mem 0 p (Int.le_refl _) par.rg).1 x (List.mem_of_getElem? hx)
      obtain ⟨y0, y1⟩ := (rg_mem 0 r (Int.le_refl _) parb.rg).1 y (List.mem_of_getElem? hy)
      obtain ⟨u, hu⟩ : ∃ u, ls[x.toNat]? = some u := ⟨_, List.getElem?_eq_getElem (by omega)⟩
      obtain ⟨v, hv'⟩ : ∃ v, ls[(bc 0 p + y).toNat]? = some v := ⟨_, List.getElem?_eq_getElem (by omega)⟩
      refine ⟨_, rfl, _, rfl, _, rfl, a, _, _, .int x, rfl, rfl, (hp.mono sm).seq, atI_of (j := i) (by omega) (at_map hx), l, _, _, .int u, rfl, rfl, sqL el, atI_of (j := x.toNat) (by omega) (at_map hu), ?_⟩
      refine ⟨_, rfl, _, rfl, _, rfl, _, rfl, b, _, _, .int y, rfl, rfl, (hb.mono sm).seq, atI_of (j := i) (by omega) (at_map hy), _, _, rfl, rfl, l, _, mx + 1 + y, .int v, rfl, rfl, sqL el, atI_of (j := (bc 0 p + y).toNat) (by omega) (at_map hv'), ?_⟩
      refine ⟨by show 2 ≤ sizeLine; decide, fun T1 nT => ?_⟩
      refine ⟨T1, _, rfl, .inl (.inl upd_same), rfl, _, _, rfl, _, [], rfl, rfl, ?_⟩
      have s1 : Same H (upd H1 T1 (.tup [.int u, .int v])) := sm.trans (same_new nT)
      have el1 : (upd H1 T1 (.tup [.int u, .int v])) l = some (.lst (ls.map V.int)) := by rw [upd_ne (ne_of_none el nT)]; exact el
      have tie : ∀ ls' : List Int, ls'.length = ls.length → (∀ z, z < ls.length → LabOf ls' z = if LabOf ls z = v then u else LabOf ls z) →
          ∀ x y, x < ls'.length → y < ls'.length → (LabOf ls' x = LabOf ls' y ↔ glue ((tiesOf p r).take (i + 1)) x y) := by
        intro ls' hlen h' x2 y2 hx2 hy2
        rw [take_snoc (ties_at hx hy), glue_snoc]
        refine tie_labels (S := fun z => z < ls.length) (L := LabOf ls) (L' := LabOf ls') hgl ?_ ?_ (fun z hz => ?_) x2 y2 (by omega) (by omega)
        · show x.toNat < ls.length
          omega
        · show (bc 0 p + y).toNat < ls.length
          omega
        · rw [h' z hz]
          have e1 : LabOf ls (bc 0 p + y).toNat = v := by unfold LabOf; rw [List.getD_eq_getElem?_getD, hv']; rfl
          have e2 : LabOf ls x.toNat = u := by unfold LabOf; rw [List.getD_eq_getElem?_getD, hu]; rfl
          show (if LabOf ls z = v then u else LabOf ls z) = if LabOf ls z = LabOf ls (bc 0 p + y).toNat then LabOf ls x.toNat else LabOf ls z
          rw [e1, e2]
      have hring : u = v ↔ RingAt p r i := by
        have e1 : LabOf ls (bc 0 p + y).toNat = v := by unfold LabOf; rw [List.getD_eq_getElem?_getD, hv']; rfl
        have e2 : LabOf ls x.toNat = u := by unfold LabOf; rw [List.getD_eq_getElem?_getD, hu]; rfl
        rw [← e1, ← e2, hgl _ _ (by omega) (by omega)]
        exact ⟨fun q' => ⟨x, y, hx, hy, q'⟩, fun ⟨x', y', hx', hy', q'⟩ => by
          rw [hx] at hx'
          rw [hy] at hy'
          obtain rfl := Option.some.inj hx'
          obtain rfl := Option.some.inj hy'
          exact q'⟩
      refine ⟨_, rfl, _, rfl, rfl, _, rfl, ?_⟩
      by_cases e : u = v
      · subst e
        rw [decide_eq_true rfl]
        have same : ∀ x y, x < ls.length → y < ls.length → (LabOf ls x = LabOf ls y ↔ glue ((tiesOf p r).take (i + 1)) x y) := tie ls rfl fun z _ => by
          by_cases q' : LabOf ls z = u
          · rw [if_pos q', q']
          · rw [if_neg q']
        refine ⟨_, rfl, rfl, _, rfl, ?_⟩
        rcases hcl with ⟨rfl, hno⟩ | ⟨n, rfl, hn, h1, h2⟩
        · refine ⟨_, rfl, _, rfl, _, rfl, rfl, _, rfl, ?_⟩
          rw [decide_eq_true rfl]
          exact ⟨_, l, _, _, _, rfl, s1, .inr ⟨i, congrArg V.int (Int.zero_add _), by omega, hring.mp rfl, hno⟩, ls, (fun z => by cases z), hbd, el1, lln, same⟩
        · refine ⟨_, rfl, _, rfl, rfl, _, rfl, ?_⟩
          rw [decide_eq_true rfl]
          exact ⟨_, l, _, _, _, rfl, s1, .inr ⟨n, rfl, by omega, h1, h2⟩, ls, (fun z => by cases z), hbd, el1, lln, same⟩
      · rw [decide_eq_false (fun q => e (V.int.inj q))]
        refine ⟨_, rfl, _, rfl, rfl, _, rfl, ?_⟩
        rw [decide_eq_false (fun q => e (V.int.inj q))]
        refine ⟨_, rfl, l, rfl, ⟨_, sqL el1⟩, fun M nM => ?_⟩
        refine lc_list (K := K) (a := l) (xs := ls.map V.int) (fun k H2 => Same (upd H1 T1 (.tup [.int u, .int v])) H2 ∧ H2 M = some (.lst (((ls.take k).map fun z => if z = v then u else z).map V.int)))
          ⟨same_new nM, upd_same⟩ (fun k H2 _ ⟨s2, _⟩ => sqL (s2 _ _ el1)) ?_ ?_
        · rintro k w2 H2 hk ⟨s2, eM⟩
          obtain ⟨z, hz, rfl⟩ := map_at hk
          have kl := (List.getElem?_eq_some_iff.mp hz).1
          have small : (((ls.take k).map fun z => if z = v then u else z).map V.int).length < sizeLine := by
            rw [List.length_map, List.length_map, List.length_take]
            exact small_of (by omega)
          refine ⟨rfl, _, rfl, _, rfl, rfl, _, rfl, ?_⟩
          by_cases e2 : z = v
          · rw [decide_eq_true (congrArg V.int e2)]
            refine ⟨_, rfl, _, eM, small, same_mut s2 nM, ?_⟩
            rw [upd_same, take_snoc hz, List.map_append, List.map_append]
            show _ = some (HO.lst (_ ++ [V.int (if z = v then u else z)]))
            rw [if_pos e2]
          · rw [decide_eq_false (fun q => e2 (V.int.inj q))]
            refine ⟨_, rfl, _, eM, small, same_mut s2 nM, ?_⟩
            rw [upd_same, take_snoc hz, List.map_append, List.map_append]
            show _ = some (HO.lst (_ ++ [V.int (if z = v then u else z)]))
            rw [if_neg e2]
        · rintro H2 ⟨s2, eM⟩
          rw [List.length_map, List.take_length] at eM
          have hui := List.mem_of_getElem? hu
          have hvi := List.mem_of_getElem? hv'
          refine ⟨_, M, _, _, _, rfl, s1.trans s2, closed_next hcl (fun z => e (hring.mpr z)), _, (fun z => by have := dcount_merge hui hvi e; have := hd z; rw [List.length_map]; omega), (fun z hz => by
            obtain ⟨k, hk, rfl⟩ := List.mem_map.mp hz
            rw [List.length_map]
            split
            · exact hbd _ hui
            · exact hbd _ hk), eM, by rw [List.length_map]; exact lln, tie _ (by rw [List.length_map]) fun z hz => ?_⟩
          unfold LabOf
          rw [List.getD_eq_getElem?_getD, List.getD_eq_getElem?_getD, at_map (List.getElem?_eq_getElem hz), List.getElem?_eq_getElem hz]
          rfl
    · rintro σ H1 ⟨cl, l, y5, y6, y7, rfl, sm, hcl, ls, hd, hbd, el, lln, hgl⟩
      rw [Int.toNat_natCast] at hcl hd
      rw [Int.toNat_natCast, ← ties_len hl, List.take_length] at hgl
      refine ⟨_, rfl, _, rfl, by show 2 ≤ sizeLine; decide, fun t nt => q _ t l cl ls (sm.trans (same_new nt)) upd_same ?_ lln hgl hcl hd hbd⟩
      rw [upd_ne (ne_of_none el nt)]
      exact el
end
end KQ
namespace KQ
open PySem PySem.Spec PyProof.Rows L2 KR KM StX
/-- labels of blocks of the one (the first sh) and of those put on so far, i doors of the order ds being done -/
structure Met (p ds ls : List Int) (sh i q : Nat) : Prop where
  len : ls.length = sh + q
  c1 : ∀ j d x, j < i → ds[j]? = some d → p[d.toNat]? = some x → ∃ k, k < q ∧ ls[sh + k]? = ls[x.toNat]?
  c2 : ∀ b b', b < sh → b' < sh → b ≠ b' → ls[b]? = ls[b']? → ∃ k, k < q ∧ ls[sh + k]? = ls[b]?
/-- an order of all doors -/
structure Ord (ds : List Int) (n : Nat) : Prop where
  len : ds.length = n
  nd : ds.Nodup
  at_ : ∀ d ∈ ds, 0 ≤ d ∧ d < n
theorem Ord.all {ds : List Int} {n : Nat} (h : Ord ds n) {d : Int} (d0 : 0 ≤ d) (d1 : d < n) : d ∈ ds := by
  apply Classical.byContradiction
  intro hn
  have nd : (d :: ds).Nodup := List.nodup_cons.mpr ⟨hn, h.nd⟩
  have := sub_len (ys := (List.range n).map fun k => ((k : Nat) : Int)) nd fun x hx => by
    have hb : 0 ≤ x ∧ x < n := by
      rcases List.mem_cons.mp hx with rfl | hx
      · exact ⟨d0, d1⟩
      · exact h.at_ x hx
    exact List.mem_map.mpr ⟨x.toNat, List.mem_range.mpr (by omega), by omega⟩
  rw [List.length_cons, h.len, List.length_map, List.length_range] at this
  omega
theorem met_some {p ds ls : List Int} {sh i q : Nat} (par : Par p) (hsh : (sh : Int) = bc 0 p) (o : Ord ds p.length) (M : Met p ds ls sh i q) {d x own : Int} (hd : ds[i]? = some d) (hx : p[d.toNat]? = some x)
    (ho : ls[x.toNat]? = some own) (hq : ∀ k, k < q → ls[sh + k]? = some own) : dcount ls + (i + 1) ≤ p.length + 1 := by
  have him := (List.getElem?_eq_some_iff.mp hd).1
  rw [o.len] at him
  have own_in : own ∈ firsts ls := (mem_firsts ls).mpr (List.mem_of_getElem? ho)
  have e1 := List.length_erase_of_mem own_in
  have l1 := List.length_pos_of_mem own_in
  have := sub_len (xs := (firsts ls).erase own) (ys := (ds.drop (i + 1)).map fun d => ls.getD (p.getD d.toNat 0).toNat 0) ((firsts_nodup ls).erase own) fun z hz => by
    obtain ⟨zn, hz⟩ := ((firsts_nodup ls).mem_erase_iff).mp hz
    obtain ⟨b, hb⟩ := List.mem_iff_getElem?.mp ((mem_firsts ls).mp hz)
    have hbl := (List.getElem?_eq_some_iff.mp hb).1
    rw [M.len] at hbl
    have hbs : b < sh := by
      apply Classical.byContradiction
      intro hn
      have := hq (b - sh) (by omega)
      rw [show sh + (b - sh) = b by omega, hb] at this
      exact zn (Option.some.inj this)
    have hbp := (rg_mem 0 p (Int.le_refl _) par.rg).2 ((b : Nat) : Int) (by omega) (by omega)
    obtain ⟨j, hj⟩ := List.mem_iff_getElem?.mp hbp
    have hjl := (List.getElem?_eq_some_iff.mp hj).1
    obtain ⟨t, ht⟩ := List.mem_iff_getElem?.mp (o.all (d := ((j : Nat) : Int)) (by omega) (by omega))
    have htp : p[(((j : Nat) : Int)).toNat]? = some ((b : Nat) : Int) := by rw [Int.toNat_natCast]; exact hj
    have hti : i < t := by
      rcases Nat.lt_trichotomy t i with c | c | c
      · obtain ⟨k, hk, e⟩ := M.c1 t _ _ c ht htp
        rw [hq k hk, Int.toNat_natCast, hb] at e
        exact absurd (Option.some.inj e).symm zn
      · subst c
        rw [hd] at ht
        obtain rfl := Option.some.inj ht
        rw [hx] at htp
        obtain rfl := Option.some.inj htp
        rw [Int.toNat_natCast, hb] at ho
        exact absurd (Option.some.inj ho) zn
      · exact c
    refine List.mem_map.mpr ⟨((j : Nat) : Int), List.mem_iff_getElem?.mpr ⟨t - (i + 1), ?_⟩, ?_⟩
    · rw [List.getElem?_drop, show i + 1 + (t - (i + 1)) = t by omega]
      exact ht
    · rw [List.getD_eq_getElem?_getD, List.getD_eq_getElem?_getD, htp]
      show (ls[(((b : Nat) : Int)).toNat]?).getD 0 = z
      rw [Int.toNat_natCast, hb]
      rfl
  rw [List.length_map, List.length_drop, o.len] at this
  unfold dcount
  omega
theorem met_new {p ds ls : List Int} {sh i q : Nat} (hsh : ∀ x ∈ p, 0 ≤ x ∧ x < (sh : Int)) (M : Met p ds ls sh i q) {d x own : Int} (hd : ds[i]? = some d) (hx : p[d.toNat]? = some x)
    (ho : ls[x.toNat]? = some own) : Met p ds (ls ++ [own]) sh (i + 1) (q + 1) := by
  have low : ∀ k, k < sh + q → (ls ++ [own])[k]? = ls[k]? := fun k hk => List.getElem?_append_left (by rw [M.len]; exact hk)
  have top : (ls ++ [own])[sh + q]? = some own := by
    rw [List.getElem?_append_right (by rw [M.len]; exact Nat.le_refl _), M.len, Nat.sub_self]
    rfl
  refine ⟨by rw [List.length_append, M.len]; rfl, fun j e y hj he hy => ?_, fun b b' hb hb' n e => ?_⟩
  · have hys := hsh y (List.mem_of_getElem? hy)
    rw [low y.toNat (by omega)]
    by_cases c : j = i
    · subst c
      rw [hd] at he
      obtain rfl := Option.some.inj he
      rw [hx] at hy
      obtain rfl := Option.some.inj hy
      exact ⟨q, by omega, by rw [top, ho]⟩
    · obtain ⟨k, hk, e⟩ := M.c1 j e y (by omega) he hy
      exact ⟨k, by omega, by rw [low _ (by omega)]; exact e⟩
  · rw [low _ (by omega), low _ (by omega)] at e
    obtain ⟨k, hk, e⟩ := M.c2 b b' hb hb' n e
    exact ⟨k, by omega, by rw [low _ (by omega), low _ (by omega)]; exact e⟩
theorem met_glue {p ds ls : List Int} {sh i q : Nat} (hsh : ∀ x ∈ p, 0 ≤ x ∧ x < (sh : Int)) (M : Met p ds ls sh i q) {d x own two : Int} {k : Nat} (hd : ds[i]? = some d) (hx : p[d.toNat]? = some x)
    (ho : ls[x.toNat]? = some own) (hk : k < q) (ht : ls[sh + k]? = some two) (n : own ≠ two) : Met p ds (ls.map fun z => if z = two then own else z) sh (i + 1) q := by
  have mp : ∀ a, (ls.map fun z => if z = two then own else z)[a]? = (ls[a]?).map fun z => if z = two then own else z := fun a => List.getElem?_map
  have keep : ∀ a b : Nat, ls[a]? = ls[b]? → (ls.map fun z => if z = two then own else z)[a]? = (ls.map fun z => if z = two then own else z)[b]? := fun a b e => by rw [mp, mp, e]
  have tw : ∀ a : Nat, ls[a]? = some own ∨ ls[a]? = some two → (ls.map fun z => if z = two then own else z)[a]? = some own := fun a e => by
    rw [mp]
    rcases e with e | e
    · rw [e]
      show some (if own = two then own else own) = _
      rw [if_neg n]
    · rw [e]
      show some (if two = two then own else two) = _
      rw [if_pos rfl]
  refine ⟨by rw [List.length_map, M.len], fun j e y hj he hy => ?_, fun b b' hb hb' nb e => ?_⟩
  · by_cases c : j = i
    · subst c
      rw [hd] at he
      obtain rfl := Option.some.inj he
      rw [hx] at hy
      obtain rfl := Option.some.inj hy
      exact ⟨k, hk, by rw [tw _ (.inr ht), tw _ (.inl ho)]⟩
    · obtain ⟨k2, hk2, e⟩ := M.c1 j e y (by omega) he hy
      exact ⟨k2, hk2, keep _ _ e⟩
  · by_cases c : ls[b]? = ls[b']?
    · obtain ⟨k2, hk2, e2⟩ := M.c2 b b' hb hb' nb c
      exact ⟨k2, hk2, keep _ _ e2⟩
    · obtain ⟨u, hu⟩ := at_some (xs := ls) (i := b) (by rw [M.len]; omega)
      obtain ⟨v, hv⟩ := at_some (xs := ls) (i := b') (by rw [M.len]; omega)
      rw [mp, mp, hu, hv] at e
      have e : (if u = two then own else u) = (if v = two then own else v) := Option.some.inj e
      refine ⟨k, hk, ?_⟩
      rw [tw _ (.inr ht)]
      by_cases c1 : u = two
      · rw [tw b (.inr (by rw [hu, c1]))]
      · rw [if_neg c1] at e
        by_cases c2 : v = two
        · rw [if_pos c2] at e
          rw [tw b (.inl (by rw [hu, e]))]
        · rw [if_neg c2] at e
          exact absurd (by rw [hu, hv, e]) c
end KQ
namespace KQ
open PySem PySem.Spec PyProof.Rows L2 KR KM StX
theorem ints_of {vs : List V} (h : ∀ j, j < vs.length → ∃ v, vs[j]? = some (.int v)) : ∃ rs : List Int, vs = rs.map V.int := by
  induction vs with
  | nil => exact ⟨[], rfl⟩
  | cons v vs ih =>
    obtain ⟨x, hx⟩ := h 0 (by rw [List.length_cons]; omega)
    obtain rfl : v = .int x := Option.some.inj hx
    obtain ⟨rs, rfl⟩ := ih fun j hj => h (j + 1) (by rw [List.length_cons]; omega)
    exact ⟨x :: rs, rfl⟩
theorem ifs_fact {b : Bool} {t u : TS} {D : Ends} {σ : L2.St} {H : Hp} (Fact : Hp → Prop) (h1 : b = true → ∀ D : Ends, (∀ H', Fact H' → D.nx σ H') → t D σ H) (h2 : b = false → ∀ D : Ends, (∀ H', Fact H' → D.nx σ H') → u D σ H)
    (k : ∀ H', Fact H' → D.nx σ H') : if b = true then t D σ H else u D σ H := by
  cases b
  · exact h2 rfl D k
  · exact h1 rfl D k
section
variable {P : Program} {w : World} {K : PySem.W.Frag} {mg : Str → Option Value} {base : Heap}
abbrev s__law_of : Stmt := topS 38
theorem sc__law_of : FnScope ["m", "some"] ["m", "some"] (defScope s__law_of) := ⟨rfl, rfl, rfl, by decide +kernel, rfl, by decide +kernel, by decide +kernel⟩
def spOf : Sp := fun vs H Q _ => ∃ m c g b l xs, vs = [.ref m, .ref l] ∧ MS H m c g b ∧ b ≤ 1000000 ∧ H l = some (.lst (xs.map V.int)) ∧ l ≠ g ∧ xs ≠ [] ∧ xs.length ≤ 1000000 ∧
  ∀ H' x, Kept H H' m g → MS H' m c g (b + 1) → x ∈ xs → Q (.int x) H'
theorem ok_of (D : DefAt K mg "_law_of" s__law_of) (T : Bt mg) (u__law_draw : Use P w K mg base "_law_draw" 2 ["m", "limit"] spDraw) : Use P w K mg base "_law_of" 3 ["m", "some"] spOf := by
  refine use_of D (fun f fd F => F.ok sc__law_of (fun vs H Q E h => ?_) (fun cdv A outer s H vs Q E hr h => ?_)) (fun _ _ _ _ _ _ us hl => match us, hl with | [_, _], _ => rfl)
  · obtain ⟨m, c, g, b, l, xs, rfl, _⟩ := h
    rfl
  · obtain ⟨m, c, g, b, l, xs, rfl, ms, hb, el, lg, ne, hle, q⟩ := h
    refine ⟨_, (pss_one (ps_ret (pe_ix (k_ixl (K := K) rfl) (pv 1) (pe_use u__law_draw (by decide) hr (by rfl) (pa_cons (pv 0) (pa_cons (pe_callB (k_len (K := K) rfl) (by rfl) T.len PySem.boot_len (pa_cons (pv 1) pa_nil)) pa_nil))) (fun _ _ => rfl)))), ?_⟩
    have lm : l ≠ m := by
      obtain ⟨cs, gs, k, h1, h2, h3, r⟩ := ms
      intro e
      rw [e, h1] at el
      cases el
    have pos := List.length_pos_iff.mpr ne
    refine ⟨_, rfl, _, rfl, _, rfl, l, _, rfl, .inl (sqL el), m, c, g, b, _, rfl, ms, hb, ?_, ?_, fun H1 d k1 ms1 d0 d1 => ?_⟩
    · rw [List.length_map]
      omega
    · rw [List.length_map]
      omega
    rw [List.length_map] at d1
    obtain ⟨x, hx⟩ := at_some (xs := xs) (i := d.toNat) (by omega)
    exact ⟨l, _, d, .int x, rfl, rfl, sqL (k1 _ _ el lm lg), atI_of (j := d.toNat) (by omega) (at_map hx), q H1 x k1 ms1 (List.mem_of_getElem? hx)⟩
abbrev s__law_met : Stmt := topS 44
theorem sc__law_met : FnScope ["m", "parting", "many", "shift", "labels", "blocks", "left", "pieces", "at", "own", "picks", "block", "two", "label"] ["m", "parting"] (defScope s__law_met) := ⟨rfl, rfl, rfl, by decide +kernel, rfl, by decide +kernel, by decide +kernel⟩
def spMetL : Sp := fun vs H Q _ => ∃ m c g b a p, vs = [.ref m, .ref a] ∧ MS H m c g b ∧ b ≤ 100000 ∧ TI H a p ∧ Par p ∧
  ∀ H' t r, Kept H H' m g → MS H' m c g (b + 120) → TI H' t r → Par r → r.length = p.length → Q (.ref t) H'
theorem ok_met (D : DefAt K mg "_law_met" s__law_met) (T : Bt mg) (u__law_of : Use P w K mg base "_law_of" 3 ["m", "some"] spOf) (u__law_order : Use P w K mg base "_law_order" 3 ["m", "many"] spOrder)
    (u__law_numbered : Use P w K mg base "_law_numbered" 1 ["labels"] spNumL) : Use P w K mg base "_law_met" 4 ["m", "parting"] spMetL := by
  refine use_of D (fun f fd F => F.ok sc__law_met (fun vs H Q E h => ?_) (fun cdv A outer s H vs Q E hr h => ?_)) (fun _ _ _ _ _ _ us hl => match us, hl with | [_, _], _ => rfl)
  · obtain ⟨m, c, g, b, a, p, rfl, _⟩ := h
    rfl
  · obtain ⟨m, c, g, b, a, p, rfl, ms, hb, hp, par, q⟩ := h
    refine ⟨_, (pss_cons (ps_asg (pe_tup (pa_cons (pe_callB (k_len (K := K) rfl) (by rfl) T.len PySem.boot_len (pa_cons (pv 1) pa_nil)) (pa_cons (pe_op op_add (pe_callB (k_maxT (K := K) rfl rfl hr.units) (by rfl) T.max (by decide +kernel) (pa_cons (pv 1) pa_nil)) pe_int) pa_nil))) (pg_tup rfl (pgs_cons (pg_name (i := 2) sc__law_met.nd rfl (Or.inl rfl)) (pgs_cons (pg_name (i := 3) sc__law_met.nd rfl (Or.inr rfl)) pgs_nil))))
      (pss_cons (ps_asg (pe_tup (pa_cons (pe_listRg rfl (by rfl) T.list (prg_1 (by rfl) T.range (pv 3))) (pa_cons (pe_op op_rep (pe_lst (pa_cons pe_non pa_nil)) (pv 2)) pa_nil))) (pg_tup rfl (pgs_cons (pg_name (i := 4) sc__law_met.nd rfl (Or.inr rfl)) (pgs_cons (pg_name (i := 5) sc__law_met.nd rfl (Or.inl rfl)) pgs_nil))))
      (pss_cons (ps_par (i := 6) (j := 7) rfl sc__law_met.nd rfl rfl (by decide) rfl rfl (pa_cons (pv 2) (pa_cons (pv 3) pa_nil)) (by rfl))
      (pss_cons (ps_for PassesOwn.never rfl (k_list (K := K) rfl (pe_use u__law_order (by decide) hr (by rfl) (pa_cons (pv 0) (pa_cons (pv 2) pa_nil)))) (pg_name (i := 8) sc__law_met.nd rfl (Or.inl rfl))
      (pss_cons (ps_set (i := 6) sc__law_met.nd rfl (Or.inl rfl) (pe_op op_sub (pv 6) pe_int))
      (pss_cons (ps_set (i := 9) sc__law_met.nd rfl (Or.inr rfl) (pe_ix (k_ixl (K := K) rfl) (pv 4) (pe_ix (k_ixt (K := K) rfl) (pv 1) (pv 8) (fun _ _ => rfl)) (fun _ _ => rfl)))
      (pss_cons (ps_setLc (i := 10) (own := [("block", 11)]) rfl sc__law_met.nd rfl rfl (sw_true rfl rfl rfl (by decide +kernel)) (pi_range1 (by rfl) T.range (pa_cons (pe_op op_sub (pe_callB (k_len (K := K) rfl) (by rfl) T.len PySem.boot_len (pa_cons (pv 4) pa_nil)) (pv 3)) pa_nil)) (blkOk_by (N := ["m", "parting", "many", "shift", "labels", "blocks", "left", "pieces", "at", "own", "picks", "block", "two", "label"]) (sc := defScope s__law_met) (by decide +kernel)) (fun _ _ _ _ _ => (pg_name (i := 11) sc__law_met.nd rfl (Or.inl rfl))) (fun _ _ _ _ _ => (pts_one (pt_cmpR op_ne (pe_ix (k_ixl (K := K) rfl) (pv 4) (pe_op op_add (pv 3) (pv 11)) (fun _ _ => rfl)) (pv 9) (nomark _)))) (fun _ _ _ _ _ => (pv 11)))
      (pss_cons (ps_if (pt_cmpR op_ge (pv 6) (pe_op op_sub (pv 7) pe_int) (nomark _)) (pss_one (ps_expr (k_bm (K := K) rfl PySem.F.plainAttrs_list PySem.F.slot_list_append PySem.F.type_list_append mt_append (pv 10) (pa_cons (pe_op op_sub (pe_callB (k_len (K := K) rfl) (by rfl) T.len PySem.boot_len (pa_cons (pv 4) pa_nil)) (pv 3)) pa_nil)))) pss_nil)
      (pss_cons (ps_set (i := 11) sc__law_met.nd rfl (Or.inl rfl) (pe_use u__law_of (by decide) hr (by rfl) (pa_cons (pv 0) (pa_cons (pv 10) pa_nil))))
      (pss_cons (ps_asg (pv 11) (pg_sub (pv 5) (pv 8) set_list))
      (pss_one (ps_if (pt_cmpR op_eq (pe_op op_add (pv 3) (pv 11)) (pe_callB (k_len (K := K) rfl) (by rfl) T.len PySem.boot_len (pa_cons (pv 4) pa_nil)) (nomark _)) (pss_one (ps_expr (k_bm (K := K) rfl PySem.F.plainAttrs_list PySem.F.slot_list_append PySem.F.type_list_append mt_append (pv 4) (pa_cons (pv 9) pa_nil)))) (pss_cons (ps_asg (pe_tup (pa_cons (pe_ix (k_ixl (K := K) rfl) (pv 4) (pe_op op_add (pv 3) (pv 11)) (fun _ _ => rfl)) (pa_cons (pe_op op_sub (pv 7) pe_int) pa_nil))) (pg_tup rfl (pgs_cons (pg_name (i := 12) sc__law_met.nd rfl (Or.inr rfl)) (pgs_cons (pg_name (i := 7) sc__law_met.nd rfl (Or.inl rfl)) pgs_nil))))
      (pss_one (ps_set (i := 4) sc__law_met.nd rfl (Or.inr rfl) (pe_lc (own := [("label", 13)]) rfl sc__law_met.nd (k_list (K := K) rfl (pv 4)) (blkOk_by (N := ["m", "parting", "many", "shift", "labels", "blocks", "left", "pieces", "at", "own", "picks", "block", "two", "label"]) (sc := defScope s__law_met) (by decide +kernel)) (fun _ _ _ _ _ => (pg_name (i := 13) sc__law_met.nd rfl (Or.inl rfl))) (fun _ _ _ _ _ => pts_nil) (fun _ _ _ _ _ => (pe_ifExp (pt_cmpR op_eq (pv 13) (pv 12) (nomark _)) (pv 9) (pv 13))))))))))))))))
      (pss_one (ps_ret (pe_use u__law_numbered (by decide) hr (by rfl) (pa_cons (pv 5) pa_nil)))))))), ?_⟩
    have g0 := bc_ge 0 p
    have g1 := bc_le 0 p
    have g2 := par.le
    have mem := (rg_mem 0 p (Int.le_refl _) par.rg).1
    have pos := List.length_pos_iff.mpr par.ne
    refine ⟨_, rfl, a, _, rfl, .inr hp.seq, _, rfl, a, p, rfl, hp.seq, par.ne, fun mx hm hle => ⟨_, _, rfl, rfl, ?_⟩⟩
    rw [List.length_map]
    have em := par_max par hm hle
    have mx0 := mem mx hm
    refine ⟨by show 2 ≤ sizeLine; decide, fun T0 nT0 => ?_⟩
    refine ⟨T0, _, rfl, .inl (.inl upd_same), rfl, _, _, rfl, _, [], rfl, rfl, ?_⟩
    have s0 : Same H (upd H T0 (.tup [.int ((p.length : Nat) : Int), .int (mx + 1)])) := same_new nT0
    generalize upd H T0 (.tup [.int ((p.length : Nat) : Int), .int (mx + 1)]) = Ha at s0
    refine ⟨_, rfl, _, rfl, RgOk.of_le (by omega) (by omega) (by omega) (by omega), fun l nl => ?_⟩
    refine ⟨by show 1 ≤ sizeLine; decide, fun w0 nw0 => ?_⟩
    obtain ⟨sh, hsh⟩ : ∃ n : Nat, mx + 1 = (n : Int) := ⟨(mx + 1).toNat, by omega⟩
    refine ⟨_, rfl, w0, _, _, rfl, rfl, upd_same, by omega, by omega, ?_, fun bl nbl => ?_⟩
    · show 1 * _ ≤ sizeLine
      rw [Nat.one_mul]
      exact Nat.le_of_lt (small_of (by omega))
    refine ⟨by show 2 ≤ sizeLine; decide, fun T1 nT1 => ?_⟩
    refine ⟨T1, _, rfl, .inl (.inl upd_same), rfl, _, _, rfl, _, [], rfl, rfl, ?_⟩
    have rep : (List.replicate (((p.length : Nat) : Int)).toNat [V.non]).flatten = List.replicate p.length V.non := by
      rw [Int.toNat_natCast]
      induction p.length with
      | zero => rfl
      | succ n ih =>
        rw [List.replicate_succ, List.flatten_cons, ih]
        rfl
    rw [rep, hsh, rgV_hv]
    have lbl : l ≠ bl := fun e => by
      rw [← e, upd_ne (fun z => by rw [← z, upd_same] at nw0; cases nw0), upd_same] at nbl
      cases nbl
    have e1 : Same (upd Ha l (.lst (hv (List.range sh)))) (upd (upd (upd (upd Ha l (.lst (hv (List.range sh)))) w0 (.lst [.non])) bl (.lst (List.replicate p.length V.non))) T1 (.tup [.ref l, .ref bl])) := by
      rw [hsh, rgV_hv] at nw0 nbl nT1
      rw [rep] at nT1
      exact ((same_new nw0).trans (same_new nbl)).trans (same_new nT1)
    have ebl : (upd (upd (upd (upd Ha l (.lst (hv (List.range sh)))) w0 (.lst [.non])) bl (.lst (List.replicate p.length V.non))) T1 (.tup [.ref l, .ref bl])) bl = some (.lst (List.replicate p.length V.non)) := by
      rw [hsh, rgV_hv, rep] at nT1
      rw [upd_ne (ne_of_none upd_same nT1), upd_same]
    have el := e1 l _ upd_same
    have s1 : Same H (upd (upd (upd (upd Ha l (.lst (hv (List.range sh)))) w0 (.lst [.non])) bl (.lst (List.replicate p.length V.non))) T1 (.tup [.ref l, .ref bl])) := (s0.trans (same_new nl)).trans e1
    have nlH : H l = none := s0.free nl
    have nblH : H bl = none := by
      rw [hsh, rgV_hv] at nw0 nbl
      exact ((s0.trans (same_new nl)).trans (same_new nw0)).free nbl
    generalize (upd (upd (upd (upd Ha l (.lst (hv (List.range sh)))) w0 (.lst [.non])) bl (.lst (List.replicate p.length V.non))) T1 (.tup [.ref l, .ref bl])) = Hb at s1 el ebl e1
    clear e1 nT1 nbl nw0 nl s0 nT0
    have ms1 := ms.mono s1
    have ln := ms.ne nlH
    have bln := ms.ne nblH
    refine ⟨_, rfl, _, rfl, _, _, rfl, ?_⟩
    refine ⟨_, rfl, _, rfl, m, c, g, b, ((p.length : Nat) : Int), rfl, ms1, by omega, by omega, by omega, fun H2 dl ds k2 ms2 edl ndl lds nds rds => ?_⟩
    have k02 : Kept H H2 m g := (Kept.of s1).trans k2
    have el2 := k2 _ _ el ln.1 ln.2.2
    have ebl2 := k2 _ _ ebl bln.1 bln.2.2
    have dln := ms1.ne ndl
    have ndlH : H dl = none := s1.free ndl
    have ord : Ord ds p.length := ⟨by rw [lds, Int.toNat_natCast], nds, rds⟩
    have dll : dl ≠ l := fun e => by rw [e, el] at ndl; cases ndl
    have dlb : dl ≠ bl := fun e => by rw [e, ebl] at ndl; cases ndl
    refine ⟨dl, rfl, ⟨_, sqL edl⟩, for_list (K := K) (a := dl) (xs := ds.map V.int)
      (fun i σ H3 => ∃ (l : Addr) (pc lf : Int) (y8 y9 y10 y11 y12 : Option V), σ = [some (.ref m), some (.ref a), some (.int ((p.length : Nat) : Int)), some (.int (mx + 1)), some (.ref l), some (.ref bl), some (.int lf), some (.int pc), y8, y9, y10, y11, y12, none] ∧
        Kept H H3 m g ∧ MS H3 m c g (b + (p.length : Nat) + (i : Nat)) ∧ H3 dl = some (.lst (ds.map V.int)) ∧ l ≠ bl ∧ l ≠ dl ∧ H l = none ∧ ∃ ls q vs, H3 l = some (.lst (List.map V.int ls)) ∧ Met p ds ls sh i q ∧ q ≤ i ∧ ((dcount ls : Nat) : Int) = pc ∧ lf = (p.length : Nat) - (i : Nat) ∧ pc - 1 ≤ lf ∧
        H3 bl = some (.lst vs) ∧ vs.length = p.length ∧ ∀ j d, j < i → ds[j]? = some d → ∃ v, vs[d.toNat]? = some (.int v))
      ⟨l, mx + 1, ((p.length : Nat) : Int), none, none, none, none, none, rfl, k02, by simpa using ms2, edl, lbl, dll.symm, nlH, (List.range sh).map fun n => ((n : Nat) : Int), 0, List.replicate p.length V.non, ?_, ?_, Nat.le_refl _, ?_, by omega, by omega, ebl2, List.length_replicate, fun j d hj => absurd hj (Nat.not_lt_zero _)⟩
      (fun i σ H3 _ ⟨_, _, _, _, _, _, _, _, _, _, _, ed, _⟩ => sqL ed) ?_ ?_⟩
    · rw [el2]
      unfold hv
      rw [List.map_map]
      rfl
    · refine ⟨by rw [List.length_map, List.length_range]; rfl, fun j d x hj => absurd hj (Nat.not_lt_zero _), fun b b' hb hb' n e => ?_⟩
      rw [at_map (List.getElem?_range hb), at_map (List.getElem?_range hb')] at e
      have := Option.some.inj e
      omega
    · rw [dcount_range]
      omega
    · rintro i v σ H3 hi ⟨l, pc, lf, y8, y9, y10, y11, y12, rfl, k3, ms3, edl3, lbl, ldl, nlH, ls, q', vs, el3, M, qi, hpc, hlf, hle3, ebl3, lvs, hvs⟩
      obtain ⟨d, hd, rfl⟩ := map_at hi
      have hdn := ord.at_ d (List.mem_of_getElem? hd)
      have him := (List.getElem?_eq_some_iff.mp hd).1
      rw [ord.len] at him
      have shp : ∀ x ∈ p, 0 ≤ x ∧ x < (sh : Int) := fun x hx => by have := mem x hx; omega
      obtain ⟨x, hx⟩ := at_some (xs := p) (i := d.toNat) (by omega)
      have hxm := shp x (List.mem_of_getElem? hx)
      obtain ⟨own, ho⟩ := at_some (xs := ls) (i := x.toNat) (by rw [M.len]; omega)
      have hp3 := k3.ti ms hp
      have ln := ms.ne nlH
      refine ⟨_, rfl, _, _, rfl, rfl, ?_⟩
      refine ⟨_, rfl, _, rfl, _, rfl, a, _, d, .int x, rfl, rfl, hp3.seq, atI_of (j := d.toNat) (by omega) (at_map hx), l, _, x, .int own, rfl, rfl, sqL el3, atI_of (j := x.toNat) (by omega) (at_map ho), ?_⟩
      refine ⟨_, rfl, l, _, rfl, .inl (sqL el3), _, rfl, _, _, rfl, rfl, _, rfl, ?_⟩
      rw [List.length_map, M.len, show (((sh + q' : Nat)) : Int) - (mx + 1) = ((q' : Nat) : Int) by omega]
      refine ⟨by omega, by omega, fun N nN => ?_⟩
      refine lc_range (fun k H4 => Same H3 H4 ∧ ∃ pk : List Int, H4 N = some (.lst (pk.map V.int)) ∧ pk.length ≤ k ∧ (∀ z ∈ pk, ∃ k' : Nat, z = (k' : Int) ∧ k' < q' ∧ ls[sh + k']? ≠ some own) ∧ (pk = [] → ∀ k', k' < k → ls[sh + k']? = some own))
        ⟨same_new nN, [], upd_same, Nat.le_refl _, fun z hz => (by cases hz), fun _ k' hk' => absurd hk' (Nat.not_lt_zero _)⟩ ?_ ?_
      · rintro k H4 hk ⟨s4, pk, eN, lpk, hpk, hnil⟩
        rw [Int.toNat_natCast] at hk
        obtain ⟨v, hv⟩ := at_some (xs := ls) (i := sh + k) (by rw [M.len]; omega)
        refine ⟨rfl, _, rfl, _, rfl, _, rfl, _, _, rfl, rfl, l, _, mx + 1 + (0 + (k : Nat)), .int v, rfl, rfl, sqL (s4 _ _ el3), atI_of (j := sh + k) (by omega) (at_map hv), _, rfl, rfl, _, rfl, ?_⟩
        by_cases e : v = own
        · rw [decide_eq_true (congrArg V.int e)]
          refine ⟨s4, pk, eN, by omega, hpk, fun hn k' hk' => ?_⟩
          by_cases c : k' = k
          · rw [c, hv, e]
          · exact hnil hn k' (by omega)
        · rw [decide_eq_false (fun z => e (V.int.inj z))]
          refine ⟨_, rfl, _, eN, ?_, same_mut s4 nN, pk ++ [(0 + (k : Nat) : Int)], ?_, ?_, fun z hz => ?_, fun hn => ?_⟩
          · rw [List.length_map]
            exact small_of (by omega)
          · rw [upd_same, List.map_append]
            rfl
          · rw [List.length_append]
            show pk.length + 1 ≤ k + 1
            omega
          · rcases List.mem_append.mp hz with hz | hz
            · exact hpk z hz
            · rw [List.mem_singleton.mp hz]
              refine ⟨k, by omega, hk, ?_⟩
              rw [hv]
              exact fun z => e (Option.some.inj z)
          · simp at hn
      rintro H4 ⟨s4, pk, eN, lpk, hpk, hnil⟩
      rw [Int.toNat_natCast] at lpk hnil
      have Nn := (ms3.ne nN)
      have nNH : H N = none := k3.free nN Nn.1 Nn.2.2
      have el4 := s4 _ _ el3
      refine ⟨_, rfl, _, rfl, _, _, rfl, rfl, _, _, rfl, rfl, _, rfl, ?_⟩
      refine ifs_fact (fun H5 => Same H3 H5 ∧ ∃ pk : List Int, H5 N = some (.lst (pk.map V.int)) ∧ pk ≠ [] ∧ pk.length ≤ 100 ∧ ∀ z ∈ pk, (∃ k' : Nat, z = (k' : Int) ∧ k' < q' ∧ ls[sh + k']? ≠ some own) ∨ (z = ((q' : Nat) : Int) ∧ pc - 1 ≤ lf - 1)) ?_ ?_ ?_
      · intro hle D kD
        refine ⟨_, rfl, .inl ⟨rfl, _, .inl (.inl eN)⟩, _, rfl, l, _, rfl, .inl (sqL el4), _, rfl, _, _, rfl, rfl, ?_⟩
        rw [List.length_map, M.len]
        refine ⟨N, _, _, rfl, rfl, eN, ?_, kD _ ⟨same_mut s4 nN, pk ++ [((q' : Nat) : Int)], ?_, ?_, ?_, fun z hz => ?_⟩⟩
        · rw [List.length_map]
          exact small_of (by omega)
        · rw [upd_same, List.map_append]
          exact congrArg (fun t => some (HO.lst (pk.map V.int ++ [V.int t]))) (show (((sh + q' : Nat)) : Int) - (mx + 1) = ((q' : Nat) : Int) by omega)
        · simp
        · rw [List.length_append]
          show pk.length + 1 ≤ 100
          omega
        · rcases List.mem_append.mp hz with hz | hz
          · exact .inl (hpk z hz)
          · exact .inr ⟨List.mem_singleton.mp hz, of_decide_eq_true hle⟩
      · intro hle D kD
        refine kD _ ⟨s4, pk, eN, fun hn => ?_, by omega, fun z hz => .inl (hpk z hz)⟩
        have := met_some par (by omega) ord M hd hx ho (hnil hn)
        have hle := of_decide_eq_false hle
        omega
      rintro H5 ⟨s5, pk, eN, nepk, lpk, hpk⟩
      have ms5 := ms3.mono s5
      refine ⟨_, rfl, _, rfl, m, c, g, _, N, pk, rfl, ms5, by omega, eN, Nn.2.2, nepk, by omega, fun H6 z k6 ms6 hz => ?_⟩
      have k36 : Kept H H6 m g := (k3.trans (Kept.of s5)).trans k6
      have bln := ms.ne nblH
      have dln' := ms.ne ndlH
      have el6 := k6 _ _ (s5 _ _ el3) ln.1 ln.2.2
      have ebl6 := k6 _ _ (s5 _ _ ebl3) bln.1 bln.2.2
      have edl6 := k6 _ _ (s5 _ _ edl3) dln'.1 dln'.2.2
      refine ⟨_, rfl, _, rfl, _, rfl, bl, _, d, d.toNat, rfl, rfl, ebl6, by rw [lvs]; exact ixN_of hdn.1 (by omega), ?_⟩
      have el7 : (upd H6 bl (.lst (vs.set d.toNat (.int z)))) l = some (.lst (ls.map V.int)) := by rw [upd_ne lbl]; exact el6
      have ebl7 : (upd H6 bl (.lst (vs.set d.toNat (.int z)))) bl = some (.lst (vs.set d.toNat (.int z))) := upd_same
      have edl7 : (upd H6 bl (.lst (vs.set d.toNat (.int z)))) dl = some (.lst (ds.map V.int)) := by rw [upd_ne dlb]; exact edl6
      have k7 : Kept H (upd H6 bl (.lst (vs.set d.toNat (.int z)))) m g := kept_mut k36 nblH
      have ms7 : MS (upd H6 bl (.lst (vs.set d.toNat (.int z)))) m c g (b + (p.length : Nat) + (i : Nat) + 1) := ms6.put bln.1 bln.2.1 bln.2.2
      have hvs7 : ∀ j e, j < i + 1 → ds[j]? = some e → ∃ v, (vs.set d.toNat (.int z))[e.toNat]? = some (.int v) := by
        intro j e hj he
        have hen := ord.at_ e (List.mem_of_getElem? he)
        by_cases c : e = d
        · subst c
          exact ⟨z, by rw [List.getElem?_set_self (by omega)]⟩
        · rw [List.getElem?_set_ne (by omega)]
          by_cases cj : j = i
          · rw [cj, hd] at he
            exact absurd (Option.some.inj he).symm c
          · exact hvs j e (by omega) he
      have lv7 : (vs.set d.toNat (V.int z)).length = p.length := by rw [List.length_set]; exact lvs
      generalize upd H6 bl (.lst (vs.set d.toNat (.int z))) = H7 at el7 ebl7 edl7 k7 ms7
      generalize vs.set d.toNat (.int z) = vs7 at ebl7 hvs7 lv7
      refine ⟨_, rfl, _, rfl, _, _, rfl, rfl, _, rfl, l, _, rfl, .inl (sqL el7), rfl, _, rfl, ?_⟩
      rw [List.length_map, M.len]
      rcases hpk z hz with ⟨k', rfl, hk', hne⟩ | ⟨rfl, hpl⟩
      · rw [decide_eq_false (fun q => by have := V.int.inj q; omega)]
        obtain ⟨two, htwo⟩ := at_some (xs := ls) (i := sh + k') (by rw [M.len]; omega)
        have ntwo : own ≠ two := fun e => hne (by rw [htwo, e])
        refine ⟨_, rfl, _, rfl, _, rfl, _, _, rfl, rfl, l, _, mx + 1 + ((k' : Nat) : Int), .int two, rfl, rfl, sqL el7, atI_of (j := sh + k') (by omega) (at_map htwo), _, rfl, pc, 1, rfl, rfl, by show 2 ≤ sizeLine; decide, fun T2 nT2 => ?_⟩
        refine ⟨T2, _, rfl, .inl (.inl upd_same), rfl, _, _, rfl, _, [], rfl, rfl, ?_⟩
        have s8 : Same H7 (upd H7 T2 (.tup [.int two, .int (pc - 1)])) := same_new nT2
        generalize hH8 : upd H7 T2 (.tup [.int two, .int (pc - 1)]) = H8 at s8
        refine ⟨_, rfl, l, rfl, ⟨_, sqL (s8 _ _ el7)⟩, fun G nG => ?_⟩
        refine lc_list (K := K) (a := l) (xs := ls.map V.int) (fun k H9 => Same H8 H9 ∧ H9 G = some (.lst (((ls.take k).map fun z => if z = two then own else z).map V.int)))
          ⟨same_new nG, upd_same⟩ (fun k H9 _ ⟨s9, _⟩ => sqL (s9 _ _ (s8 _ _ el7))) ?_ ?_
        · rintro k v H9 hk ⟨s9, eG⟩
          obtain ⟨y, hy, rfl⟩ := map_at hk
          have kl := (List.getElem?_eq_some_iff.mp hy).1
          rw [M.len] at kl
          have small : (((ls.take k).map fun z => if z = two then own else z).map V.int).length < sizeLine := by
            rw [List.length_map, List.length_map, List.length_take]
            exact small_of (by omega)
          refine ⟨rfl, _, rfl, _, rfl, rfl, _, rfl, ?_⟩
          by_cases e2 : y = two
          · rw [decide_eq_true (congrArg V.int e2)]
            refine ⟨_, rfl, _, eG, small, same_mut s9 nG, ?_⟩
            rw [upd_same, take_snoc hy, List.map_append, List.map_append]
            show _ = some (HO.lst (_ ++ [V.int (if y = two then own else y)]))
            rw [if_pos e2]
          · rw [decide_eq_false (fun q => e2 (V.int.inj q))]
            refine ⟨_, rfl, _, eG, small, same_mut s9 nG, ?_⟩
            rw [upd_same, take_snoc hy, List.map_append, List.map_append]
            show _ = some (HO.lst (_ ++ [V.int (if y = two then own else y)]))
            rw [if_neg e2]
        · rintro H9 ⟨s9, eG⟩
          rw [List.length_map, List.take_length] at eG
          have s79 := s8.trans s9
          have nG7 : H7 G = none := s8.free nG
          have Gn := ms7.ne nG7
          refine ⟨G, pc - 1, lf - 1, _, _, _, _, _, rfl, k7.trans (Kept.of s79), ?_, s79 _ _ edl7, (fun e => by rw [e, ebl7] at nG7; cases nG7), (fun e => by rw [e, edl7] at nG7; cases nG7), k7.free nG7 Gn.1 Gn.2.2, _, q', vs7, eG,
            met_glue shp M hd hx ho hk' htwo ntwo, by omega, ?_, by omega, by omega, s79 _ _ ebl7, lv7, hvs7⟩
          · rw [show b + ((p.length : Nat) : Int) + ((i + 1 : Nat) : Int) = b + (p.length : Nat) + (i : Nat) + 1 by omega]
            exact ms7.mono s79
          · have := dcount_merge (List.mem_of_getElem? ho) (List.mem_of_getElem? htwo) ntwo
            omega
      · rw [decide_eq_true (congrArg V.int (by omega))]
        refine ⟨_, rfl, .inl ⟨rfl, _, .inl (.inl el7)⟩, _, rfl, l, _, _, rfl, rfl, el7, ?_, ?_⟩
        · rw [List.length_map, M.len]
          exact small_of (by omega)
        refine ⟨l, pc, lf - 1, _, _, _, _, _, rfl, kept_mut k7 nlH, ?_, by rw [upd_ne ldl.symm]; exact edl7, lbl, ldl, nlH, ls ++ [own], q' + 1, vs7, ?_, met_new shp M hd hx ho, by omega, ?_, by omega, ?_, by rw [upd_ne lbl.symm]; exact ebl7, lv7, hvs7⟩
        · rw [show b + ((p.length : Nat) : Int) + ((i + 1 : Nat) : Int) = b + (p.length : Nat) + (i : Nat) + 1 by omega]
          exact ms7.put ln.1 ln.2.1 ln.2.2
        · rw [upd_same, List.map_append]
          rfl
        · rw [dcount_same (ys := ls) fun x => ⟨fun h => ?_, fun h => List.mem_append_left _ h⟩]
          · exact hpc
          · rcases List.mem_append.mp h with h | h
            · exact h
            · rw [List.mem_singleton.mp h]
              exact List.mem_of_getElem? ho
        · exact hpl
    · rintro σ H3 ⟨l, pc, lf, y8, y9, y10, y11, y12, rfl, k3, ms3, edl3, lbl, ldl, nlH, ls, q', vs, el3, M, qi, hpc, hlf, hle3, ebl3, lvs, hvs⟩
      rw [List.length_map, ord.len] at hvs ms3
      obtain ⟨rs, rfl⟩ := ints_of (vs := vs) fun j hj => by
        obtain ⟨t, ht⟩ := List.mem_iff_getElem?.mp (ord.all (d := ((j : Nat) : Int)) (by omega) (by omega))
        have tl := (List.getElem?_eq_some_iff.mp ht).1
        rw [ord.len] at tl
        have := hvs t _ tl ht
        rwa [Int.toNat_natCast] at this
      rw [List.length_map] at lvs
      refine ⟨_, rfl, bl, rs, rfl, ebl3, by omega, fun H4 t s4 ht => ?_⟩
      refine q H4 t (num rs) (k3.trans (Kept.of s4)) ((ms3.mono s4).le (by omega)) ht (num_par (fun e => ?_) (by omega)) (by rw [num_len, lvs])
      rw [e] at lvs
      exact par.ne (List.length_eq_zero_iff.mp lvs.symm)
end
end KQ
namespace KQ
open PySem PySem.Spec PyProof.Rows L2 KR KM StX
theorem ifs_fact2 {b : Bool} {t u : TS} {D : Ends} {σ : L2.St} {H : Hp} (Fact : L2.St → Hp → Prop) (h1 : b = true → ∀ D : Ends, (∀ σ' H', Fact σ' H' → D.nx σ' H') → t D σ H) (h2 : b = false → ∀ D : Ends, (∀ σ' H', Fact σ' H' → D.nx σ' H') → u D σ H)
    (k : ∀ σ' H', Fact σ' H' → D.nx σ' H') : if b = true then t D σ H else u D σ H := by
  cases b
  · exact h2 rfl D k
  · exact h1 rfl D k
section
variable {P : Program} {w : World} {K : PySem.W.Frag} {mg : Str → Option Value} {base : Heap}
abbrev s__law_second : Stmt := topS 46
theorem sc__law_second : FnScope ["m", "first", "kind", "many", "second", "kept", "lost", "block"] ["m", "first"] (defScope s__law_second) := ⟨rfl, rfl, rfl, by decide +kernel, rfl, by decide +kernel, by decide +kernel⟩
def spSecond : Sp := fun vs H Q _ => ∃ m c g b a p, vs = [.ref m, .ref a] ∧ MS H m c g b ∧ b ≤ 90000 ∧ TI H a p ∧ Par p ∧
  ∀ H' t r, Kept H H' m g → MS H' m c g (b + 130) → TI H' t r → Par r → r.length = p.length → Q (.ref t) H'
/-- the second one as it is being made -/
def Sec (m c g a : Addr) (b kd : Int) (n : Nat) (H : Hp) (B : Int) (σ : L2.St) (H' : Hp) : Prop := ∃ (l : Addr) (xs : List Int) (y5 y6 : Option V),
  σ = [some (.ref m), some (.ref a), some (.int kd), some (.int ((n : Nat) : Int)), some (.ref l), y5, y6, none] ∧ Kept H H' m g ∧ MS H' m c g (b + B) ∧ H' l = some (.lst (xs.map V.int)) ∧ xs.length = n ∧ H l = none
theorem ok_second (D : DefAt K mg "_law_second" s__law_second) (T : Bt mg) (u__law_draw : Use P w K mg base "_law_draw" 2 ["m", "limit"] spDraw) (u__law_any_parting : Use P w K mg base "_law_any_parting" 3 ["m", "many"] spAny)
    (u__law_of : Use P w K mg base "_law_of" 3 ["m", "some"] spOf) (u__law_met : Use P w K mg base "_law_met" 4 ["m", "parting"] spMetL)
    (u__law_numbered : Use P w K mg base "_law_numbered" 1 ["labels"] spNumL) : Use P w K mg base "_law_second" 5 ["m", "first"] spSecond := by
  refine use_of D (fun f fd F => F.ok sc__law_second (fun vs H Q E h => ?_) (fun cdv A outer s H vs Q E hr h => ?_)) (fun _ _ _ _ _ _ us hl => match us, hl with | [_, _], _ => rfl)
  · obtain ⟨m, c, g, b, a, p, rfl, _⟩ := h
    rfl
  · obtain ⟨m, c, g, b, a, p, rfl, ms, hb, hp, par, q⟩ := h
    refine ⟨_, (pss_cons (ps_par (i := 2) (j := 3) rfl sc__law_second.nd rfl rfl (by decide) rfl rfl (pa_cons (pe_use u__law_draw (by decide) hr (by rfl) (pa_cons (pv 0) (pa_cons pe_int pa_nil))) (pa_cons (pe_callB (k_len (K := K) rfl) (by rfl) T.len PySem.boot_len (pa_cons (pv 1) pa_nil)) pa_nil)) (by rfl))
      (pss_cons (ps_if (pt_cmpR op_eq (pv 2) pe_int (nomark _)) (pss_one (ps_ret (pe_use u__law_any_parting (by decide) hr (by rfl) (pa_cons (pv 0) (pa_cons (pv 3) pa_nil))))) pss_nil)
      (pss_cons (ps_set (i := 4) sc__law_second.nd rfl (Or.inl rfl) (pe_callTy (k_listOf (K := K) rfl) (by rfl) T.list (by decide +kernel) (pa_cons (pe_use u__law_met (by decide) hr (by rfl) (pa_cons (pv 0) (pa_cons (pv 1) pa_nil))) pa_nil)))
      (pss_cons (ps_if (pt_cmpR op_eq (pv 2) pe_int (nomark _)) (pss_cons (ps_asg (pe_tup (pa_cons (pe_use u__law_of (by decide) hr (by rfl) (pa_cons (pv 0) (pa_cons (pv 4) pa_nil))) (pa_cons (pe_use u__law_of (by decide) hr (by rfl) (pa_cons (pv 0) (pa_cons (pv 4) pa_nil))) pa_nil))) (pg_tup rfl (pgs_cons (pg_name (i := 5) sc__law_second.nd rfl (Or.inr rfl)) (pgs_cons (pg_name (i := 6) sc__law_second.nd rfl (Or.inr rfl)) pgs_nil))))
      (pss_one (ps_setLc (i := 4) (own := [("block", 7)]) rfl sc__law_second.nd rfl rfl (sw_true rfl rfl rfl (by decide +kernel)) (k_list (K := K) rfl (pv 4)) (blkOk_by (N := ["m", "first", "kind", "many", "second", "kept", "lost", "block"]) (sc := defScope s__law_second) (by decide +kernel)) (fun _ _ _ _ _ => (pg_name (i := 7) sc__law_second.nd rfl (Or.inl rfl))) (fun _ _ _ _ _ => pts_nil) (fun _ _ _ _ _ => (pe_ifExp (pt_cmpR op_eq (pv 7) (pv 6) (nomark _)) (pv 5) (pv 7)))))) pss_nil)
      (pss_cons (ps_if (pt_cmpR op_eq (pv 2) pe_int (nomark _)) (pss_one (ps_asg (pv 3) (pg_sub (pv 4) (pe_use u__law_draw (by decide) hr (by rfl) (pa_cons (pv 0) (pa_cons (pv 3) pa_nil))) set_list))) pss_nil)
      (pss_cons (ps_if (pt_cmpR op_eq (pv 2) pe_int (nomark _)) (pss_cons (ps_asg (pe_tup (pa_cons (pe_use u__law_of (by decide) hr (by rfl) (pa_cons (pv 0) (pa_cons (pv 4) pa_nil))) (pa_cons (pe_use u__law_of (by decide) hr (by rfl) (pa_cons (pv 0) (pa_cons (pv 4) pa_nil))) pa_nil))) (pg_tup rfl (pgs_cons (pg_name (i := 5) sc__law_second.nd rfl (Or.inr rfl)) (pgs_cons (pg_name (i := 6) sc__law_second.nd rfl (Or.inr rfl)) pgs_nil))))
      (pss_cons (ps_setLc (i := 4) (own := [("block", 7)]) rfl sc__law_second.nd rfl rfl (sw_true rfl rfl rfl (by decide +kernel)) (k_list (K := K) rfl (pv 4)) (blkOk_by (N := ["m", "first", "kind", "many", "second", "kept", "lost", "block"]) (sc := defScope s__law_second) (by decide +kernel)) (fun _ _ _ _ _ => (pg_name (i := 7) sc__law_second.nd rfl (Or.inl rfl))) (fun _ _ _ _ _ => pts_nil) (fun _ _ _ _ _ => (pe_ifExp (pt_cmpR op_eq (pv 7) (pv 6) (nomark _)) (pv 5) (pv 7))))
      (pss_one (ps_asg (pv 3) (pg_sub (pv 4) (pe_use u__law_draw (by decide) hr (by rfl) (pa_cons (pv 0) (pa_cons (pv 3) pa_nil))) set_list))))) pss_nil)
      (pss_one (ps_ret (pe_use u__law_numbered (by decide) hr (by rfl) (pa_cons (pv 4) pa_nil)))))))))), ?_⟩
    have g2 := par.le
    have pos := List.length_pos_iff.mpr par.ne
    obtain ⟨n, hn⟩ : ∃ n, n = p.length := ⟨_, rfl⟩
    refine ⟨_, rfl, m, c, g, b, 5, rfl, ms, by omega, by decide, by decide, fun H1 kd k1 ms1 d0 d1 => ?_⟩
    have hp1 := k1.ti ms hp
    refine ⟨_, rfl, a, _, rfl, .inr hp1.seq, _, _, rfl, ?_⟩
    rw [List.length_map, ← hn]
    refine ⟨_, rfl, rfl, _, rfl, ?_⟩
    by_cases e0 : kd = 0
    · rw [decide_eq_true (congrArg V.int e0)]
      refine ⟨_, rfl, _, rfl, m, c, g, _, ((n : Nat) : Int), rfl, ms1, by omega, by omega, by omega, fun H2 t r k2 ms2 ht parr lr => ?_⟩
      exact q H2 t r (k1.trans k2) (ms2.le (by omega)) ht parr (by omega)
    rw [decide_eq_false (fun z => e0 (V.int.inj z))]
    refine ⟨_, rfl, _, rfl, m, c, g, _, a, p, rfl, ms1, by omega, hp1, par, fun H2 t r k2 ms2 ht parr lr => ?_⟩
    refine ⟨t, _, rfl, .inr ht.seq, fun l nl => ?_⟩
    have ln := ms2.ne nl
    have F0 : Sec m c g a b kd n H 121 [some (.ref m), some (.ref a), some (.int kd), some (.int ((n : Nat) : Int)), some (.ref l), none, none, none] (upd H2 l (.lst (r.map V.int))) :=
      ⟨l, r, none, none, rfl, kept_mut (k1.trans k2) ((k1.trans k2).free nl ln.1 ln.2.2), (ms2.put ln.1 ln.2.1 ln.2.2).le (by omega), upd_same, by omega, (k1.trans k2).free nl ln.1 ln.2.2⟩
    refine ⟨_, rfl, rfl, _, rfl, ?_⟩
    generalize hσ : ([some (.ref m), some (.ref a), some (.int kd), some (.int ((n : Nat) : Int)), some (.ref l), none, none, none] : L2.St) = σ0 at F0
    generalize upd H2 l (.lst (r.map V.int)) = Hx at F0
    have le_ : ∀ B B' σ' H', B ≤ B' → Sec m c g a b kd n H B σ' H' → Sec m c g a b kd n H B' σ' H' := fun B B' σ' H' hB ⟨l, xs, y5, y6, e, k2, ms2, el, lx, nl⟩ => ⟨l, xs, y5, y6, e, k2, ms2.le (by omega), el, lx, nl⟩
    refine ifs_fact2 (Sec m c g a b kd n H 123) ?_ (fun _ D kD => kD _ _ (by rw [← hσ] at F0; exact le_ _ _ _ _ (by omega) F0)) ?_
    · intro _ D kD
      subst hσ
      obtain ⟨l', xs, y5, y6, e, k2, ms2, el, lx, nlH⟩ := F0
      have hl : l = l' := by
        simp only [List.cons.injEq, Option.some.injEq, V.ref.injEq] at e
        exact e.2.2.2.2.1
      subst hl
      have ln := ms.ne nlH
      have ne : xs ≠ [] := fun e => by rw [e] at lx; simp at lx; omega
      refine ⟨_, rfl, _, rfl, m, c, g, _, l, xs, rfl, ms2, by omega, el, ln.2.2, ne, by omega, fun H3 u k3 ms3 hu => ?_⟩
      have el3 := k3 _ _ el ln.1 ln.2.2
      refine ⟨_, rfl, _, rfl, m, c, g, _, l, xs, rfl, ms3, by omega, el3, ln.2.2, ne, by omega, fun H4 v k4 ms4 hv => ?_⟩
      have el4 := k4 _ _ el3 ln.1 ln.2.2
      refine ⟨by show 2 ≤ sizeLine; decide, fun T1 nT1 => ?_⟩
      refine ⟨T1, _, rfl, .inl (.inl upd_same), rfl, _, _, rfl, _, [], rfl, rfl, ?_⟩
      have s5 : Same H4 (upd H4 T1 (.tup [.int u, .int v])) := same_new nT1
      generalize upd H4 T1 (.tup [.int u, .int v]) = H5 at s5
      refine ⟨_, rfl, l, rfl, ⟨_, sqL (s5 _ _ el4)⟩, fun G nG => ?_⟩
      refine lc_list (K := K) (a := l) (xs := xs.map V.int) (fun k H6 => Same H5 H6 ∧ ∃ ys : List Int, H6 G = some (.lst (ys.map V.int)) ∧ ys.length = k)
        ⟨same_new nG, [], upd_same, rfl⟩ (fun k H6 _ ⟨s6, _⟩ => sqL (s6 _ _ (s5 _ _ el4))) ?_ ?_
      · rintro k w2 H6 hk ⟨s6, ys, eG, ly⟩
        obtain ⟨y, hy, rfl⟩ := map_at hk
        have kl := (List.getElem?_eq_some_iff.mp hy).1
        have put : ∀ z : Int, ∃ acc, H6 G = some (.lst acc) ∧ acc.length < sizeLine ∧ (Same H5 (upd H6 G (.lst (acc ++ [V.int z]))) ∧ ∃ ys : List Int, upd H6 G (.lst (acc ++ [V.int z])) G = some (.lst (ys.map V.int)) ∧ ys.length = k + 1) := fun z =>
          ⟨_, eG, by rw [List.length_map]; exact small_of (by omega), same_mut s6 nG, ys ++ [z], by rw [upd_same, List.map_append]; rfl, by rw [List.length_append, ly]; rfl⟩
        refine ⟨rfl, _, rfl, _, rfl, rfl, _, rfl, ?_⟩
        by_cases e2 : y = v
        · rw [decide_eq_true (congrArg V.int e2)]
          exact ⟨_, rfl, put u⟩
        · rw [decide_eq_false (fun q => e2 (V.int.inj q))]
          exact ⟨_, rfl, put y⟩
      rintro H6 ⟨s6, ys, eG, ly⟩
      rw [List.length_map] at ly
      have nG4 : H4 G = none := s5.free nG
      have Gn := ms4.ne nG4
      have k04 := (k2.trans k3).trans k4
      exact kD _ _ ⟨G, ys, _, _, rfl, k04.trans (Kept.of (s5.trans s6)), ((ms4.mono (s5.trans s6)).le (by omega)), eG, by omega, k04.free nG4 Gn.1 Gn.2.2⟩
    intro σ1 H1' F1
    obtain ⟨l1, xs1, y51, y61, rfl, k21, ms21, el1, lx1, nl1⟩ := F1
    refine ⟨_, rfl, rfl, _, rfl, ?_⟩
    refine ifs_fact2 (Sec m c g a b kd n H 124) ?_ (fun _ D kD => kD _ _ ⟨l1, xs1, y51, y61, rfl, k21, ms21.le (by omega), el1, lx1, nl1⟩) ?_
    · intro _ D kD
      have ln := ms.ne nl1
      refine ⟨_, rfl, _, rfl, _, rfl, _, rfl, m, c, g, _, ((n : Nat) : Int), rfl, ms21, by omega, by omega, by omega, fun H8 e k8 ms8 e0' e1 => ?_⟩
      have el8 := k8 _ _ el1 ln.1 ln.2.2
      refine ⟨l1, _, e, e.toNat, rfl, rfl, el8, by rw [List.length_map, lx1]; exact ixN_of e0' e1, ?_⟩
      refine kD _ _ ⟨l1, xs1.set e.toNat ((n : Nat) : Int), _, _, rfl, kept_mut (k21.trans k8) nl1, (ms8.put ln.1 ln.2.1 ln.2.2).le (by omega), ?_, by rw [List.length_set]; exact lx1, nl1⟩
      rw [upd_same, List.map_set]
    intro σ2 H2' F2
    obtain ⟨l, xs, y5, y6, rfl, k2, ms2, el, lx, nl⟩ := F2
    have ln := ms.ne nl
    have ne : xs ≠ [] := fun e => by rw [e] at lx; simp at lx; omega
    refine ⟨_, rfl, rfl, _, rfl, ?_⟩
    refine ifs_fact2 (Sec m c g a b kd n H 127) ?_ (fun _ D kD => kD _ _ ⟨l, xs, y5, y6, rfl, k2, ms2.le (by omega), el, lx, nl⟩) ?_
    · intro _ D kD
      refine ⟨_, rfl, _, rfl, m, c, g, _, l, xs, rfl, ms2, by omega, el, ln.2.2, ne, by omega, fun H3 u k3 ms3 hu => ?_⟩
      have el3 := k3 _ _ el ln.1 ln.2.2
      refine ⟨_, rfl, _, rfl, m, c, g, _, l, xs, rfl, ms3, by omega, el3, ln.2.2, ne, by omega, fun H4 v k4 ms4 hv => ?_⟩
      have el4 := k4 _ _ el3 ln.1 ln.2.2
      refine ⟨by show 2 ≤ sizeLine; decide, fun T1 nT1 => ?_⟩
      refine ⟨T1, _, rfl, .inl (.inl upd_same), rfl, _, _, rfl, _, [], rfl, rfl, ?_⟩
      have s5 : Same H4 (upd H4 T1 (.tup [.int u, .int v])) := same_new nT1
      generalize upd H4 T1 (.tup [.int u, .int v]) = H5 at s5
      refine ⟨_, rfl, l, rfl, ⟨_, sqL (s5 _ _ el4)⟩, fun G nG => ?_⟩
      refine lc_list (K := K) (a := l) (xs := xs.map V.int) (fun k H6 => Same H5 H6 ∧ ∃ ys : List Int, H6 G = some (.lst (ys.map V.int)) ∧ ys.length = k)
        ⟨same_new nG, [], upd_same, rfl⟩ (fun k H6 _ ⟨s6, _⟩ => sqL (s6 _ _ (s5 _ _ el4))) ?_ ?_
      · rintro k w2 H6 hk ⟨s6, ys, eG, ly⟩
        obtain ⟨y, hy, rfl⟩ := map_at hk
        have kl := (List.getElem?_eq_some_iff.mp hy).1
        have put : ∀ z : Int, ∃ acc, H6 G = some (.lst acc) ∧ acc.length < sizeLine ∧ (Same H5 (upd H6 G (.lst (acc ++ [V.int z]))) ∧ ∃ ys : List Int, upd H6 G (.lst (acc ++ [V.int z])) G = some (.lst (ys.map V.int)) ∧ ys.length = k + 1) := fun z =>
          ⟨_, eG, by rw [List.length_map]; exact small_of (by omega), same_mut s6 nG, ys ++ [z], by rw [upd_same, List.map_append]; rfl, by rw [List.length_append, ly]; rfl⟩
        refine ⟨rfl, _, rfl, _, rfl, rfl, _, rfl, ?_⟩
        by_cases e2 : y = v
        · rw [decide_eq_true (congrArg V.int e2)]
          exact ⟨_, rfl, put u⟩
        · rw [decide_eq_false (fun q => e2 (V.int.inj q))]
          exact ⟨_, rfl, put y⟩
      rintro H6 ⟨s6, ys, eG, ly⟩
      rw [List.length_map] at ly
      have nG4 : H4 G = none := s5.free nG
      have Gn := ms4.ne nG4
      have k04 := (k2.trans k3).trans k4
      have nGH := k04.free nG4 Gn.1 Gn.2.2
      have ms6 := ms4.mono (s5.trans s6)
      have k06 := k04.trans (Kept.of (s5.trans s6))
      have Gn2 := ms.ne nGH
      refine ⟨_, rfl, _, rfl, _, rfl, _, rfl, m, c, g, _, ((n : Nat) : Int), rfl, ms6, by omega, by omega, by omega, fun H8 e k8 ms8 e0' e1 => ?_⟩
      have el8 := k8 _ _ eG Gn2.1 Gn2.2.2
      refine ⟨G, _, e, e.toNat, rfl, rfl, el8, by rw [List.length_map, (show ys.length = n by omega)]; exact ixN_of e0' e1, ?_⟩
      refine kD _ _ ⟨G, ys.set e.toNat ((n : Nat) : Int), _, _, rfl, kept_mut (k06.trans k8) nGH, (ms8.put Gn2.1 Gn2.2.1 Gn2.2.2).le (by omega), ?_, by rw [List.length_set]; exact (show ys.length = n by omega), nGH⟩
      rw [upd_same, List.map_set]
    intro σ3 H3' F3
    obtain ⟨l, xs, y5, y6, rfl, k2, ms2, el, lx, nl⟩ := F3
    refine ⟨_, rfl, l, xs, rfl, el, by omega, fun H4 t s4 ht => ?_⟩
    refine q H4 t (num xs) (k2.trans (Kept.of s4)) ((ms2.mono s4).le (by omega)) ht (num_par (fun e => ?_) (by omega)) (by rw [num_len, lx, hn])
    rw [e] at lx
    simp at lx
    omega
end
end KQ
/-! len(set(xs)) of whole numbers -/
namespace KR
open PySem PySem.Spec PyProof.Rows L2 KM
section
variable {X : Cx}
def tLenSetI (K : PySem.W.Frag) (ta : TE) : TE := fun σ H Q => ta σ H fun x H1 => ∃ (l : Addr) (xs : List Int), x = .ref l ∧ SqT K H1 l (xs.map V.int) ∧ xs.length ≤ 1000 ∧ Q (.int ((dcount xs : Nat) : Int)) H1
theorem pe_lenSetI {a : Expr} {ta : TE} {p p2 q pos : Pos} (hc : X.calm = true) (hg : Gl X "len") (hm : X.mg "len" = none) (hg2 : Gl X "set") (hm2 : X.mg "set" = none) (ha : PE X a ta)
    (na : starEach [a] X.env = (false, eval a X.env) :: starEach [] X.env := by rfl) : PE X (.Call (.Name "len" p) [.Call (.Name "set" p2) [a] [] q] [] pos) (tLenSetI X.K ta) := by
  refine ⟨fun pins s σ H Q I h => ?_⟩
  refine Call_ (ld_blt I hg hm boot_len ?_)
  refine PyProof.Rows.callWith_builtin1 (PyProof.Rows.args_cons ?_ rfl) rfl rfl
  refine Call_ (ld_blt I hg2 hm2 boot_set ?_)
  refine PyProof.Rows.callWith_type1 (PyProof.Rows.args_cons (thn (ha.run pins s σ H _ I h) fun v s1 ⟨x, H1, I1, r1, q1⟩ => PyProof.Rows.args_nil ?_) na) na rfl
  obtain ⟨l, xs, rfl, hq, hle, q1⟩ := q1
  cases r1
  obtain ⟨its, r, pl, hz⟩ := I1.tuple hq
  refine call_set_tupI xs (I1.ok.hd hc) pl (by simpa using r.ints) ?_ fun h' tk c R hcl hk => ?_
  · exact Nat.lt_of_le_of_lt (Nat.succ_le_succ hle) (by decide)
  refine PyProof.Rows.args_nil ?_
  obtain ⟨o, es, ep, t, ho, hex, hd, hg1, hnd, hS, hlt, hf, hn, _⟩ := R
  have I2 : Inv X pins σ H1 { s1 with heap := h', toks := tk } := I1.kept hk
  have ec : es.size = dcount xs := by
    have := same_len hnd (firsts_nodup xs) fun k => by rw [← hS k, mem_firsts, decide_eq_true_iff]
    rw [List.length_map, Array.length_toList] at this
    exact this
  refine call_len_set ho hex hd hf (by omega) ⟨.int ((dcount xs : Nat) : Int), H1, I2.tok _, ⟨_, by rw [ec]⟩, q1⟩
theorem met_nodup (val : Nat → Int) : ∀ i, (firstMet val i).Nodup
  | 0 => List.nodup_nil
  | i + 1 => by
    rw [firstMet_succ]
    unfold step_dedup
    split
    · exact met_nodup val i
    · rename_i h
      have hn : val i ∉ firstMet val i := fun hm => h (List.any_eq_true.mpr ⟨val i, hm, beq_self_eq_true _⟩)
      first
      | exact List.nodup_cons.mpr ⟨hn, met_nodup val i⟩
      | (rw [List.nodup_append]
         refine ⟨met_nodup val i, by simp, fun a ha b hb e => ?_⟩
         rw [List.mem_singleton.mp hb] at e
         exact hn (e ▸ ha))
theorem met_count (xs : List Int) : (firstMet (fun i => xs.getD i 0) xs.length).length = dcount xs := by
  refine same_len (met_nodup _ _) (firsts_nodup xs) fun k => ?_
  rw [mem_firsts]
  have h := firstMet_any (fun i => xs.getD i 0) xs.length k
  rw [show (List.range xs.length).map (fun i => xs.getD i 0) = xs from by
    refine List.ext_getElem? fun i => ?_
    by_cases hi : i < xs.length
    · rw [at_map (List.getElem?_range hi), List.getD_eq_getElem?_getD, List.getElem?_eq_getElem hi]
      rfl
    · rw [List.getElem?_eq_none (by rw [List.length_map, List.length_range]; omega), List.getElem?_eq_none (by omega)]] at h
  have e : ∀ ys : List Int, ys.any (· == k) = true ↔ k ∈ ys := fun ys => by
    rw [List.any_eq_true]
    exact ⟨fun ⟨a, ha, q⟩ => (eq_of_beq q) ▸ ha, fun hk => ⟨k, hk, beq_self_eq_true _⟩⟩
  rw [← e, h, e]
def tLenSetL (K : PySem.W.Frag) (ta : TE) : TE := fun σ H Q => ta σ H fun x H1 => ∃ (l : Addr) (xs : List Int), x = .ref l ∧ SqL K H1 l (xs.map V.int) ∧ xs.length ≤ 1000 ∧ Q (.int ((dcount xs : Nat) : Int)) H1
theorem pe_lenSetL {a : Expr} {ta : TE} {p p2 q pos : Pos} (hc : X.calm = true) (hg : Gl X "len") (hm : X.mg "len" = none) (hg2 : Gl X "set") (hm2 : X.mg "set" = none) (ha : PE X a ta)
    (na : starEach [a] X.env = (false, eval a X.env) :: starEach [] X.env := by rfl) : PE X (.Call (.Name "len" p) [.Call (.Name "set" p2) [a] [] q] [] pos) (tLenSetL X.K ta) := by
  refine ⟨fun pins s σ H Q I h => ?_⟩
  refine Call_ (ld_blt I hg hm boot_len ?_)
  refine PyProof.Rows.callWith_builtin1 (PyProof.Rows.args_cons ?_ rfl) rfl rfl
  refine Call_ (ld_blt I hg2 hm2 boot_set ?_)
  refine PyProof.Rows.callWith_type1 (PyProof.Rows.args_cons (thn (ha.run pins s σ H _ I h) fun v s1 ⟨x, H1, I1, r1, q1⟩ => PyProof.Rows.args_nil ?_) na) na rfl
  obtain ⟨l, xs, rfl, hq, hle, q1⟩ := q1
  cases r1
  obtain ⟨its, r, pl, hz⟩ := I1.list hq
  have hlen : its.toArray.size = xs.length := by
    rw [List.size_toArray, ← r.length, List.length_map]
  refine PySem.call_set_list (I1.ok.hd hc) pl.isList (by simpa using r.ints) (by rw [hlen]; exact Nat.lt_of_le_of_lt (Nat.succ_le_succ hle) (by decide)) fun h' tk R hk => ?_
  refine PyProof.Rows.args_nil ?_
  rw [hlen, met_count] at R
  obtain ⟨o, es, ep, t, ho, hex, hd, _, _, hlt, hf, hn⟩ := R
  have I2 : Inv X pins σ H1 { s1 with heap := h', toks := tk } := I1.kept fun b o e => hk b o (Heap.lt_size e) e
  have hdl : dcount xs ≤ xs.length := KQ.firsts_le xs
  refine call_len_set ho hex hd hf (by rw [hn]; omega) ⟨.int ((dcount xs : Nat) : Int), H1, I2.tok _, ⟨_, by rw [hn]⟩, q1⟩
end
end KR
namespace KQ
open PySem PySem.Spec PyProof.Rows L2 KR KM StX
section
variable {P : Program} {w : World} {K : PySem.W.Frag} {mg : Str → Option Value} {base : Heap}
theorem dcount_nodup (xs : List Int) : dcount xs = xs.length ↔ xs.Nodup := by
  constructor
  · intro h
    refine firsts_rec (P := fun xs => dcount xs = xs.length → xs.Nodup) (fun _ => List.nodup_nil) (fun xs x ih h => ?_) xs h
    have l := firsts_le xs
    unfold dcount at h ih
    rw [firsts_snoc] at h
    unfold ins at h
    rw [List.length_append] at h
    have l1 : [x].length = 1 := rfl
    split at h
    · omega
    · rename_i hx
      rw [List.length_append] at h
      rw [List.nodup_append]
      refine ⟨ih (by omega), by simp, fun a ha b hb e => ?_⟩
      rw [List.mem_singleton.mp hb] at e
      exact hx ((mem_firsts xs).mpr (e ▸ ha))
  · intro h
    exact same_len (firsts_nodup xs) h fun x => mem_firsts xs
abbrev s_has_like : Stmt := topS 22
theorem sc_has_like : FnScope ["things"] ["things"] (defScope s_has_like) := ⟨rfl, rfl, rfl, by decide +kernel, rfl, by decide +kernel, by decide +kernel⟩
def spLikeT (K : PySem.W.Frag) : Sp := fun vs H Q _ => ∃ (a : Addr) (xs : List Int), vs = [.ref a] ∧ SqT K H a (xs.map V.int) ∧ xs.length ≤ 1000 ∧ ∀ c, (c = true ↔ ¬ xs.Nodup) → Q (.bl c) H
def spLikeL (K : PySem.W.Frag) : Sp := fun vs H Q _ => ∃ (a : Addr) (xs : List Int), vs = [.ref a] ∧ SqL K H a (xs.map V.int) ∧ xs.length ≤ 1000 ∧ ∀ c, (c = true ↔ ¬ xs.Nodup) → Q (.bl c) H
theorem ok_has_likeT (D : DefAt K mg "has_like" s_has_like) (T : Bt mg) : Use P w K mg base "has_like" 1 ["things"] (spLikeT K) := by
  refine use_of D (fun f fd F => F.ok sc_has_like (fun vs H Q E h => ?_) (fun cdv A outer s H vs Q E hr h => ?_)) (fun _ _ _ _ _ _ us hl => match us, hl with | [_], _ => rfl)
  · obtain ⟨a, xs, rfl, _⟩ := h
    rfl
  · obtain ⟨a, xs, rfl, hx, hl, q⟩ := h
    refine ⟨_, (pss_one (ps_ret (pe_cmpR op_ne (pe_lenSetI rfl (by rfl) T.len (by rfl) T.set (pv 0)) (pe_callB (k_len (K := K) rfl) (by rfl) T.len PySem.boot_len (pa_cons (pv 0) pa_nil)) (nomark _)))), ?_⟩
    refine ⟨_, rfl, a, xs, rfl, hx, hl, _, rfl, a, _, rfl, .inr hx, rfl, q _ ?_⟩
    rw [List.length_map, Bool.not_eq_true', decide_eq_false_iff_not, ← dcount_nodup xs]
    exact ⟨fun h e => h (by rw [e]), fun h e => h (by have := V.int.inj e; omega)⟩
theorem ok_has_likeL (D : DefAt K mg "has_like" s_has_like) (T : Bt mg) : Use P w K mg base "has_like" 1 ["things"] (spLikeL K) := by
  refine use_of D (fun f fd F => F.ok sc_has_like (fun vs H Q E h => ?_) (fun cdv A outer s H vs Q E hr h => ?_)) (fun _ _ _ _ _ _ us hl => match us, hl with | [_], _ => rfl)
  · obtain ⟨a, xs, rfl, _⟩ := h
    rfl
  · obtain ⟨a, xs, rfl, hx, hl, q⟩ := h
    refine ⟨_, (pss_one (ps_ret (pe_cmpR op_ne (pe_lenSetL rfl (by rfl) T.len (by rfl) T.set (pv 0)) (pe_callB (k_len (K := K) rfl) (by rfl) T.len PySem.boot_len (pa_cons (pv 0) pa_nil)) (nomark _)))), ?_⟩
    refine ⟨_, rfl, a, xs, rfl, hx, hl, _, rfl, a, _, rfl, .inl hx, rfl, q _ ?_⟩
    rw [List.length_map, Bool.not_eq_true', decide_eq_false_iff_not, ← dcount_nodup xs]
    exact ⟨fun h e => h (by rw [e]), fun h e => h (by have := V.int.inj e; omega)⟩
end
end KQ
namespace KQ
open PySem PySem.Spec PyProof.Rows L2 KR KM StX
section
variable {P : Program} {w : World} {K : PySem.W.Frag} {mg : Str → Option Value} {base : Heap}
/-- the doors from the first one of ps back to where the dict says none -/
def Back (kvs : List (L2.Key × V)) : List Int → Prop
  | [] => False
  | [d] => valV kvs (kI d) = some .non
  | d :: e :: r => valV kvs (kI d) = some (.int e) ∧ Back kvs (e :: r)
def headV : List Int → V
  | [] => .non
  | d :: _ => .int d
abbrev s_way_back : Stmt := topS 25
theorem sc_way_back : FnScope ["ahead", "door", "doors"] ["ahead", "door"] (defScope s_way_back) := ⟨rfl, rfl, rfl, by decide +kernel, rfl, by decide +kernel, by decide +kernel⟩
def spBack : Sp := fun vs H Q _ => ∃ (a : Addr) (kvs : List (L2.Key × V)) (d : Int) (r : List Int), vs = [.ref a, .int d] ∧ Rd H a (.dK kvs) ∧ Back kvs (d :: r) ∧ r.length ≤ 1000 ∧
  ∀ H' l, Same H H' → H l = none → H' l = some (.lst ((d :: r).map V.int)) → Q (.ref l) H'
theorem ok_way_back (D : DefAt K mg "way_back" s_way_back) (T : Bt mg) : Use P w K mg base "way_back" 1 ["ahead", "door"] spBack := by
  refine use_of D (fun f fd F => F.ok sc_way_back (fun vs H Q E h => ?_) (fun cdv A outer s H vs Q E hr h => ?_)) (fun _ _ _ _ _ _ us hl => match us, hl with | [_, _], _ => rfl)
  · obtain ⟨a, kvs, d, r, rfl, _⟩ := h
    rfl
  · obtain ⟨a, kvs, d, r, rfl, ha, hb, hl, q⟩ := h
    refine ⟨_, (pss_cons (ps_set (i := 2) sc_way_back.nd rfl (Or.inl rfl) (pe_lst pa_nil))
      (pss_cons (ps_while PassesOwn.never (pt_cmpR op_notN (pv 1) pe_non (nomark _)) (pss_cons (ps_expr (k_bm (K := K) rfl PySem.F.plainAttrs_list PySem.F.slot_list_append PySem.F.type_list_append mt_append (pv 2) (pa_cons (pv 1) pa_nil)))
      (pss_one (ps_set (i := 1) sc_way_back.nd rfl (Or.inl rfl) (pe_dget (hu_of hr) (pv 0) (pv 1) (fun _ _ => rfl))))))
      (pss_one (ps_ret (pv 2))))), ?_⟩
    refine ⟨Nat.zero_le _, fun L nL => ?_⟩
    have hna : a ≠ L := fun e => by
      rcases ha with ha | ⟨o, ha⟩
      · rw [e, nL] at ha; cases ha
      · rw [e, nL] at ha; cases ha
    refine ⟨fun g σ H1 => ∃ (done rest : List Int), done ++ rest = d :: r ∧ g = rest.length ∧ σ = [some (.ref a), some (headV rest), some (.ref L)] ∧ Same H H1 ∧ H1 L = some (.lst (done.map V.int)) ∧ (rest ≠ [] → Back kvs rest),
      ⟨_, [], d :: r, rfl, rfl, rfl, same_new nL, upd_same, fun _ => hb⟩, ?_⟩
    rintro g σ H1 ⟨done, rest, hdr, rfl, rfl, sm, eL, hbk⟩
    cases rest with
    | nil =>
      rw [List.append_nil] at hdr
      subst hdr
      exact ⟨_, rfl, rfl, _, rfl, _, rfl, q H1 L sm nL eL⟩
    | cons e rest =>
      have hb2 := hbk (by simp)
      have hld : done.length ≤ 1001 := by
        have := congrArg List.length hdr
        rw [List.length_append, List.length_cons, List.length_cons] at this
        omega
      have hval : valV kvs (kI e) = some (headV rest) ∧ (rest ≠ [] → Back kvs rest) := by
        cases rest with
        | nil => exact ⟨hb2, fun z => absurd rfl z⟩
        | cons e2 r2 => exact ⟨hb2.1, fun _ => hb2.2⟩
      have ha2 : Rd (upd H1 L (.lst (done.map V.int ++ [.int e]))) a (.dK kvs) := by
        rcases ha with ha | ⟨o, ha⟩
        · exact .inl (by rw [upd_ne hna]; exact sm _ _ ha)
        · exact .inr ⟨o, by rw [upd_ne hna]; exact sm _ _ ha⟩
      have gv : DGet (upd H1 L (.lst (done.map V.int ++ [.int e]))) a (.int e) (some (headV rest)) := by
        exact .inl ⟨kvs, kI e, ha2, rfl, hval.1.symm⟩
      refine ⟨_, rfl, rfl, _, rfl, _, fun σ' H' n => ⟨rest.length, by rw [List.length_cons]; omega, n⟩, ?_⟩
      refine ⟨_, rfl, .inl ⟨rfl, _, .inl (.inl eL)⟩, _, rfl, L, _, _, rfl, rfl, eL, ?_, ?_⟩
      · rw [List.length_map]
        exact small_of (by omega)
      refine ⟨_, rfl, _, rfl, a, headV rest, rfl, gv, done ++ [e], rest, ?_, rfl, rfl, same_mut sm nL, ?_, hval.2⟩
      · rw [List.append_assoc]
        exact hdr
      · rw [upd_same, List.map_append]
        rfl
end
end KQ
namespace KQ
open PySem PySem.Spec PyProof.Rows L2 KR KM
/-! ### every second one -/
def ev {α : Type} : List α → List α
  | [] => []
  | [a] => [a]
  | a :: _ :: r => a :: ev r
theorem ev_cons {α : Type} (a : α) (r : List α) : ev (a :: r) = a :: ev r.tail := by
  cases r <;> rfl
theorem ev_at {α : Type} : ∀ (f : List α) (i : Nat), (ev f)[i]? = f[2 * i]?
  | [], i => by simp [ev]
  | [a], 0 => rfl
  | [a], i + 1 => by
    show ([a] : List α)[i + 1]? = [a][2 * (i + 1)]?
    rw [List.getElem?_eq_none (by simp), List.getElem?_eq_none (by simp; omega)]
  | a :: b :: r, 0 => rfl
  | a :: b :: r, i + 1 => by
    show (ev r)[i]? = _
    rw [ev_at r i, show 2 * (i + 1) = 2 * i + 1 + 1 by omega]
    rfl
theorem ev_map {α β : Type} (f : α → β) : ∀ xs : List α, ev (xs.map f) = (ev xs).map f
  | [] => rfl
  | [a] => rfl
  | a :: b :: r => by
    show f a :: ev (r.map f) = f a :: (ev r).map f
    rw [ev_map f r]
theorem ev_len {α : Type} : ∀ xs : List α, (ev xs).length ≤ xs.length
  | [] => Nat.le_refl _
  | [a] => Nat.le_refl _
  | a :: b :: r => by
    have := ev_len r
    show (ev r).length + 1 ≤ r.length + 1 + 1
    omega
/-- by twos alike -/
def Twos (f : List Int) : Prop := ev f = ev f.tail
theorem twos_at (f : List Int) : Twos f ↔ ∀ i, f[2 * i]? = f[2 * i + 1]? := by
  unfold Twos
  constructor
  · intro h i
    have := congrArg (fun l : List Int => l[i]?) h
    simp only [ev_at, List.getElem?_tail] at this
    exact this
  · intro h
    refine List.ext_getElem? fun i => ?_
    rw [ev_at, ev_at, List.getElem?_tail]
    exact h i
theorem twos_count : ∀ (f : List Int), f.length % 2 = 0 → Twos f → ∀ x, f.count x = 2 * (ev f).count x
  | [], _, _, x => rfl
  | [a], h, _, x => by simp at h
  | a :: b :: r, h, t, x => by
    have t' : (a :: ev r : List Int) = ev (b :: r) := t
    rw [ev_cons] at t'
    obtain ⟨rfl, t2⟩ := List.cons.inj t'
    have hl : r.length % 2 = 0 := by
      rw [List.length_cons, List.length_cons] at h
      omega
    have ih := twos_count r hl t2 x
    show (a :: a :: r).count x = 2 * (a :: ev r).count x
    rw [List.count_cons, List.count_cons, List.count_cons, ih]
    split <;> omega
theorem nodup_count : ∀ l : List Int, l.Nodup ↔ ∀ x ∈ l, l.count x = 1
  | [] => by simp
  | a :: l => by
    rw [List.nodup_cons, nodup_count l]
    constructor
    · rintro ⟨h1, h2⟩ x hx
      rw [List.count_cons]
      by_cases e : a = x
      · subst e
        rw [List.count_eq_zero_of_not_mem h1]
        simp
      · rcases List.mem_cons.mp hx with q | q
        · exact absurd q.symm e
        · rw [h2 x q]
          simp [e]
    · intro h
      have h1 : a ∉ l := fun hm => by
        have := h a List.mem_cons_self
        rw [List.count_cons] at this
        have p := List.count_pos_iff.mpr hm
        simp at this
        omega
      refine ⟨h1, fun x hx => ?_⟩
      have := h x (List.mem_cons_of_mem _ hx)
      rw [List.count_cons] at this
      have e : a ≠ x := fun e => h1 (e ▸ hx)
      simpa [e] using this
theorem twos_nodup {f : List Int} (hl : f.length % 2 = 0) (t : Twos f) : (∀ x ∈ f, f.count x = 2) ↔ (ev f).Nodup := by
  rw [nodup_count]
  have hm : ∀ x, x ∈ f ↔ x ∈ ev f := fun x => by
    rw [← List.count_pos_iff, ← List.count_pos_iff, twos_count f hl t x]
    omega
  constructor
  · intro h x hx
    have := h x ((hm x).mpr hx)
    rw [twos_count f hl t x] at this
    omega
  · intro h x hx
    rw [twos_count f hl t x, h x ((hm x).mp hx)]
/-! ### rings -/
def bk (p : List Int) (d : Int) : Int := p.getD d.toNat (-1)
def rot (ds : List Int) : List Int := ds.tail ++ ds.take 1
theorem rot_at {ds : List Int} (ne : ds ≠ []) (j : Nat) : (rot ds)[j]? = if j + 1 < ds.length then ds[j + 1]? else if j + 1 = ds.length then ds[0]? else none := by
  cases ds with
  | nil => exact absurd rfl ne
  | cons d t =>
    show (t ++ [d])[j]? = if j + 1 < t.length + 1 then (d :: t)[j + 1]? else if j + 1 = t.length + 1 then (d :: t)[0]? else none
    rw [List.getElem?_append]
    by_cases h : j < t.length
    · rw [if_pos h, if_pos (by omega), List.getElem?_cons_succ]
    · rw [if_neg h, if_neg (by omega)]
      by_cases e : j = t.length
      · subst e
        rw [Nat.sub_self, if_pos rfl]
        rfl
      · rw [if_neg (by omega), List.getElem?_eq_none (by simp; omega)]
theorem rot_count (ds : List Int) (f : Int → Int) (x : Int) : ((rot ds).map f).count x = (ds.map f).count x := by
  cases ds with
  | nil => rfl
  | cons d t =>
    show ((t ++ [d]).map f).count x = (f d :: t.map f).count x
    rw [List.map_append, List.count_append, List.count_cons]
    show _ + [f d].count x = _
    rw [List.count_cons]
    simp
theorem rot_len (ds : List Int) : (rot ds).length = ds.length := by
  cases ds with
  | nil => rfl
  | cons d t => simp [rot]
/-- rings as the program looks at them -/
structure IsRing (p r ds : List Int) : Prop where
  ne : ds ≠ []
  even : ds.length % 2 = 0
  rng : ∀ d ∈ ds, 0 ≤ d ∧ d < p.length
  nodup : ds.Nodup
  low : (ev (ds.map (bk p))).Nodup
  high : (ev ((rot ds).map (bk r))).Nodup
  lows : Twos (ds.map (bk p))
  highs : Twos ((rot ds).map (bk r))
/-- the next one's place -/
def nx (ds : List Int) (n : Nat) : Nat := if n + 1 < ds.length then n + 1 else 0
/-- .. and as the law does -/
structure RingR (p r ds : List Int) : Prop where
  len : 2 ≤ ds.length
  even : ds.length % 2 = 0
  rng : ∀ d ∈ ds, 0 ≤ d ∧ d < p.length
  nodup : ds.Nodup
  step : ∀ n x y, ds[n]? = some x → ds[nx ds n]? = some y → bk (if n % 2 = 0 then p else r) x = bk (if n % 2 = 0 then p else r) y
  low : ∀ d ∈ ds, (ds.map (bk p)).count (bk p d) = 2
  high : ∀ d ∈ ds, (ds.map (bk r)).count (bk r d) = 2
theorem map_all {ds : List Int} {f : Int → Int} (P : Int → Prop) : (∀ x ∈ ds.map f, P x) ↔ ∀ d ∈ ds, P (f d) :=
  ⟨fun h d hd => h _ (List.mem_map_of_mem hd), fun h x hx => by
    obtain ⟨d, hd, rfl⟩ := List.mem_map.mp hx
    exact h d hd⟩
theorem ring_iff {p r ds : List Int} : IsRing p r ds ↔ RingR p r ds := by
  have twos : ds ≠ [] → ds.length % 2 = 0 → (Twos (ds.map (bk p)) ∧ Twos ((rot ds).map (bk r)) ↔ ∀ n x y, ds[n]? = some x → ds[nx ds n]? = some y → bk (if n % 2 = 0 then p else r) x = bk (if n % 2 = 0 then p else r) y) := by
    intro ne ev2
    rw [twos_at, twos_at]
    have hpos := List.length_pos_iff.mpr ne
    constructor
    · rintro ⟨h1, h2⟩ n x y hx hy
      have ln := (List.getElem?_eq_some_iff.mp hx).1
      unfold nx at hy
      by_cases e : n % 2 = 0
      · rw [if_pos e]
        rw [if_pos (by omega)] at hy
        have := h1 (n / 2)
        rw [show 2 * (n / 2) = n by omega, at_map hx, at_map hy] at this
        exact Option.some.inj this
      · rw [if_neg e]
        have := h2 (n / 2)
        have ea : (rot ds)[2 * (n / 2)]? = some x := by
          rw [rot_at ne, show 2 * (n / 2) + 1 = n by omega, if_pos ln, hx]
        have eb : (rot ds)[2 * (n / 2) + 1]? = some y := by
          rw [rot_at ne, show 2 * (n / 2) + 1 + 1 = n + 1 by omega]
          by_cases e2 : n + 1 < ds.length
          · rw [if_pos e2] at hy ⊢
            exact hy
          · rw [if_neg e2] at hy ⊢
            rw [if_pos (by omega)]
            exact hy
        rw [at_map ea, at_map eb] at this
        exact Option.some.inj this
    · intro h
      refine ⟨fun i => ?_, fun i => ?_⟩
      · by_cases hi : 2 * i < ds.length
        · obtain ⟨x, hx⟩ := at_some (xs := ds) hi
          obtain ⟨y, hy⟩ := at_some (xs := ds) (i := 2 * i + 1) (by omega)
          rw [at_map hx, at_map hy]
          have := h (2 * i) x y hx (by unfold nx; rw [if_pos (by omega)]; exact hy)
          rw [if_pos (by omega)] at this
          rw [this]
        · rw [List.getElem?_eq_none (by rw [List.length_map]; omega), List.getElem?_eq_none (by rw [List.length_map]; omega)]
      · by_cases hi : 2 * i < ds.length
        · obtain ⟨x, hx⟩ := at_some (xs := ds) (i := 2 * i + 1) (by omega)
          have ea : (rot ds)[2 * i]? = some x := by
            rw [rot_at ne, if_pos (by omega), hx]
          obtain ⟨y, hy⟩ := at_some (xs := rot ds) (i := 2 * i + 1) (by rw [rot_len]; omega)
          have hy' := hy
          rw [rot_at ne] at hy'
          have hn : ds[nx ds (2 * i + 1)]? = some y := by
            unfold nx
            by_cases e2 : 2 * i + 1 + 1 < ds.length
            · rw [if_pos e2] at hy' ⊢
              exact hy'
            · rw [if_neg e2] at hy' ⊢
              rw [if_pos (by omega)] at hy'
              exact hy'
          have := h (2 * i + 1) x y hx hn
          rw [if_neg (by omega)] at this
          rw [at_map ea, at_map hy, this]
        · rw [List.getElem?_eq_none (by rw [List.length_map, rot_len]; omega), List.getElem?_eq_none (by rw [List.length_map, rot_len]; omega)]
  have counts : ∀ x, ((rot ds).map (bk r)).count x = (ds.map (bk r)).count x := rot_count ds (bk r)
  have rmem : ∀ x, x ∈ (rot ds).map (bk r) ↔ x ∈ ds.map (bk r) := fun x => by
    rw [← List.count_pos_iff, ← List.count_pos_iff, counts]
  have rl : ds.length % 2 = 0 → ((rot ds).map (bk r)).length % 2 = 0 := fun h => by
    rw [List.length_map, rot_len]
    exact h
  constructor
  · rintro ⟨ne, e, rng, nd, l, h, ls, hs⟩
    have hpos := List.length_pos_iff.mpr ne
    refine ⟨by omega, e, rng, nd, (twos ne e).mp ⟨ls, hs⟩, ?_, ?_⟩
    · exact (map_all fun x => (ds.map (bk p)).count x = 2).mp ((twos_nodup (by rw [List.length_map]; exact e) ls).mpr l)
    · have := (twos_nodup (rl e) hs).mpr h
      refine (map_all fun x => (ds.map (bk r)).count x = 2).mp fun x hx => ?_
      rw [← counts]
      exact this x ((rmem x).mpr hx)
  · rintro ⟨ln, e, rng, nd, st, l, h⟩
    have ne : ds ≠ [] := fun e => by
      rw [e] at ln
      simp at ln
    obtain ⟨ls, hs⟩ := (twos ne e).mpr st
    refine ⟨ne, e, rng, nd, (twos_nodup (by rw [List.length_map]; exact e) ls).mp ((map_all fun x => (ds.map (bk p)).count x = 2).mpr l), (twos_nodup (rl e) hs).mp fun x hx => ?_, ls, hs⟩
    rw [counts]
    exact (map_all fun x => (ds.map (bk r)).count x = 2).mpr h x ((rmem x).mp hx)
end KQ
namespace KQ
open PySem PySem.Spec PyProof.Rows L2 KR KM
/-! ### doors found ahead of one another -/
structure Ent where
  d : Int
  s : Int
  par : Int
  q : Nat
def kvsOf (st : Int) (E : List Ent) : List (L2.Key × V) := (kI st, V.non) :: E.map fun e => (kI e.d, V.int e.par)
def Qu (B : List Int) (st : Int) (E : List Ent) : List (Int × Int) := B.map (fun b => (b, st)) ++ E.map fun e => (1 - e.s, e.d)
def prt (p r : List Int) (s : Int) : List Int := if s = 0 then p else r
structure Bfs (p r B : List Int) (st : Int) (N : Nat) (E : List Ent) : Prop where
  keys : (st :: E.map Ent.d).Nodup
  rng : ∀ e ∈ E, 0 ≤ e.d ∧ e.d < N
  par : ∀ k e, E[k]? = some e → e.q < B.length + k ∧ (Qu B st E)[e.q]? = some (e.s, e.par) ∧ bk (prt p r e.s) e.d = bk (prt p r e.s) e.par
  apart : ∀ e ∈ E, ∀ j w x, j < e.q → (Qu B st E)[j]? = some (w, x) → bk (prt p r w) e.d ≠ bk (prt p r w) x
/-- all doors up to n in the block of what stands at j in the row are found -/
def FullTo (p r B : List Int) (st : Int) (E : List Ent) (j n : Nat) : Prop := ∀ w x, (Qu B st E)[j]? = some (w, x) → ∀ d : Int, 0 ≤ d → d < n → bk (prt p r w) d = bk (prt p r w) x → d ∈ st :: E.map Ent.d
theorem qu_len (B : List Int) (st : Int) (E : List Ent) : (Qu B st E).length = B.length + E.length := by
  unfold Qu
  rw [List.length_append, List.length_map, List.length_map]
theorem qu_snoc (B : List Int) (st : Int) (E : List Ent) (e : Ent) : Qu B st (E ++ [e]) = Qu B st E ++ [(1 - e.s, e.d)] := by
  unfold Qu
  rw [List.map_append, ← List.append_assoc]
  rfl
theorem qu_keep {B : List Int} {st : Int} {E : List Ent} {j : Nat} (e : Ent) (h : j < (Qu B st E).length) : (Qu B st (E ++ [e]))[j]? = (Qu B st E)[j]? := by
  rw [qu_snoc, List.getElem?_append_left h]
theorem full_keep {p r B : List Int} {st : Int} {E : List Ent} {j n : Nat} (e : Ent) (h : j < (Qu B st E).length) (f : FullTo p r B st E j n) : FullTo p r B st (E ++ [e]) j n := by
  intro w x hq d d0 d1 hb
  rw [qu_keep e h] at hq
  have := f w x hq d d0 d1 hb
  rw [List.map_append, ← List.cons_append]
  exact List.mem_append_left _ this
theorem bfs_add {p r B : List Int} {st : Int} {N : Nat} {E : List Ent} (h : Bfs p r B st N E) {a : Nat} {w x d : Int} (full : ∀ j, j < a → FullTo p r B st E j N)
    (hq : (Qu B st E)[a]? = some (w, x)) (d0 : 0 ≤ d) (d1 : d < N) (nd : d ∉ st :: E.map Ent.d) (hb : bk (prt p r w) d = bk (prt p r w) x) : Bfs p r B st N (E ++ [⟨d, w, x, a⟩]) := by
  have ha := (List.getElem?_eq_some_iff.mp hq).1
  have hal := ha
  rw [qu_len] at hal
  refine ⟨?_, fun e he => ?_, fun k e hk => ?_, fun e he j w' x' hj hq' => ?_⟩
  · rw [List.map_append, ← List.cons_append, List.nodup_append]
    exact ⟨h.keys, by simp, fun u hu v hv e => nd (by rw [List.map_cons, List.map_nil, List.mem_singleton] at hv; exact (e.trans hv : u = d) ▸ hu)⟩
  · rcases List.mem_append.mp he with he | he
    · exact h.rng e he
    · rw [List.mem_singleton.mp he]
      exact ⟨d0, d1⟩
  · by_cases hkl : k < E.length
    · rw [List.getElem?_append_left hkl] at hk
      obtain ⟨h1, h2, h3⟩ := h.par k e hk
      refine ⟨h1, ?_, h3⟩
      rw [qu_keep _ (List.getElem?_eq_some_iff.mp h2).1]
      exact h2
    · have hk2 := (List.getElem?_eq_some_iff.mp hk).1
      rw [List.length_append, List.length_singleton] at hk2
      have : k = E.length := by omega
      subst this
      rw [List.getElem?_append_right (Nat.le_refl _), Nat.sub_self] at hk
      obtain rfl := Option.some.inj hk
      exact ⟨hal, by rw [qu_keep _ ha]; exact hq, hb⟩
  · rcases List.mem_append.mp he with he | he
    · obtain ⟨k, hk⟩ := List.mem_iff_getElem?.mp he
      have := (h.par k e hk).1
      have hk2 := (List.getElem?_eq_some_iff.mp hk).1
      have hjl : j < (Qu B st E).length := by
        rw [qu_len]
        omega
      rw [qu_keep _ hjl] at hq'
      exact h.apart e he j w' x' hj hq'
    · rw [List.mem_singleton.mp he] at hj ⊢
      have hj' : j < a := hj
      rw [qu_keep _ (by omega)] at hq'
      exact fun e => nd (full j hj' w' x' hq' d d0 d1 e)
theorem full_next {p r B : List Int} {st : Int} {E : List Ent} {a n : Nat} (f : FullTo p r B st E a n) (hn : ∀ w x, (Qu B st E)[a]? = some (w, x) → bk (prt p r w) (n : Int) = bk (prt p r w) x → ((n : Nat) : Int) ∈ st :: E.map Ent.d) :
    FullTo p r B st E a (n + 1) := by
  intro w x hq d d0 d1 hb
  by_cases e : d = n
  · subst e
    exact hn w x hq hb
  · exact f w x hq d d0 (by omega) hb
theorem bfs_len {p r B : List Int} {st : Int} {N : Nat} {E : List Ent} (h : Bfs p r B st N E) : E.length ≤ N := by
  have := sub_len (xs := E.map Ent.d) (ys := (List.range N).map fun n => ((n : Nat) : Int)) (List.nodup_cons.mp h.keys).2 fun x hx => by
    obtain ⟨e, he, rfl⟩ := List.mem_map.mp hx
    obtain ⟨h0, h1⟩ := h.rng e he
    exact List.mem_map.mpr ⟨e.d.toNat, List.mem_range.mpr (by omega), by omega⟩
  rw [List.length_map, List.length_map, List.length_range] at this
  exact this
/-- the row's places, from the first one on, each found by the one before it -/
inductive Path (b : Nat) (E : List Ent) : List Nat → Prop
  | base {j : Nat} : j < b → Path b E [j]
  | step {k : Nat} {e : Ent} {ks : List Nat} : E[k]? = some e → Path b E ks → ks.getLast? = some e.q → Path b E (ks ++ [b + k])
theorem path_ex {p r B : List Int} {st : Int} {N : Nat} {E : List Ent} (h : Bfs p r B st N E) : ∀ n j : Nat, j < n → j < (Qu B st E).length → ∃ ks, Path B.length E ks ∧ ks.getLast? = some j := by
  intro n
  induction n with
  | zero => exact fun j hj => absurd hj (Nat.not_lt_zero _)
  | succ n ih =>
    intro j hj hl
    by_cases hb : j < B.length
    · exact ⟨[j], .base hb, rfl⟩
    · rw [qu_len] at hl
      obtain ⟨e, he⟩ := at_some (xs := E) (i := j - B.length) (by omega)
      obtain ⟨h1, h2, _⟩ := h.par _ e he
      obtain ⟨ks, hks, hlast⟩ := ih e.q (by omega) (List.getElem?_eq_some_iff.mp h2).1
      refine ⟨ks ++ [B.length + (j - B.length)], .step he hks hlast, ?_⟩
      rw [List.getLast?_concat]
      congr 1
      omega
def dr (B : List Int) (st : Int) (E : List Ent) (j : Nat) : Int := ((Qu B st E)[j]?.getD (0, 0)).2
def fl (B : List Int) (st : Int) (E : List Ent) (j : Nat) : Int := ((Qu B st E)[j]?.getD (0, 0)).1
section
variable {p r B : List Int} {st : Int} {N : Nat} {E : List Ent}
theorem qu_at {j : Nat} {w x : Int} (h : (Qu B st E)[j]? = some (w, x)) : dr B st E j = x ∧ fl B st E j = w := by
  unfold dr fl
  rw [h]
  exact ⟨rfl, rfl⟩
theorem qu_ent {k : Nat} {e : Ent} (h : E[k]? = some e) : (Qu B st E)[B.length + k]? = some (1 - e.s, e.d) := by
  unfold Qu
  rw [List.getElem?_append_right (by rw [List.length_map]; omega), List.length_map, Nat.add_sub_cancel_left, at_map (f := fun e : Ent => (1 - e.s, e.d)) h]
theorem qu_base {j : Nat} (h : j < B.length) : ∃ b, B[j]? = some b ∧ (Qu B st E)[j]? = some (b, st) := by
  obtain ⟨b, hb⟩ := at_some h
  refine ⟨b, hb, ?_⟩
  unfold Qu
  rw [List.getElem?_append_left (by rw [List.length_map]; exact h), at_map (f := fun b : Int => (b, st)) hb]
theorem path_ne {b : Nat} {ks : List Nat} (h : Path b E ks) : ks ≠ [] := by
  cases h with
  | base => simp
  | step => simp
theorem last_at {α : Type} {ks : List α} {x : α} (h : ks.getLast? = some x) : ks ≠ [] ∧ ks[ks.length - 1]? = some x := by
  rw [List.getLast?_eq_getElem?] at h
  refine ⟨fun e => by rw [e] at h; simp at h, h⟩
/-- what holds of two that stand one behind the other -/
structure Next (p r B : List Int) (st : Int) (E : List Ent) (ks : List Nat) (i x y : Nat) : Prop where
  lt : x < y
  turn : fl B st E y = 1 - fl B st E x
  blk : bk (prt p r (fl B st E x)) (dr B st E y) = bk (prt p r (fl B st E x)) (dr B st E x)
  far : ∀ j z, j < i → ks[j]? = some z → bk (prt p r (fl B st E z)) (dr B st E y) ≠ bk (prt p r (fl B st E z)) (dr B st E z)
theorem path_next (h : Bfs p r B st N E) : ∀ {ks : List Nat}, Path B.length E ks → (∀ (i j x y : Nat), i < j → ks[i]? = some x → ks[j]? = some y → x < y) ∧ (∀ x ∈ ks, x < (Qu B st E).length) ∧ ∀ i x y, ks[i]? = some x → ks[i + 1]? = some y → Next p r B st E ks i x y := by
  intro ks hp
  induction hp with
  | base hj =>
    refine ⟨fun i j x y hij hi hj' => ?_, fun x hx => ?_, fun i x y hi hi1 => ?_⟩
    · have := (List.getElem?_eq_some_iff.mp hj').1
      rw [List.length_singleton] at this
      omega
    · rw [List.mem_singleton.mp hx, qu_len]
      omega
    · have := (List.getElem?_eq_some_iff.mp hi1).1
      rw [List.length_singleton] at this
      omega
  | @step k e ks he hks hlast ih =>
    obtain ⟨up, bd, nxt⟩ := ih
    obtain ⟨ne, hl⟩ := last_at hlast
    have hpos := List.length_pos_iff.mpr ne
    obtain ⟨h1, h2, h3⟩ := h.par k e he
    have hk := (List.getElem?_eq_some_iff.mp he).1
    obtain ⟨q1, q2⟩ := qu_at h2
    obtain ⟨q3, q4⟩ := qu_at (qu_ent (B := B) (st := st) he)
    have old : ∀ i x, (ks ++ [B.length + k])[i]? = some x → (i < ks.length ∧ ks[i]? = some x) ∨ (i = ks.length ∧ x = B.length + k) := by
      intro i x hi
      by_cases hil : i < ks.length
      · rw [List.getElem?_append_left hil] at hi
        exact .inl ⟨hil, hi⟩
      · have := (List.getElem?_eq_some_iff.mp hi).1
        rw [List.length_append, List.length_singleton] at this
        have e2 : i = ks.length := by omega
        subst e2
        rw [List.getElem?_append_right (Nat.le_refl _), Nat.sub_self] at hi
        exact .inr ⟨rfl, (Option.some.inj hi).symm⟩
    have lt_last : ∀ i x, ks[i]? = some x → x ≤ e.q := fun i x hi => by
      have := (List.getElem?_eq_some_iff.mp hi).1
      by_cases e2 : i = ks.length - 1
      · rw [e2, hl] at hi
        obtain rfl := Option.some.inj hi
        exact Nat.le_refl _
      · exact Nat.le_of_lt (up i (ks.length - 1) x e.q (by omega) hi hl)
    refine ⟨fun i j x y hij hi hj => ?_, fun x hx => ?_, fun i x y hi hi1 => ?_⟩
    · rcases old j y hj with ⟨jl, hj⟩ | ⟨rfl, rfl⟩
      · rcases old i x hi with ⟨il, hi⟩ | ⟨rfl, rfl⟩
        · exact up i j x y hij hi hj
        · omega
      · rcases old i x hi with ⟨il, hi⟩ | ⟨rfl, rfl⟩
        · have := lt_last i x hi
          omega
        · omega
    · rcases List.mem_append.mp hx with hx | hx
      · exact bd x hx
      · rw [List.mem_singleton.mp hx, qu_len]
        omega
    · rcases old (i + 1) y hi1 with ⟨jl, hj⟩ | ⟨e2, rfl⟩
      · rcases old i x hi with ⟨il, hi'⟩ | ⟨rfl, rfl⟩
        · obtain ⟨a, b, c, d⟩ := nxt i x y hi' hj
          exact ⟨a, b, c, fun j z hji hz => by
            rcases old j z hz with ⟨zl, hz⟩ | ⟨rfl, rfl⟩
            · exact d j z hji hz
            · omega⟩
        · omega
      · rcases old i x hi with ⟨il, hi'⟩ | ⟨rfl, rfl⟩
        · have ei : i = ks.length - 1 := by omega
          rw [ei, hl] at hi'
          obtain rfl := Option.some.inj hi'
          refine ⟨h1, ?_, ?_, fun j z hji hz => ?_⟩
          · rw [q4, q2]
          · rw [q2, q3, q1]
            exact h3
          · rcases old j z hz with ⟨zl, hz⟩ | ⟨rfl, rfl⟩
            · have zlt : z < e.q := up j (ks.length - 1) z e.q (by omega) hz hl
              rw [q3]
              have hzl : z < (Qu B st E).length := bd z (List.mem_of_getElem? hz)
              obtain ⟨⟨w', x'⟩, hz2⟩ := at_some hzl
              obtain ⟨r1, r2⟩ := qu_at hz2
              rw [r1, r2]
              exact h.apart e (List.mem_of_getElem? he) z w' x' zlt hz2
            · omega
        · omega
theorem val_start : valV (kvsOf st E) (kI st) = some .non := by
  unfold kvsOf valV
  simp
theorem val_ent (h : (st :: E.map Ent.d).Nodup) {k : Nat} {e : Ent} (he : E[k]? = some e) : valV (kvsOf st E) (kI e.d) = some (.int e.par) := by
  have hm := List.mem_of_getElem? he
  unfold kvsOf valV
  have hs : st ≠ e.d := fun q => (List.nodup_cons.mp h).1 (q ▸ List.mem_map_of_mem hm)
  have hn := (List.nodup_cons.mp h).2
  have go : ∀ E : List Ent, (E.map Ent.d).Nodup → e ∈ E → ((E.map fun e => (kI e.d, V.int e.par)).find? fun kv => decide (kv.1 = kI e.d)) = some (kI e.d, V.int e.par) := by
    intro E
    induction E with
    | nil => exact fun _ hm => absurd hm (by simp)
    | cons f E ih =>
      intro hn hm
      rw [List.map_cons, List.nodup_cons] at hn
      rw [List.map_cons, List.find?_cons]
      rcases List.mem_cons.mp hm with q | q
      · subst q
        simp
      · have hne : f.d ≠ e.d := fun z => hn.1 (z ▸ List.mem_map_of_mem q)
        have : decide ((kI f.d, V.int f.par).1 = kI e.d) = false := decide_eq_false fun z => hne (kI_inj _ _ z)
        rw [this]
        exact ih hn.2 q
  rw [List.find?_cons]
  have : decide ((kI st, V.non).1 = kI e.d) = false := decide_eq_false fun z => hs (kI_inj _ _ z)
  rw [this]
  rw [go E hn hm]
  rfl
theorem path_back (h : Bfs p r B st N E) {ks : List Nat} (hp : Path B.length E ks) : Back (kvsOf st E) (ks.map (dr B st E)).reverse := by
  induction hp with
  | base hj =>
    obtain ⟨b, _, hq⟩ := qu_base (st := st) (E := E) hj
    show valV (kvsOf st E) (kI (dr B st E _)) = some .non
    rw [(qu_at hq).1]
    exact val_start
  | @step k e ks he hks hlast ih =>
    obtain ⟨ne, hl⟩ := last_at hlast
    obtain ⟨h1, h2, h3⟩ := h.par k e he
    rw [List.map_append, List.reverse_append]
    show Back (kvsOf st E) (dr B st E (B.length + k) :: (ks.map (dr B st E)).reverse)
    have hc : (ks.map (dr B st E)).reverse = e.par :: (ks.map (dr B st E)).reverse.tail := by
      have : (ks.map (dr B st E)).reverse.head? = some e.par := by
        rw [List.head?_reverse, List.getLast?_map, hlast]
        show some (dr B st E e.q) = _
        rw [(qu_at h2).1]
      cases hh : (ks.map (dr B st E)).reverse with
      | nil => rw [hh] at this; cases this
      | cons a t =>
        rw [hh] at this
        obtain rfl := Option.some.inj this
        rfl
    rw [hc] at ih ⊢
    rw [(qu_at (qu_ent he)).1]
    exact ⟨val_ent h.keys he, ih⟩
end
end KQ
namespace KQ
open PySem PySem.Spec PyProof.Rows L2 KR KM
theorem glue_fold {S : Nat → Prop} : ∀ (ts : List (Nat × Nat)) (R : Nat → Nat → Prop), (∀ x y, R x y → (S x ↔ S y)) → (∀ t ∈ ts, S t.1 ↔ S t.2) → ∀ x y, ts.foldl (fun R t => J R t.1 t.2) R x y → (S x ↔ S y)
  | [], R, h, _, x, y, q => h x y q
  | t :: ts, R, h, ht, x, y, q => by
    refine glue_fold ts (J R t.1 t.2) (fun a b hab => ?_) (fun u hu => ht u (List.mem_cons_of_mem _ hu)) x y q
    have t0 := ht t List.mem_cons_self
    rcases hab with q | ⟨q1, q2⟩ | ⟨q1, q2⟩
    · exact h _ _ q
    · exact (h _ _ q1).trans (t0.trans (h _ _ q2))
    · exact (h _ _ q1).trans (t0.symm.trans (h _ _ q2))
theorem glue_keep {S : Nat → Prop} {ts : List (Nat × Nat)} (h : ∀ t ∈ ts, S t.1 ↔ S t.2) {x y : Nat} (g : glue ts x y) : S x ↔ S y :=
  glue_fold ts Eq (fun _ _ e => by rw [e]) h x y g
section
variable {p r : List Int} {st : Int} {N : Nat} {E : List Ent}
theorem bk_at {p : List Int} {d : Int} {x : Int} (h : p[d.toNat]? = some x) : bk p d = x := by
  unfold bk
  rw [List.getD_eq_getElem?_getD, h]
  rfl
theorem bk_some {p : List Int} {d : Int} (d0 : 0 ≤ d) (d1 : d < p.length) : p[d.toNat]? = some (bk p d) := by
  obtain ⟨x, hx⟩ := at_some (xs := p) (i := d.toNat) (by omega)
  rw [hx, bk_at hx]
theorem bk_rng (par : Par p) {d : Int} (d0 : 0 ≤ d) (d1 : d < p.length) : 0 ≤ bk p d ∧ bk p d < bc 0 p :=
  (rg_mem 0 p (Int.le_refl _) par.rg).1 _ (List.mem_of_getElem? (bk_some d0 d1))
theorem mem_keys {d : Int} : d ∈ st :: E.map Ent.d ↔ d = st ∨ ∃ e ∈ E, e.d = d := by
  rw [List.mem_cons, List.mem_map]
/-- where nothing found has the first door's block of the other one, it closes no ring -/
theorem no_ring_at (par : Par p) (parr : Par r) (hl : p.length = r.length) (s0 : 0 ≤ st) (s1 : st < p.length) (hN : (N : Int) = st) (h : Bfs p r [0] st N E) (full : ∀ j, j < (Qu [0] st E).length → FullTo p r [0] st E j N)
    (no : ∀ e ∈ E, bk r e.d ≠ bk r st) : ¬ RingAt p r st.toNat := by
  rintro ⟨x, y, hx, hy, hg⟩
  have ex := bk_at hx
  have ey := bk_at hy
  have px := bk_rng par s0 s1
  have py := bk_rng parr s0 (by omega)
  have g := glue_keep (S := fun u => (∃ d, d ∈ st :: E.map Ent.d ∧ u = (bk p d).toNat) ∨ ∃ e ∈ E, u = (bc 0 p + bk r e.d).toNat) ?_ hg
  · rcases g.mp (.inl ⟨st, List.mem_cons_self, by rw [ex]⟩) with ⟨d, hd, ed⟩ | ⟨e, he, eq⟩
    · have dr : 0 ≤ d ∧ d < p.length := by
        rcases mem_keys.mp hd with rfl | ⟨e, he, rfl⟩
        · exact ⟨s0, s1⟩
        · have := h.rng e he
          omega
      have := bk_rng par dr.1 dr.2
      omega
    · have := h.rng e he
      have := bk_rng parr (d := e.d) (by omega) (by omega)
      exact no e he (by omega)
  intro t ht
  obtain ⟨i, hi⟩ := List.mem_iff_getElem?.mp ht
  have il := (List.getElem?_eq_some_iff.mp hi).1
  rw [List.length_take, ties_len hl] at il
  rw [List.getElem?_take_of_lt (by omega)] at hi
  obtain ⟨u, hu⟩ := at_some (xs := p) (i := i) (by omega)
  obtain ⟨v, hv⟩ := at_some (xs := r) (i := i) (by omega)
  rw [ties_at hu hv] at hi
  obtain rfl := Option.some.inj hi
  have bu : bk p (i : Int) = u := bk_at (by rw [Int.toNat_natCast]; exact hu)
  have bv : bk r (i : Int) = v := bk_at (by rw [Int.toNat_natCast]; exact hv)
  have ru := bk_rng par (d := (i : Int)) (by omega) (by omega)
  have rv := bk_rng parr (d := (i : Int)) (by omega) (by omega)
  rw [bu] at ru
  rw [bv] at rv
  have iN : (i : Int) < N := by omega
  have all : ∀ (j : Nat) (w x : Int), (Qu [0] st E)[j]? = some (w, x) → bk (prt p r w) (i : Int) = bk (prt p r w) x → (i : Int) ∈ st :: E.map Ent.d := fun j w x hq hb =>
    full j (List.getElem?_eq_some_iff.mp hq).1 w x hq i (by omega) iN hb
  have ne_st : (i : Int) ≠ st := by omega
  have ent : (i : Int) ∈ st :: E.map Ent.d → ∃ e ∈ E, e.d = (i : Int) := fun hm => (mem_keys.mp hm).resolve_left ne_st
  have viaE : ∀ (k : Nat) (e : Ent), E[k]? = some e → ∀ w, w = 0 ∨ w = 1 → bk (prt p r w) (i : Int) = bk (prt p r w) e.d → e.s = 0 ∨ e.s = 1 → (i : Int) ∈ st :: E.map Ent.d := by
    intro k e he w hw hb hs
    obtain ⟨_, h2, h3⟩ := h.par k e he
    by_cases e1 : w = e.s
    · subst e1
      exact all _ _ _ h2 (hb.trans h3)
    · have e2 : w = 1 - e.s := by omega
      subst e2
      exact all _ _ _ (qu_ent he) hb
  have sides : ∀ (n k : Nat) (e : Ent), k < n → E[k]? = some e → e.s = 0 ∨ e.s = 1 := by
    intro n
    induction n with
    | zero => exact fun k e hk => absurd hk (Nat.not_lt_zero _)
    | succ n ih =>
      intro k e hk he
      obtain ⟨h1, h2, _⟩ := h.par k e he
      by_cases e0 : e.q < ([0] : List Int).length
      · obtain ⟨b, hb, hq⟩ := qu_base (st := st) (E := E) e0
        rw [hq] at h2
        have : b = e.s := (Prod.mk.inj (Option.some.inj h2)).1
        have q0 : e.q = 0 := by simpa using e0
        rw [q0] at hb
        exact .inl (this ▸ (Option.some.inj hb).symm)
      · have hql : e.q < (Qu [0] st E).length := (List.getElem?_eq_some_iff.mp h2).1
        rw [qu_len] at hql
        obtain ⟨e', he'⟩ := at_some (xs := E) (i := e.q - 1) (by simp at hql e0; omega)
        have := qu_ent (B := [0]) (st := st) he'
        rw [show ([0] : List Int).length + (e.q - 1) = e.q by simp at e0 ⊢; omega, h2] at this
        have hs : e.s = 1 - e'.s := (Prod.mk.inj (Option.some.inj this)).1
        have := ih (e.q - 1) e' (by simp at h1 e0; omega) he'
        omega
  show ((∃ d, d ∈ st :: E.map Ent.d ∧ u.toNat = (bk p d).toNat) ∨ ∃ e ∈ E, u.toNat = (bc 0 p + bk r e.d).toNat) ↔ ((∃ d, d ∈ st :: E.map Ent.d ∧ (bc 0 p + v).toNat = (bk p d).toNat) ∨ ∃ e ∈ E, (bc 0 p + v).toNat = (bc 0 p + bk r e.d).toNat)
  have drng : ∀ d, d ∈ st :: E.map Ent.d → 0 ≤ d ∧ d < p.length := fun d hd => by
    rcases mem_keys.mp hd with rfl | ⟨e, he, rfl⟩
    · exact ⟨s0, s1⟩
    · have := h.rng e he
      omega
  constructor
  · rintro (⟨d, hd, ed⟩ | ⟨e, he, eq⟩)
    · have := drng d hd
      have := bk_rng par this.1 this.2
      have eb : bk p (i : Int) = bk p d := by omega
      have im : (i : Int) ∈ st :: E.map Ent.d := by
        rcases mem_keys.mp hd with rfl | ⟨e, he, rfl⟩
        · refine all 0 0 d (by rfl) ?_
          exact eb
        · obtain ⟨k, hk⟩ := List.mem_iff_getElem?.mp he
          exact viaE k e hk 0 (.inl rfl) eb (sides (k + 1) k e (Nat.lt_succ_self _) hk)
      obtain ⟨e, he, ed⟩ := ent im
      exact .inr ⟨e, he, by rw [ed, bv]⟩
    · have := h.rng e he
      have := bk_rng parr (d := e.d) (by omega) (by omega)
      omega
  · rintro (⟨d, hd, ed⟩ | ⟨e, he, eq⟩)
    · have := drng d hd
      have := bk_rng par this.1 this.2
      omega
    · have := h.rng e he
      have := bk_rng parr (d := e.d) (by omega) (by omega)
      have eb : bk r (i : Int) = bk r e.d := by omega
      obtain ⟨k, hk⟩ := List.mem_iff_getElem?.mp he
      have im := viaE k e hk 1 (.inr rfl) eb (sides (k + 1) k e (Nat.lt_succ_self _) hk)
      exact .inl ⟨i, im, by rw [bu]⟩
theorem side01 (h : Bfs p r [0] st N E) : ∀ (n k : Nat) (e : Ent), k < n → E[k]? = some e → e.s = 0 ∨ e.s = 1 := by
  intro n
  induction n with
  | zero => exact fun k e hk => absurd hk (Nat.not_lt_zero _)
  | succ n ih =>
    intro k e hk he
    obtain ⟨h1, h2, _⟩ := h.par k e he
    by_cases e0 : e.q < ([0] : List Int).length
    · obtain ⟨b, hb, hq⟩ := qu_base (st := st) (E := E) e0
      rw [hq] at h2
      have : b = e.s := (Prod.mk.inj (Option.some.inj h2)).1
      have q0 : e.q = 0 := by simpa using e0
      rw [q0] at hb
      exact .inl (this ▸ (Option.some.inj hb).symm)
    · have hql : e.q < (Qu [0] st E).length := (List.getElem?_eq_some_iff.mp h2).1
      rw [qu_len] at hql
      obtain ⟨e', he'⟩ := at_some (xs := E) (i := e.q - 1) (by simp at hql e0; omega)
      have := qu_ent (B := [0]) (st := st) he'
      rw [show ([0] : List Int).length + (e.q - 1) = e.q by simp at e0 ⊢; omega, h2] at this
      have hs : e.s = 1 - e'.s := (Prod.mk.inj (Option.some.inj this)).1
      have := ih (e.q - 1) e' (by simp at h1 e0; omega) he'
      omega
/-- what is found hangs together with the first door's block -/
theorem found_glue (hl : p.length = r.length) (s0 : 0 ≤ st) (s1 : st < p.length) (hN : (N : Int) = st) (h : Bfs p r [0] st N E) : ∀ (n k : Nat) (e : Ent), k < n → E[k]? = some e → glue ((tiesOf p r).take N) (bk p st).toNat (bk p e.d).toNat := by
  have tie : ∀ d : Int, 0 ≤ d → d < N → glue ((tiesOf p r).take N) (bk p d).toNat (bc 0 p + bk r d).toNat := fun d d0 d1 => by
    refine glue_mem (t := ((bk p d).toNat, (bc 0 p + bk r d).toNat)) (List.mem_of_getElem? (i := d.toNat) ?_)
    rw [List.getElem?_take_of_lt (by omega)]
    exact ties_at (bk_some d0 (by omega)) (bk_some d0 (by omega))
  have G := glue_eqv ((tiesOf p r).take N)
  intro n
  induction n with
  | zero => exact fun k e hk => absurd hk (Nat.not_lt_zero _)
  | succ n ih =>
    intro k e hk he
    obtain ⟨h1, h2, h3⟩ := h.par k e he
    have er := h.rng e (List.mem_of_getElem? he)
    have pr : e.par = st ∧ e.s = 0 ∨ ∃ e', E[e.q - 1]? = some e' ∧ e.q - 1 < n ∧ e.par = e'.d := by
      by_cases e0 : e.q < ([0] : List Int).length
      · obtain ⟨b, hb, hq⟩ := qu_base (st := st) (E := E) e0
        rw [hq] at h2
        have q0 : e.q = 0 := by simpa using e0
        rw [q0] at hb
        have q1 : b = 0 := (Option.some.inj hb).symm
        exact .inl ⟨(Prod.mk.inj (Option.some.inj h2)).2.symm, (Prod.mk.inj (Option.some.inj h2)).1 ▸ q1⟩
      · have hql : e.q < (Qu [0] st E).length := (List.getElem?_eq_some_iff.mp h2).1
        rw [qu_len] at hql
        obtain ⟨e', he'⟩ := at_some (xs := E) (i := e.q - 1) (by simp at hql e0; omega)
        have := qu_ent (B := [0]) (st := st) he'
        rw [show ([0] : List Int).length + (e.q - 1) = e.q by simp at e0 ⊢; omega, h2] at this
        exact .inr ⟨e', he', by simp at h1 e0; omega, (Prod.mk.inj (Option.some.inj this)).2⟩
    rcases pr with ⟨e1, e2⟩ | ⟨e', he', hn, e1⟩
    · rw [e1, e2] at h3
      have h3' : bk p e.d = bk p st := h3
      rw [h3']
      exact G.refl _
    · have g := ih _ e' hn he'
      have er' := h.rng e' (List.mem_of_getElem? he')
      rw [e1] at h3
      rcases side01 h (k + 1) k e (Nat.lt_succ_self _) he with e2 | e2
      · rw [e2] at h3
        have h3' : bk p e.d = bk p e'.d := h3
        rw [h3']
        exact g
      · rw [e2] at h3
        have h3' : bk r e.d = bk r e'.d := h3
        refine G.trans _ _ _ g (G.trans _ _ _ (tie e'.d er'.1 er'.2) ?_)
        rw [← h3']
        exact G.symm _ _ (tie e.d er.1 er.2)
theorem ring_at (hl : p.length = r.length) (s0 : 0 ≤ st) (s1 : st < p.length) (hN : (N : Int) = st) (h : Bfs p r [0] st N E) {e : Ent} (he : e ∈ E) (hb : bk r e.d = bk r st) : RingAt p r st.toNat := by
  obtain ⟨k, hk⟩ := List.mem_iff_getElem?.mp he
  have er := h.rng e he
  refine ⟨bk p st, bk r st, bk_some s0 s1, bk_some s0 (by omega), ?_⟩
  have g := found_glue hl s0 s1 hN h (k + 1) k e (Nat.lt_succ_self _) hk
  have G := glue_eqv ((tiesOf p r).take N)
  rw [show st.toNat = N by omega]
  refine G.trans _ _ _ g ?_
  rw [← hb]
  refine glue_mem (t := ((bk p e.d).toNat, (bc 0 p + bk r e.d).toNat)) (List.mem_of_getElem? (i := e.d.toNat) ?_)
  rw [List.getElem?_take_of_lt (by omega)]
  exact ties_at (bk_some er.1 (by omega)) (bk_some er.1 (by omega))
/-- the way to the first one found with the first door's block of the other one is a ring -/
theorem ring_of (hl : p.length = r.length) (s0 : 0 ≤ st) (s1 : st < p.length) (hN : (N : Int) = st) (h : Bfs p r [0] st N E) {k : Nat} {e : Ent} (he : E[k]? = some e) (hb : bk r e.d = bk r st)
    (first : ∀ k' e', k' < k → E[k']? = some e' → bk r e'.d ≠ bk r st) {ks : List Nat} (hp : Path 1 E ks) (hlast : ks.getLast? = some (1 + k)) :
    IsRing p r (ks.map (dr [0] st E)) ∧ (ks.map (dr [0] st E))[0]? = some st ∧ ∀ d ∈ ks.map (dr [0] st E), d ≤ st := by
  obtain ⟨up, bd, nxt⟩ := path_next (B := [0]) h hp
  obtain ⟨ne, hl1⟩ := last_at hlast
  have hpos := List.length_pos_iff.mpr ne
  have z0 : ∀ j : Nat, j < 1 → j = 0 := fun j hj => by omega
  have q0 : (Qu [0] st E)[0]? = some (0, st) := rfl
  -- the first place
  have h0 : ks[0]? = some 0 := by
    clear hlast hl1 first
    induction hp with
    | base hj => rw [z0 _ hj]; rfl
    | @step k e ks he hks hl2 ih =>
      obtain ⟨ne2, _⟩ := last_at hl2
      obtain ⟨a, b, c⟩ := path_next (B := [0]) h hks
      rw [List.getElem?_append_left (List.length_pos_iff.mpr ne2)]
      exact ih a b c ne2 (List.length_pos_iff.mpr ne2)
  have flag : ∀ (i x : Nat), ks[i]? = some x → fl [0] st E x = ((i % 2 : Nat) : Int) := by
    intro i
    induction i with
    | zero =>
      intro x hx
      rw [h0] at hx
      obtain rfl := Option.some.inj hx
      rfl
    | succ i ih =>
      intro y hy
      obtain ⟨x, hx⟩ := at_some (xs := ks) (i := i) (by have := (List.getElem?_eq_some_iff.mp hy).1; omega)
      have := ih x hx
      rw [(nxt i x y hx hy).turn, this]
      omega
  have place : ∀ (i x : Nat), ks[i]? = some x → (x = 0 ∧ dr [0] st E x = st) ∨ ∃ k' e', x = 1 + k' ∧ E[k']? = some e' ∧ dr [0] st E x = e'.d ∧ k' ≤ k ∧ (i + 1 < ks.length → k' < k) := by
    intro i x hx
    by_cases e0 : x = 0
    · exact .inl ⟨e0, by rw [e0]; rfl⟩
    · have hxl := bd x (List.mem_of_getElem? hx)
      rw [qu_len] at hxl
      obtain ⟨e', he'⟩ := at_some (xs := E) (i := x - 1) (by simp at hxl; omega)
      have hq := qu_ent (B := [0]) (st := st) he'
      rw [show ([0] : List Int).length + (x - 1) = x by simp; omega] at hq
      have ilt := (List.getElem?_eq_some_iff.mp hx).1
      have : x ≤ 1 + k ∧ (i + 1 < ks.length → x < 1 + k) := by
        by_cases e2 : i = ks.length - 1
        · rw [e2, hl1] at hx
          have := Option.some.inj hx
          omega
        · have := up i (ks.length - 1) x (1 + k) (by omega) hx hl1
          omega
      exact .inr ⟨x - 1, e', by omega, he', (qu_at hq).1, by omega, by omega⟩
  have qk := qu_ent (B := [0]) (st := st) he
  have dk : dr [0] st E (1 + k) = e.d := (qu_at (j := 1 + k) qk).1
  -- its number of doors is even
  have even : ks.length % 2 = 0 := by
    apply Classical.byContradiction
    intro ho
    have l2 : 2 ≤ ks.length - 1 := by
      have : ks.length ≠ 1 := fun e1 => by
        rw [e1] at hl1
        rw [show (1 - 1 : Nat) = 0 from rfl, h0] at hl1
        have := Option.some.inj hl1
        omega
      omega
    obtain ⟨x, hx⟩ := at_some (xs := ks) (i := ks.length - 2) (by omega)
    have hn := (nxt (ks.length - 2) x (1 + k) hx (by rw [show ks.length - 2 + 1 = ks.length - 1 by omega]; exact hl1)).blk
    have fx := flag _ x hx
    rw [show ((ks.length - 2) % 2) = 1 by omega] at fx
    rw [fx, dk] at hn
    have hn' : bk r e.d = bk r (dr [0] st E x) := hn
    rcases place _ x hx with ⟨rfl, _⟩ | ⟨k', e', rfl, he', d', _, lt⟩
    · have : fl [0] st E 0 = 0 := rfl
      omega
    · rw [d'] at hn'
      exact first k' e' (lt (by omega)) he' (hn'.symm.trans hb)
  have drr : ∀ d ∈ ks.map (dr [0] st E), 0 ≤ d ∧ d ≤ st := by
    intro d hd
    obtain ⟨x, hx, rfl⟩ := List.mem_map.mp hd
    obtain ⟨i, hi⟩ := List.mem_iff_getElem?.mp hx
    rcases place i x hi with ⟨_, e1⟩ | ⟨k', e', _, he', e1, _⟩
    · rw [e1]
      omega
    · rw [e1]
      have := h.rng e' (List.mem_of_getElem? he')
      omega
  have low : ∀ (i x y : Nat), i % 2 = 0 → ks[i]? = some x → ks[i + 1]? = some y → bk p (dr [0] st E y) = bk p (dr [0] st E x) := fun i x y hi hx hy => by
    have := (nxt i x y hx hy).blk
    rw [flag i x hx, hi] at this
    exact this
  have high : ∀ (i x y : Nat), i % 2 = 1 → ks[i]? = some x → ks[i + 1]? = some y → bk r (dr [0] st E y) = bk r (dr [0] st E x) := fun i x y hi hx hy => by
    have := (nxt i x y hx hy).blk
    rw [flag i x hx, hi] at this
    exact this
  have mapd : ∀ {i x : Nat}, ks[i]? = some x → (ks.map (dr [0] st E))[i]? = some (dr [0] st E x) := fun hx => at_map hx
  have ml : (ks.map (dr [0] st E)).length = ks.length := List.length_map ..
  have mne : ks.map (dr [0] st E) ≠ [] := by
    intro e1
    rw [e1] at ml
    simp at ml
    omega
  have pw : ∀ {l : List Int}, (∀ (i j : Nat) (u v : Int), i < j → l[i]? = some u → l[j]? = some v → u ≠ v) → l.Nodup := by
    intro l hh
    refine List.pairwise_iff_getElem.mpr fun i j hi hj hij => ?_
    exact hh i j _ _ hij (List.getElem?_eq_getElem hi) (List.getElem?_eq_getElem hj)
  refine ⟨⟨mne, by rw [ml]; exact even, fun d hd => ?_, ?_, ?_, ?_, ?_, ?_⟩, ?_, fun d hd => (drr d hd).2⟩
  · have := drr d hd
    omega
  · refine pw fun i j u v hij hu hv => ?_
    obtain ⟨x, hx, rfl⟩ := map_at hu
    obtain ⟨y, hy, rfl⟩ := map_at hv
    have lt := up i j x y hij hx hy
    intro e1
    have mem : ∀ (z x' : Nat), ks[x']? = some z → (st :: E.map Ent.d)[z]? = some (dr [0] st E z) := by
      intro z x' hz
      rcases place x' z hz with ⟨rfl, e2⟩ | ⟨k', e', rfl, he', e2, _⟩
      · rfl
      · rw [Nat.add_comm, List.getElem?_cons_succ, Nat.add_comm, e2]
        exact at_map (f := Ent.d) he'
    have h1 := mem x i hx
    have h2 := mem y j hy
    have l1 := (List.getElem?_eq_some_iff.mp h1)
    have l2 := (List.getElem?_eq_some_iff.mp h2)
    have := List.pairwise_iff_getElem.mp h.keys x y l1.1 l2.1 lt
    rw [l1.2, l2.2] at this
    exact this e1
  · refine pw fun i j u v hij hu hv => ?_
    rw [ev_at, List.map_map] at hu hv
    obtain ⟨x, hx, rfl⟩ := map_at hu
    obtain ⟨y, hy, rfl⟩ := map_at hv
    have jl := (List.getElem?_eq_some_iff.mp hy).1
    obtain ⟨z, hz⟩ := at_some (xs := ks) (i := 2 * j + 1) (by omega)
    have n1 := nxt (2 * j) y z hy hz
    have b1 := low (2 * j) y z (by omega) hy hz
    have f1 := n1.far (2 * i) x (by omega) hx
    rw [flag _ x hx, show 2 * i % 2 = 0 by omega] at f1
    have f1' : bk p (dr [0] st E z) ≠ bk p (dr [0] st E x) := f1
    exact fun e1 => f1' (b1.trans (Eq.symm e1))
  · refine pw fun i j u v hij hu hv => ?_
    rw [ev_at] at hu hv
    obtain ⟨x, hx, rfl⟩ := map_at hu
    obtain ⟨y, hy, rfl⟩ := map_at hv
    have jl := (List.getElem?_eq_some_iff.mp hy).1
    rw [rot_len, ml] at jl
    rw [rot_at mne, ml, if_pos (by omega)] at hx hy
    obtain ⟨x, hx', rfl⟩ := map_at hx
    obtain ⟨y, hy', rfl⟩ := map_at hy
    clear hx hy
    have hx := hx'
    have hy := hy'
    clear hx' hy'
    by_cases e1 : 2 * j + 1 + 1 < ks.length
    · obtain ⟨z, hz⟩ := at_some e1
      have n1 := nxt (2 * j + 1) y z hy hz
      have b1 := high (2 * j + 1) y z (by omega) hy hz
      have f1 := n1.far (2 * i + 1) x (by omega) hx
      rw [flag _ x hx, show (2 * i + 1) % 2 = 1 by omega] at f1
      have f1' : bk r (dr [0] st E z) ≠ bk r (dr [0] st E x) := f1
      exact fun e1 => f1' (b1.trans (Eq.symm e1))
    · have : 2 * j + 1 = ks.length - 1 := by omega
      rw [this, hl1] at hy
      obtain rfl := Option.some.inj hy
      rw [dk, hb]
      rcases place _ x hx with ⟨rfl, _⟩ | ⟨k', e', rfl, he', d', _, lt⟩
      · have := flag _ 0 hx
        rw [show (2 * i + 1) % 2 = 1 by omega] at this
        have : fl [0] st E 0 = 0 := rfl
        omega
      · rw [d']
        exact first k' e' (lt (by omega)) he'
  · rw [twos_at]
    intro i
    rw [List.map_map]
    by_cases hi : 2 * i < ks.length
    · obtain ⟨x, hx⟩ := at_some hi
      obtain ⟨y, hy⟩ := at_some (xs := ks) (i := 2 * i + 1) (by omega)
      rw [at_map hx, at_map hy]
      exact congrArg some (low (2 * i) x y (by omega) hx hy).symm
    · rw [List.getElem?_eq_none (by rw [List.length_map]; omega), List.getElem?_eq_none (by rw [List.length_map]; omega)]
  · rw [twos_at]
    intro i
    by_cases hi : 2 * i < ks.length
    · obtain ⟨x, hx⟩ := at_some (xs := ks) (i := 2 * i + 1) (by omega)
      have ea : (rot (ks.map (dr [0] st E)))[2 * i]? = some (dr [0] st E x) := by
        rw [rot_at mne, ml, if_pos (by omega), mapd hx]
      rw [at_map ea]
      by_cases e1 : 2 * i + 1 + 1 < ks.length
      · obtain ⟨y, hy⟩ := at_some e1
        have eb : (rot (ks.map (dr [0] st E)))[2 * i + 1]? = some (dr [0] st E y) := by
          rw [rot_at mne, ml, if_pos (by omega), mapd hy]
        rw [at_map eb, high (2 * i + 1) x y (by omega) hx hy]
      · have : 2 * i + 1 = ks.length - 1 := by omega
        have eb : (rot (ks.map (dr [0] st E)))[2 * i + 1]? = some st := by
          rw [rot_at mne, ml, if_neg (by omega), if_pos (by omega), mapd h0]
          rfl
        rw [this, hl1] at hx
        obtain rfl := Option.some.inj hx
        rw [at_map eb, dk, hb]
    · rw [List.getElem?_eq_none (by rw [List.length_map, rot_len, ml]; omega), List.getElem?_eq_none (by rw [List.length_map, rot_len, ml]; omega)]
  · rw [mapd h0]
    rfl
end
end KQ
namespace KQ
open PySem PySem.Spec PyProof.Rows L2 KR KM StX
theorem flag01 {p r B : List Int} {st : Int} {N : Nat} {E : List Ent} (hB : ∀ b ∈ B, b = 0 ∨ b = 1) (h : Bfs p r B st N E) : ∀ (n j : Nat) (w x : Int), j < n → (Qu B st E)[j]? = some (w, x) → (w = 0 ∨ w = 1) ∧ (x = st ∨ (0 ≤ x ∧ x < N)) := by
  intro n
  induction n with
  | zero => exact fun j w x hj => absurd hj (Nat.not_lt_zero _)
  | succ n ih =>
    intro j w x hj hq
    by_cases e0 : j < B.length
    · obtain ⟨b, hb, hq2⟩ := qu_base (st := st) (E := E) e0
      rw [hq2] at hq
      obtain ⟨rfl, rfl⟩ := Prod.mk.inj (Option.some.inj hq)
      exact ⟨hB _ (List.mem_of_getElem? hb), .inl rfl⟩
    · have hl := (List.getElem?_eq_some_iff.mp hq).1
      rw [qu_len] at hl
      obtain ⟨e, he⟩ := at_some (xs := E) (i := j - B.length) (by omega)
      have hq2 := qu_ent (B := B) (st := st) he
      rw [show B.length + (j - B.length) = j by omega, hq] at hq2
      obtain ⟨rfl, rfl⟩ := Prod.mk.inj (Option.some.inj hq2)
      obtain ⟨h1, h2, _⟩ := h.par _ e he
      have := ih e.q _ _ (by omega) h2
      have r := h.rng e (List.mem_of_getElem? he)
      exact ⟨by omega, .inr r⟩
theorem kvs_val {p r B : List Int} {st : Int} {N : Nat} {E : List Ent} (h : Bfs p r B st N E) (d : Int) : (d ∈ st :: E.map Ent.d → ∃ v, valV (kvsOf st E) (kI d) = some v) ∧ (d ∉ st :: E.map Ent.d → valV (kvsOf st E) (kI d) = none) := by
  constructor
  · intro hd
    rcases mem_keys.mp hd with rfl | ⟨e, he, rfl⟩
    · exact ⟨_, val_start⟩
    · obtain ⟨k, hk⟩ := List.mem_iff_getElem?.mp he
      exact ⟨_, val_ent h.keys hk⟩
  · intro hd
    unfold valV kvsOf
    rw [List.find?_eq_none.mpr]
    · rfl
    · intro kv hkv
      rw [decide_eq_true_eq]
      intro e
      rcases List.mem_cons.mp hkv with rfl | hm
      · exact hd (mem_keys.mpr (.inl (kI_inj _ _ e).symm))
      · obtain ⟨f, hf, rfl⟩ := List.mem_map.mp hm
        exact hd (mem_keys.mpr (.inr ⟨f, hf, kI_inj _ _ e⟩))
theorem kvs_put {st : Int} {E : List Ent} {d w x : Int} {a : Nat} (hd : d ∉ st :: E.map Ent.d) : putK (kvsOf st E) (kI d) (V.int x) = kvsOf st (E ++ [⟨d, w, x, a⟩]) := by
  have hn : ((kvsOf st E).any fun kv => decide (kv.1 = kI d)) = false := by
    rw [List.any_eq_false]
    intro kv hkv
    rw [decide_eq_true_eq]
    intro e
    rcases List.mem_cons.mp hkv with rfl | hm
    · exact hd (mem_keys.mpr (.inl (kI_inj _ _ e).symm))
    · obtain ⟨f, hf, rfl⟩ := List.mem_map.mp hm
      exact hd (mem_keys.mpr (.inr ⟨f, hf, kI_inj _ _ e⟩))
  unfold putK
  rw [hn]
  simp [kvsOf]
theorem pairs_mono {H H' : Hp} {ts : List Addr} {xs : List (Int × Int)} (h : PairsAt H ts xs) (k : ∀ c vs, H c = some (.tup vs) → H' c = some (.tup vs)) : PairsAt H' ts xs :=
  ⟨h.1, fun i t ht => by
    obtain ⟨x, hx, e⟩ := h.2 i t ht
    exact ⟨x, hx, k _ _ e⟩⟩
theorem pairs_snoc {H : Hp} {ts : List Addr} {xs : List (Int × Int)} (h : PairsAt H ts xs) {t : Addr} {x : Int × Int} (e : H t = some (.tup [.int x.1, .int x.2])) : PairsAt H (ts ++ [t]) (xs ++ [x]) := by
  refine ⟨by rw [List.length_append, List.length_append, h.1]; rfl, fun i u hu => ?_⟩
  by_cases hi : i < ts.length
  · rw [List.getElem?_append_left hi] at hu
    obtain ⟨y, hy, e2⟩ := h.2 i u hu
    exact ⟨y, by rw [List.getElem?_append_left (by rw [← h.1]; exact hi)]; exact hy, e2⟩
  · have := (List.getElem?_eq_some_iff.mp hu).1
    rw [List.length_append, List.length_singleton] at this
    have ei : i = ts.length := by omega
    subst ei
    rw [List.getElem?_append_right (Nat.le_refl _), Nat.sub_self] at hu
    obtain rfl := Option.some.inj hu
    refine ⟨x, ?_, e⟩
    rw [h.1, List.getElem?_append_right (Nat.le_refl _), Nat.sub_self]
    rfl
theorem pairs_at {H : Hp} {ts : List Addr} {xs : List (Int × Int)} (h : PairsAt H ts xs) {i : Nat} (hi : i < xs.length) : ∃ t w x, ts[i]? = some t ∧ xs[i]? = some (w, x) ∧ H t = some (.tup [.int w, .int x]) := by
  obtain ⟨t, ht⟩ := at_some (xs := ts) (i := i) (by rw [h.1]; exact hi)
  obtain ⟨⟨w, x⟩, hx, e⟩ := h.2 i t ht
  exact ⟨t, w, x, ht, hx, e⟩
section
variable {P : Program} {w : World} {K : PySem.W.Frag} {mg : Str → Option Value} {base : Heap}
abbrev s_doors_ahead : Stmt := topS 24
theorem sc_doors_ahead : FnScope ["parts", "start", "doors", "begins", "ahead", "queue", "at", "which", "door", "part", "near"] ["parts", "start", "doors", "begins"] (defScope s_doors_ahead) := ⟨rfl, rfl, rfl, by decide +kernel, rfl, by decide +kernel, by decide +kernel⟩
def spAhead : Sp := fun vs H Q _ => ∃ (pa a b da ba : Addr) (p r B : List Int) (st : Int) (N : Nat), vs = [.ref pa, .int st, .ref da, .ref ba] ∧ H pa = some (.tup [.ref a, .ref b]) ∧ TI H a p ∧ TI H b r ∧ p.length = r.length ∧ N ≤ p.length ∧
  p.length ≤ 60 ∧ 0 ≤ st ∧ st < p.length ∧ H da = some (.lst (hv (List.range N))) ∧ TI H ba B ∧ (∀ b ∈ B, b = 0 ∨ b = 1) ∧ B.length ≤ 2 ∧
  ∀ H' t E, Same H H' → H t = none → H' t = some (.dK (kvsOf st E)) → Bfs p r B st N E → (∀ j, j < (Qu B st E).length → FullTo p r B st E j N) → Q (.ref t) H'
theorem ok_doors_ahead (D : DefAt K mg "doors_ahead" s_doors_ahead) (T : Bt mg) : Use P w K mg base "doors_ahead" 1 ["parts", "start", "doors", "begins"] spAhead := by
  refine use_of D (fun f fd F => F.ok sc_doors_ahead (fun vs H Q E h => ?_) (fun cdv A outer s H vs Q E hr h => ?_)) (fun _ _ _ _ _ _ us hl => match us, hl with | [_, _, _, _], _ => rfl)
  · obtain ⟨pa, a, b, da, ba, p, r, B, st, N, rfl, _⟩ := h
    rfl
  · obtain ⟨pa, a, b, da, ba, p, r, B, st, N, rfl, epa, hp, hb, hl, hN, h60, s0, s1, eda, hB, b01, hB2, q⟩ := h
    refine ⟨_, (pss_cons (ps_set (i := 4) sc_doors_ahead.nd rfl (Or.inl rfl) (pe_disp (pps_cons (pv 1) pe_non pps_nil) (by rfl) (by rfl) (fun z => by cases z) (by decide)))
      (pss_cons (ps_setLc (i := 5) (own := [("which", 7)]) rfl sc_doors_ahead.nd rfl rfl (sw_true rfl rfl rfl (by decide +kernel)) (k_tup (K := K) rfl (pv 3)) (blkOk_by (N := ["parts", "start", "doors", "begins", "ahead", "queue", "at", "which", "door", "part", "near"]) (sc := defScope s_doors_ahead) (by decide +kernel)) (fun _ _ _ _ _ => (pg_name (i := 7) sc_doors_ahead.nd rfl (Or.inl rfl))) (fun _ _ _ _ _ => pts_nil) (fun _ _ _ _ _ => (pe_tup (pa_cons (pv 7) (pa_cons (pv 1) pa_nil)))))
      (pss_cons (ps_set (i := 6) sc_doors_ahead.nd rfl (Or.inl rfl) pe_int)
      (pss_cons (ps_while PassesOwn.never (pt_cmpR op_lt (pv 6) (pe_callB (k_len (K := K) rfl) (by rfl) T.len PySem.boot_len (pa_cons (pv 5) pa_nil)) (nomark _)) (pss_cons (ps_asg (pe_ix (k_ixl (K := K) rfl) (pv 5) (pv 6) (fun _ _ => rfl)) (pg_tup rfl (pgs_cons (pg_name (i := 7) sc_doors_ahead.nd rfl (Or.inl rfl)) (pgs_cons (pg_name (i := 8) sc_doors_ahead.nd rfl (Or.inl rfl)) pgs_nil))))
      (pss_cons (ps_set (i := 9) sc_doors_ahead.nd rfl (Or.inl rfl) (pe_ix (k_ixt (K := K) rfl) (pv 0) (pv 7) (fun _ _ => rfl)))
      (pss_cons (ps_for PassesOwn.never rfl (k_list (K := K) rfl (pv 2)) (pg_name (i := 10) sc_doors_ahead.nd rfl (Or.inl rfl))
      (pss_one (ps_if (PW.pt (pw_and (pt_cmpR op_eq (pe_ix (k_ixt (K := K) rfl) (pv 9) (pv 10) (fun _ _ => rfl)) (pe_ix (k_ixt (K := K) rfl) (pv 9) (pv 8) (fun _ _ => rfl)) (nomark _)) (pw_and1 (pt_cmp (pc_dnotin (hu_of hr) (pv 10) (pv 4)))))) (pss_cons (ps_dput (hu_of hr) (pv 4) (pv 10) (pv 8) rfl)
      (pss_one (ps_expr (k_bm (K := K) rfl PySem.F.plainAttrs_list PySem.F.slot_list_append PySem.F.type_list_append mt_append (pv 5) (pa_cons (pe_tup (pa_cons (pe_op op_sub pe_int (pv 7)) (pa_cons (pv 10) pa_nil))) pa_nil))))) pss_nil)))
      (pss_one (ps_aug (i := 6) sc_doors_ahead.nd rfl (Or.inl rfl) pe_int ip_add))))))
      (pss_one (ps_ret (pv 4))))))), ?_⟩
    refine fun d nd => ⟨_, rfl, upd_same, [(kI st, .non)], rfl, (by show 1 ≤ 15; decide), ?_⟩
    have sd : Same H (upd (upd H d (.dK [])) d (.dK (mergeK [] [(kI st, V.non)]))) := same_mut (same_new nd) nd
    have ed : (upd (upd H d (.dK [])) d (.dK (mergeK [] [(kI st, V.non)]))) d = some (.dK (kvsOf st [])) := upd_same
    generalize upd (upd H d (.dK [])) d (.dK (mergeK [] [(kI st, V.non)])) = H0 at sd ed
    refine ⟨_, rfl, ba, rfl, ⟨_, (hB.mono sd).seq⟩, fun L nL => ?_⟩
    have ndL : d ≠ L := ne_of_none ed nL
    have nLH : H L = none := sd.free nL
    have sL : Same H (upd H0 L (.lst [])) := sd.trans (same_new nL)
    refine lc_tup (K := K) (a := ba) (xs := B.map V.int) (fun k H1 => Same H H1 ∧ H1 d = some (.dK (kvsOf st [])) ∧ ∃ ts, H1 L = some (.lst (ts.map V.ref)) ∧ PairsAt H1 ts ((B.take k).map fun b => (b, st)))
      ⟨sL, by rw [upd_ne ndL]; exact ed, [], upd_same, rfl, fun i t ht => by simp at ht⟩ (fun i H1 _ ⟨sm, _⟩ => (hB.mono sm).seq) ?_ ?_
    · rintro k v H1 hk ⟨sm, ed1, ts, eL, pr⟩
      obtain ⟨x, hx, rfl⟩ := map_at hk
      have kl := (List.getElem?_eq_some_iff.mp hx).1
      refine ⟨rfl, _, rfl, _, rfl, by show 2 ≤ sizeLine; decide, fun T1 nT => ?_⟩
      have s2 : Same H1 (upd H1 T1 (.tup [.int x, .int st])) := same_new nT
      have nTL : T1 ≠ L := fun e => by rw [e, eL] at nT; cases nT
      have nTd : T1 ≠ d := fun e => by rw [e, ed1] at nT; cases nT
      refine ⟨_, s2 _ _ eL, ?_, same_mut (sm.trans s2) nLH, ?_, ts ++ [T1], ?_, ?_⟩
      · rw [List.length_map, pr.1, List.length_map, List.length_take]
        exact small_of (by omega)
      · rw [upd_ne ndL]
        exact s2 _ _ ed1
      · rw [upd_same, List.map_append]
        rfl
      · rw [take_snoc hx, List.map_append]
        refine pairs_snoc (pairs_mono pr fun c vs hc => ?_) ?_
        · rw [upd_ne (fun e => by rw [e, eL] at hc; cases hc)]
          exact s2 _ _ hc
        · rw [upd_ne nTL, upd_same]
    rintro H1 ⟨sm, ed1, ts, eL, pr⟩
    rw [List.length_map, List.take_length] at pr
    refine ⟨fun g σ H2 => ∃ (n : Nat) (E : List Ent) (ts : List Addr) (y7 y8 y9 y10 : Option V), σ = [some (.ref pa), some (.int st), some (.ref da), some (.ref ba), some (.ref d), some (.ref L), some (.int ((n : Nat) : Int)), y7, y8, y9, y10] ∧
        g = B.length + N - n ∧ Same H H2 ∧ H2 d = some (.dK (kvsOf st E)) ∧ H2 L = some (.lst (ts.map V.ref)) ∧ PairsAt H2 ts (Qu B st E) ∧ Bfs p r B st N E ∧ (∀ j, j < n → FullTo p r B st E j N) ∧ n ≤ (Qu B st E).length,
      ⟨_, 0, [], ts, none, none, none, none, rfl, rfl, sm, ed1, eL, ?_, ?_, fun j hj => absurd hj (Nat.not_lt_zero _), Nat.zero_le _⟩, ?_⟩
    · rw [show Qu B st [] = B.map fun b => (b, st) by simp [Qu]]
      exact pr
    · exact ⟨by simp, fun e he => absurd he (by simp), fun k e he => by simp at he, fun e he => absurd he (by simp)⟩
    clear sm ed1 eL pr ts sL ed sd ndL
    rintro g σ H2 ⟨n, E, ts, y7, y8, y9, y10, rfl, rfl, sm, ed, eL, pr, bf, full, nle⟩
    have el := bfs_len bf
    have ql := qu_len B st E
    have ndL : d ≠ L := fun e => by rw [e, eL] at ed; cases ed
    refine ⟨_, rfl, _, rfl, L, _, rfl, .inl (sqL eL), _, _, rfl, rfl, _, rfl, ?_⟩
    rw [List.length_map, pr.1]
    by_cases hn : n < (Qu B st E).length
    · rw [decide_eq_true (by omega)]
      obtain ⟨t, w, x, ht, hq, et⟩ := pairs_at pr hn
      obtain ⟨w01, x01⟩ := flag01 b01 bf (n + 1) n w x (Nat.lt_succ_self _) hq
      refine ⟨_, fun σ' H' z => ⟨B.length + N - (n + 1), by omega, z⟩, ?_⟩
      refine ⟨_, rfl, _, rfl, L, _, _, .ref t, rfl, rfl, sqL eL, atI_of (j := n) rfl (at_map ht), ?_⟩
      refine ⟨t, _, rfl, .inl (.inl et), rfl, _, _, rfl, _, [], rfl, rfl, ?_⟩
      obtain ⟨pc, epc, hpc⟩ : ∃ pc, atI [V.ref a, V.ref b] w = some (.ref pc) ∧ TI H pc (prt p r w) := by
        rcases w01 with rfl | rfl
        · exact ⟨a, rfl, hp⟩
        · exact ⟨b, rfl, hb⟩
      refine ⟨_, rfl, _, rfl, pa, _, w, .ref pc, rfl, rfl, sqT (sm _ _ epa), epc, ?_⟩
      have lprt : (prt p r w).length = p.length := by
        unfold prt
        split
        · rfl
        · exact hl.symm
      have x0 : 0 ≤ x ∧ x < p.length := by omega
      refine ⟨_, rfl, da, rfl, ⟨_, sqL (sm _ _ eda)⟩, for_list (K := K) (a := da) (xs := hv (List.range N))
        (fun i σ H3 => ∃ (E : List Ent) (ts : List Addr) (y10 : Option V), σ = [some (.ref pa), some (.int st), some (.ref da), some (.ref ba), some (.ref d), some (.ref L), some (.int ((n : Nat) : Int)), some (.int w), some (.int x), some (.ref pc), y10] ∧
          Same H H3 ∧ H3 d = some (.dK (kvsOf st E)) ∧ H3 L = some (.lst (ts.map V.ref)) ∧ PairsAt H3 ts (Qu B st E) ∧ Bfs p r B st N E ∧ (∀ j, j < n → FullTo p r B st E j N) ∧ (Qu B st E)[n]? = some (w, x) ∧ FullTo p r B st E n i)
        ⟨E, ts, y10, rfl, sm, ed, eL, pr, bf, full, hq, fun w' x' _ d' h0 h1 => by omega⟩ (fun i σ H3 _ ⟨_, _, _, _, sm3, _⟩ => sqL (sm3 _ _ eda)) ?_ ?_⟩
      · clear full hq bf pr eL ed sm ht et hn ql el nle
        rintro i v σ H3 hi ⟨E, ts, y10, rfl, sm, ed, eL, pr, bf, full, hq, part⟩
        have el := bfs_len bf
        have ql := qu_len B st E
        have hn := (List.getElem?_eq_some_iff.mp hq).1
        obtain ⟨k, hk, rfl⟩ := map_at hi
        have il := (List.getElem?_eq_some_iff.mp hk).1
        rw [List.length_range] at il
        rw [List.getElem?_range il] at hk
        obtain rfl := Option.some.inj hk
        obtain ⟨u, hu⟩ := at_some (xs := prt p r w) (i := i) (by omega)
        obtain ⟨v, hv'⟩ := at_some (xs := prt p r w) (i := x.toNat) (by omega)
        have bu : bk (prt p r w) (i : Int) = u := bk_at (by rw [Int.toNat_natCast]; exact hu)
        have bv : bk (prt p r w) x = v := bk_at hv'
        have skip : ∀ (hc : bk (prt p r w) (i : Int) = bk (prt p r w) x → (i : Int) ∈ st :: E.map Ent.d), ∃ (E : List Ent) (ts : List Addr) (y10' : Option V),
            ([some (.ref pa), some (.int st), some (.ref da), some (.ref ba), some (.ref d), some (.ref L), some (.int ((n : Nat) : Int)), some (.int w), some (.int x), some (.ref pc), some (.int (i : Int))] : L2.St) = [some (.ref pa), some (.int st), some (.ref da), some (.ref ba), some (.ref d), some (.ref L), some (.int ((n : Nat) : Int)), some (.int w), some (.int x), some (.ref pc), y10'] ∧
          Same H H3 ∧ H3 d = some (.dK (kvsOf st E)) ∧ H3 L = some (.lst (ts.map V.ref)) ∧ PairsAt H3 ts (Qu B st E) ∧ Bfs p r B st N E ∧ (∀ j, j < n → FullTo p r B st E j N) ∧ (Qu B st E)[n]? = some (w, x) ∧ FullTo p r B st E n (i + 1) := fun hc =>
          ⟨E, ts, _, rfl, sm, ed, eL, pr, bf, full, hq, full_next part fun w' x' hq' hb' => by
            rw [hq] at hq'
            obtain ⟨rfl, rfl⟩ := Prod.mk.inj (Option.some.inj hq')
            exact hc hb'⟩
        refine ⟨_, rfl, _, rfl, pc, _, _, .int u, rfl, rfl, (hpc.mono sm).seq, atI_of (j := i) rfl (at_map hu), _, rfl, _, rfl, pc, _, _, .int v, rfl, rfl, (hpc.mono sm).seq, atI_of (j := x.toNat) (by omega) (at_map hv'), rfl, _, rfl, ?_⟩
        by_cases e : u = v
        · rw [decide_eq_true (congrArg V.int e)]
          by_cases hm : (i : Int) ∈ st :: E.map Ent.d
          · obtain ⟨v', hv2⟩ := (kvs_val bf (i : Int)).1 hm
            have gv : DGet H3 d (V.int (i : Int)) (some v') := by
              have := DGet.k (k := kI (i : Int)) ed
              rw [hv2] at this
              exact this
            exact ⟨_, rfl, _, rfl, d, _, rfl, gv, _, rfl, skip fun _ => hm⟩
          · have gv : DGet H3 d (V.int (i : Int)) none := by
              have := DGet.k (k := kI (i : Int)) ed
              rw [(kvs_val bf (i : Int)).2 hm] at this
              exact this
            refine ⟨_, rfl, _, rfl, d, _, rfl, gv, _, rfl, ?_⟩
            have klen : (kvsOf st E).length < sizeLine := by
              unfold kvsOf
              rw [List.length_cons, List.length_map]
              exact small_of (by omega)
            have add := bfs_add bf full hq (by omega) (by omega) hm (by rw [bu, bv, e])
            refine ⟨_, rfl, _, rfl, _, rfl, d, _, rfl, DPut.k (k := kI (i : Int)) ed klen, ?_⟩
            rw [kvs_put (w := w) (a := n) hm]
            have sm1 : Same H (upd H3 d (.dK (kvsOf st (E ++ [⟨(i : Int), w, x, n⟩])))) := same_mut sm nd
            have eL1 : (upd H3 d (.dK (kvsOf st (E ++ [⟨(i : Int), w, x, n⟩])))) L = some (.lst (ts.map V.ref)) := by rw [upd_ne ndL.symm]; exact eL
            refine ⟨_, rfl, .inl ⟨rfl, _, .inl (.inl eL1)⟩, _, rfl, _, _, rfl, rfl, _, rfl, by show 2 ≤ sizeLine; decide, fun T1 nT => ?_⟩
            have ed1 : (upd H3 d (.dK (kvsOf st (E ++ [⟨(i : Int), w, x, n⟩])))) d = some (.dK (kvsOf st (E ++ [⟨(i : Int), w, x, n⟩]))) := upd_same
            have pr1 : PairsAt (upd H3 d (.dK (kvsOf st (E ++ [⟨(i : Int), w, x, n⟩])))) ts (Qu B st E) := pairs_mono pr fun c vs hc => by
              rw [upd_ne (fun z => by rw [z, ed] at hc; cases hc)]
              exact hc
            generalize upd H3 d (.dK (kvsOf st (E ++ [⟨(i : Int), w, x, n⟩]))) = H4 at sm1 eL1 ed1 pr1 nT
            have s2 : Same H4 (upd H4 T1 (.tup [.int (1 - w), .int (i : Int)])) := same_new nT
            have nTL : T1 ≠ L := fun z => by rw [z, eL1] at nT; cases nT
            refine ⟨L, _, _, rfl, rfl, s2 _ _ eL1, ?_, ?_⟩
            · rw [List.length_map, pr.1, ql]
              exact small_of (by omega)
            refine ⟨E ++ [⟨(i : Int), w, x, n⟩], ts ++ [T1], _, rfl, same_mut (sm1.trans s2) nLH, ?_, ?_, ?_, add, fun j hj => full_keep _ (by omega) (full j hj), ?_, ?_⟩
            · rw [upd_ne ndL]
              exact s2 _ _ ed1
            · rw [upd_same, List.map_append]
              rfl
            · rw [qu_snoc]
              refine pairs_snoc (pairs_mono pr1 fun c vs hc => ?_) ?_
              · rw [upd_ne (fun z => by rw [z, eL1] at hc; cases hc)]
                exact s2 _ _ hc
              · rw [upd_ne nTL, upd_same]
            · rw [qu_keep _ hn]
              exact hq
            · refine full_next (full_keep _ hn part) fun _ _ _ _ => ?_
              rw [List.map_append]
              exact List.mem_cons_of_mem _ (List.mem_append_right _ (List.mem_singleton.mpr rfl))
        · rw [decide_eq_false (fun z => e (V.int.inj z))]
          exact skip fun z => absurd (by rw [← bu, ← bv]; exact z) e
      · rintro σ H3 ⟨E, ts, y10, rfl, sm, ed, eL, pr, bf, full, hq, part⟩
        rw [show (hv (List.range N)).length = N by unfold hv; rw [List.length_map, List.length_range]] at part
        have hn := (List.getElem?_eq_some_iff.mp hq).1
        refine ⟨_, rfl, _, _, rfl, rfl, ?_⟩
        refine ⟨n + 1, E, ts, _, _, _, _, rfl, rfl, sm, ed, eL, pr, bf, fun j hj => ?_, by omega⟩
        by_cases ej : j = n
        · rw [ej]
          exact part
        · exact full j (by omega)
    · rw [decide_eq_false (by omega)]
      exact ⟨_, rfl, q H2 d E sm nd ed bf fun j hj => full j (by omega)⟩
end
end KQ
/-! slices with steps; a walk over a locked dict's keys; a tuple turned about -/
namespace KR
open PySem PySem.Spec PyProof.Rows L2 KM KQ
/-! ### xs[lo:hi:step] of a list -/
def pickV (xs : List V) (lo hi st : Option Int) : List V := (sliceRange (sliceBounds lo hi st xs.length).1 (sliceBounds lo hi st xs.length).2.1 (sliceBounds lo hi st xs.length).2.2).filterMap (xs[·]?)
theorem vals_pick {xs : List V} {us : List Value} (r : Vals xs us) : ∀ is : List Nat, Vals (is.filterMap (xs[·]?)) (is.filterMap (us[·]?))
  | [] => .nil
  | i :: is => by
    rw [List.filterMap_cons, List.filterMap_cons]
    have ih := vals_pick r is
    cases hx : xs[i]? with
    | none =>
      have : us[i]? = none := by
        rw [List.getElem?_eq_none_iff] at hx ⊢
        rw [← r.length]
        exact hx
      rw [this]
      exact ih
    | some x =>
      obtain ⟨u, hu, ru⟩ := r.get hx
      rw [hu]
      exact .cons ru ih
section
variable {X : Cx} {K : PySem.W.Frag}
def tStep (K : PySem.W.Frag) (te : TE) (tl th tst : TO) : TE := fun σ H Q => te σ H fun x H1 => tl σ H1 fun l H2 => th σ H2 fun u H3 => tst σ H3 fun o H4 => ∃ a xs, x = .ref a ∧ SqL K H4 a xs ∧ o ≠ some 0 ∧ ∀ p, H4 p = none → Q (.ref p) (upd H4 p (.lst (pickV xs l u o)))
theorem pe_stepL {e : Expr} {te : TE} {lo hi st : Option Expr} {tl th tst : TO} {p3 pos : Pos} (hK : X.K = K) (he : PE X e te) (hl : PO X lo tl) (hu : PO X hi th) (hst : PO X st tst)
    (hop : ∀ a b : Addr, ∃ ops, subscripted (.Slice lo hi st p3) false (.ref a) (.ref b) = operate ops (getItem (.ref a) (.ref b))) : PE X (.Subscript e (.Slice lo hi st p3) pos) (tStep K te tl th tst) := by
  subst hK
  refine ⟨fun pins s σ H Q I h => ?_⟩
  refine Subscript_ (thn (he.run pins s σ H _ I h) fun v s1 ⟨x, H1, I1, r1, q1⟩ => ?_)
  refine wpAny_Slice (thn (hl.run pins s1 σ H1 _ I1 q1) fun vl s2 ⟨l, H2, I2, pl, q2⟩ => ?_)
  refine thn (hu.run pins s2 σ H2 _ I2 q2) fun vu s3 ⟨u, H3, I3, pu, q3⟩ => ?_
  refine thn (hst.run pins s3 σ H3 _ I3 q3) fun vs s4 ⟨o, H4, I4, ps, q4⟩ => ?_
  obtain ⟨a, xs, ex, hx, h0, q⟩ := q4
  subst ex
  cases r1
  have I5 : Inv X pins σ H4 { s4 with heap := s4.heap.push { cls := .type "slice", data := .fields #[vl, vu, vs] } } := I4.kept (t' := s4.toks) fun b ob q => Heap.get?_push_of_some _ q
  obtain ⟨its, r, ht, hz⟩ := I5.list hx
  have hlen := r.length
  show wpAny (model X.prog X.w) X.A (subscriptTail e (.Slice lo hi st p3) (.ref a) (.ref s4.heap.objs.size)) (EP X pins σ Q) X.xe { s4 with heap := s4.heap.push { cls := .type "slice", data := .fields #[vl, vu, vs] } }
  obtain ⟨ops, hops⟩ := hop a s4.heap.objs.size
  refine tail_any (ops := ops) ht.isList.typeIs (PySem.slot_list_getitem.lookup) ?_ hops
  have sz : (slicePick its.toArray l u o).size ≤ its.toArray.size := slicePick_size_le _ _ _ _
  refine wpAny_getItem_list_slice ht.isList (Heap.IsSliceOf.new _ vl vu vs) pl pu ps h0 ?_ (by rw [List.size_toArray]; omega)
  have e : slicePick its.toArray l u o = ((sliceRange (sliceBounds l u o xs.length).1 (sliceBounds l u o xs.length).2.1 (sliceBounds l u o xs.length).2.2).filterMap (its[·]?)).toArray := by
    unfold slicePick
    rw [List.size_toArray, ← hlen]
    congr 1
    refine congrArg (fun f => List.filterMap f _) (funext fun i => ?_)
    simp
  have vp := vals_pick r (sliceRange (sliceBounds l u o xs.length).1 (sliceBounds l u o xs.length).2.1 (sliceBounds l u o xs.length).2.2)
  rw [e] at sz ⊢
  refine ⟨.ref _, _, I5.laid (t' := s4.toks) (o := .lst (pickV xs l u o)) (fun b ob q => Heap.get?_push_of_some _ q) (Nat.le_refl _) ?_, rfl, q _ (I5.hok.fresh (Nat.le_refl _))⟩
  refine ⟨?_, _, 0, vp, Heap.get?_push_size _ rfl⟩
  have := vp.length
  rw [List.size_toArray, List.size_toArray] at sz
  unfold pickV
  omega
/-! ### t[::-1] of a tuple -/
theorem fm_congr {α β : Type} {f g : α → Option β} : ∀ {l : List α}, (∀ x ∈ l, f x = g x) → l.filterMap f = l.filterMap g
  | [], _ => rfl
  | a :: l, h => by
    rw [List.filterMap_cons, List.filterMap_cons, h a List.mem_cons_self, fm_congr fun x hx => h x (List.mem_cons_of_mem _ hx)]
theorem getItem_tuple_rev {prog : Program} {w : World} {A : Around} {E : Value → Shared → Prop} {s : Shared} {t sl : Addr} {items : Array Value} {tk : Tok} {Q : Value → Shared → Prop} (ht : IsTup s.heap t items) (hs : s.heap.IsSliceOf sl .none .none (.int (-1) tk))
    (h : Q (.ref s.heap.objs.size) { s with heap := s.heap.push { cls := .type "tuple", data := .seq items.toList.reverse.toArray } })
    (hsz : items.size ≤ sizeLine) : wpAny (model prog w) A (getItem (.ref t) (.ref sl)) Q E s := by
  have htake : sizeOk (.seq items.toList.reverse.toArray) := by
    show items.toList.reverse.toArray.size ≤ sizeLine
    rw [List.size_toArray, List.length_reverse, Array.length_toList]
    exact hsz
  obtain ⟨os, hos, hcs, hds⟩ := id hs
  have hTs : s.TypeIs (.ref sl) "slice" := ⟨os, hos, hcs⟩
  unfold getItem
  try with_reducible refine wpAny_holding ?_
  first | refine wpAny_bind (wpAny_pure ?_) | skip
  refine wpAny_bind (wpAny_sequenceKey ht.typeIs (by decide) ?_)
  refine wpAny_bind (wpAny_callSpecial?_slot (name := Str.ofString "__getitem__") ht.typeIs PyProof.Rows.slot_tuple_getitem
    (wpAny_call_entry PyProof.Rows.slot_tuple_getitem ht.typeIs entry_tuple_getitem ?_ (args_tuple_getitem _ _)))
  show wpAny _ _ (Builtin.Tuple.tupleItemsOf (.ref t) >>= _) _ _ s
  refine wpAny_bind (tupleItemsOf_ ht ?_)
  refine wpAny_bind (wpAny_typeOf hTs ?_)
  rw [if_pos (by decide)]
  have ap : ∀ {A : Around} {E : Value → Shared → Prop} {Q2 : Int × Int × Nat → Shared → Prop}, Q2 ((items.size : Int) - 1, -1, items.size) s → wpAny (model prog w) A (Builtin.Slice.sliceApplied (.ref sl) (pure (items.size : Int))) Q2 E s := by
    intro A E Q2 h2
    unfold Builtin.Slice.sliceApplied Builtin.Slice.sliceFields
    refine wpAny_bind (wpAny_bind (wpAny_field hos hds (x := .none) rfl (wpAny_bind (wpAny_field hos hds (x := .none) rfl (wpAny_bind (wpAny_field hos hds (x := .int (-1) tk) rfl (wpAny_pure ?_)))))))
    refine wpAny_bind (slicePart_int ?_)
    show wpAny _ _ (if ((-1 : Int) == 0) = true then _ else _) _ _ s
    rw [if_neg (by decide)]
    refine wpAny_bind (slicePart_none (wpAny_bind (slicePart_none (wpAny_bind (wpAny_pure ?_)))))
    show wpAny _ _ (pure ((items.size : Int) - 1, (-1 : Int), Builtin.Slice.slicePlaces ((items.size : Int) - 1) (-1) (-1))) _ _ s
    have e : Builtin.Slice.slicePlaces ((items.size : Int) - 1) (-1) (-1) = items.size := by
      unfold Builtin.Slice.slicePlaces
      rw [if_neg (by decide)]
      by_cases hp : (items.size : Int) - 1 > -1
      · rw [if_pos hp, show (- -1 : Int) = 1 by decide, Int.ediv_one]
        omega
      · rw [if_neg hp]
        omega
    rw [e]
    exact wpAny_pure h2
  refine wpAny_bind (ap ?_)
  have hno : ¬ ((((items.size : Int) - 1) == 0 && (-1 : Int) == 1 && items.size == items.size) = true) := by
    rw [show ((-1 : Int) == 1) = false from rfl, Bool.and_false, Bool.false_and]
    exact Bool.false_ne_true
  show wpAny _ _ (if (((items.size : Int) - 1) == 0 && (-1 : Int) == 1 && items.size == items.size) = true then _ else _) _ _ s
  rw [if_neg hno]
  have ep : ((List.range items.size).filterMap fun (k : Nat) => items[((items.size : Int) - 1 + (k : Int) * -1).toNat]?).toArray = items.toList.reverse.toArray := by
    have h1 := PySem.W.krv_all items
    have h2 := PySem.W.krv_range items.size
    rw [← h1, ← List.filterMap_reverse, ← h2, List.filterMap_map]
    congr 1
    refine fm_congr fun k hk => ?_
    have := List.mem_range.mp hk
    show items[((items.size : Int) - 1 + (k : Int) * -1).toNat]? = items[items.size - 1 - k]?
    rw [show ((items.size : Int) - 1 + (k : Int) * -1).toNat = items.size - 1 - k by omega]
  rw [ep]
  first
    | exact wpAny_bind (m := Builtin.Tuple.tupleExact _) (wpAny_newObj_type (wpAny_pure ⟨_, rfl, wpAny_pure h⟩) htake)
    | exact wpAny_bind (m := Builtin.Tuple.tupleExact _) (wpAny_newObj_type (wpAny_bind (wpAny_pure (wpAny_pure ⟨_, rfl, wpAny_pure h⟩))) htake)
    | exact wpAny_bind (wpAny_bind (m := Builtin.Tuple.tupleExact _) (wpAny_newObj_type (wpAny_pure (wpAny_pure ⟨_, rfl, wpAny_pure h⟩)) htake))
    | exact wpAny_bind (wpAny_bind (m := Builtin.Tuple.tupleExact _) (wpAny_newObj_type (wpAny_pure ⟨_, rfl, wpAny_pure h⟩) htake))
def tRevT (K : PySem.W.Frag) (te : TE) : TE := fun σ H Q => te σ H fun x H1 => ∃ a xs, x = .ref a ∧ SqT K H1 a xs ∧ ∀ p, H1 p = none → Q (.ref p) (upd H1 p (.tup xs.reverse))
theorem pe_revT {e : Expr} {te : TE} {k : Nat} {p1 p2 p3 pos : Pos} (hK : X.K = K) (he : PE X e te) : PE X (.Subscript e (.Slice none none (some (.UnaryOp .USub (.Constant (.int 1) k p1) p2)) p3) pos) (tRevT K te) := by
  subst hK
  refine ⟨fun pins s σ H Q I h => ?_⟩
  refine Subscript_ (thn (he.run pins s σ H _ I h) fun v s1 ⟨x, H1, I1, r1, q1⟩ => ?_)
  obtain ⟨a, xs, ex, hx, q⟩ := q1
  subst ex
  cases r1
  have hst : PO X (some (.UnaryOp .USub (.Constant (.int 1) k p1) p2)) (tPart (tUn (rU fun i => .int (-i)) (tC (.int 1)))) := po_some (pe_un un_neg pe_int)
  refine wpAny_Slice ?_
  rw [evalPart_none]
  refine wpAny_pure (wpAny_pure ?_)
  refine thn (hst.run pins s1 σ H1 (fun o H4 => o = some (-1) ∧ H4 = H1) I1 ⟨1, rfl, -1, rfl, rfl, rfl⟩) fun vs s4 ⟨o, H4, I4, ps, eo, e4⟩ => ?_
  subst eo e4
  obtain ⟨tk, rfl⟩ : ∃ tk, vs = .int (-1) tk := by
    cases ps
    exact ⟨_, rfl⟩
  have I5 : Inv X pins σ H4 { s4 with heap := s4.heap.push { cls := .type "slice", data := .fields #[.none, .none, .int (-1) tk] } } := I4.kept (t' := s4.toks) fun b ob q => Heap.get?_push_of_some _ q
  obtain ⟨its, r, ht, hz⟩ := I5.tuple hx
  have hlen := r.length
  show wpAny (model X.prog X.w) X.A (subscriptTail e (.Slice none none (some (.UnaryOp .USub (.Constant (.int 1) k p1) p2)) p3) (.ref a) (.ref s4.heap.objs.size)) (EP X pins σ Q) X.xe { s4 with heap := s4.heap.push { cls := .type "slice", data := .fields #[.none, .none, .int (-1) tk] } }
  refine tail_any (ops := [.ref a, .ref s4.heap.objs.size]) ht.typeIs (PyProof.Rows.slot_tuple_getitem.lookup) ?_ (by with_unfolding_all rfl)
  refine getItem_tuple_rev ht (Heap.IsSliceOf.new _ _ _ _) ?_ (by rw [List.size_toArray]; omega)
  refine ⟨.ref _, _, I5.laid (t' := s4.toks) (o := .tup xs.reverse) (fun b ob q => Heap.get?_push_of_some _ q) (Nat.le_refl _) ?_, rfl, q _ (I5.hok.fresh (Nat.le_refl _))⟩
  exact ⟨by rw [List.length_reverse]; exact hz, _, r.reverse, IsTup.new _ _⟩
end
/-! ### a walk over a locked dict's keys -/
theorem for_keys {d : Addr} {o : Obj} {kvs : List (L2.Key × V)} {g : TG} {tb : TS} {D : Ends} {σ : L2.St} {H : Hp} (Pv : Nat → L2.St → Hp → Prop) (h0 : Pv 0 σ H) (hl : ∀ i σ H, i ≤ kvs.length → Pv i σ H → H d = some (.frz o (.dK kvs)))
    (hs : ∀ i k v σ H, kvs[i]? = some (k, v) → Pv i σ H → g (kV k) σ H fun σ2 H2 => tb { D with nx := Pv (i + 1), ct := Pv (i + 1), bk := D.nx } σ2 H2) (hd : ∀ σ H, Pv kvs.length σ H → D.nx σ H) :
    ∃ W : Nat → Nat → L2.St → Hp → Prop, (∃ m, W 0 m σ H) ∧ ∀ i m σ H, W i m σ H →
      ((Itk d o kvs).stop i H ∧ D.nx σ H) ∨ ((Itk d o kvs).go i H ∧ ∃ N : L2.St → Hp → Prop, (∀ σ' H', N σ' H' → ∃ m', m' < m ∧ W (i + 1) m' σ' H') ∧ ∀ x H', (Itk d o kvs).yld i H x H' → g x σ H' fun σ2 H2 => tb { D with nx := N, ct := N, bk := D.nx } σ2 H2) := by
  refine ⟨fun i m σ H => m = kvs.length - i ∧ i ≤ kvs.length ∧ Pv i σ H, ⟨kvs.length, by simp, Nat.zero_le _, h0⟩, ?_⟩
  rintro i m σ H ⟨rfl, hi, p⟩
  have q := hl i σ H hi p
  by_cases hlt : i < kvs.length
  · refine .inr ⟨⟨q, hlt⟩, Pv (i + 1), fun σ' H' p' => ⟨kvs.length - (i + 1), by omega, rfl, hlt, p'⟩, fun x H' y => ?_⟩
    obtain ⟨e, k, v, hk, rfl⟩ := y
    subst e
    exact hs i k v σ _ hk p
  · have e : i = kvs.length := by omega
    subst e
    exact .inl ⟨⟨q, Nat.le_refl _⟩, hd σ H p⟩
/-! ### every second one -/
theorem pick_ev : ∀ xs : List V, (List.range ((xs.length + 1) / 2)).filterMap (fun k => xs[2 * k]?) = ev xs
  | [] => rfl
  | [a] => by
    rw [show ([a].length + 1) / 2 = 1 by rw [List.length_singleton]]
    rfl
  | a :: b :: r => by
    rw [show ((a :: b :: r).length + 1) / 2 = (r.length + 1) / 2 + 1 by rw [List.length_cons, List.length_cons]; omega, List.range_succ_eq_map, List.filterMap_cons, List.filterMap_map]
    show a :: _ = a :: ev r
    rw [← pick_ev r]
    refine congrArg (a :: ·) (congrArg (fun f => List.filterMap f _) (funext fun k => ?_))
    show (a :: b :: r)[2 * (k + 1)]? = r[2 * k]?
    rw [show 2 * (k + 1) = 2 * k + 1 + 1 by omega]
    rfl
theorem pick_two (xs : List V) : pickV xs none none (some 2) = ev xs := by
  rw [← pick_ev]
  unfold pickV
  have e : sliceBounds none none (some 2) xs.length = (0, (xs.length : Int), 2) := by
    simp [sliceBounds]
  rw [e]
  unfold sliceRange
  show List.filterMap _ (List.map _ (List.range _)) = _
  rw [List.filterMap_map]
  have c : (if (2 : Int) > 0 then (if (0 : Int) < (xs.length : Int) then ((xs.length : Int) - 0 + 2 - 1) / 2 else 0) else (if (0 : Int) > (xs.length : Int) then (0 - (xs.length : Int) - 2 - 1) / (-2) else 0)).toNat = (xs.length + 1) / 2 := by
    rw [if_pos (by decide)]
    split <;> omega
  rw [c]
  refine congrArg (fun f => List.filterMap f _) (funext fun k => ?_)
  show xs[((0 : Int) + 2 * (k : Int)).toNat]? = xs[2 * k]?
  rw [show ((0 : Int) + 2 * (k : Int)).toNat = 2 * k by omega]
theorem pick_one (xs : List V) : pickV xs (some 1) none (some 2) = ev xs.tail := by
  cases xs with
  | nil =>
    unfold pickV
    have e : sliceBounds (some 1) none (some 2) ([] : List V).length = (0, 0, 2) := by decide
    rw [e]
    rfl
  | cons a t =>
    show _ = ev t
    rw [← pick_ev]
    unfold pickV
    have e : sliceBounds (some 1) none (some 2) (a :: t).length = (1, (t.length : Int) + 1, 2) := by
      simp [sliceBounds] <;> omega
    rw [e]
    unfold sliceRange
    show List.filterMap _ (List.map _ (List.range _)) = _
    rw [List.filterMap_map]
    have c : (if (2 : Int) > 0 then (if (1 : Int) < (t.length : Int) + 1 then ((t.length : Int) + 1 - 1 + 2 - 1) / 2 else 0) else (if (1 : Int) > (t.length : Int) + 1 then (1 - ((t.length : Int) + 1) - 2 - 1) / (-2) else 0)).toNat = (t.length + 1) / 2 := by
      rw [if_pos (by decide)]
      split <;> omega
    rw [c]
    refine congrArg (fun f => List.filterMap f _) (funext fun k => ?_)
    show (a :: t)[((1 : Int) + 2 * (k : Int)).toNat]? = t[2 * k]?
    rw [show ((1 : Int) + 2 * (k : Int)).toNat = 2 * k + 1 by omega, List.getElem?_cons_succ]
end KR
namespace KQ
open PySem PySem.Spec PyProof.Rows L2 KR KM StX
section
variable {P : Program} {w : World} {K : PySem.W.Frag} {mg : Str → Option Value} {base : Heap}
abbrev s_ring_up_to : Stmt := topS 26
theorem sc_ring_up_to : FnScope ["parting", "other", "last", "ahead", "door"] ["parting", "other", "last"] (defScope s_ring_up_to) := ⟨rfl, rfl, rfl, by decide +kernel, rfl, by decide +kernel, by decide +kernel⟩
/-- what is told of the first ring up to a door -/
def RingTo (p r : List Int) (n : Int) (H : Hp) (v : V) : Prop := (v = .non ∧ ¬ RingAt p r n.toNat) ∨
  ∃ (t : Addr) (ds : List Int), v = .ref t ∧ TI H t ds ∧ RingAt p r n.toNat ∧ IsRing p r ds ∧ ds[0]? = some n ∧ ∀ d ∈ ds, d ≤ n
def spUpTo : Sp := fun vs H Q _ => ∃ (a b : Addr) (p r : List Int) (n : Int), vs = [.ref a, .ref b, .int n] ∧ TI H a p ∧ TI H b r ∧ Par p ∧ Par r ∧ p.length = r.length ∧ 0 ≤ n ∧ n < p.length ∧
  ∀ H' v, Same H H' → RingTo p r n H' v → Q v H'
theorem ok_ring_up_to (D : DefAt K mg "ring_up_to" s_ring_up_to) (T : Bt mg) (u_doors_ahead : Use P w K mg base "doors_ahead" 1 ["parts", "start", "doors", "begins"] spAhead) (u_way_back : Use P w K mg base "way_back" 1 ["ahead", "door"] spBack) :
    Use P w K mg base "ring_up_to" 2 ["parting", "other", "last"] spUpTo := by
  refine use_of D (fun f fd F => F.ok sc_ring_up_to (fun vs H Q E h => ?_) (fun cdv A outer s H vs Q E hr h => ?_)) (fun _ _ _ _ _ _ us hl => match us, hl with | [_, _, _], _ => rfl)
  · obtain ⟨a, b, p, r, n, rfl, _⟩ := h
    rfl
  · obtain ⟨a, b, p, r, n, rfl, hp, hb, par, parb, hl, n0, n1, q⟩ := h
    refine ⟨_, (pss_cons (ps_set (i := 3) sc_ring_up_to.nd rfl (Or.inl rfl) (pe_use u_doors_ahead (by decide) hr (by rfl) (pa_cons (pe_tup (pa_cons (pv 0) (pa_cons (pv 1) pa_nil))) (pa_cons (pv 2) (pa_cons (pe_listRg rfl (by rfl) T.list (prg_1 (by rfl) T.range (pv 2))) (pa_cons (pe_tup (pa_cons pe_int pa_nil)) pa_nil))))))
      (pss_cons (ps_lock (ps_for PassesOwn.never rfl (pi_keys (pv 3)) (pg_name (i := 4) sc_ring_up_to.nd rfl (Or.inl rfl))
      (pss_one (ps_if (PW.pt (pw_and (pt_cmpR op_ne (pv 4) (pv 2) (nomark _)) (pw_and1 (pt_cmpR op_eq (pe_ix (k_ixt (K := K) rfl) (pv 1) (pv 4) (fun _ _ => rfl)) (pe_ix (k_ixt (K := K) rfl) (pv 1) (pv 2) (fun _ _ => rfl)) (nomark _))))) (pss_one (ps_ret (pe_callTy (k_tupOf (K := K) rfl) (by rfl) T.tuple (by decide +kernel) (pa_cons (pe_revL (pe_use u_way_back (by decide) hr (by rfl) (pa_cons (pv 3) (pa_cons (pv 4) pa_nil)))) pa_nil)))) pss_nil))))
      (pss_one (ps_ret pe_non)))), ?_⟩
    have g2 := par.le
    obtain ⟨N, rfl⟩ : ∃ N : Nat, n = (N : Int) := ⟨n.toNat, by omega⟩
    refine ⟨_, rfl, _, rfl, by show 2 ≤ sizeLine; decide, fun T1 nT1 => ?_⟩
    have s1 : Same H (upd H T1 (.tup [.ref a, .ref b])) := same_new nT1
    refine ⟨_, rfl, _, rfl, _, rfl, RgOk.of_le (by omega) (by omega) (by omega) (by omega), fun l0 nl0 => ?_⟩
    rw [rgV_hv]
    have s2 : Same (upd H T1 (.tup [.ref a, .ref b])) (upd (upd H T1 (.tup [.ref a, .ref b])) l0 (.lst (hv (List.range N)))) := same_new nl0
    refine ⟨by show 1 ≤ sizeLine; decide, fun T2 nT2 => ?_⟩
    have s3 : Same (upd (upd H T1 (.tup [.ref a, .ref b])) l0 (.lst (hv (List.range N)))) (upd (upd (upd H T1 (.tup [.ref a, .ref b])) l0 (.lst (hv (List.range N)))) T2 (.tup [.int 0])) := same_new nT2
    have s13 := (s1.trans s2).trans s3
    refine ⟨T1, a, b, l0, T2, p, r, [0], (N : Int), N, rfl, s3 _ _ (s2 _ _ upd_same), hp.mono s13, hb.mono s13, hl, by omega, g2, by omega, n1, s3 _ _ upd_same, upd_same, by simp, by simp, fun H4 d E s4 nd ed bf full => ?_⟩
    have s14 := s13.trans s4
    have nHd : H d = none := s13.free nd
    have fullE : ∀ j, j < (Qu [0] (N : Int) E).length → FullTo p r [0] (N : Int) E j N := full
    refine ⟨d, _, ed, trivial, fun od => ?_⟩
    have el := bfs_len bf
    refine ⟨_, rfl, d, od, rfl, .inl ⟨_, upd_same, ?_⟩⟩
    refine for_keys (o := od) (kvs := kvsOf (N : Int) E) (fun i σ H5 => ∃ y4, σ = [some (.ref a), some (.ref b), some (.int (N : Int)), some (.ref d), y4] ∧ Same H H5 ∧ H5 d = some (.frz od (.dK (kvsOf (N : Int) E))) ∧ ∀ k e, k + 1 < i → E[k]? = some e → bk r e.d ≠ bk r (N : Int))
      ⟨none, rfl, same_mut s14 nHd, upd_same, fun k e hk => by omega⟩ (fun i σ H5 _ ⟨_, _, _, e5, _⟩ => e5) ?_ ?_
    · rintro i k v σ H5 hi ⟨y4, rfl, sm, e5, no⟩
      obtain ⟨u, hu⟩ := at_some (xs := r) (i := N) (by omega)
      have bu : bk r (N : Int) = u := bk_at (by rw [Int.toNat_natCast]; exact hu)
      have hbm := hb.mono sm
      cases i with
      | zero =>
        obtain ⟨rfl, rfl⟩ := Prod.mk.inj (Option.some.inj hi)
        rw [show kV (kI (N : Int)) = V.int (N : Int) from rfl]
        refine ⟨_, rfl, _, rfl, rfl, _, rfl, ?_⟩
        rw [decide_eq_true rfl]
        exact ⟨_, rfl, sm, e5, fun k e hk => by omega⟩
      | succ i =>
        unfold kvsOf at hi
        rw [List.getElem?_cons_succ] at hi
        obtain ⟨e, he, e2⟩ := map_at hi
        obtain ⟨rfl, rfl⟩ := Prod.mk.inj e2
        have er := bf.rng e (List.mem_of_getElem? he)
        obtain ⟨v, hv'⟩ := at_some (xs := r) (i := e.d.toNat) (by omega)
        have bv : bk r e.d = v := bk_at hv'
        rw [show kV (kI e.d) = V.int e.d from rfl]
        refine ⟨_, rfl, _, rfl, rfl, _, rfl, ?_⟩
        rw [decide_eq_false (fun z => by have := V.int.inj z; omega)]
        refine ⟨_, rfl, _, rfl, b, _, _, .int v, rfl, rfl, hbm.seq, atI_of (j := e.d.toNat) (by omega) (at_map hv'), _, rfl, _, rfl, b, _, _, .int u, rfl, rfl, hbm.seq, atI_of (j := N) rfl (at_map hu), rfl, _, rfl, ?_⟩
        by_cases ev : v = u
        · rw [decide_eq_true (congrArg V.int ev)]
          have hbk : bk r e.d = bk r (N : Int) := by rw [bu, bv, ev]
          have first : ∀ k' e', k' < i → E[k']? = some e' → bk r e'.d ≠ bk r (N : Int) := fun k' e' hk he' => no k' e' (by omega) he'
          obtain ⟨ks, hks, hlast⟩ := path_ex bf (1 + i + 1) (1 + i) (by omega) (by rw [qu_len]; have := (List.getElem?_eq_some_iff.mp he).1; show 1 + i < 1 + E.length; omega)
          obtain ⟨ring, hd0, hle⟩ := ring_of hl (by omega) n1 rfl bf he hbk first hks hlast
          have back := path_back bf hks
          obtain ⟨ne, hl1⟩ := last_at hlast
          have dl : dr [0] (N : Int) E (1 + i) = e.d := (qu_at (j := 1 + i) (qu_ent (B := [0]) he)).1
          have hrev : (ks.map (dr [0] (N : Int) E)).reverse = e.d :: (ks.map (dr [0] (N : Int) E)).reverse.tail := by
            have : (ks.map (dr [0] (N : Int) E)).reverse.head? = some e.d := by
              rw [List.head?_reverse, List.getLast?_map, hlast]
              show some (dr [0] (N : Int) E (1 + i)) = _
              rw [dl]
            cases hh : (ks.map (dr [0] (N : Int) E)).reverse with
            | nil => rw [hh] at this; cases this
            | cons x t =>
              rw [hh] at this
              obtain rfl := Option.some.inj this
              rfl
          have klen : (ks.map (dr [0] (N : Int) E)).length ≤ 60 := by
            have := sub_len (xs := ks.map (dr [0] (N : Int) E)) (ys := (List.range 60).map fun n => ((n : Nat) : Int)) ring.nodup fun x hx => by
              have := ring.rng x hx
              exact List.mem_map.mpr ⟨x.toNat, List.mem_range.mpr (by omega), by omega⟩
            rw [List.length_map (f := fun n : Nat => ((n : Nat) : Int)), List.length_range] at this
            exact this
          rw [hrev] at back
          refine ⟨_, rfl, _, rfl, d, kvsOf (N : Int) E, e.d, (ks.map (dr [0] (N : Int) E)).reverse.tail, rfl, .inr ⟨od, e5⟩, back, ?_, fun H6 l s6 nl el6 => ?_⟩
          · rw [List.length_tail, List.length_reverse]
            omega
          rw [← hrev] at el6
          have dl' : d ≠ l := fun z => by rw [z, nl] at e5; cases e5
          refine ⟨l, _, rfl, sqL el6, fun l2 nl2 => ?_⟩
          have s7 : Same H6 (upd H6 l2 (.lst ((ks.map (dr [0] (N : Int) E)).reverse.map V.int).reverse)) := same_new nl2
          refine ⟨l2, _, rfl, .inl ⟨sqL upd_same, fun t nt => ?_⟩⟩
          rw [← List.map_reverse, List.reverse_reverse] at s7 nt ⊢
          have s8 := s7.trans (same_new (o := .tup ((ks.map (dr [0] (N : Int) E)).map V.int)) nt)
          refine ⟨s8 _ _ (s6 _ _ e5), ?_⟩
          refine q _ _ (same_mut ((sm.trans s6).trans s8) nHd) (.inr ⟨t, _, rfl, ?_, ring_at hl (by omega) n1 rfl bf (List.mem_of_getElem? he) hbk, ring, hd0, hle⟩)
          show (upd _ d _) t = _
          rw [upd_ne (fun z => by rw [z, s7 _ _ (s6 _ _ e5)] at nt; cases nt), upd_same]
        · rw [decide_eq_false (fun z => ev (V.int.inj z))]
          refine ⟨_, rfl, sm, e5, fun k e' hk he' => ?_⟩
          by_cases ek : k = i
          · subst ek
            rw [he] at he'
            obtain rfl := Option.some.inj he'
            rw [bu, bv]
            exact ev
          · exact no k e' (by omega) he'
    · rintro σ H5 ⟨y4, rfl, sm, e5, no⟩
      refine ⟨e5, ?_⟩
      refine q _ _ (same_mut sm nHd) (.inl ⟨rfl, ?_⟩)
      refine no_ring_at par parb hl (by omega) n1 rfl bf fullE fun e he => ?_
      obtain ⟨k, hk⟩ := List.mem_iff_getElem?.mp he
      refine no k e ?_ hk
      unfold kvsOf
      rw [List.length_cons, List.length_map]
      have := (List.getElem?_eq_some_iff.mp hk).1
      omega
abbrev s_ring : Stmt := topS 27
theorem sc_ring : FnScope ["parting", "other", "last", "found"] ["parting", "other"] (defScope s_ring) := ⟨rfl, rfl, rfl, by decide +kernel, rfl, by decide +kernel, by decide +kernel⟩
def spRing : Sp := fun vs H Q _ => ∃ (a b : Addr) (p r : List Int), vs = [.ref a, .ref b] ∧ TI H a p ∧ TI H b r ∧ Par p ∧ Par r ∧ p.length = r.length ∧
  ∀ H' v, Same H H' → ((v = .non ∧ NoRing p r) ∨ ∃ (n : Nat) (t : Addr) (ds : List Int), v = .ref t ∧ TI H' t ds ∧ RingAt p r n ∧ (∀ j, j < n → ¬ RingAt p r j) ∧ IsRing p r ds ∧ ds[0]? = some (n : Int) ∧ ∀ d ∈ ds, d ≤ (n : Int)) → Q v H'
theorem ok_ring (D : DefAt K mg "ring" s_ring) (T : Bt mg) (u_need_two_partings : Use P w K mg base "need_two_partings" 6 ["parting", "other"] spTwo) (u_ring_up_to : Use P w K mg base "ring_up_to" 2 ["parting", "other", "last"] spUpTo) :
    Use P w K mg base "ring" 7 ["parting", "other"] spRing := by
  refine use_of D (fun f fd F => F.ok sc_ring (fun vs H Q E h => ?_) (fun cdv A outer s H vs Q E hr h => ?_)) (fun _ _ _ _ _ _ us hl => match us, hl with | [_, _], _ => rfl)
  · obtain ⟨a, b, p, r, rfl, _⟩ := h
    rfl
  · obtain ⟨a, b, p, r, rfl, hp, hb, par, parb, hl, q⟩ := h
    refine ⟨_, (pss_cons (ps_expr (pe_use u_need_two_partings (by decide) hr (by rfl) (pa_cons (pv 0) (pa_cons (pv 1) pa_nil))))
      (pss_cons (ps_for PassesOwn.never rfl (pi_range1 (by rfl) T.range (pa_cons (pe_callB (k_len (K := K) rfl) (by rfl) T.len PySem.boot_len (pa_cons (pv 0) pa_nil)) pa_nil)) (pg_name (i := 2) sc_ring.nd rfl (Or.inl rfl))
      (pss_cons (ps_set (i := 3) sc_ring.nd rfl (Or.inl rfl) (pe_use u_ring_up_to (by decide) hr (by rfl) (pa_cons (pv 0) (pa_cons (pv 1) (pa_cons (pv 2) pa_nil)))))
      (pss_one (ps_if (pt_cmpR op_notN (pv 3) pe_non (nomark _)) (pss_one (ps_ret (pv 3))) pss_nil))))
      (pss_one (ps_ret pe_non)))), ?_⟩
    have g2 := par.le
    refine ⟨_, rfl, _, rfl, a, b, p, r, rfl, hp, hb, par, parb, hl, fun H1 s1 => ?_⟩
    refine ⟨_, rfl, a, _, rfl, .inr (hp.mono s1).seq, _, rfl, ?_⟩
    rw [List.length_map]
    refine ⟨by omega, by omega, for_range (lo := 0) (n := (((p.length : Nat) : Int)).toNat)
      (fun i σ H2 => ∃ y2 y3, σ = [some (.ref a), some (.ref b), y2, y3] ∧ Same H H2 ∧ ∀ j, j < i → ¬ RingAt p r j)
      ⟨none, none, rfl, s1, fun j hj => absurd hj (Nat.not_lt_zero _)⟩ ?_ ?_⟩
    · rintro i σ H2 hi ⟨y2, y3, rfl, sm, no⟩
      refine ⟨_, rfl, _, rfl, _, rfl, a, b, p, r, _, rfl, hp.mono sm, hb.mono sm, par, parb, hl, by omega, by omega, fun H3 v s3 hv => ?_⟩
      rw [Int.zero_add] at hv
      rcases hv with ⟨rfl, hn⟩ | ⟨t, ds, rfl, ht, hra, hring, h0, hle⟩
      · refine ⟨_, rfl, rfl, _, rfl, ?_⟩
        rw [decide_eq_true rfl]
        refine ⟨_, _, rfl, sm.trans s3, fun j hj => ?_⟩
        by_cases ej : j = i
        · rw [ej]
          rw [Int.toNat_natCast] at hn
          exact hn
        · exact no j (by omega)
      · refine ⟨_, rfl, rfl, _, rfl, ?_⟩
        rw [decide_eq_false (fun z => by cases z)]
        rw [Int.toNat_natCast] at hra
        exact ⟨_, rfl, q H3 _ (sm.trans s3) (.inr ⟨i, t, ds, rfl, ht, hra, no, hring, h0, hle⟩)⟩
    · rintro σ H2 ⟨y2, y3, rfl, sm, no⟩
      rw [Int.toNat_natCast] at no
      exact q H2 _ sm (.inl ⟨rfl, fun i hi => no i (ring_lt hi) hi⟩)
end
end KQ
namespace KQ
open PySem PySem.Spec PyProof.Rows L2 KR KM StX
/-- things of the kinds that the law makes -/
inductive OddV (H : Hp) : V → Prop where
  | int (i : Int) : OddV H (.int i)
  | bl (b : Bool) : OddV H (.bl b)
  | non : OddV H .non
  | str (x : Str) : OddV H (.str x)
  | lst {a : Addr} {xs : List V} (h : H a = some (.lst xs)) : OddV H (.ref a)
  | dK {a : Addr} {kvs : List (L2.Key × V)} (h : H a = some (.dK kvs)) : OddV H (.ref a)
  | tup {a : Addr} {xs : List V} (h : H a = some (.tup xs)) : OddV H (.ref a)
theorem OddV.mono {H H' : Hp} {v : V} (o : OddV H v) (s : Same H H') : OddV H' v := by
  cases o with
  | int i => exact .int i
  | bl b => exact .bl b
  | non => exact .non
  | str x => exact .str x
  | lst h => exact .lst (s _ _ h)
  | dK h => exact .dK (s _ _ h)
  | tup h => exact .tup (s _ _ h)
def isI : V → Bool
  | .int _ => true
  | _ => false
def inV (v : V) (lo hi : Int) : Bool :=
  match v with
  | .int i => decide (lo ≤ i ∧ i ≤ hi)
  | _ => false
theorem inV_true {v : V} {lo hi : Int} (h : inV v lo hi = true) : ∃ i, v = .int i ∧ lo ≤ i ∧ i ≤ hi := by
  cases v with
  | int i =>
    have := of_decide_eq_true h
    exact ⟨i, rfl, this.1, this.2⟩
  | _ => cases h
inductive Thing (H : Hp) : V → Option (List V) → Prop where
  | tup {a : Addr} {vs : List V} (h : H a = some (.tup vs)) (o : ∀ v ∈ vs, OddV H v) (l : vs.length ≤ 1000) : Thing H (.ref a) (some vs)
  | non : Thing H .non none
  | int (i : Int) : Thing H (.int i) none
  | lst {a : Addr} {xs : List V} (h : H a = some (.lst xs)) : Thing H (.ref a) none
theorem Thing.mono {H H' : Hp} {v : V} {o : Option (List V)} (t : Thing H v o) (s : Same H H') : Thing H' v o := by
  cases t with
  | tup h o l => exact .tup (s _ _ h) (fun v hv => (o v hv).mono s) l
  | non => exact .non
  | int i => exact .int i
  | lst h => exact .lst (s _ _ h)
def RightT (p r : List Int) (o : Option (List V)) : Prop := ∃ ds : List Int, o = some (ds.map V.int) ∧ IsRing p r ds
theorem map_int_inj : ∀ {xs ys : List Int}, xs.map V.int = ys.map V.int → xs = ys
  | [], [], _ => rfl
  | [], _ :: _, h => by cases h
  | _ :: _, [], h => by cases h
  | x :: xs, y :: ys, h => by
    obtain ⟨h1, h2⟩ := List.cons.inj h
    rw [V.int.inj h1, map_int_inj h2]
theorem right_ints {p r ds : List Int} : RightT p r (some (ds.map V.int)) ↔ IsRing p r ds :=
  ⟨fun ⟨ds', e, h⟩ => by rw [map_int_inj (Option.some.inj e)]; exact h, fun h => ⟨ds, rfl, h⟩⟩
theorem eqv_ints : ∀ (xs ys : List Int), PyData.eqvAll (xs.map PyData.int) (ys.map PyData.int) = decide (xs = ys)
  | [], [] => rfl
  | [], _ :: _ => rfl
  | _ :: _, [] => rfl
  | x :: xs, y :: ys => by
    show (PyData.eqv (.int x) (.int y) && PyData.eqvAll (xs.map PyData.int) (ys.map PyData.int)) = _
    rw [eqv_ints xs ys]
    show ((x == y) && decide (xs = ys)) = _
    by_cases e : x = y
    · subst e
      simp
    · simp [e]
section
variable {P : Program} {w : World} {K : PySem.W.Frag} {mg : Str → Option Value} {base : Heap}
theorem OddV.ty {H : Hp} {v : V} (o : OddV H v) (hi : ∀ i, v ≠ .int i) : ∃ T : String, TyX K H v (.type T) ∧ ((T = "bool" ∧ ∃ b, v = .bl b) ∨ (kitB T "int" = some false)) := by
  cases o with
  | int i => exact absurd rfl (hi i)
  | bl b => exact ⟨_, .base (.bl b), .inl ⟨rfl, b, rfl⟩⟩
  | non => exact ⟨_, .base .non, .inr (by decide +kernel)⟩
  | str x => exact ⟨_, .base (.str x), .inr (by decide +kernel)⟩
  | lst h => exact ⟨_, .base (.lst h), .inr (by decide +kernel)⟩
  | dK h => exact ⟨_, .base (.dK h), .inr (by decide +kernel)⟩
  | tup h => exact ⟨_, .base (.tup h), .inr (by decide +kernel)⟩
def spIsIntegerA : Sp := fun vs H Q _ => ∃ v : V, vs = [v] ∧ OddV H v ∧ Q (.bl (isI v)) H
theorem ok_is_integerA (D : DefAt K mg "is_integer" s_is_integer) (T : Bt mg) : Use P w K mg base "is_integer" 1 ["value"] spIsIntegerA := by
  refine use_of D (fun f fd F => F.ok sc_is_integer (fun vs H Q E h => ?_) (fun cdv A outer s H vs Q E hr h => ?_)) (fun _ _ _ _ _ _ us hl => match us, hl with | [_], _ => rfl)
  · obtain ⟨i, rfl, _⟩ := h
    rfl
  · obtain ⟨v, rfl, o, q⟩ := h
    refine ⟨_, (pss_one (ps_ret (pe_and (pe_callB (k_isi (K := K) rfl) (by rfl) T.isinstance (by decide +kernel) (pa_cons (pv 0) (pa_cons (pe_bltn (v := .ty "int") (by rfl) T.int (by decide +kernel) rfl) pa_nil))) (pe_one (pe_not (pe_callB (k_isi (K := K) rfl) (by rfl) T.isinstance (by decide +kernel) (pa_cons (pv 0) (pa_cons (pe_bltn (v := .ty "bool") (by rfl) T.bool (by decide +kernel) rfl) pa_nil)))))))), ?_⟩
    by_cases hi : ∃ i, v = .int i
    · obtain ⟨i, rfl⟩ := hi
      refine ⟨_, rfl, _, _, _, _, true, rfl, .ty _, .base (.int i), kit_ty (by decide +kernel), true, rfl, iteT ?_⟩
      exact ⟨_, rfl, _, _, _, _, false, rfl, .ty _, .base (.int i), kit_ty (by decide +kernel), _, rfl, q⟩
    · have e : isI v = false := by
        cases v with
        | int i => exact absurd ⟨i, rfl⟩ hi
        | _ => rfl
      rw [e] at q
      obtain ⟨t, ty, h⟩ := o.ty (K := K) fun i e => hi ⟨i, e⟩
      rcases h with ⟨rfl, b, rfl⟩ | kt
      · refine ⟨_, rfl, _, _, _, _, true, rfl, .ty _, ty, kit_ty (by decide +kernel), true, rfl, iteT ?_⟩
        exact ⟨_, rfl, _, _, _, _, true, rfl, .ty _, ty, kit_ty (by decide +kernel), _, rfl, q⟩
      · exact ⟨_, rfl, _, _, _, _, false, rfl, .ty _, ty, kit_ty kt, false, rfl, iteF q⟩
def spIntWA : Sp := fun vs H Q _ => ∃ (v : V) (lo hi : Int), vs = [v, .int lo, .int hi] ∧ OddV H v ∧ Q (.bl (inV v lo hi)) H
theorem ok_is_integer_withinA (D : DefAt K mg "is_integer_within" s_is_integer_within) (T : Bt mg) (u_is_integer : Use P w K mg base "is_integer" 1 ["value"] spIsIntegerA) :
    Use P w K mg base "is_integer_within" 2 ["value", "least", "most"] spIntWA := by
  refine use_of D (fun f fd F => F.ok sc_is_integer_within (fun vs H Q E h => ?_) (fun cdv A outer s H vs Q E hr h => ?_)) (fun _ _ _ _ _ _ us hl => match us, hl with | [_, _, _], _ => rfl)
  · obtain ⟨i, lo, hi, rfl, _⟩ := h
    rfl
  · obtain ⟨v, lo, hi, rfl, o, q⟩ := h
    refine ⟨_, (pss_one (ps_ret (pe_and (pe_use u_is_integer (by decide) hr (by rfl) (pa_cons (pv 0) pa_nil)) (pe_one (pe_chain op_le op_le (pv 1) (pv 0) (pv 2)))))), ?_⟩
    by_cases hv : ∃ i, v = .int i
    · obtain ⟨i, rfl⟩ := hv
      have q' : Q (.bl (decide (lo ≤ i ∧ i ≤ hi))) H := q
      refine ⟨_, rfl, _, rfl, o, true, rfl, iteT ?_⟩
      refine ⟨_, rfl, _, rfl, lo, i, rfl, rfl, _, rfl, ?_⟩
      by_cases h1 : lo ≤ i
      · rw [decide_eq_true h1]
        refine iteT ⟨_, rfl, i, hi, rfl, rfl, ?_⟩
        have e : decide (lo ≤ i ∧ i ≤ hi) = decide (i ≤ hi) := by simp [h1]
        rw [e] at q'
        exact q'
      · rw [decide_eq_false h1]
        refine iteF ?_
        have e : decide (lo ≤ i ∧ i ≤ hi) = false := by simp [h1]
        rw [e] at q'
        exact q'
    · have e : isI v = false ∧ inV v lo hi = false := by
        cases v with
        | int i => exact absurd ⟨i, rfl⟩ hv
        | _ => exact ⟨rfl, rfl⟩
      rw [e.2] at q
      exact ⟨_, rfl, _, rfl, o, false, by rw [e.1], iteF q⟩
abbrev s_is_ring : Stmt := topS 23
theorem sc_is_ring : FnScope ["parting", "other", "doors", "door", "lows", "highs"] ["parting", "other", "doors"] (defScope s_is_ring) := ⟨rfl, rfl, rfl, by decide +kernel, rfl, by decide +kernel, by decide +kernel⟩
theorem ev_ints (xs : List Int) : ev (xs.map V.int) = (ev xs).map V.int := ev_map _ _
def spIsRing : Sp := fun vs H Q _ => ∃ (a b : Addr) (t : V) (p r : List Int) (o : Option (List V)), vs = [.ref a, .ref b, t] ∧ TI H a p ∧ TI H b r ∧ Par p ∧ Par r ∧ p.length = r.length ∧ Thing H t o ∧
  ∀ H' c, Same H H' → (c = true ↔ RightT p r o) → Q (.bl c) H'
theorem ok_is_ring (D : DefAt K mg "is_ring" s_is_ring) (T : Bt mg) (u_need_two_partings : Use P w K mg base "need_two_partings" 6 ["parting", "other"] spTwo)
    (u_is_integer_withinA : Use P w K mg base "is_integer_within" 2 ["value", "least", "most"] spIntWA) (u_has_likeT : Use P w K mg base "has_like" 1 ["things"] (spLikeT K)) (u_has_likeL : Use P w K mg base "has_like" 1 ["things"] (spLikeL K)) :
    Use P w K mg base "is_ring" 7 ["parting", "other", "doors"] spIsRing := by
  refine use_of D (fun f fd F => F.ok sc_is_ring (fun vs H Q E h => ?_) (fun cdv A outer s H vs Q E hr h => ?_)) (fun _ _ _ _ _ _ us hl => match us, hl with | [_, _, _], _ => rfl)
  · obtain ⟨a, b, t, p, r, o, rfl, _⟩ := h
    rfl
  · obtain ⟨a, b, t, p, r, o, rfl, hp, hb, par, parb, hl, th, q⟩ := h
    refine ⟨_, (pss_cons (ps_expr (pe_use u_need_two_partings (by decide) hr (by rfl) (pa_cons (pv 0) (pa_cons (pv 1) pa_nil))))
      (pss_cons (ps_if (PW.pt (pw_or (pt_not (pt_val (pe_callB (k_isi (K := K) rfl) (by rfl) T.isinstance (by decide +kernel) (pa_cons (pv 2) (pa_cons (pe_bltn (v := .ty "tuple") (by rfl) T.tuple (by decide +kernel) rfl) pa_nil))))) (pw_or (pt_cmpR op_eq (pe_callB (k_len (K := K) rfl) (by rfl) T.len PySem.boot_len (pa_cons (pv 2) pa_nil)) pe_int (nomark _)) (pw_or1 (pt_cmpR op_eq (pe_op op_and (pe_callB (k_len (K := K) rfl) (by rfl) T.len PySem.boot_len (pa_cons (pv 2) pa_nil)) pe_int) pe_int (nomark _)))))) (pss_one (ps_ret pe_bl)) pss_nil)
      (pss_cons (ps_for PassesOwn.never rfl (k_tup (K := K) rfl (pv 2)) (pg_name (i := 3) sc_is_ring.nd rfl (Or.inl rfl))
      (pss_one (ps_if (pt_not (pt_val (pe_use u_is_integer_withinA (by decide) hr (by rfl) (pa_cons (pv 3) (pa_cons pe_int (pa_cons (pe_op op_sub (pe_callB (k_len (K := K) rfl) (by rfl) T.len PySem.boot_len (pa_cons (pv 0) pa_nil)) pe_int) pa_nil)))))) (pss_one (ps_ret pe_bl)) pss_nil)))
      (pss_cons (ps_setLc (i := 4) (own := [("door", 3)]) rfl sc_is_ring.nd rfl rfl (sw_true rfl rfl rfl (by decide +kernel)) (k_tup (K := K) rfl (pv 2)) (blkOk_by (N := ["parting", "other", "doors", "door", "lows", "highs"]) (sc := defScope s_is_ring) (by decide +kernel)) (fun _ _ _ _ _ => (pg_name (i := 3) sc_is_ring.nd rfl (Or.inl rfl))) (fun _ _ _ _ _ => pts_nil) (fun _ _ _ _ _ => (pe_ix (k_ixt (K := K) rfl) (pv 0) (pv 3) (fun _ _ => rfl))))
      (pss_cons (ps_setLc (i := 5) (own := [("door", 3)]) rfl sc_is_ring.nd rfl rfl (sw_true rfl rfl rfl (by decide +kernel)) (k_list (K := K) rfl (pe_lst (k_star (K := K) rfl (pe_slice (k_slt (K := K) rfl) (pv 2) (po_some pe_int) po_none) (pa_cons (pe_ix (k_ixt (K := K) rfl) (pv 2) pe_int (fun _ _ => rfl)) pa_nil)))) (blkOk_by (N := ["parting", "other", "doors", "door", "lows", "highs"]) (sc := defScope s_is_ring) (by decide +kernel)) (fun _ _ _ _ _ => (pg_name (i := 3) sc_is_ring.nd rfl (Or.inl rfl))) (fun _ _ _ _ _ => pts_nil) (fun _ _ _ _ _ => (pe_ix (k_ixt (K := K) rfl) (pv 1) (pv 3) (fun _ _ => rfl))))
      (pss_cons (ps_if (PW.pt (pw_or (pt_val (pe_use u_has_likeT (by decide) hr (by rfl) (pa_cons (pv 2) pa_nil))) (pw_or (pt_val (pe_use u_has_likeL (by decide) hr (by rfl) (pa_cons (pe_stepL (K := K) rfl (pv 4) po_none po_none (po_some pe_int) (fun _ _ => ⟨_, by with_unfolding_all rfl⟩)) pa_nil))) (pw_or1 (pt_val (pe_use u_has_likeL (by decide) hr (by rfl) (pa_cons (pe_stepL (K := K) rfl (pv 5) po_none po_none (po_some pe_int) (fun _ _ => ⟨_, by with_unfolding_all rfl⟩)) pa_nil))))))) (pss_one (ps_ret pe_bl)) pss_nil)
      (pss_one (ps_ret (pe_and (pe_cmpR (k_eqD (K := K) rfl hr.units) (pe_stepL (K := K) rfl (pv 4) po_none po_none (po_some pe_int) (fun _ _ => ⟨_, by with_unfolding_all rfl⟩)) (pe_stepL (K := K) rfl (pv 4) (po_some pe_int) po_none (po_some pe_int) (fun _ _ => ⟨_, by with_unfolding_all rfl⟩)) (nomark _)) (pe_one (pe_cmpR (k_eqD (K := K) rfl hr.units) (pe_stepL (K := K) rfl (pv 5) po_none po_none (po_some pe_int) (fun _ _ => ⟨_, by with_unfolding_all rfl⟩)) (pe_stepL (K := K) rfl (pv 5) (po_some pe_int) po_none (po_some pe_int) (fun _ _ => ⟨_, by with_unfolding_all rfl⟩)) (nomark _)))))))))))), ?_⟩
    have g2 := par.le
    refine ⟨_, rfl, _, rfl, a, b, p, r, rfl, hp, hb, par, parb, hl, fun H1 s1 => ?_⟩
    have hp1 := hp.mono s1
    have hb1 := hb.mono s1
    have th1 := th.mono s1
    clear th hp hb
    have wrong : RightT p r none → False := fun ⟨ds, e, _⟩ => by cases e
    cases th1 with
    | non => exact ⟨_, rfl, _, _, _, _, false, rfl, .ty _, .base .non, kit_ty (by decide +kernel), false, rfl, q H1 false s1 ⟨fun z => (by cases z), fun z => (wrong z).elim⟩⟩
    | int i => exact ⟨_, rfl, _, _, _, _, false, rfl, .ty _, .base (.int i), kit_ty (by decide +kernel), false, rfl, q H1 false s1 ⟨fun z => (by cases z), fun z => (wrong z).elim⟩⟩
    | lst ht => exact ⟨_, rfl, _, _, _, _, false, rfl, .ty _, .base (.lst ht), kit_ty (by decide +kernel), false, rfl, q H1 false s1 ⟨fun z => (by cases z), fun z => (wrong z).elim⟩⟩
    | @tup ta vs ht ho l1000 =>
    refine ⟨_, rfl, _, _, _, _, true, rfl, .ty _, .base (.tup ht), kit_ty (by decide +kernel), true, rfl, ?_⟩
    refine ⟨_, rfl, ta, _, rfl, .inr (sqT ht), rfl, _, rfl, ?_⟩
    by_cases e0 : vs.length = 0
    · rw [decide_eq_true (by rw [e0]; rfl)]
      exact q H1 false s1 ⟨fun z => (by cases z), fun ⟨ds, e, h⟩ => absurd (by rw [Option.some.inj e, List.length_map] at e0; exact List.eq_nil_of_length_eq_zero e0) h.ne⟩
    rw [decide_eq_false (fun z => e0 (by have := V.int.inj z; omega))]
    refine ⟨_, rfl, ta, _, rfl, .inr (sqT ht), _, _, rfl, rfl, rfl, decide (V.int (((vs.length : Nat) : Int) % 2) = V.int 1), by rw [← PyProof.Rows.bitAnd_m1], ?_⟩
    by_cases e1 : vs.length % 2 = 1
    · rw [decide_eq_true (congrArg V.int (by omega))]
      exact q H1 false s1 ⟨fun z => (by cases z), fun ⟨ds, e, h⟩ => by
        have := h.even
        rw [Option.some.inj e, List.length_map] at e1
        omega⟩
    rw [decide_eq_false (fun z => e1 (by have := V.int.inj z; omega))]
    refine ⟨_, rfl, ta, rfl, ⟨_, sqT ht⟩, for_tup (K := K) (a := ta) (xs := vs) (fun i σ H2 => ∃ y3, σ = [some (.ref a), some (.ref b), some (.ref ta), y3, none, none] ∧ Same H1 H2 ∧ ∀ j, j < i → ∃ d : Int, vs[j]? = some (.int d) ∧ 0 ≤ d ∧ d < p.length)
      ⟨none, rfl, Same.refl H1, fun j hj => absurd hj (Nat.not_lt_zero _)⟩ (fun i σ H2 _ ⟨_, _, sm, _⟩ => sqT (sm _ _ ht)) ?_ ?_⟩
    · rintro i v σ H2 hi ⟨y3, rfl, sm, all⟩
      have ov := (ho v (List.mem_of_getElem? hi)).mono sm
      refine ⟨_, rfl, _, rfl, a, _, rfl, .inr (hp1.mono sm).seq, _, _, rfl, rfl, v, 0, _, rfl, ov, _, rfl, ?_⟩
      rw [List.length_map]
      cases hin : inV v 0 (((p.length : Nat) : Int) - 1) with
      | true =>
        obtain ⟨d, rfl, d0, d1⟩ := inV_true hin
        refine ⟨_, rfl, sm, fun j hj => ?_⟩
        by_cases ej : j = i
        · rw [ej]
          exact ⟨d, hi, d0, by omega⟩
        · exact all j (by omega)
      | false =>
        refine q H2 false (s1.trans sm) ⟨fun z => (by cases z), fun ⟨ds, e, h⟩ => ?_⟩
        rw [Option.some.inj e] at hi
        obtain ⟨d, hd, rfl⟩ := map_at hi
        have := h.rng d (List.mem_of_getElem? hd)
        have e2 : inV (.int d) 0 (((p.length : Nat) : Int) - 1) = true := decide_eq_true (by omega)
        rw [hin] at e2
        cases e2
    rintro σ H2 ⟨y3, rfl, sm, all⟩
    obtain ⟨ds, rfl⟩ := ints_of fun j hj => by
      obtain ⟨d, hd, _⟩ := all j hj
      exact ⟨_, hd⟩
    rw [right_ints] at q
    rw [List.length_map] at e0 e1 l1000 all
    have rng : ∀ d ∈ ds, 0 ≤ d ∧ d < p.length := fun d hd => by
      obtain ⟨j, hj⟩ := List.mem_iff_getElem?.mp hd
      obtain ⟨d', hd', h0, h1⟩ := all j (List.getElem?_eq_some_iff.mp hj).1
      rw [at_map hj] at hd'
      obtain rfl := V.int.inj (Option.some.inj hd')
      exact ⟨h0, h1⟩
    have ne : ds ≠ [] := fun e => e0 (by rw [e]; rfl)
    have s12 := s1.trans sm
    have hp2 := hp1.mono sm
    have hb2 := hb1.mono sm
    have ht2 := sm _ _ ht
    clear all ho ht hp1 hb1
    generalize H2 = Ha at hp2 hb2 ht2 s12
    -- lows
    refine ⟨_, rfl, ta, rfl, ⟨_, sqT ht2⟩, fun L nL => ?_⟩
    refine lc_tup (K := K) (a := ta) (xs := ds.map V.int) (fun k H3 => Same Ha H3 ∧ H3 L = some (.lst (((ds.take k).map (bk p)).map V.int)))
      ⟨same_new nL, upd_same⟩ (fun k H3 _ ⟨s3, _⟩ => sqT (s3 _ _ ht2)) ?_ ?_
    · rintro k v H3 hk ⟨s3, eL⟩
      obtain ⟨d, hd, rfl⟩ := map_at hk
      have dr := rng d (List.mem_of_getElem? hd)
      have hx := bk_some (p := p) dr.1 dr.2
      refine ⟨rfl, _, rfl, _, rfl, a, _, _, .int (bk p d), rfl, rfl, (hp2.mono s3).seq, atI_of (j := d.toNat) (by omega) (at_map hx), _, eL, ?_, same_mut s3 nL, ?_⟩
      · rw [List.length_map, List.length_map, List.length_take]
        exact small_of (by omega)
      · rw [upd_same, take_snoc hd, List.map_append, List.map_append]
        rfl
    rintro H3 ⟨s3, eL⟩
    rw [List.length_map, List.take_length] at eL
    have hp3 := hp2.mono s3
    have hb3 := hb2.mono s3
    have ht3 := s3 _ _ ht2
    have s13 := s12.trans s3
    have nLH : H L = none := s12.free nL
    clear hp2 hb2 ht2 s12 s3 nL
    -- highs
    obtain ⟨d0, dt, rfl⟩ : ∃ d0 dt, ds = d0 :: dt := by
      cases ds with
      | nil => exact absurd rfl ne
      | cons d0 dt => exact ⟨d0, dt, rfl⟩
    have cut : cutV ((d0 :: dt).map V.int) (some 1) none = dt.map V.int := by
      unfold cutV
      rw [show HT.sIx ((d0 :: dt).map V.int).length 0 (some 1) = 1 from by
        have := HT.sIx_nat ((d0 :: dt).map V.int).length 0 1
        rw [show (some ((1 : Nat) : Int)) = some (1 : Int) from rfl] at this
        rw [this, List.length_map, List.length_cons]
        omega, HT.sIx_none, List.length_map, List.length_cons]
      show (dt.map V.int).take (dt.length + 1 - 1) = _
      rw [List.take_of_length_le (by rw [List.length_map]; omega)]
    refine ⟨_, rfl, _, rfl, ta, _, rfl, sqT ht3, ?_, fun c nc => ?_⟩
    · intro z
      have h1 := HT.sIx_nat ((d0 :: dt).map V.int).length 0 1
      rw [show (some ((1 : Nat) : Int)) = some (1 : Int) from rfl, List.length_map, List.length_cons] at h1
      have := z.1
      rw [List.length_map, List.length_cons] at this
      omega
    erw [cut]
    have s4 : Same H3 (upd H3 c (.tup (dt.map V.int))) := same_new nc
    refine ⟨c, _, rfl, .inl (sqT upd_same), _, rfl, ta, _, _, .int d0, rfl, rfl, sqT (s4 _ _ ht3), atI_of (j := 0) rfl rfl, ?_, fun l nl => ?_⟩
    · show (dt.map V.int ++ [V.int d0]).length ≤ sizeLine
      rw [List.length_append, List.length_map]
      rw [List.length_cons] at l1000
      exact Nat.le_of_lt (small_of (by show dt.length + 1 ≤ 100000; omega))
    have s5 : Same H3 (upd (upd H3 c (.tup (dt.map V.int))) l (.lst (dt.map V.int ++ [V.int d0]))) := s4.trans (same_new nl)
    have el : (upd (upd H3 c (.tup (dt.map V.int))) l (.lst (dt.map V.int ++ [V.int d0]))) l = some (.lst ((rot (d0 :: dt)).map V.int)) := by
      rw [upd_same]
      show _ = some (HO.lst ((dt ++ [d0]).map V.int))
      rw [List.map_append]
      rfl
    generalize upd (upd H3 c (.tup (dt.map V.int))) l (.lst (dt.map V.int ++ [V.int d0])) = H5 at s5 el
    have rmem : ∀ d ∈ rot (d0 :: dt), d ∈ d0 :: dt := fun d hd => by
      rcases List.mem_append.mp hd with h | h
      · exact List.mem_cons_of_mem _ h
      · rw [List.mem_singleton.mp h]
        exact List.mem_cons_self
    refine ⟨l, rfl, ⟨_, sqL el⟩, fun M nM => ?_⟩
    refine lc_list (K := K) (a := l) (xs := (rot (d0 :: dt)).map V.int) (fun k H6 => Same H5 H6 ∧ H6 M = some (.lst ((((rot (d0 :: dt)).take k).map (bk r)).map V.int)))
      ⟨same_new nM, upd_same⟩ (fun k H6 _ ⟨s6, _⟩ => sqL (s6 _ _ el)) ?_ ?_
    · rintro k v H6 hk ⟨s6, eM⟩
      obtain ⟨d, hd, rfl⟩ := map_at hk
      have dr := rng d (rmem d (List.mem_of_getElem? hd))
      have hx := bk_some (p := r) dr.1 (by omega)
      have kl := (List.getElem?_eq_some_iff.mp hd).1
      rw [rot_len] at kl
      refine ⟨rfl, _, rfl, _, rfl, b, _, _, .int (bk r d), rfl, rfl, ((hb3.mono s5).mono s6).seq, atI_of (j := d.toNat) (by omega) (at_map hx), _, eM, ?_, same_mut s6 nM, ?_⟩
      · rw [List.length_map, List.length_map, List.length_take]
        exact small_of (by omega)
      · rw [upd_same, take_snoc hd, List.map_append, List.map_append]
        rfl
    rintro H6 ⟨s6, eM⟩
    rw [List.length_map, List.take_length] at eM
    have s36 := s5.trans s6
    have eL6 := s36 _ _ eL
    have ht6 := s36 _ _ ht3
    have s16 := s13.trans s36
    have lowl : (ev ((d0 :: dt).map (bk p))).length ≤ 1000 := by
      have := ev_len ((d0 :: dt).map (bk p))
      rw [List.length_map] at this
      omega
    have highl : (ev ((rot (d0 :: dt)).map (bk r))).length ≤ 1000 := by
      have := ev_len ((rot (d0 :: dt)).map (bk r))
      rw [List.length_map, rot_len] at this
      omega
    clear s5 s6 s36 eL ht3 el nl nc s4 nM hp3 hb3 s13
    generalize H6 = Hb at eM eL6 ht6 s16
    -- has_like, three times
    refine ⟨_, rfl, ta, _, rfl, sqT ht6, l1000, fun c1 h1 => ⟨c1, rfl, ?_⟩⟩
    by_cases n1 : ¬ ((d0 :: dt).Nodup)
    · obtain rfl : c1 = true := h1.mpr n1
      exact q Hb false s16 ⟨fun z => (by cases z), fun h => absurd h.nodup n1⟩
    replace n1 := Classical.not_not.mp n1
    obtain rfl : c1 = false := by
      cases c1 with
      | false => rfl
      | true => exact absurd n1 (h1.mp rfl)
    refine ⟨_, rfl, 2, rfl, L, _, rfl, sqL eL6, by decide, fun e1' ne1 => ?_⟩
    rw [pick_two, ev_ints]
    have s7 : Same Hb (upd Hb e1' (.lst ((ev ((d0 :: dt).map (bk p))).map V.int))) := same_new ne1
    refine ⟨e1', _, rfl, sqL upd_same, lowl, fun c2 h2 => ⟨c2, rfl, ?_⟩⟩
    by_cases n2 : ¬ ((ev ((d0 :: dt).map (bk p))).Nodup)
    · obtain rfl : c2 = true := h2.mpr n2
      exact q _ false (s16.trans s7) ⟨fun z => (by cases z), fun h => absurd h.low n2⟩
    replace n2 := Classical.not_not.mp n2
    obtain rfl : c2 = false := by
      cases c2 with
      | false => rfl
      | true => exact absurd n2 (h2.mp rfl)
    refine ⟨_, rfl, 2, rfl, M, _, rfl, sqL (s7 _ _ eM), by decide, fun e2' ne2 => ?_⟩
    rw [pick_two, ev_ints]
    have s8 : Same Hb (upd (upd Hb e1' (.lst ((ev ((d0 :: dt).map (bk p))).map V.int))) e2' (.lst ((ev ((rot (d0 :: dt)).map (bk r))).map V.int))) := s7.trans (same_new ne2)
    refine ⟨e2', _, rfl, sqL upd_same, highl, fun c3 h3 => ⟨c3, rfl, ?_⟩⟩
    by_cases n3 : ¬ ((ev ((rot (d0 :: dt)).map (bk r))).Nodup)
    · obtain rfl : c3 = true := h3.mpr n3
      exact q _ false (s16.trans s8) ⟨fun z => (by cases z), fun h => absurd h.high n3⟩
    replace n3 := Classical.not_not.mp n3
    obtain rfl : c3 = false := by
      cases c3 with
      | false => rfl
      | true => exact absurd n3 (h3.mp rfl)
    have eL8 := s8 _ _ eL6
    have eM8 := s8 _ _ eM
    have s18 := s16.trans s8
    generalize upd (upd Hb e1' (.lst ((ev ((d0 :: dt).map (bk p))).map V.int))) e2' (.lst ((ev ((rot (d0 :: dt)).map (bk r))).map V.int)) = Hc at eL8 eM8 s18
    clear s7 s8
    -- the two equalities
    have whole : IsRing p r (d0 :: dt) ↔ ev ((d0 :: dt).map (bk p)) = ev ((d0 :: dt).map (bk p)).tail ∧ ev ((rot (d0 :: dt)).map (bk r)) = ev ((rot (d0 :: dt)).map (bk r)).tail :=
      ⟨fun h => ⟨h.lows, h.highs⟩, fun h => ⟨ne, by omega, rng, n1, n2, n3, h.1, h.2⟩⟩
    refine ⟨_, rfl, 2, rfl, L, _, rfl, sqL eL8, by decide, fun f1 nf1 => ?_⟩
    rw [pick_two, ev_ints]
    have t1 : Same Hc (upd Hc f1 (.lst ((ev ((d0 :: dt).map (bk p))).map V.int))) := same_new nf1
    refine ⟨_, rfl, 1, rfl, 2, rfl, L, _, rfl, sqL (t1 _ _ eL8), by decide, fun f2 nf2 => ?_⟩
    rw [pick_one, ← List.map_tail, ev_ints]
    have t2 := same_new (o := .lst ((ev ((d0 :: dt).map (bk p)).tail).map V.int)) nf2
    refine ⟨.list ((ev ((d0 :: dt).map (bk p))).map PyData.int), .list ((ev ((d0 :: dt).map (bk p)).tail).map PyData.int), .lst (sqL (t2 _ _ upd_same)) (dpAll_ints _), .lst (sqL upd_same) (dpAll_ints _), shaped_ints _, shaped_ints _, _, rfl, ?_⟩
    rw [show PyData.eqv (.list ((ev ((d0 :: dt).map (bk p))).map PyData.int)) (.list ((ev ((d0 :: dt).map (bk p)).tail).map PyData.int)) = decide _ from eqv_ints _ _]
    by_cases m1 : ¬ (ev ((d0 :: dt).map (bk p)) = ev ((d0 :: dt).map (bk p)).tail)
    · rw [decide_eq_false m1]
      exact q _ false ((s18.trans t1).trans t2) ⟨fun z => (by cases z), fun h => absurd (whole.mp h).1 m1⟩
    replace m1 := Classical.not_not.mp m1
    rw [decide_eq_true m1]
    have s28 := (s18.trans t1).trans t2
    have eM9 := t2 _ _ (t1 _ _ eM8)
    generalize upd (upd Hc f1 (.lst ((ev ((d0 :: dt).map (bk p))).map V.int))) f2 (.lst ((ev ((d0 :: dt).map (bk p)).tail).map V.int)) = Hd at eM9 s28
    refine ⟨_, rfl, 2, rfl, M, _, rfl, sqL eM9, by decide, fun g1 ng1 => ?_⟩
    rw [pick_two, ev_ints]
    have t3 : Same Hd (upd Hd g1 (.lst ((ev ((rot (d0 :: dt)).map (bk r))).map V.int))) := same_new ng1
    refine ⟨_, rfl, 1, rfl, 2, rfl, M, _, rfl, sqL (t3 _ _ eM9), by decide, fun g2' ng2 => ?_⟩
    rw [pick_one, ← List.map_tail, ev_ints]
    have t4 := same_new (o := .lst ((ev ((rot (d0 :: dt)).map (bk r)).tail).map V.int)) ng2
    refine ⟨.list ((ev ((rot (d0 :: dt)).map (bk r))).map PyData.int), .list ((ev ((rot (d0 :: dt)).map (bk r)).tail).map PyData.int), .lst (sqL (t4 _ _ upd_same)) (dpAll_ints _), .lst (sqL upd_same) (dpAll_ints _), shaped_ints _, shaped_ints _, ?_⟩
    rw [show PyData.eqv (.list ((ev ((rot (d0 :: dt)).map (bk r))).map PyData.int)) (.list ((ev ((rot (d0 :: dt)).map (bk r)).tail).map PyData.int)) = decide _ from eqv_ints _ _]
    refine q _ _ ((s28.trans t3).trans t4) ?_
    rw [decide_eq_true_eq]
    exact ⟨fun h => whole.mpr ⟨m1, h⟩, fun h => (whole.mp h).2⟩
end
end KQ
namespace KR
open PySem PySem.Spec PyProof.Rows L2 KM KQ
theorem lc_enumT {K : PySem.W.Frag} {a : Addr} {xs : List V} {g : TG} {tt : TT} {te : TE} {vs : List Nat} {σ : L2.St} {H1 : Hp} {D : Addr} {Qd : Hp → Prop} (Pv : Nat → Hp → Prop) (h0 : Pv 0 (upd H1 D (.lst []))) (hl : ∀ i H, i ≤ xs.length → Pv i H → SqT K H a xs)
    (hs : ∀ (i : Nat) (x : V) (T : Addr) (H : Hp), xs[i]? = some x → Pv i H → H T = none → g (.ref T) (wipe σ vs) (upd H T (.tup [.int (i : Nat), x])) fun σ2 H2 => wipe σ2 vs = wipe σ vs ∧ tt σ2 H2 fun b H3 =>
      if b = true then te σ2 H3 fun y H4 => ∃ acc, H4 D = some (.lst acc) ∧ acc.length < sizeLine ∧ Pv (i + 1) (upd H4 D (.lst (acc ++ [y]))) else Pv (i + 1) H3) (hd : ∀ H, Pv xs.length H → Qd H) :
    ∃ W : Nat → Nat → Hp → Prop, (∃ m, W 0 m (upd H1 D (.lst []))) ∧ ∀ i m H, W i m H →
      ((IteT K a).stop i H ∧ Qd H) ∨ ((IteT K a).go i H ∧ ∃ Nx : Hp → Prop, (∀ H', Nx H' → ∃ m', m' < m ∧ W (i + 1) m' H') ∧ ∀ x H', (IteT K a).yld i H x H' → g x (wipe σ vs) H' fun σ2 H2 => wipe σ2 vs = wipe σ vs ∧ tt σ2 H2 fun b H3 =>
        if b = true then te σ2 H3 fun y H4 => ∃ acc, H4 D = some (.lst acc) ∧ acc.length < sizeLine ∧ Nx (upd H4 D (.lst (acc ++ [y]))) else Nx H3) := by
  refine ⟨fun i m H => m = xs.length - i ∧ i ≤ xs.length ∧ Pv i H, ⟨xs.length, by simp, Nat.zero_le _, h0⟩, ?_⟩
  rintro i m H ⟨rfl, hi, p⟩
  have q := hl i H hi p
  by_cases hlt : i < xs.length
  · have hx : xs[i]? = some xs[i] := List.getElem?_eq_getElem hlt
    refine .inr ⟨⟨xs, _, q, hx⟩, Pv (i + 1), fun H' p' => ⟨xs.length - (i + 1), by omega, rfl, hlt, p'⟩, fun x H' y => ?_⟩
    obtain ⟨T, x', rfl, hT, rfl, f1⟩ := y
    exact hs i x' T H (f1 xs q) p hT
  · have e : i = xs.length := by omega
    subst e
    exact .inl ⟨⟨xs, q, Nat.le_refl _⟩, hd H p⟩
theorem lc_enumL {K : PySem.W.Frag} {a : Addr} {xs : List V} {g : TG} {tt : TT} {te : TE} {vs : List Nat} {σ : L2.St} {H1 : Hp} {D : Addr} {Qd : Hp → Prop} (Pv : Nat → Hp → Prop) (h0 : Pv 0 (upd H1 D (.lst []))) (hl : ∀ i H, i ≤ xs.length → Pv i H → SqL K H a xs)
    (hs : ∀ (i : Nat) (x : V) (T : Addr) (H : Hp), xs[i]? = some x → Pv i H → H T = none → g (.ref T) (wipe σ vs) (upd H T (.tup [.int (i : Nat), x])) fun σ2 H2 => wipe σ2 vs = wipe σ vs ∧ tt σ2 H2 fun b H3 =>
      if b = true then te σ2 H3 fun y H4 => ∃ acc, H4 D = some (.lst acc) ∧ acc.length < sizeLine ∧ Pv (i + 1) (upd H4 D (.lst (acc ++ [y]))) else Pv (i + 1) H3) (hd : ∀ H, Pv xs.length H → Qd H) :
    ∃ W : Nat → Nat → Hp → Prop, (∃ m, W 0 m (upd H1 D (.lst []))) ∧ ∀ i m H, W i m H →
      ((Ite K a).stop i H ∧ Qd H) ∨ ((Ite K a).go i H ∧ ∃ Nx : Hp → Prop, (∀ H', Nx H' → ∃ m', m' < m ∧ W (i + 1) m' H') ∧ ∀ x H', (Ite K a).yld i H x H' → g x (wipe σ vs) H' fun σ2 H2 => wipe σ2 vs = wipe σ vs ∧ tt σ2 H2 fun b H3 =>
        if b = true then te σ2 H3 fun y H4 => ∃ acc, H4 D = some (.lst acc) ∧ acc.length < sizeLine ∧ Nx (upd H4 D (.lst (acc ++ [y]))) else Nx H3) := by
  refine ⟨fun i m H => m = xs.length - i ∧ i ≤ xs.length ∧ Pv i H, ⟨xs.length, by simp, Nat.zero_le _, h0⟩, ?_⟩
  rintro i m H ⟨rfl, hi, p⟩
  have q := hl i H hi p
  by_cases hlt : i < xs.length
  · have hx : xs[i]? = some xs[i] := List.getElem?_eq_getElem hlt
    refine .inr ⟨⟨xs, _, q, hx⟩, Pv (i + 1), fun H' p' => ⟨xs.length - (i + 1), by omega, rfl, hlt, p'⟩, fun x H' y => ?_⟩
    obtain ⟨T, x', rfl, hT, rfl, f1⟩ := y
    exact hs i x' T H (f1 xs q) p hT
  · have e : i = xs.length := by omega
    subst e
    exact .inl ⟨⟨xs, q, Nat.le_refl _⟩, hd H p⟩
theorem k_gtup {X : Cx} {K : PySem.W.Frag} {es : List Expr} {k : Nat} {t : TGs} {n : Nat} {pos : Pos} (hK : X.K = K) (hc : X.calm = true) (h : PGs X es t)
    (hn : (assignEach es X.env).length = n := by rfl) (hst : (assignEach es X.env).findIdx? (·.1) = none := by rfl) : PG X (.Tuple es k pos) (gTup K n t) := by
  subst hK
  exact pg_tup hc h hn hst
def rReprB : List V → Hp → VK → Prop := fun xs H Q => ∃ b : Bool, xs = [.bl b] ∧ Q (.str (if b then "True" else "False")) H
theorem call_reprB {X : Cx} : CallR X (.builtin "repr") rReprB := by
  intro pins s σ H xs us Q I r h
  obtain ⟨b, rfl, q⟩ := h
  cases r with
  | cons r1 rr =>
    cases rr
    cases r1
    exact PySem.P.repr_of_bool ⟨.str _, H, I.tok _, ⟨_, rfl⟩, q⟩
/-- a whole number among whole numbers -/
theorem inV_ints (d : Int) (ds : List Int) : L2.inV (.int d) (ds.map V.int) = decide (d ∈ ds) := by
  unfold L2.inV
  rw [List.any_map]
  by_cases h : d ∈ ds
  · rw [decide_eq_true h, List.any_eq_true]
    exact ⟨d, h, by show (d == d) = true; simp⟩
  · rw [decide_eq_false h, List.any_eq_false]
    intro x hx
    show ¬ (x == d) = true
    rw [beq_iff_eq]
    exact fun e => h (e ▸ hx)
theorem flat_ints (ds : List Int) : (ds.map V.int).all flatV = true := by
  rw [List.all_map, List.all_eq_true]
  exact fun _ _ => rfl
end KR
namespace KQ
open PySem PySem.Spec PyProof.Rows L2 KR KM StX
theorem fmod2 (n : Nat) : Int.fmod (n : Int) 2 = ((n % 2 : Nat) : Int) := by
  rw [Int.fmod_eq_emod_of_nonneg _ (by decide)]
  omega
theorem nodup_take (ds : List Int) : ds.Nodup ↔ ∀ (i : Nat) (d : Int), ds[i]? = some d → d ∉ ds.take i := by
  constructor
  · intro h i d hd hm
    obtain ⟨j, hj⟩ := List.mem_iff_getElem?.mp hm
    have jl := (List.getElem?_eq_some_iff.mp hj).1
    rw [List.length_take] at jl
    rw [List.getElem?_take_of_lt (by omega)] at hj
    have l1 := List.getElem?_eq_some_iff.mp hj
    have l2 := List.getElem?_eq_some_iff.mp hd
    exact List.pairwise_iff_getElem.mp h j i l1.1 l2.1 (by omega) (l1.2.trans l2.2.symm)
  · intro h
    refine List.pairwise_iff_getElem.mpr fun i j hi hj hij e => ?_
    refine h j _ (List.getElem?_eq_getElem hj) ?_
    rw [← e]
    exact List.mem_iff_getElem?.mpr ⟨i, by rw [List.getElem?_take_of_lt hij]; exact List.getElem?_eq_getElem hi⟩
section
variable {P : Program} {w : World} {K : PySem.W.Frag} {mg : Str → Option Value} {base : Heap}
abbrev s__law_is_int : Stmt := topS 39
theorem sc__law_is_int : FnScope ["thing", "low", "high"] ["thing", "low", "high"] (defScope s__law_is_int) := ⟨rfl, rfl, rfl, by decide +kernel, rfl, by decide +kernel, by decide +kernel⟩
theorem ok_law_is_int (D : DefAt K mg "_law_is_int" s__law_is_int) (T : Bt mg) : Use P w K mg base "_law_is_int" 1 ["thing", "low", "high"] spIntWA := by
  refine use_of D (fun f fd F => F.ok sc__law_is_int (fun vs H Q E h => ?_) (fun cdv A outer s H vs Q E hr h => ?_)) (fun _ _ _ _ _ _ us hl => match us, hl with | [_, _, _], _ => rfl)
  · obtain ⟨i, lo, hi, rfl, _⟩ := h
    rfl
  · obtain ⟨v, lo, hi, rfl, o, q⟩ := h
    refine ⟨_, (pss_one (ps_ret (pe_and (pe_callB (k_isi (K := K) rfl) (by rfl) T.isinstance (by decide +kernel) (pa_cons (pv 0) (pa_cons (pe_bltn (v := .ty "int") (by rfl) T.int (by decide +kernel) rfl) pa_nil))) (pe_and (pe_not (pe_callB (k_isi (K := K) rfl) (by rfl) T.isinstance (by decide +kernel) (pa_cons (pv 0) (pa_cons (pe_bltn (v := .ty "bool") (by rfl) T.bool (by decide +kernel) rfl) pa_nil)))) (pe_one (pe_chain op_le op_le (pv 1) (pv 0) (pv 2))))))), ?_⟩
    by_cases hv : ∃ i, v = .int i
    · obtain ⟨i, rfl⟩ := hv
      have q' : Q (.bl (decide (lo ≤ i ∧ i ≤ hi))) H := q
      refine ⟨_, rfl, _, _, _, _, true, rfl, .ty _, .base (.int i), kit_ty (by decide +kernel), true, rfl, iteT ?_⟩
      refine ⟨_, rfl, _, _, _, _, false, rfl, .ty _, .base (.int i), kit_ty (by decide +kernel), _, rfl, _, rfl, iteT ?_⟩
      refine ⟨_, rfl, _, rfl, lo, i, rfl, rfl, _, rfl, ?_⟩
      by_cases h1 : lo ≤ i
      · rw [decide_eq_true h1]
        refine iteT ⟨_, rfl, i, hi, rfl, rfl, ?_⟩
        have e : decide (lo ≤ i ∧ i ≤ hi) = decide (i ≤ hi) := by simp [h1]
        rw [e] at q'
        exact q'
      · rw [decide_eq_false h1]
        refine iteF ?_
        have e : decide (lo ≤ i ∧ i ≤ hi) = false := by simp [h1]
        rw [e] at q'
        exact q'
    · have e : inV v lo hi = false := by
        cases v with
        | int i => exact absurd ⟨i, rfl⟩ hv
        | _ => rfl
      rw [e] at q
      obtain ⟨t, ty, h⟩ := o.ty (K := K) fun i e => hv ⟨i, e⟩
      rcases h with ⟨rfl, b, rfl⟩ | kt
      · refine ⟨_, rfl, _, _, _, _, true, rfl, .ty _, ty, kit_ty (by decide +kernel), true, rfl, iteT ?_⟩
        exact ⟨_, rfl, _, _, _, _, true, rfl, .ty _, ty, kit_ty (by decide +kernel), _, rfl, _, rfl, iteF q⟩
      · exact ⟨_, rfl, _, _, _, _, false, rfl, .ty _, ty, kit_ty kt, false, rfl, iteF q⟩
abbrev s__law_is_right_ring : Stmt := topS 45
theorem sc__law_is_right_ring : FnScope ["one", "two", "row", "n", "at", "there", "blocks", "other"] ["one", "two", "row"] (defScope s__law_is_right_ring) := ⟨rfl, rfl, rfl, by decide +kernel, rfl, by decide +kernel, by decide +kernel⟩
def scRR : Scope := match (defBody s__law_is_right_ring).getD 4 (.Pass ⟨0, 0, 0, 0⟩) with
  | Stmt.For _ _ (Stmt.If (Expr.Compare (Expr.ListComp _ _ sc _) _ _ _) _ _ _ :: _) _ _ => sc
  | _ => defScope s__law_is_right_ring
theorem ok_right_ring (D : DefAt K mg "_law_is_right_ring" s__law_is_right_ring) (T : Bt mg) (u__law_is_int : Use P w K mg base "_law_is_int" 1 ["thing", "low", "high"] spIntWA) :
    Use P w K mg base "_law_is_right_ring" 2 ["one", "two", "row"] spIsRing := by
  refine use_of D (fun f fd F => F.ok sc__law_is_right_ring (fun vs H Q E h => ?_) (fun cdv A outer s H vs Q E hr h => ?_)) (fun _ _ _ _ _ _ us hl => match us, hl with | [_, _, _], _ => rfl)
  · obtain ⟨a, b, t, p, r, o, rfl, _⟩ := h
    rfl
  · obtain ⟨a, b, t, p, r, o, rfl, hp, hb, par, parb, hl, th, q⟩ := h
    refine ⟨_, (pss_cons (ps_if (PW.pt (pw_or (pt_not (pt_val (pe_callB (k_isi (K := K) rfl) (by rfl) T.isinstance (by decide +kernel) (pa_cons (pv 2) (pa_cons (pe_bltn (v := .ty "tuple") (by rfl) T.tuple (by decide +kernel) rfl) pa_nil))))) (pw_or (pt_cmpR op_lt (pe_callB (k_len (K := K) rfl) (by rfl) T.len PySem.boot_len (pa_cons (pv 2) pa_nil)) pe_int (nomark _)) (pw_or1 (pt_cmpR op_eq (pe_op op_modN (pe_callTy call_int1 (by rfl) T.int (by decide +kernel) (pa_cons (pe_callB (k_len (K := K) rfl) (by rfl) T.len PySem.boot_len (pa_cons (pv 2) pa_nil)) pa_nil)) pe_int) pe_int (nomark _)))))) (pss_one (ps_ret pe_bl)) pss_nil)
      (pss_cons (ps_if (pt_cmpR (k_neD (K := K) rfl hr.units) (pe_lc (own := [("at", 4)]) rfl sc__law_is_right_ring.nd (k_tup (K := K) rfl (pv 2)) (blkOk_by (N := ["one", "two", "row", "n", "at", "there", "blocks", "other"]) (sc := defScope s__law_is_right_ring) (by decide +kernel)) (fun _ _ _ _ _ => (pg_name (i := 4) sc__law_is_right_ring.nd rfl (Or.inl rfl))) (fun _ _ _ _ _ => (pts_one (pt_not (pt_val (pe_use u__law_is_int (by decide) hr (by rfl) (pa_cons (pv 4) (pa_cons pe_int (pa_cons (pe_op op_sub (pe_callB (k_len (K := K) rfl) (by rfl) T.len PySem.boot_len (pa_cons (pv 0) pa_nil)) pe_int) pa_nil)))))))) (fun _ _ _ _ _ => pe_int)) (pe_lst pa_nil) (nomark _)) (pss_one (ps_ret pe_bl)) pss_nil)
      (pss_cons (ps_if (pt_cmpR (k_neD (K := K) rfl hr.units) (pe_lc (own := [("n", 3), ("at", 4)]) rfl sc__law_is_right_ring.nd (k_enumT (K := K) rfl (by rfl) T.enumerate (pa_cons (pv 2) pa_nil)) (blkOk_by (N := ["one", "two", "row", "n", "at", "there", "blocks", "other"]) (sc := defScope s__law_is_right_ring) (by decide +kernel)) (fun _ _ _ _ _ => (k_gtup (K := K) (n := 2) rfl rfl (pgs_cons (pg_name (i := 3) sc__law_is_right_ring.nd rfl (Or.inl rfl)) (pgs_cons (pg_name (i := 4) sc__law_is_right_ring.nd rfl (Or.inl rfl)) pgs_nil)))) (fun _ _ _ _ _ => (pts_one (pt_cmpR (k_in (K := K) rfl) (pv 4) (pe_slice (k_slt (K := K) rfl) (pv 2) po_none (po_some (pv 3))) (by rfl)))) (fun _ _ _ _ _ => pe_int)) (pe_lst pa_nil) (nomark _)) (pss_one (ps_ret pe_bl)) pss_nil)
      (pss_cons (ps_for PassesOwn.never rfl (k_enumT (K := K) rfl (by rfl) T.enumerate (pa_cons (pv 2) pa_nil)) (pg_tup rfl (pgs_cons (pg_name (i := 3) sc__law_is_right_ring.nd rfl (Or.inl rfl)) (pgs_cons (pg_name (i := 4) sc__law_is_right_ring.nd rfl (Or.inl rfl)) pgs_nil)))
      (pss_cons (ps_set (i := 5) sc__law_is_right_ring.nd rfl (Or.inl rfl) (pe_ix (k_ixt (K := K) rfl) (pv 2) (pe_ifExp (pt_cmpR op_lt (pe_op op_add (pv 3) pe_int) (pe_callB (k_len (K := K) rfl) (by rfl) T.len PySem.boot_len (pa_cons (pv 2) pa_nil)) (nomark _)) (pe_op op_add (pv 3) pe_int) pe_int) (fun _ _ => rfl)))
      (pss_cons (ps_set (i := 6) sc__law_is_right_ring.nd rfl (Or.inr rfl) (pe_ifExp (pt_cmpR op_eq (pe_op op_modN (pe_callTy call_int1 (by rfl) T.int (by decide +kernel) (pa_cons (pv 3) pa_nil)) pe_int) pe_int (nomark _)) (pv 0) (pv 1)))
      (pss_one (ps_if (pt_cmpR op_ne (pe_ix (k_ixt (K := K) rfl) (pv 6) (pv 4) (fun _ _ => rfl)) (pe_ix (k_ixt (K := K) rfl) (pv 6) (pv 5) (fun _ _ => rfl)) (nomark _)) (pss_one (ps_ret pe_bl)) pss_nil)))))
      (pss_cons (ps_for PassesOwn.never rfl (k_list (K := K) rfl (pe_lst (pa_cons (pv 0) (pa_cons (pv 1) pa_nil)))) (pg_name (i := 6) sc__law_is_right_ring.nd rfl (Or.inr rfl))
      (pss_one (ps_if (pt_cmpR (k_neD (K := K) rfl hr.units) (pe_lc (own := [("at", 4)]) rfl sc__law_is_right_ring.nd (k_tup (K := K) rfl (pv 2)) (blkOk_by (N := ["one", "two", "row", "n", "at", "there", "blocks", "other"]) (sc := defScope s__law_is_right_ring) (by decide +kernel)) (fun _ _ _ _ _ => (pg_name (i := 4) sc__law_is_right_ring.nd rfl (Or.inr rfl))) (fun _ _ _ _ _ => (pts_one (pt_cmpR op_ne (pe_callB (k_len (K := K) rfl) (by rfl) T.len PySem.boot_len (pa_cons (pe_lc (own := [("other", 7)]) rfl sc__law_is_right_ring.nd (k_tup (K := K) rfl (pv 2)) (blkOk_by (N := ["one", "two", "row", "n", "at", "there", "blocks", "other"]) (sc := relS scRR (defScope s__law_is_right_ring)) (by decide +kernel)) (fun _ _ _ _ _ => (pg_name (i := 7) sc__law_is_right_ring.nd rfl (Or.inl rfl))) (fun _ _ _ _ _ => (pts_one (pt_cmpR op_eq (pe_ix (k_ixt (K := K) rfl) (pv 6) (pv 7) (fun _ _ => rfl)) (pe_ix (k_ixt (K := K) rfl) (pv 6) (pv 4) (fun _ _ => rfl)) (nomark _)))) (fun _ _ _ _ _ => pe_int)) pa_nil)) pe_int (nomark _)))) (fun _ _ _ _ _ => pe_int)) (pe_lst pa_nil) (nomark _)) (pss_one (ps_ret pe_bl)) pss_nil)))
      (pss_one (ps_ret pe_bl))))))), ?_⟩
    have g2 := par.le
    have s0 : Same H H := Same.refl H
    have wrong : RightT p r none → False := fun ⟨ds, e, _⟩ => by cases e
    cases th with
    | non => exact ⟨_, rfl, _, _, _, _, false, rfl, .ty _, .base .non, kit_ty (by decide +kernel), false, rfl, q H false s0 ⟨fun z => (by cases z), fun z => (wrong z).elim⟩⟩
    | int i => exact ⟨_, rfl, _, _, _, _, false, rfl, .ty _, .base (.int i), kit_ty (by decide +kernel), false, rfl, q H false s0 ⟨fun z => (by cases z), fun z => (wrong z).elim⟩⟩
    | lst ht => exact ⟨_, rfl, _, _, _, _, false, rfl, .ty _, .base (.lst ht), kit_ty (by decide +kernel), false, rfl, q H false s0 ⟨fun z => (by cases z), fun z => (wrong z).elim⟩⟩
    | @tup ta vs ht ho l1000 =>
    have wrongR : ∀ {X : List V → Prop}, (∀ ds, vs = ds.map V.int → RingR p r ds → False) → ∀ H', Same H H' → Q (.bl false) H' := fun h H' s' => q H' false s' ⟨fun z => (by cases z), fun ⟨ds, e, hr⟩ => (h ds (Option.some.inj e) (ring_iff.mp hr)).elim⟩
    refine ⟨_, rfl, _, _, _, _, true, rfl, .ty _, .base (.tup ht), kit_ty (by decide +kernel), true, rfl, ?_⟩
    refine ⟨_, rfl, ta, _, rfl, .inr (sqT ht), _, _, rfl, rfl, _, rfl, ?_⟩
    by_cases e0 : vs.length < 2
    · rw [decide_eq_true (by omega)]
      refine wrongR (X := fun _ => True) (fun ds e hr => ?_) H s0
      have := hr.len
      rw [e, List.length_map] at e0
      omega
    rw [decide_eq_false (by omega)]
    refine ⟨_, rfl, ta, _, rfl, .inr (sqT ht), .inl ⟨_, rfl, _, 2, rfl, rfl, (show (2 : Int) ≠ 0 by decide), rfl, decide (V.int ((vs.length % 2 : Nat) : Int) = V.int 1), by rw [← fmod2], ?_⟩⟩
    by_cases e1 : vs.length % 2 = 1
    · rw [decide_eq_true (congrArg V.int (by omega))]
      refine wrongR (X := fun _ => True) (fun ds e hr => ?_) H s0
      have := hr.even
      rw [e, List.length_map] at e1
      omega
    rw [decide_eq_false (fun z => e1 (by have := V.int.inj z; omega))]
    -- whole numbers
    refine ⟨_, rfl, ta, rfl, ⟨_, sqT ht⟩, fun L nL => ?_⟩
    refine lc_tup (K := K) (a := ta) (xs := vs) (fun k H3 => Same H H3 ∧ ∃ c, H3 L = some (.lst ((List.replicate c (1 : Int)).map V.int)) ∧ c ≤ k ∧ (c = 0 ↔ ∀ j, j < k → ∃ d : Int, vs[j]? = some (.int d) ∧ 0 ≤ d ∧ d < p.length))
      ⟨same_new nL, 0, upd_same, Nat.le_refl _, ⟨fun _ j hj => absurd hj (Nat.not_lt_zero _), fun _ => rfl⟩⟩ (fun k H3 _ ⟨s3, _⟩ => sqT (s3 _ _ ht)) ?_ ?_
    · rintro k v H3 hk ⟨s3, c, eL, ck, hc⟩
      have kl := (List.getElem?_eq_some_iff.mp hk).1
      have ov := (ho v (List.mem_of_getElem? hk)).mono s3
      refine ⟨rfl, _, rfl, _, rfl, a, _, rfl, .inr (hp.mono s3).seq, _, _, rfl, rfl, v, 0, _, rfl, ov, _, rfl, ?_⟩
      rw [List.length_map]
      cases hin : inV v 0 (((p.length : Nat) : Int) - 1) with
      | true =>
        obtain ⟨d, rfl, d0, d1⟩ := inV_true hin
        refine ⟨s3, c, eL, by omega, hc.trans ⟨fun h j hj => ?_, fun h j hj => h j (by omega)⟩⟩
        by_cases ej : j = k
        · rw [ej]
          exact ⟨d, hk, d0, by omega⟩
        · exact h j (by omega)
      | false =>
        refine ⟨_, eL, ?_, same_mut s3 nL, c + 1, ?_, by omega, fun h => by omega, fun h => ?_⟩
        · rw [List.length_map, List.length_replicate]
          exact small_of (by omega)
        · rw [upd_same, List.replicate_succ', List.map_append]
          rfl
        · obtain ⟨d, hd, d0, d1⟩ := h k (by omega)
          rw [hk] at hd
          obtain rfl := Option.some.inj hd
          have e2 : inV (.int d) 0 (((p.length : Nat) : Int) - 1) = true := decide_eq_true (by omega)
          rw [hin] at e2
          cases e2
    rintro H3 ⟨s3, c, eL, ck, hc⟩
    refine ⟨Nat.zero_le _, fun M nM => ?_⟩
    have nML : M ≠ L := fun e => by rw [e, eL] at nM; cases nM
    refine ⟨.list ((List.replicate c (1 : Int)).map PyData.int), .list [], .lst (sqL (by rw [upd_ne nML.symm]; exact eL)) (dpAll_ints _), .lst (sqL (xs := []) upd_same) .nil, shaped_ints _, rfl, _, rfl, ?_⟩
    rw [eqv_nil]
    have s5 : Same H (upd H3 M (.lst [])) := s3.trans (same_new nM)
    cases c with
    | succ c =>
      refine wrongR (X := fun _ => True) (fun ds e hr => ?_) _ s5
      have := hc.mpr fun j hj => by
        rw [e, List.length_map] at hj
        obtain ⟨d, hd⟩ := at_some hj
        have := hr.rng d (List.mem_of_getElem? hd)
        exact ⟨d, by rw [e]; exact at_map hd, this⟩
      omega
    | zero =>
    have all := hc.mp rfl
    obtain ⟨ds, rfl⟩ := ints_of fun j hj => by
      obtain ⟨d, hd, _⟩ := all j hj
      exact ⟨_, hd⟩
    rw [right_ints, ring_iff] at q
    rw [List.length_map] at e0 e1 l1000 all
    have rng : ∀ d ∈ ds, 0 ≤ d ∧ d < p.length := fun d hd => by
      obtain ⟨j, hj⟩ := List.mem_iff_getElem?.mp hd
      obtain ⟨d', hd', h0, h1⟩ := all j (List.getElem?_eq_some_iff.mp hj).1
      rw [at_map hj] at hd'
      obtain rfl := V.int.inj (Option.some.inj hd')
      exact ⟨h0, h1⟩
    have hp2 := hp.mono s5
    have hb2 := hb.mono s5
    have ht2 := s5 _ _ ht
    clear wrongR all hc hp hb ht ho eL nML nM s3 nL ck s0
    generalize upd H3 M (.lst []) = Ha at hp2 hb2 ht2 s5
    clear H3 L M
    -- unlike ones
    refine ⟨_, rfl, ta, _, rfl, sqT ht2, fun L nL => ?_⟩
    refine lc_enumT (K := K) (a := ta) (xs := ds.map V.int) (fun k H3 => Same Ha H3 ∧ ∃ c, H3 L = some (.lst ((List.replicate c (1 : Int)).map V.int)) ∧ c ≤ k ∧ (c = 0 ↔ ∀ (i : Nat) (d : Int), i < k → ds[i]? = some d → d ∉ ds.take i))
      ⟨same_new nL, 0, upd_same, Nat.le_refl _, ⟨fun _ j d hj => absurd hj (Nat.not_lt_zero _), fun _ => rfl⟩⟩ (fun k H3 _ ⟨s3, _⟩ => sqT (s3 _ _ ht2)) ?_ ?_
    · rintro k v T1 H3 hk ⟨s3, c, eL, ck, hc⟩ hT
      obtain ⟨d, hd, rfl⟩ := map_at hk
      have kl := (List.getElem?_eq_some_iff.mp hd).1
      have s4 : Same H3 (upd H3 T1 (.tup [.int (k : Nat), .int d])) := same_new hT
      refine ⟨T1, _, rfl, .inl (.inl upd_same), rfl, _, _, rfl, _, [], rfl, rfl, ?_⟩
      have cutk : cutV (ds.map V.int) none (some ((k : Nat) : Int)) = (ds.take k).map V.int := by
        unfold cutV
        rw [HT.sIx_none, HT.sIx_nat, List.length_map, Nat.min_eq_left (by omega), List.drop_zero, Nat.sub_zero, List.map_take]
      refine ⟨rfl, _, rfl, _, rfl, _, rfl, _, rfl, ta, _, rfl, sqT (s4 _ _ (s3 _ _ ht2)), ?_, fun S nS => ?_⟩
      · rw [HT.sIx_none, HT.sIx_nat, List.length_map]
        omega
      rw [cutk]
      have s6 := s4.trans (same_new (o := .tup ((ds.take k).map V.int)) nS)
      refine ⟨S, _, rfl, .inr (sqT upd_same), rfl, flat_ints _, _, rfl, ?_⟩
      rw [show (if false = true then !L2.inV (V.int d) ((ds.take k).map V.int) else L2.inV (V.int d) ((ds.take k).map V.int)) = decide (d ∈ ds.take k) from inV_ints _ _]
      have eL6 := s6 _ _ eL
      have s36 := s3.trans s6
      by_cases hm : d ∈ ds.take k
      · rw [decide_eq_true hm]
        refine ⟨_, eL6, ?_, same_mut s36 nL, c + 1, ?_, by omega, fun h => by omega, fun h => absurd hm (h k d (by omega) hd)⟩
        · rw [List.length_map, List.length_replicate]
          exact small_of (by omega)
        · rw [upd_same, List.replicate_succ', List.map_append]
          rfl
      · rw [decide_eq_false hm]
        refine ⟨s36, c, eL6, by omega, hc.trans ⟨fun h i d' hi hd' => ?_, fun h i d' hi hd' => h i d' (by omega) hd'⟩⟩
        by_cases ei : i = k
        · subst ei
          rw [hd] at hd'
          obtain rfl := Option.some.inj hd'
          exact hm
        · exact h i d' (by omega) hd'
    rintro H3 ⟨s3, c, eL, ck, hc⟩
    rw [List.length_map] at hc ck
    refine ⟨Nat.zero_le _, fun M nM => ?_⟩
    have nML : M ≠ L := fun e => by rw [e, eL] at nM; cases nM
    refine ⟨.list ((List.replicate c (1 : Int)).map PyData.int), .list [], .lst (sqL (by rw [upd_ne nML.symm]; exact eL)) (dpAll_ints _), .lst (sqL (xs := []) upd_same) .nil, shaped_ints _, rfl, _, rfl, ?_⟩
    rw [eqv_nil]
    have s6 : Same Ha (upd H3 M (.lst [])) := s3.trans (same_new nM)
    cases c with
    | succ c =>
      refine q _ false (s5.trans s6) ⟨fun z => (by cases z), fun hr => ?_⟩
      have := hc.mpr fun i d _ hd => (nodup_take ds).mp hr.nodup i d hd
      omega
    | zero =>
    have nd : ds.Nodup := (nodup_take ds).mpr fun i d hd => hc.mp rfl i d (List.getElem?_eq_some_iff.mp hd).1 hd
    have hp3 := hp2.mono s6
    have hb3 := hb2.mono s6
    have ht3 := s6 _ _ ht2
    have s7 := s5.trans s6
    clear hc hp2 hb2 ht2 eL nML nM s3 nL ck s5 s6
    generalize upd H3 M (.lst []) = Hb at hp3 hb3 ht3 s7
    clear H3 L M Ha
    -- steps
    refine ⟨_, rfl, ta, _, rfl, sqT ht3, ?_⟩
    refine for_enumT (K := K) (a := ta) (xs := ds.map V.int) (fun i σ H1 => ∃ y3 y4 y5 y6, σ = [some (.ref a), some (.ref b), some (.ref ta), y3, y4, y5, y6, none] ∧ Same Hb H1 ∧
        ∀ n x y, n < i → ds[n]? = some x → ds[nx ds n]? = some y → bk (if n % 2 = 0 then p else r) x = bk (if n % 2 = 0 then p else r) y)
      ⟨none, none, none, none, rfl, Same.refl Hb, fun n x y hn => absurd hn (Nat.not_lt_zero _)⟩ (fun i σ H1 ⟨_, _, _, _, _, sm, _⟩ => sqT (sm _ _ ht3)) ?_ ?_
    · rintro i v T1 σ H1 hi ⟨y3, y4, y5, y6, rfl, sm, ok⟩ hT
      obtain ⟨d, hd, rfl⟩ := map_at hi
      have il := (List.getElem?_eq_some_iff.mp hd).1
      have dr := rng d (List.mem_of_getElem? hd)
      refine ⟨T1, _, rfl, .inl (.inl upd_same), rfl, _, _, rfl, _, [], rfl, rfl, ?_⟩
      have s4 : Same Hb (upd H1 T1 (.tup [.int (i : Nat), .int d])) := sm.trans (same_new hT)
      generalize upd H1 T1 (.tup [.int (i : Nat), .int d]) = H4 at s4
      obtain ⟨e, he⟩ : ∃ e, ds[nx ds i]? = some e := at_some (by unfold nx; split <;> omega)
      have er := rng e (List.mem_of_getElem? he)
      have ht4 := s4 _ _ ht3
      have hidx : ∀ k : Int, k = ((nx ds i : Nat) : Int) → atI (ds.map V.int) k = some (.int e) := fun k ek => atI_of (j := nx ds i) ek (at_map he)
      have rest : ∀ (pc : Addr) (qq : List Int), qq = (if i % 2 = 0 then p else r) → TI H4 pc qq → qq.length = p.length →
          ∃ v1, qq[d.toNat]? = some v1 ∧ ∃ v2, qq[e.toNat]? = some v2 ∧ bk qq d = v1 ∧ bk qq e = v2 := fun pc qq eq hq lq => by
        obtain ⟨v1, h1⟩ := at_some (xs := qq) (i := d.toNat) (by omega)
        obtain ⟨v2, h2⟩ := at_some (xs := qq) (i := e.toNat) (by omega)
        exact ⟨v1, h1, v2, h2, bk_at h1, bk_at h2⟩
      have fin : ∀ (pc : Addr) (qq : List Int) (y3 y4 y5 : Option V), qq = (if i % 2 = 0 then p else r) → TI H4 pc qq → qq.length = p.length → bk qq d = bk qq e → ∃ y3' y4' y5' y6',
          ([some (.ref a), some (.ref b), some (.ref ta), y3, y4, y5, some (.ref pc), none] : L2.St) = [some (.ref a), some (.ref b), some (.ref ta), y3', y4', y5', y6', none] ∧ Same Hb H4 ∧
          ∀ n x y, n < i + 1 → ds[n]? = some x → ds[nx ds n]? = some y → bk (if n % 2 = 0 then p else r) x = bk (if n % 2 = 0 then p else r) y := fun pc qq y3 y4 y5 eq hq lq hb => by
        refine ⟨_, _, _, _, rfl, s4, fun n x y hn hx hy => ?_⟩
        by_cases en : n = i
        · subst en
          rw [hd] at hx
          rw [he] at hy
          obtain rfl := Option.some.inj hx
          obtain rfl := Option.some.inj hy
          rw [← eq]
          exact hb
        · exact ok n x y (by omega) hx hy
      refine ⟨_, rfl, _, rfl, _, _, rfl, rfl, _, rfl, ta, _, rfl, .inr (sqT ht4), _, _, rfl, rfl, _, rfl, ?_⟩
      rw [List.length_map]
      by_cases hlt : i + 1 < ds.length
      · rw [decide_eq_true (by omega)]
        refine ⟨_, rfl, _, _, rfl, rfl, ta, _, _, .int e, rfl, rfl, sqT ht4, hidx _ (by unfold nx; rw [if_pos hlt]; omega), ?_⟩
        refine ⟨_, rfl, .inl ⟨_, rfl, _, 2, rfl, rfl, (show (2 : Int) ≠ 0 by decide), rfl, decide (V.int ((i % 2 : Nat) : Int) = V.int 0), by rw [← fmod2], ?_⟩⟩
        by_cases ev : i % 2 = 0
        · rw [decide_eq_true (congrArg V.int (by omega))]
          obtain ⟨v1, h1, v2, h2, b1, b2⟩ := rest a p (by rw [if_pos ev]) (hp3.mono s4) rfl
          refine ⟨_, rfl, _, rfl, _, rfl, a, _, _, .int v1, rfl, rfl, (hp3.mono s4).seq, atI_of (j := d.toNat) (by omega) (at_map h1), _, rfl, _, rfl, a, _, _, .int v2, rfl, rfl, (hp3.mono s4).seq, atI_of (j := e.toNat) (by omega) (at_map h2), rfl, _, rfl, ?_⟩
          by_cases eq : v1 = v2
          · rw [decide_eq_true (congrArg V.int eq)]
            exact fin a p _ _ _ (by rw [if_pos ev]) (hp3.mono s4) rfl (by rw [b1, b2, eq])
          · rw [decide_eq_false (fun z => eq (V.int.inj z))]
            refine q H4 false (s7.trans s4) ⟨fun z => (by cases z), fun hr => ?_⟩
            have := hr.step i d e hd he
            rw [if_pos ev, b1, b2] at this
            exact absurd this eq
        · rw [decide_eq_false (fun z => ev (by have := V.int.inj z; omega))]
          obtain ⟨v1, h1, v2, h2, b1, b2⟩ := rest b r (by rw [if_neg ev]) (hb3.mono s4) hl.symm
          refine ⟨_, rfl, _, rfl, _, rfl, b, _, _, .int v1, rfl, rfl, (hb3.mono s4).seq, atI_of (j := d.toNat) (by omega) (at_map h1), _, rfl, _, rfl, b, _, _, .int v2, rfl, rfl, (hb3.mono s4).seq, atI_of (j := e.toNat) (by omega) (at_map h2), rfl, _, rfl, ?_⟩
          by_cases eq : v1 = v2
          · rw [decide_eq_true (congrArg V.int eq)]
            exact fin b r _ _ _ (by rw [if_neg ev]) (hb3.mono s4) hl.symm (by rw [b1, b2, eq])
          · rw [decide_eq_false (fun z => eq (V.int.inj z))]
            refine q H4 false (s7.trans s4) ⟨fun z => (by cases z), fun hr => ?_⟩
            have := hr.step i d e hd he
            rw [if_neg ev, b1, b2] at this
            exact absurd this eq
      · rw [decide_eq_false (by omega)]
        refine ⟨ta, _, _, .int e, rfl, rfl, sqT ht4, hidx _ (by unfold nx; rw [if_neg hlt]; rfl), ?_⟩
        refine ⟨_, rfl, .inl ⟨_, rfl, _, 2, rfl, rfl, (show (2 : Int) ≠ 0 by decide), rfl, decide (V.int ((i % 2 : Nat) : Int) = V.int 0), by rw [← fmod2], ?_⟩⟩
        by_cases ev : i % 2 = 0
        · rw [decide_eq_true (congrArg V.int (by omega))]
          obtain ⟨v1, h1, v2, h2, b1, b2⟩ := rest a p (by rw [if_pos ev]) (hp3.mono s4) rfl
          refine ⟨_, rfl, _, rfl, _, rfl, a, _, _, .int v1, rfl, rfl, (hp3.mono s4).seq, atI_of (j := d.toNat) (by omega) (at_map h1), _, rfl, _, rfl, a, _, _, .int v2, rfl, rfl, (hp3.mono s4).seq, atI_of (j := e.toNat) (by omega) (at_map h2), rfl, _, rfl, ?_⟩
          by_cases eq : v1 = v2
          · rw [decide_eq_true (congrArg V.int eq)]
            exact fin a p _ _ _ (by rw [if_pos ev]) (hp3.mono s4) rfl (by rw [b1, b2, eq])
          · rw [decide_eq_false (fun z => eq (V.int.inj z))]
            refine q H4 false (s7.trans s4) ⟨fun z => (by cases z), fun hr => ?_⟩
            have := hr.step i d e hd he
            rw [if_pos ev, b1, b2] at this
            exact absurd this eq
        · rw [decide_eq_false (fun z => ev (by have := V.int.inj z; omega))]
          obtain ⟨v1, h1, v2, h2, b1, b2⟩ := rest b r (by rw [if_neg ev]) (hb3.mono s4) hl.symm
          refine ⟨_, rfl, _, rfl, _, rfl, b, _, _, .int v1, rfl, rfl, (hb3.mono s4).seq, atI_of (j := d.toNat) (by omega) (at_map h1), _, rfl, _, rfl, b, _, _, .int v2, rfl, rfl, (hb3.mono s4).seq, atI_of (j := e.toNat) (by omega) (at_map h2), rfl, _, rfl, ?_⟩
          by_cases eq : v1 = v2
          · rw [decide_eq_true (congrArg V.int eq)]
            exact fin b r _ _ _ (by rw [if_neg ev]) (hb3.mono s4) hl.symm (by rw [b1, b2, eq])
          · rw [decide_eq_false (fun z => eq (V.int.inj z))]
            refine q H4 false (s7.trans s4) ⟨fun z => (by cases z), fun hr => ?_⟩
            have := hr.step i d e hd he
            rw [if_neg ev, b1, b2] at this
            exact absurd this eq
    rintro σ H1 ⟨y3, y4, y5, y6, rfl, sm, ok⟩
    have step : ∀ n x y, ds[n]? = some x → ds[nx ds n]? = some y → bk (if n % 2 = 0 then p else r) x = bk (if n % 2 = 0 then p else r) y := fun n x y hx hy => ok n x y (by rw [List.length_map]; exact (List.getElem?_eq_some_iff.mp hx).1) hx hy
    have hp4 := hp3.mono sm
    have hb4 := hb3.mono sm
    have ht4 := sm _ _ ht3
    have s8 := s7.trans sm
    clear ok hp3 hb3 ht3 sm s7
    -- blocks of two
    refine ⟨_, rfl, _, rfl, by show 2 ≤ sizeLine; decide, fun B nB => ?_⟩
    have s9 : Same H1 (upd H1 B (.lst [.ref a, .ref b])) := same_new nB
    have eB : (upd H1 B (.lst [.ref a, .ref b])) B = some (.lst [.ref a, .ref b]) := upd_same
    have hp5 := hp4.mono s9
    have hb5 := hb4.mono s9
    have ht5 := s9 _ _ ht4
    have s10 := s8.trans s9
    clear hp4 hb4 ht4 s8 s9 nB
    generalize upd H1 B (.lst [.ref a, .ref b]) = Hc at eB hp5 hb5 ht5 s10
    refine ⟨B, rfl, ⟨_, sqL eB⟩, for_list (K := K) (a := B) (xs := [.ref a, .ref b]) (fun i σ H2 => ∃ y3 y4 y5 y6, σ = [some (.ref a), some (.ref b), some (.ref ta), y3, y4, y5, y6, none] ∧ Same Hc H2 ∧
        (0 < i → ∀ d ∈ ds, (ds.map (bk p)).count (bk p d) = 2) ∧ (1 < i → ∀ d ∈ ds, (ds.map (bk r)).count (bk r d) = 2))
      ⟨y3, y4, y5, y6, rfl, Same.refl Hc, fun h => absurd h (by decide), fun h => absurd h (by decide)⟩ (fun i σ H2 _ ⟨_, _, _, _, _, sm, _⟩ => sqL (sm _ _ eB)) ?_ ?_⟩
    · rintro i v σ H2 hi ⟨y3, y4, y5, y6, rfl, sm, c0, c1⟩
      obtain ⟨pc, qq, rfl, hq, lq, hqq⟩ : ∃ (pc : Addr) (qq : List Int), v = .ref pc ∧ TI H2 pc qq ∧ qq.length = p.length ∧ ((i = 0 ∧ qq = p) ∨ (i = 1 ∧ qq = r)) := by
        have il := (List.getElem?_eq_some_iff.mp hi).1
        match i, hi, il with
        | 0, hi, _ => exact ⟨a, p, (Option.some.inj hi).symm, hp5.mono sm, rfl, .inl ⟨rfl, rfl⟩⟩
        | 1, hi, _ => exact ⟨b, r, (Option.some.inj hi).symm, hb5.mono sm, hl.symm, .inr ⟨rfl, rfl⟩⟩
        | i + 2, _, il => exact absurd il (by show ¬ i + 2 < 2; omega)
      have ht6 := sm _ _ ht5
      refine ⟨_, rfl, ta, rfl, ⟨_, sqT ht6⟩, fun L nL => ?_⟩
      refine lc_tup (K := K) (a := ta) (xs := ds.map V.int) (fun k H3 => Same H2 H3 ∧ ∃ c, H3 L = some (.lst ((List.replicate c (1 : Int)).map V.int)) ∧ c ≤ k ∧ (c = 0 ↔ ∀ (j : Nat) (d : Int), j < k → ds[j]? = some d → (ds.map (bk qq)).count (bk qq d) = 2))
        ⟨same_new nL, 0, upd_same, Nat.le_refl _, ⟨fun _ j d hj => absurd hj (Nat.not_lt_zero _), fun _ => rfl⟩⟩ (fun k H3 _ ⟨s3, _⟩ => sqT (s3 _ _ ht6)) ?_ ?_
      · rintro k v H3 hk ⟨s3, c, eL, ck, hc⟩
        obtain ⟨d, hd, rfl⟩ := map_at hk
        have kl := (List.getElem?_eq_some_iff.mp hd).1
        have dr := rng d (List.mem_of_getElem? hd)
        have hdq := bk_some (p := qq) dr.1 (by omega)
        refine ⟨rfl, _, rfl, ta, rfl, ⟨_, sqT (s3 _ _ ht6)⟩, fun M nM => ?_⟩
        refine lc_tup (K := K) (a := ta) (xs := ds.map V.int) (fun j H4 => Same H3 H4 ∧ H4 M = some (.lst ((List.replicate (((ds.take j).map (bk qq)).count (bk qq d)) (1 : Int)).map V.int)))
          ⟨same_new nM, upd_same⟩ (fun j H4 _ ⟨s4, _⟩ => sqT (s4 _ _ (s3 _ _ ht6))) ?_ ?_
        · rintro j v H4 hj ⟨s4, eM⟩
          obtain ⟨e, he, rfl⟩ := map_at hj
          have jl := (List.getElem?_eq_some_iff.mp he).1
          have er := rng e (List.mem_of_getElem? he)
          have heq := bk_some (p := qq) er.1 (by omega)
          have hq4 := (hq.mono s3).mono s4
          refine ⟨rfl, _, rfl, _, rfl, pc, _, _, .int (bk qq e), rfl, rfl, hq4.seq, atI_of (j := e.toNat) (by omega) (at_map heq), _, rfl, _, rfl, pc, _, _, .int (bk qq d), rfl, rfl, hq4.seq, atI_of (j := d.toNat) (by omega) (at_map hdq), rfl, _, rfl, ?_⟩
          by_cases eb : bk qq e = bk qq d
          · rw [decide_eq_true (congrArg V.int eb)]
            refine ⟨_, eM, ?_, same_mut s4 nM, ?_⟩
            · have := List.count_le_length (a := bk qq d) (l := (ds.take j).map (bk qq))
              rw [List.length_map, List.length_take] at this
              rw [List.length_map, List.length_replicate]
              exact small_of (by omega)
            · rw [upd_same, take_snoc he, List.map_append, List.count_append]
              show _ = some (HO.lst ((List.replicate (_ + [bk qq e].count (bk qq d)) 1).map V.int))
              rw [eb, List.count_singleton_self, List.replicate_succ', List.map_append]
              rfl
          · rw [decide_eq_false (fun z => eb (V.int.inj z))]
            refine ⟨s4, ?_⟩
            rw [eM, take_snoc he, List.map_append, List.count_append]
            show _ = some (HO.lst ((List.replicate (_ + [bk qq e].count (bk qq d)) 1).map V.int))
            rw [show [bk qq e].count (bk qq d) = 0 from List.count_eq_zero_of_not_mem (by rw [List.mem_singleton]; exact fun z => eb z.symm), Nat.add_zero]
        rintro H4 ⟨s4, eM⟩
        rw [List.length_map, List.take_length] at eM
        have s34 := s3.trans s4
        have eL4 := s4 _ _ eL
        refine ⟨M, _, rfl, .inl (sqL eM), rfl, !decide (V.int (((ds.map (bk qq)).count (bk qq d) : Nat) : Int) = V.int 2), by rw [List.length_map, List.length_replicate], ?_⟩
        by_cases e2 : (ds.map (bk qq)).count (bk qq d) = 2
        · rw [decide_eq_true (congrArg V.int (by omega))]
          refine ⟨s34, c, eL4, by omega, hc.trans ⟨fun h j d' hj hd' => ?_, fun h j d' hj hd' => h j d' (by omega) hd'⟩⟩
          by_cases ej : j = k
          · subst ej
            rw [hd] at hd'
            obtain rfl := Option.some.inj hd'
            exact e2
          · exact h j d' (by omega) hd'
        · rw [decide_eq_false (fun z => e2 (by have := V.int.inj z; omega))]
          refine ⟨_, eL4, ?_, same_mut s34 nL, c + 1, ?_, by omega, fun h => by omega, fun h => absurd (h k d (by omega) hd) e2⟩
          · rw [List.length_map, List.length_replicate]
            exact small_of (by omega)
          · rw [upd_same, List.replicate_succ', List.map_append]
            rfl
      rintro H3 ⟨s3, c, eL, ck, hc⟩
      rw [List.length_map] at hc
      refine ⟨Nat.zero_le _, fun M nM => ?_⟩
      have nML : M ≠ L := fun e => by rw [e, eL] at nM; cases nM
      refine ⟨.list ((List.replicate c (1 : Int)).map PyData.int), .list [], .lst (sqL (by rw [upd_ne nML.symm]; exact eL)) (dpAll_ints _), .lst (sqL (xs := []) upd_same) .nil, shaped_ints _, rfl, _, rfl, ?_⟩
      rw [eqv_nil]
      have s4 : Same H2 (upd H3 M (.lst [])) := s3.trans (same_new nM)
      cases c with
      | succ c =>
        refine q _ false (s10.trans (sm.trans s4)) ⟨fun z => (by cases z), fun hr => ?_⟩
        have := hc.mpr fun j d _ hd => by
          have hm := List.mem_of_getElem? hd
          rcases hqq with ⟨_, rfl⟩ | ⟨_, rfl⟩
          · exact hr.low d hm
          · exact hr.high d hm
        omega
      | zero =>
        have cc : ∀ d ∈ ds, (ds.map (bk qq)).count (bk qq d) = 2 := fun d hd => by
          obtain ⟨j, hj⟩ := List.mem_iff_getElem?.mp hd
          exact hc.mp rfl j d (List.getElem?_eq_some_iff.mp hj).1 hj
        refine ⟨_, _, _, _, rfl, sm.trans s4, fun _ => ?_, fun h1 => ?_⟩
        · rcases hqq with ⟨_, rfl⟩ | ⟨e1, _⟩
          · exact cc
          · exact c0 (by omega)
        · rcases hqq with ⟨e1, _⟩ | ⟨_, rfl⟩
          · omega
          · exact cc
    · rintro σ H2 ⟨y3, y4, y5, y6, rfl, sm, c0, c1⟩
      refine q H2 true (s10.trans sm) ⟨fun _ => ?_, fun _ => rfl⟩
      exact ⟨by omega, by omega, rng, nd, step, c0 (by show 0 < 2; decide), c1 (by show 1 < 2; decide)⟩
end
end KQ
namespace KR
open PySem PySem.Spec PyProof.Rows L2 KM KQ
section
variable {X : Cx} {K : PySem.W.Frag}
/-- t[lo:hi], t + u, empty ones and whole ones too: a tuple with these items -/
def rSlF : V → Option Int → Option Int → Hp → VK → Prop := fun x lo hi H Q => ∃ a xs, x = .ref a ∧ H a = some (.tup xs) ∧ ∀ H' p, Same H H' → H' p = some (.tup (cutV xs lo hi)) → Q (.ref p) H'
def rCatF : R2 := fun x y H Q => ∃ a b xs ys, x = .ref a ∧ y = .ref b ∧ H a = some (.tup xs) ∧ H b = some (.tup ys) ∧ xs.length + ys.length ≤ 100000 ∧ ∀ H' p, Same H H' → H' p = some (.tup (xs ++ ys)) → Q (.ref p) H'
theorem k_slA (_hK : X.K = K) : SlR X rSlF := by
  intro pins s σ H x v vl vu lo hi sl Q I rx hs pl pu h
  obtain ⟨a, xs, rfl, hx, k⟩ := h
  refine sl_tupA pins s σ H _ v vl vu lo hi sl Q I rx hs pl pu ⟨a, xs, rfl, sqT hx, fun hw => k H a (Same.refl H) ?_, fun _ p np => k _ p (same_new np) upd_same⟩
  unfold cutV
  rw [hw.1, hw.2, List.drop_zero, Nat.sub_zero, List.take_length]
  exact hx
theorem k_catA (_hK : X.K = K) : OpR X (binaryOp .Add) rCatF := by
  intro pins s σ H x y v u Q I rx ry h
  obtain ⟨a, b, xs, ys, rfl, rfl, hx, hy, hl, k⟩ := h
  refine op_catA pins s σ H _ _ v u Q I rx ry ⟨a, b, xs, ys, rfl, rfl, sqT hx, sqT hy, Nat.le_of_lt (small_of hl), fun e => ?_, fun _ e => ?_, fun _ _ p np => k _ p (same_new np) upd_same⟩
  · subst e
    exact k H b (Same.refl H) (by rw [List.nil_append]; exact hy)
  · subst e
    exact k H a (Same.refl H) (by rw [List.append_nil]; exact hx)
end
theorem cut_sub {xs : List V} {lo hi : Option Int} {v : V} (h : v ∈ cutV xs lo hi) : v ∈ xs := by
  unfold cutV at h
  exact List.mem_of_mem_drop (List.mem_of_mem_take h)
/-! ### things that stay where S is changed -/
def refsOut (S : List Addr) (v : V) : Prop := ∀ x, v = .ref x → x ∉ S
def KeptS (H H' : Hp) (S : List Addr) : Prop := ∀ a u, H a = some u → a ∉ S → H' a = some u
def Good (H : Hp) (S : List Addr) (v : V) : Prop := ∃ o, Thing H v o ∧ refsOut S v ∧ ∀ vs, o = some vs → ∀ u ∈ vs, refsOut S u
theorem odd_kept {H H' : Hp} {S : List Addr} {v : V} (k : KeptS H H' S) (r : refsOut S v) (o : OddV H v) : OddV H' v := by
  cases o with
  | int i => exact .int i
  | bl b => exact .bl b
  | non => exact .non
  | str x => exact .str x
  | lst h => exact .lst (k _ _ h (r _ rfl))
  | dK h => exact .dK (k _ _ h (r _ rfl))
  | tup h => exact .tup (k _ _ h (r _ rfl))
theorem Good.kept {H H' : Hp} {S : List Addr} {v : V} (g : Good H S v) (k : KeptS H H' S) : Good H' S v := by
  obtain ⟨o, t, r, ri⟩ := g
  refine ⟨o, ?_, r, ri⟩
  cases t with
  | tup h oo l => exact .tup (k _ _ h (r _ rfl)) (fun v hv => odd_kept k (ri _ rfl v hv) (oo v hv)) l
  | non => exact .non
  | int i => exact .int i
  | lst h => exact .lst (k _ _ h (r _ rfl))
theorem Good.same {H H' : Hp} {S : List Addr} {v : V} (g : Good H S v) (k : Same H H') : Good H' S v := g.kept fun a u h _ => k a u h
theorem Good.sub {H : Hp} {S S' : List Addr} {v : V} (g : Good H S v) (h : ∀ x ∈ S', x ∈ S) : Good H S' v := by
  obtain ⟨o, t, r, ri⟩ := g
  exact ⟨o, t, fun x e hx => r x e (h x hx), fun vs e u hu x e' hx => ri vs e u hu x e' (h x hx)⟩
theorem odd_live {H : Hp} {x : Addr} (o : OddV H (.ref x)) : H x ≠ none := by
  cases o with
  | lst h => rw [h]; exact fun e => by cases e
  | dK h => rw [h]; exact fun e => by cases e
  | tup h => rw [h]; exact fun e => by cases e
theorem Good.new {H : Hp} {S : List Addr} {v : V} {l : Addr} (g : Good H S v) (n : H l = none) : Good H (l :: S) v := by
  obtain ⟨o, t, r, ri⟩ := g
  refine ⟨o, t, fun x e hx => ?_, fun vs e u hu x e' hx => ?_⟩
  · rcases List.mem_cons.mp hx with q | q
    · subst e q
      cases t with
      | tup h _ _ => rw [n] at h; cases h
      | lst h => rw [n] at h; cases h
    · exact r x e q
  · rcases List.mem_cons.mp hx with q | q
    · subst e' q e
      cases t with
      | tup h oo _ => exact odd_live (oo _ hu) n
    · exact ri vs e u hu x e' q
theorem good_tup {H : Hp} {S : List Addr} {a : Addr} {vs : List V} (h : H a = some (.tup vs)) (ns : a ∉ S) (o : ∀ v ∈ vs, OddV H v ∧ refsOut S v) (l : vs.length ≤ 1000) : Good H S (.ref a) :=
  ⟨some vs, .tup h (fun v hv => (o v hv).1) l, fun x e => by cases e; exact ns, fun ws e u hu => by cases e; exact (o u hu).2⟩
theorem good_lst {H : Hp} {S : List Addr} {a : Addr} {xs : List V} (h : H a = some (.lst xs)) (ns : a ∉ S) : Good H S (.ref a) :=
  ⟨none, .lst h, fun x e => by cases e; exact ns, fun ws e => by cases e⟩
theorem good_non {H : Hp} {S : List Addr} : Good H S .non := ⟨none, .non, fun x e => (by cases e), fun ws e => by cases e⟩
theorem good_int {H : Hp} {S : List Addr} {i : Int} : Good H S (.int i) := ⟨none, .int i, fun x e => (by cases e), fun ws e => by cases e⟩
theorem odd_ints {H : Hp} {S : List Addr} {vs : List V} {xs : List Int} (h : ∀ v ∈ vs, v ∈ xs.map V.int) : ∀ v ∈ vs, OddV H v ∧ refsOut S v := fun v hv => by
  obtain ⟨i, _, rfl⟩ := List.mem_map.mp (h v hv)
  exact ⟨.int i, fun x e => by cases e⟩
end KR
namespace KQ
open PySem PySem.Spec PyProof.Rows L2 KR KM StX
section
variable {P : Program} {w : World} {K : PySem.W.Frag} {mg : Str → Option Value} {base : Heap}
def spOfA : Sp := fun vs H Q _ => ∃ (m c g : Addr) (b : Int) (l : Addr) (xs : List V), vs = [.ref m, .ref l] ∧ MS H m c g b ∧ b ≤ 1000000 ∧ H l = some (.lst xs) ∧ l ≠ g ∧ xs ≠ [] ∧ xs.length ≤ 1000000 ∧
  ∀ H' x, Kept H H' m g → MS H' m c g (b + 1) → x ∈ xs → Q x H'
theorem ok_ofA (D : DefAt K mg "_law_of" s__law_of) (T : Bt mg) (u__law_draw : Use P w K mg base "_law_draw" 2 ["m", "limit"] spDraw) : Use P w K mg base "_law_of" 3 ["m", "some"] spOfA := by
  refine use_of D (fun f fd F => F.ok sc__law_of (fun vs H Q E h => ?_) (fun cdv A outer s H vs Q E hr h => ?_)) (fun _ _ _ _ _ _ us hl => match us, hl with | [_, _], _ => rfl)
  · obtain ⟨m, c, g, b, l, xs, rfl, _⟩ := h
    rfl
  · obtain ⟨m, c, g, b, l, xs, rfl, ms, hb, el, lg, ne, hle, q⟩ := h
    refine ⟨_, (pss_one (ps_ret (pe_ix (k_ixl (K := K) rfl) (pv 1) (pe_use u__law_draw (by decide) hr (by rfl) (pa_cons (pv 0) (pa_cons (pe_callB (k_len (K := K) rfl) (by rfl) T.len PySem.boot_len (pa_cons (pv 1) pa_nil)) pa_nil))) (fun _ _ => rfl)))), ?_⟩
    have lm : l ≠ m := by
      obtain ⟨cs, gs, k, h1, h2, h3, r⟩ := ms
      intro e
      rw [e, h1] at el
      cases el
    have pos := List.length_pos_iff.mpr ne
    refine ⟨_, rfl, _, rfl, _, rfl, l, _, rfl, .inl (sqL el), m, c, g, b, _, rfl, ms, hb, by omega, by omega, fun H1 d k1 ms1 d0 d1 => ?_⟩
    obtain ⟨x, hx⟩ := at_some (xs := xs) (i := d.toNat) (by omega)
    exact ⟨l, _, d, x, rfl, rfl, sqL (k1 _ _ el lm lg), atI_of (j := d.toNat) (by omega) hx, q H1 x k1 ms1 (List.mem_of_getElem? hx)⟩
abbrev s__law_bent : Stmt := topS 47
theorem sc__law_bent : FnScope ["m", "row", "many", "told", "spot"] ["m", "row", "many"] (defScope s__law_bent) := ⟨rfl, rfl, rfl, by decide +kernel, rfl, by decide +kernel, by decide +kernel⟩
def spBent : Sp := fun vs H Q _ => ∃ (m c g : Addr) (b : Int) (a : Addr) (rs : List Int) (many : Int), vs = [.ref m, .ref a, .int many] ∧ MS H m c g b ∧ b ≤ 90000 ∧ TI H a rs ∧ rs.length ≤ 60 ∧ 1 ≤ many ∧ many ≤ 60 ∧
  ∀ H' l (ws : List V), Kept H H' m g → MS H' m c g (b + 100) → H' l = some (.lst ws) → l ≠ m → l ≠ g → ws.length ≤ 100 → (∀ v ∈ ws, Good H' [m, g] v) → Q (.ref l) H'
/-- told as it is being made -/
structure Tld (H : Hp) (m c g a : Addr) (rs : List Int) (B : Int) (n : Nat) (H' : Hp) (l : Addr) : Prop where
  kept : Kept H H' m g
  ms : MS H' m c g B
  row : TI H' a rs
  ex : ∃ ws : List V, H' l = some (.lst ws) ∧ ws.length ≤ n ∧ ∀ v ∈ ws, Good H' [l, m, g] v
  new : H l = none
  lm : l ≠ m
  lc : l ≠ c
  lg : l ≠ g
theorem Tld.put {H H' : Hp} {m c g a : Addr} {rs : List Int} {B : Int} {l : Addr} {n : Nat} {ws : List V} (hk : Kept H H' m g) (ms : MS H' m c g B) (row : TI H' a rs) (e : H' l = some (.lst ws)) (ln : ws.length ≤ n)
    (gd : ∀ v ∈ ws, Good H' [l, m, g] v) (nw : H l = none) (lm : l ≠ m) (lc : l ≠ c) (lg : l ≠ g) {v : V} (hv : Good H' [l, m, g] v) :
    Tld H m c g a rs B (n + 1) (upd H' l (.lst (ws ++ [v]))) l := by
  have kk : KeptS H' (upd H' l (.lst (ws ++ [v]))) [l, m, g] := fun x u hx hn => by
    rw [upd_ne (fun z => hn (by rw [z]; exact List.mem_cons_self))]
    exact hx
  have la : a ≠ l := fun z => by
    have : H' a = _ := row
    rw [z, e] at this
    cases this
  refine ⟨kept_mut hk nw, ms.put lm lc lg, ?_, ⟨ws ++ [v], upd_same, by rw [List.length_append]; show ws.length + 1 ≤ n + 1; omega, fun u hu => ?_⟩, nw, lm, lc, lg⟩
  · show upd H' l _ a = _
    rw [upd_ne la]
    exact row
  · rcases List.mem_append.mp hu with hu | hu
    · exact (gd u hu).kept kk
    · rw [List.mem_singleton.mp hu]
      exact hv.kept kk
theorem Kept.s {H H' : Hp} {m g : Addr} (k : Kept H H' m g) : KeptS H H' [m, g] := fun a u h n => k a u h (fun z => n (by rw [z]; simp)) (fun z => n (by rw [z]; simp))
theorem Kept.s3 {H H' : Hp} {l m g : Addr} (k : Kept H H' m g) : KeptS H H' [l, m, g] := fun a u h n => k a u h (fun z => n (by rw [z]; simp)) (fun z => n (by rw [z]; simp))
theorem ms_tup {H : Hp} {m c g : Addr} {b : Int} (ms : MS H m c g b) {a : Addr} {vs : List V} (h : H a = some (.tup vs)) : a ∉ [m, g] := by
  obtain ⟨cs, gs, k, h1, h2, h3, r⟩ := ms
  intro hm
  rcases List.mem_cons.mp hm with z | z
  · rw [z, h1] at h
    cases h
  · rw [List.mem_singleton.mp z, h3] at h
    cases h
theorem ms_tup3 {H : Hp} {m c g l : Addr} {b : Int} (ms : MS H m c g b) {a : Addr} {vs ws : List V} (hl : H l = some (.lst ws)) (h : H a = some (.tup vs)) : a ∉ [l, m, g] := by
  intro hm
  rcases List.mem_cons.mp hm with z | z
  · rw [z, hl] at h
    cases h
  · exact ms_tup ms h z
theorem ms_new3 {H : Hp} {m c g l : Addr} {b : Int} (ms : MS H m c g b) {a : Addr} {ws : List V} (hl : H l = some (.lst ws)) (h : H a = none) : a ∉ [l, m, g] := by
  have n := ms.ne h
  intro hm
  rcases List.mem_cons.mp hm with z | z
  · rw [z, hl] at h
    cases h
  · rcases List.mem_cons.mp z with z | z
    · exact n.1 z
    · exact n.2.2 (List.mem_singleton.mp z)
theorem shaped_intsT (ns : List Int) : SeqAt.shaped (.tuple (ns.map .int)) = true := by
  unfold SeqAt.shaped
  simp only [PyData.canLay0, lay0, PyData.depth, depth0]
  rfl
theorem eqv_nilT (ns : List Int) : (!PyData.eqv (.tuple (ns.map .int)) (.tuple [])) = !ns.isEmpty := by
  cases ns <;> rfl
theorem ok_bent (D : DefAt K mg "_law_bent" s__law_bent) (T : Bt mg) (u__law_draw : Use P w K mg base "_law_draw" 2 ["m", "limit"] spDraw) (u__law_ofA : Use P w K mg base "_law_of" 3 ["m", "some"] spOfA)
    (u__law_order : Use P w K mg base "_law_order" 3 ["m", "many"] spOrder) : Use P w K mg base "_law_bent" 4 ["m", "row", "many"] spBent := by
  refine use_of D (fun f fd F => F.ok sc__law_bent (fun vs H Q E h => ?_) (fun cdv A outer s H vs Q E hr h => ?_)) (fun _ _ _ _ _ _ us hl => match us, hl with | [_, _, _], _ => rfl)
  · obtain ⟨m, c, g, b, a, rs, many, rfl, _⟩ := h
    rfl
  · obtain ⟨m, c, g, b, a, rs, many, rfl, ms, hb, hr0, l60, many1, many2, q⟩ := h
    refine ⟨_, (pss_cons (ps_set (i := 3) sc__law_bent.nd rfl (Or.inl rfl) (pe_lst (pa_cons (pv 1) (pa_cons (pe_op (k_catA (K := K) rfl) (pe_slice (k_slA (K := K) rfl) (pv 1) (po_some pe_int) po_none) (pe_slice (k_slA (K := K) rfl) (pv 1) po_none (po_some pe_int))) (pa_cons (pe_op (k_catA (K := K) rfl) (pe_slice (k_slA (K := K) rfl) (pv 1) (po_some pe_int) po_none) (pe_slice (k_slA (K := K) rfl) (pv 1) po_none (po_some pe_int))) (pa_cons (pe_revT (K := K) rfl (pv 1)) (pa_cons (pe_op (k_catA (K := K) rfl) (pv 1) (pv 1)) (pa_cons (pe_slice (k_slA (K := K) rfl) (pv 1) po_none (po_some (pe_un un_neg pe_int))) (pa_cons (pe_slice (k_slA (K := K) rfl) (pv 1) (po_some pe_int) (po_some (pe_un un_neg pe_int))) (pa_cons (pe_callTy (k_listOf (K := K) rfl) (by rfl) T.list (by decide +kernel) (pa_cons (pv 1) pa_nil)) (pa_cons (pe_tup pa_nil) (pa_cons pe_non (pa_cons pe_int pa_nil)))))))))))))
      (pss_cons (ps_if (pt_cmpR (k_neD (K := K) rfl hr.units) (pv 1) (pe_tup pa_nil) (nomark _)) (pss_cons (ps_set (i := 4) sc__law_bent.nd rfl (Or.inl rfl) (pe_use u__law_draw (by decide) hr (by rfl) (pa_cons (pv 0) (pa_cons (pe_callB (k_len (K := K) rfl) (by rfl) T.len PySem.boot_len (pa_cons (pv 1) pa_nil)) pa_nil))))
      (pss_cons (ps_expr (k_bm (K := K) rfl PySem.F.plainAttrs_list PySem.F.slot_list_append PySem.F.type_list_append mt_append (pv 3) (pa_cons (pe_op (k_catA (K := K) rfl) (pe_op (k_catA (K := K) rfl) (pe_slice (k_slA (K := K) rfl) (pv 1) po_none (po_some (pv 4))) (pe_tup (pa_cons (pe_use u__law_draw (by decide) hr (by rfl) (pa_cons (pv 0) (pa_cons (pv 2) pa_nil))) pa_nil))) (pe_slice (k_slA (K := K) rfl) (pv 1) (po_some (pe_op op_add (pv 4) pe_int)) po_none)) pa_nil)))
      (pss_one (ps_expr (k_bm (K := K) rfl PySem.F.plainAttrs_list PySem.F.slot_list_append PySem.F.type_list_append mt_append (pv 3) (pa_cons (pe_op (k_catA (K := K) rfl) (pe_op (k_catA (K := K) rfl) (pe_slice (k_slA (K := K) rfl) (pv 1) po_none (po_some (pv 4))) (pe_tup (pa_cons (pe_use u__law_ofA (by decide) hr (by rfl) (pa_cons (pv 0) (pa_cons (pe_lst (pa_cons pe_bl (pa_cons pe_non (pa_cons (pe_un un_neg pe_int) (pa_cons (pv 2) (pa_cons pe_str (pa_cons (pe_lst (pa_cons pe_int pa_nil)) (pa_cons pe_dnewK pa_nil)))))))) pa_nil))) pa_nil))) (pe_slice (k_slA (K := K) rfl) (pv 1) (po_some (pe_op op_add (pv 4) pe_int)) po_none)) pa_nil)))))) pss_nil)
      (pss_cons (ps_expr (k_bm (K := K) rfl PySem.F.plainAttrs_list PySem.F.slot_list_append PySem.F.type_list_append mt_append (pv 3) (pa_cons (pe_tup (pa_cons (pe_use u__law_draw (by decide) hr (by rfl) (pa_cons (pv 0) (pa_cons (pv 2) pa_nil))) (pa_cons (pe_use u__law_draw (by decide) hr (by rfl) (pa_cons (pv 0) (pa_cons (pv 2) pa_nil))) pa_nil))) pa_nil)))
      (pss_cons (ps_expr (k_bm (K := K) rfl PySem.F.plainAttrs_list PySem.F.slot_list_append PySem.F.type_list_append mt_append (pv 3) (pa_cons (pe_callTy (k_tupOf (K := K) rfl) (by rfl) T.tuple (by decide +kernel) (pa_cons (pe_slice (k_sll (K := K) rfl) (pe_use u__law_order (by decide) hr (by rfl) (pa_cons (pv 0) (pa_cons (pv 2) pa_nil))) po_none (po_some (pe_op op_mulW pe_int (pe_op op_add pe_int (pe_use u__law_draw (by decide) hr (by rfl) (pa_cons (pv 0) (pa_cons pe_int pa_nil))))))) pa_nil)) pa_nil)))
      (pss_one (ps_ret (pv 3))))))), ?_⟩
    have e30 : (2 : Int) ^ 30 = 1073741824 := by decide
    have gi : ∀ {Hx : Hp} {bx : Int} {ax : Addr} {vx : List V}, MS Hx m c g bx → Hx ax = some (.tup vx) → (∀ v ∈ vx, v ∈ rs.map V.int) → vx.length ≤ 1000 → Good Hx [m, g] (.ref ax) := fun mx ex hx lx => good_tup ex (ms_tup mx ex) (odd_ints hx) lx
    have lr : (rs.map V.int).length ≤ 60 := by rw [List.length_map]; exact l60
    have cl : ∀ lo hi, (cutV (rs.map V.int) lo hi).length ≤ 60 := fun lo hi => Nat.le_trans (cutV_length _ _ _) lr
    have G0 : Good H [m, g] (.ref a) := gi ms hr0 (fun v h => h) (by omega)
    refine ⟨_, rfl, _, rfl, 2, rfl, a, _, rfl, hr0, fun H1 p1 s1 e1 => ?_⟩
    refine ⟨_, rfl, 2, rfl, a, _, rfl, s1 _ _ hr0, fun H2 p2 s2 e2 => ?_⟩
    refine ⟨p1, p2, _, _, rfl, rfl, s2 _ _ e1, e2, (by have := cl (some 2) none; have := cl none (some 2); omega), fun H3 p3 s3 e3 => ?_⟩
    have t3 := (s1.trans s2).trans s3
    have G1 : Good H3 [m, g] (.ref p3) := gi (ms.mono t3) e3 (fun v h => by rcases List.mem_append.mp h with h | h <;> exact cut_sub h) (by rw [List.length_append]; have := cl (some 2) none; have := cl none (some 2); omega)
    clear s1 s2 s3 e1 e2 e3
    refine ⟨_, rfl, 1, rfl, a, _, rfl, t3 _ _ hr0, fun H4 p4 s4 e4 => ?_⟩
    refine ⟨_, rfl, 1, rfl, a, _, rfl, s4 _ _ (t3 _ _ hr0), fun H5 p5 s5 e5 => ?_⟩
    refine ⟨p4, p5, _, _, rfl, rfl, s5 _ _ e4, e5, (by have := cl (some 1) none; have := cl none (some 1); omega), fun H6 p6 s6 e6 => ?_⟩
    have u6 := (s4.trans s5).trans s6
    have t6 := t3.trans u6
    have G1' := G1.same u6
    have G2 : Good H6 [m, g] (.ref p6) := gi (ms.mono t6) e6 (fun v h => by rcases List.mem_append.mp h with h | h <;> exact cut_sub h) (by rw [List.length_append]; have := cl (some 1) none; have := cl none (some 1); omega)
    clear s4 s5 s6 e4 e5 e6 u6 G1 t3
    refine ⟨_, rfl, a, _, rfl, sqT (t6 _ _ hr0), fun p7 np7 => ?_⟩
    have s7 : Same H6 (upd H6 p7 (.tup (rs.map V.int).reverse)) := same_new np7
    have e7 : (upd H6 p7 (.tup (rs.map V.int).reverse)) p7 = some (.tup (rs.map V.int).reverse) := upd_same
    generalize upd H6 p7 (.tup (rs.map V.int).reverse) = H7 at s7 e7
    have t7 := t6.trans s7
    have G3 : Good H7 [m, g] (.ref p7) := gi (ms.mono t7) e7 (fun v h => List.mem_reverse.mp h) (by rw [List.length_reverse]; omega)
    refine ⟨_, rfl, _, rfl, a, a, _, _, rfl, rfl, t7 _ _ hr0, t7 _ _ hr0, (by omega), fun H8 p8 s8 e8 => ?_⟩
    have t8 := t7.trans s8
    have G4 : Good H8 [m, g] (.ref p8) := gi (ms.mono t8) e8 (fun v h => by rcases List.mem_append.mp h with h | h <;> exact h) (by rw [List.length_append]; omega)
    refine ⟨_, rfl, 1, rfl, -1, rfl, a, _, rfl, t8 _ _ hr0, fun H9 p9 s9 e9 => ?_⟩
    have t9 := t8.trans s9
    have G5 : Good H9 [m, g] (.ref p9) := gi (ms.mono t9) e9 (fun v h => cut_sub h) (by have := cl none (some (-1)); omega)
    refine ⟨_, rfl, 1, rfl, 1, rfl, -1, rfl, a, _, rfl, t9 _ _ hr0, fun Ha pa sa ea => ?_⟩
    have ta := t9.trans sa
    have G6 : Good Ha [m, g] (.ref pa) := gi (ms.mono ta) ea (fun v h => cut_sub h) (by have := cl (some 1) (some (-1)); omega)
    refine ⟨_, rfl, a, _, rfl, .inr (sqT (ta _ _ hr0)), fun pb npb => ?_⟩
    have sb : Same Ha (upd Ha pb (.lst (rs.map V.int))) := same_new npb
    have eb : (upd Ha pb (.lst (rs.map V.int))) pb = some (.lst (rs.map V.int)) := upd_same
    have nb' := (ms.mono ta).ne npb
    generalize upd Ha pb (.lst (rs.map V.int)) = Hb at sb eb
    have tb := ta.trans sb
    have G7 : Good Hb [m, g] (.ref pb) := good_lst eb (fun h => by
      rcases List.mem_cons.mp h with z | z
      · exact nb'.1 z
      · exact nb'.2.2 (List.mem_singleton.mp z))
    refine ⟨by show 0 ≤ sizeLine; decide, fun pc npc => ?_⟩
    have sc : Same Hb (upd Hb pc (.tup [])) := same_new npc
    have ec : (upd Hb pc (.tup [])) pc = some (.tup []) := upd_same
    generalize upd Hb pc (.tup []) = Hc at sc ec
    have tc := tb.trans sc
    have G8 : Good Hc [m, g] (.ref pc) := gi (ms.mono tc) ec (fun v h => absurd h (by simp)) (by simp)
    refine ⟨by show 11 ≤ sizeLine; decide, fun L nL => ?_⟩
    have Ln := (ms.mono tc).ne nL
    have sL := same_new (H := Hc) (p := L) (o := .lst [.ref a, .ref p3, .ref p6, .ref p7, .ref p8, .ref p9, .ref pa, .ref pb, .ref pc, .non, .int 3]) nL
    have x7c := ((s8.trans s9).trans sa).trans (sb.trans sc)
    have x6c := s7.trans x7c
    have I0 := G0.same tc
    have I1 := G1'.same x6c
    have I2 := G2.same x6c
    have I3 := G3.same x7c
    have I4 := G4.same ((s9.trans sa).trans (sb.trans sc))
    have I5 := G5.same (sa.trans (sb.trans sc))
    have I6 := G6.same (sb.trans sc)
    have I7 := G7.same sc
    have t0 : Tld H m c g a rs (b + 0) 11 (upd Hc L (.lst [.ref a, .ref p3, .ref p6, .ref p7, .ref p8, .ref p9, .ref pa, .ref pb, .ref pc, .non, .int 3])) L := by
      refine ⟨Kept.of (tc.trans sL), (ms.mono (tc.trans sL)).le (by omega), (tc.trans sL) _ _ hr0, ⟨_, upd_same, Nat.le_refl _, fun v hv => ?_⟩, tc.free nL, Ln.1, Ln.2.1, Ln.2.2⟩
      refine Good.same (H := Hc) ?_ sL
      refine Good.new ?_ nL
      simp only [List.mem_cons, List.mem_nil_iff, or_false] at hv
      rcases hv with rfl | rfl | rfl | rfl | rfl | rfl | rfl | rfl | rfl | rfl | rfl
      · exact I0
      · exact I1
      · exact I2
      · exact I3
      · exact I4
      · exact I5
      · exact I6
      · exact I7
      · exact G8
      · exact good_non
      · exact good_int
    clear I0 I1 I2 I3 I4 I5 I6 I7 G8 G7 G6 G5 G4 G3 G2 G1' G0 x7c x6c sL Ln tc sc ec tb sb eb nb' ta sa ea t9 s9 e9 t8 s8 e8 t7 s7 e7 t6 nL
    generalize upd Hc L (.lst [.ref a, .ref p3, .ref p6, .ref p7, .ref p8, .ref p9, .ref pa, .ref pb, .ref pc, .non, .int 3]) = Hd at t0
    clear ms
    -- one of the things spoilt
    obtain ⟨hk, ms, hr, ⟨ws, eL, lw, gd⟩, nLH, lm, lc, lg⟩ := id t0
    refine ⟨_, rfl, by show 0 ≤ sizeLine; decide, fun z nz => ?_⟩
    have sz : Same Hd (upd Hd z (.tup [])) := same_new nz
    refine ⟨.tuple (rs.map PyData.int), .tuple [], .tup (sqT (sz _ _ hr)) (dpAll_ints _), .tup (sqT (xs := []) upd_same) .nil, shaped_intsT _, rfl, _, rfl, ?_⟩
    rw [eqv_nilT]
    have eLz := sz _ _ eL
    have gz : ∀ v ∈ ws, Good (upd Hd z (.tup [])) [L, m, g] v := fun v hv => (gd v hv).same sz
    have msz := ms.mono sz
    have hrz := hr.mono sz
    have hkz := hk.trans (Kept.of sz)
    clear t0 gd eL ms hr hk
    generalize upd Hd z (.tup []) = He at eLz gz msz hrz hkz
    clear sz nz
    refine ifs_fact2 (b := !rs.isEmpty) (fun σ' H' => ∃ y4, σ' = [some (.ref m), some (.ref a), some (.int many), some (.ref L), y4] ∧ Tld H m c g a rs (b + 5) 13 H' L)
      ?_ (fun _ D kD => kD _ _ ⟨none, rfl, hkz, msz.le (by omega), hrz, ⟨ws, eLz, by omega, gz⟩, nLH, lm, lc, lg⟩) ?_
    · intro hne D kD
      have hpos : 0 < rs.length := by
        cases rs with
        | nil => cases hne
        | cons => simp
      refine ⟨_, rfl, _, rfl, a, _, rfl, .inr hrz.seq, m, c, g, _, _, rfl, msz, by omega, by rw [List.length_map]; omega, by rw [List.length_map]; omega, fun Hf sp kf msf d0 d1 => ?_⟩
      rw [List.length_map] at d1
      have hrf := kf.ti msz hrz
      have gf : ∀ v ∈ ws, Good Hf [L, m, g] v := fun v hv => (gz v hv).kept kf.s3
      have eLf := kf _ _ eLz lm lg
      have hkf := hkz.trans kf
      clear gz eLz hkz kf hrz
      -- the first one
      refine ⟨_, rfl, .inl ⟨rfl, _, .inl (.inl eLf)⟩, _, rfl, _, rfl, _, rfl, a, _, rfl, hrf, fun H1 p1 s1 e1 => ?_⟩
      refine ⟨_, rfl, _, rfl, m, c, g, _, many, rfl, msf.mono s1, by omega, by omega, by omega, fun H2 dv k2 ms2 dv0 dv1 => ?_⟩
      refine ⟨by show 1 ≤ sizeLine; decide, fun T nT => ?_⟩
      have sT : Same H2 (upd H2 T (.tup [.int dv])) := same_new nT
      have n1 := ms_tup (msf.mono s1) e1
      have e1' : (upd H2 T (.tup [.int dv])) p1 = some (.tup (cutV (rs.map V.int) none (some sp))) := sT _ _ (k2 _ _ e1 (fun z => n1 (by rw [z]; simp)) (fun z => n1 (by rw [z]; simp)))
      have eT : (upd H2 T (.tup [.int dv])) T = some (.tup [.int dv]) := upd_same
      have ms3 := ms2.mono sT
      have k3 : Kept Hf (upd H2 T (.tup [.int dv])) m g := ((Kept.of s1).trans k2).trans (Kept.of sT)
      generalize upd H2 T (.tup [.int dv]) = H3 at e1' eT ms3 k3
      clear sT k2 ms2 nT n1 e1 s1
      refine ⟨p1, T, _, _, rfl, rfl, e1', eT, (by have := cl none (some sp); show _ + 1 ≤ 100000; omega), fun H4 p4 s4 e4 => ?_⟩
      have hr4 := (k3.ti msf hrf).mono s4
      refine ⟨_, rfl, _, rfl, _, _, rfl, rfl, _, rfl, a, _, rfl, hr4, fun H5 p5 s5 e5 => ?_⟩
      refine ⟨p4, p5, _, _, rfl, rfl, s5 _ _ e4, e5, (by rw [List.length_append]; have := cl none (some sp); have := cl (some (sp + 1)) none; show _ + 1 + _ ≤ 100000; omega), fun H6 p6 s6 e6 => ?_⟩
      have s46 := (s4.trans s5).trans s6
      have k6 : Kept Hf H6 m g := k3.trans (Kept.of s46)
      have ms6 := ms3.mono s46
      have eL6 := k6 _ _ eLf lm lg
      have good6 : Good H6 [L, m, g] (.ref p6) := good_tup e6 (ms_tup3 ms6 eL6 e6) (fun v hv => by
        rcases List.mem_append.mp hv with hv | hv
        · rcases List.mem_append.mp hv with hv | hv
          · exact odd_ints (fun v h => cut_sub h) v hv
          · rw [List.mem_singleton.mp hv]
            exact ⟨.int dv, fun x e => by cases e⟩
        · exact odd_ints (fun v h => cut_sub h) v hv) (by
          rw [List.length_append, List.length_append]
          have := cl none (some sp)
          have := cl (some (sp + 1)) none
          show _ + 1 + _ ≤ 1000
          omega)
      refine ⟨L, _, _, rfl, rfl, eL6, small_of (by omega), ?_⟩
      have t1 := Tld.put (H := H) (n := 11) (hkf.trans k6) ms6 (k6.ti msf hrf) eL6 lw (fun v hv => (gf v hv).kept k6.s3) nLH lm lc lg good6
      clear good6 eL6 ms6 k6 s46 e6 s6 e5 s5 hr4 e4 s4 k3 ms3 eT e1' gf eLf hkf hrf msf lw
      generalize upd H6 L (.lst (ws ++ [.ref p6])) = H7 at t1
      clear ws
      obtain ⟨hkf, msf, hrf, ⟨ws, eLf, lw, gf⟩, _, _, _, _⟩ := t1
      -- the second one
      refine ⟨_, rfl, .inl ⟨rfl, _, .inl (.inl eLf)⟩, _, rfl, _, rfl, _, rfl, a, _, rfl, hrf, fun H1 p1 s1 e1 => ?_⟩
      have ms1 := msf.mono s1
      refine ⟨_, rfl, 1, rfl, _, rfl, by show 1 ≤ sizeLine; decide, fun z1 nz1 => fun z2 nz2 => ⟨by show 7 ≤ sizeLine; decide, fun o no => ?_⟩⟩
      have nz1' := (ms1.ne nz1)
      have sz1 : Same H1 (upd H1 z1 (.lst [.int 0])) := same_new nz1
      have ez1 : (upd H1 z1 (.lst [.int 0])) z1 = some (.lst [.int 0]) := upd_same
      have nL1 : z1 ∉ [L, m, g] := ms_new3 ms1 (s1 _ _ eLf) nz1
      generalize upd H1 z1 (.lst [.int 0]) = Hz1 at sz1 ez1 nz2 no
      have ms1' := ms1.mono sz1
      have nL2 : z2 ∉ [L, m, g] := ms_new3 ms1' (sz1 _ _ (s1 _ _ eLf)) nz2
      have sz2 : Same Hz1 (upd Hz1 z2 (.dK [])) := same_new nz2
      have ez2 : (upd Hz1 z2 (.dK [])) z2 = some (.dK []) := upd_same
      generalize upd Hz1 z2 (.dK []) = Hz2 at sz2 ez2 no
      have ms2' := ms1'.mono sz2
      have no' := ms2'.ne no
      have so := same_new (H := Hz2) (p := o) (o := .lst [.bl true, .non, .int (-1), .int many, .str "0", .ref z1, .ref z2]) no
      have eo : (upd Hz2 o (.lst [.bl true, .non, .int (-1), .int many, .str "0", .ref z1, .ref z2])) o = some (.lst [.bl true, .non, .int (-1), .int many, .str "0", .ref z1, .ref z2]) := upd_same
      refine ⟨m, c, g, _, o, _, rfl, ms2'.mono so, by omega, eo, no'.2.2, by simp, (by show 7 ≤ 1000000; decide), fun H2 x k2 ms2 hx => ?_⟩
      have odd : OddV H2 x ∧ refsOut [L, m, g] x := by
        have live : ∀ y u, Hz2 y = some u → y ∉ [L, m, g] → H2 y = some u := fun y u hy hn => k2 _ _ (so _ _ hy) (fun z => hn (by rw [z]; simp)) (fun z => hn (by rw [z]; simp))
        simp only [List.mem_cons, List.mem_nil_iff, or_false] at hx
        rcases hx with rfl | rfl | rfl | rfl | rfl | rfl | rfl
        · exact ⟨.bl _, fun x e => by cases e⟩
        · exact ⟨.non, fun x e => by cases e⟩
        · exact ⟨.int _, fun x e => by cases e⟩
        · exact ⟨.int _, fun x e => by cases e⟩
        · exact ⟨.str _, fun x e => by cases e⟩
        · exact ⟨.lst (live _ _ (sz2 _ _ ez1) nL1), fun x e => by cases e; exact nL1⟩
        · exact ⟨.dK (live _ _ ez2 nL2), fun x e => by cases e; exact nL2⟩
      have s1o := ((s1.trans sz1).trans sz2).trans so
      have k12 : Kept H7 H2 m g := (Kept.of s1o).trans k2
      have n1 := ms_tup ms1 e1
      have e12 : H2 p1 = some (.tup (cutV (rs.map V.int) none (some sp))) := k2 _ _ (so _ _ (sz2 _ _ (sz1 _ _ e1))) (fun z => n1 (by rw [z]; simp)) (fun z => n1 (by rw [z]; simp))
      clear s1o so eo no no' sz2 ez2 sz1 ez1 nz1 nz1' nz2 hx ms1 ms1' ms2' n1 e1 s1 k2
      refine ⟨by show 1 ≤ sizeLine; decide, fun T nT => ?_⟩
      have sT : Same H2 (upd H2 T (.tup [x])) := same_new nT
      have e1' := sT _ _ e12
      have eT : (upd H2 T (.tup [x])) T = some (.tup [x]) := upd_same
      have ms3 := ms2.mono sT
      have k3 : Kept H7 (upd H2 T (.tup [x])) m g := k12.trans (Kept.of sT)
      have odd3 : OddV (upd H2 T (.tup [x])) x ∧ refsOut [L, m, g] x := ⟨odd.1.mono sT, odd.2⟩
      generalize upd H2 T (.tup [x]) = H3 at e1' eT ms3 k3 odd3
      clear sT ms2 nT e12 odd k12
      refine ⟨p1, T, _, _, rfl, rfl, e1', eT, (by have := cl none (some sp); show _ + 1 ≤ 100000; omega), fun H4 p4 s4 e4 => ?_⟩
      have hr4 := (k3.ti msf hrf).mono s4
      refine ⟨_, rfl, _, rfl, _, _, rfl, rfl, _, rfl, a, _, rfl, hr4, fun H5 p5 s5 e5 => ?_⟩
      refine ⟨p4, p5, _, _, rfl, rfl, s5 _ _ e4, e5, (by rw [List.length_append]; have := cl none (some sp); have := cl (some (sp + 1)) none; show _ + 1 + _ ≤ 100000; omega), fun H6 p6 s6 e6 => ?_⟩
      have s46 := (s4.trans s5).trans s6
      have k6 : Kept H7 H6 m g := k3.trans (Kept.of s46)
      have ms6 := ms3.mono s46
      have eL6 := k6 _ _ eLf lm lg
      have good6 : Good H6 [L, m, g] (.ref p6) := good_tup e6 (ms_tup3 ms6 eL6 e6) (fun v hv => by
        rcases List.mem_append.mp hv with hv | hv
        · rcases List.mem_append.mp hv with hv | hv
          · exact odd_ints (fun v h => cut_sub h) v hv
          · rw [List.mem_singleton.mp hv]
            exact ⟨odd3.1.mono s46, odd3.2⟩
        · exact odd_ints (fun v h => cut_sub h) v hv) (by
          rw [List.length_append, List.length_append]
          have := cl none (some sp)
          have := cl (some (sp + 1)) none
          show _ + 1 + _ ≤ 1000
          omega)
      refine ⟨L, _, _, rfl, rfl, eL6, small_of (by omega), ?_⟩
      have t1 := Tld.put (H := H) (n := 12) (hkf.trans k6) ms6 (k6.ti msf hrf) eL6 lw (fun v hv => (gf v hv).kept k6.s3) nLH lm lc lg good6
      exact kD _ _ ⟨_, rfl, t1.kept, t1.ms.le (by omega), t1.row, t1.ex, nLH, lm, lc, lg⟩
    clear eLz gz msz hrz hkz lw
    rintro σ' Hf ⟨y4, rfl, t1⟩
    clear ws
    obtain ⟨hkf, msf, hrf, ⟨ws, eLf, lw, gf⟩, _, _, _, _⟩ := t1
    refine ⟨_, rfl, .inl ⟨rfl, _, .inl (.inl eLf)⟩, _, rfl, _, rfl, m, c, g, _, many, rfl, msf, by omega, by omega, by omega, fun H1 u k1 ms1 _ _ => ?_⟩
    refine ⟨_, rfl, _, rfl, m, c, g, _, many, rfl, ms1, by omega, by omega, by omega, fun H2 v k2 ms2 _ _ => ?_⟩
    refine ⟨by show 2 ≤ sizeLine; decide, fun T nT => ?_⟩
    have sT : Same H2 (upd H2 T (.tup [.int u, .int v])) := same_new nT
    have eT : (upd H2 T (.tup [.int u, .int v])) T = some (.tup [.int u, .int v]) := upd_same
    generalize upd H2 T (.tup [.int u, .int v]) = H3 at sT eT
    have ms3 := ms2.mono sT
    have k3 := (k1.trans k2).trans (Kept.of sT)
    have eL3 := k3 _ _ eLf lm lg
    have good3 : Good H3 [L, m, g] (.ref T) := good_tup eT (ms_tup3 ms3 eL3 eT) (odd_ints (xs := [u, v]) fun v h => h) (by show 2 ≤ 1000; decide)
    refine ⟨L, _, _, rfl, rfl, eL3, small_of (by omega), ?_⟩
    have t1 := Tld.put (H := H) (n := 13) (hkf.trans k3) ms3 (k3.ti msf hrf) eL3 lw (fun v hv => (gf v hv).kept k3.s3) nLH lm lc lg good3
    clear good3 eL3 k3 ms3 eT sT nT ms2 k2 ms1 k1 hkf msf hrf eLf lw gf
    generalize upd H3 L (.lst (ws ++ [.ref T])) = H4 at t1
    clear ws
    obtain ⟨hkf, msf, hrf, ⟨ws, eLf, lw, gf⟩, _, _, _, _⟩ := t1
    refine ⟨_, rfl, .inl ⟨rfl, _, .inl (.inl eLf)⟩, _, rfl, _, rfl, m, c, g, _, many, rfl, msf, by omega, by omega, by omega, fun H5 od ds k5 ms5 eod nod lds _ rds => ?_⟩
    refine ⟨_, rfl, m, c, g, _, 2, rfl, ms5, by omega, by decide, by decide, fun H6 d k6 ms6 d0 d1 => ?_⟩
    have odn := msf.ne nod
    have eod6 := k6 _ _ eod odn.1 odn.2.2
    refine ⟨_, _, rfl, rfl, 2, _, rfl, rfl, wide_mul (a := 2) (b := 4) (by decide) (nb (by omega) (by show 1 + d < 2 ^ 4; omega)) (by decide) (by decide) (by decide), _, rfl, od, _, rfl, sqL eod6, fun p np => ?_⟩
    have sp6 : Same H6 (upd H6 p (.lst (cutV (ds.map V.int) none (some (2 * (1 + d)))))) := same_new np
    refine ⟨p, _, rfl, .inl ⟨sqL upd_same, fun t nt => ?_⟩⟩
    have st := sp6.trans (same_new (o := .tup (cutV (ds.map V.int) none (some (2 * (1 + d))))) nt)
    have et : (upd (upd H6 p (.lst (cutV (ds.map V.int) none (some (2 * (1 + d)))))) t (.tup (cutV (ds.map V.int) none (some (2 * (1 + d)))))) t = some (.tup (cutV (ds.map V.int) none (some (2 * (1 + d))))) := upd_same
    generalize upd (upd H6 p (.lst (cutV (ds.map V.int) none (some (2 * (1 + d)))))) t (.tup (cutV (ds.map V.int) none (some (2 * (1 + d))))) = H7 at st et
    have ms7 := ms6.mono st
    have k7 := (k5.trans k6).trans (Kept.of st)
    have eL7 := k7 _ _ eLf lm lg
    have good7 : Good H7 [L, m, g] (.ref t) := good_tup et (ms_tup3 ms7 eL7 et) (odd_ints fun v h => cut_sub h) (by
      have := cutV_length (ds.map V.int) none (some (2 * (1 + d)))
      rw [List.length_map, lds] at this
      omega)
    refine ⟨L, _, _, rfl, rfl, eL7, small_of (by omega), ?_⟩
    have t1 := Tld.put (H := H) (n := 14) (hkf.trans k7) ms7 (k7.ti msf hrf) eL7 lw (fun v hv => (gf v hv).kept k7.s3) nLH lm lc lg good7
    obtain ⟨hk8, ms8, _, ⟨ws8, eL8, lw8, gf8⟩, _, _, _, _⟩ := t1
    exact ⟨_, rfl, q _ L ws8 hk8 (ms8.le (by omega)) eL8 lm lg (by omega) fun v hv => (gf8 v hv).sub fun x hx => List.mem_cons_of_mem _ hx⟩
end
end KQ
namespace KQ
open PySem PySem.Spec PyProof.Rows L2 KR KM StX
theorem if_factB {b : Bool} {t u : TE} {σ : L2.St} {H : Hp} {Q : VK} (Fact : V → Hp → Prop) (h1 : b = true → ∀ Q : VK, (∀ v H', Fact v H' → Q v H') → t σ H Q) (h2 : b = false → ∀ Q : VK, (∀ v H', Fact v H' → Q v H') → u σ H Q)
    (k : ∀ v H', Fact v H' → Q v H') : if b = true then t σ H Q else u σ H Q := by
  cases b
  · exact h2 rfl Q k
  · exact h1 rfl Q k
section
variable {P : Program} {w : World} {K : PySem.W.Frag} {mg : Str → Option Value} {base : Heap}
def spLikeB : Sp := fun vs H Q _ => ∃ x y : Bool, vs = [.bl x, .bl y] ∧ x = y ∧ Q (.bl true) H
theorem ok_likeB (D : DefAt K mg "_law_like" s__law_like) (T : Bt mg) : Use P w K mg base "_law_like" 1 ["got", "due"] spLikeB := by
  refine use_of D (fun f fd F => F.ok sc__law_like (fun vs H Q E h => ?_) (fun cdv A outer s H vs Q E hr h => ?_)) (fun _ _ _ _ _ _ us hl => match us, hl with | [_, _], _ => rfl)
  · obtain ⟨x, y, rfl, _⟩ := h
    rfl
  · obtain ⟨x, y, rfl, rfl, q⟩ := h
    refine ⟨_, (pss_one (ps_ret (pe_cmpR op_eq (pe_callB call_reprB (by rfl) T.repr (by decide +kernel) (pa_cons (pv 0) pa_nil)) (pe_callB call_reprB (by rfl) T.repr (by decide +kernel) (pa_cons (pv 1) pa_nil)) (nomark _)))), ?_⟩
    refine ⟨_, rfl, x, rfl, _, rfl, x, rfl, rfl, ?_⟩
    rw [decide_eq_true rfl]
    exact q
theorem thing_tup {H : Hp} {a : Addr} {ds : List Int} (h : TI H a ds) (l : ds.length ≤ 1000) : Thing H (.ref a) (some (ds.map V.int)) :=
  .tup h (fun v hv => by obtain ⟨i, _, rfl⟩ := List.mem_map.mp hv; exact .int i) (by rw [List.length_map]; exact l)
abbrev s__law_coarse_right : Stmt := topS 48
theorem sc__law_coarse_right : FnScope ["m", "many", "cap", "kind", "first", "second", "turn", "doors"] ["m"] (defScope s__law_coarse_right) := ⟨rfl, rfl, rfl, by decide +kernel, rfl, by decide +kernel, by decide +kernel⟩
def spCoarse : Sp := fun vs H Q _ => ∃ (m c g : Addr) (b : Int), vs = [.ref m] ∧ MS H m c g b ∧ b ≤ 90000 ∧ ∀ H', Q (.bl true) H'
theorem ok_coarse (D : DefAt K mg "_law_coarse_right" s__law_coarse_right) (T : Bt mg) (u__law_draw : Use P w K mg base "_law_draw" 2 ["m", "limit"] spDraw) (u__law_order : Use P w K mg base "_law_order" 3 ["m", "many"] spOrder)
    (u__law_numbered : Use P w K mg base "_law_numbered" 1 ["labels"] spNumL) (u__law_likeB : Use P w K mg base "_law_like" 1 ["got", "due"] spLikeB) (u_is_ring : Use P w K mg base "is_ring" 7 ["parting", "other", "doors"] spIsRing)
    (u__law_is_right_ring : Use P w K mg base "_law_is_right_ring" 2 ["one", "two", "row"] spIsRing) : Use P w K mg base "_law_coarse_right" 8 ["m"] spCoarse := by
  refine use_of D (fun f fd F => F.ok sc__law_coarse_right (fun vs H Q E h => ?_) (fun cdv A outer s H vs Q E hr h => ?_)) (fun _ _ _ _ _ _ us hl => match us, hl with | [_], _ => rfl)
  · obtain ⟨m, c, g, b, rfl, _⟩ := h
    rfl
  · obtain ⟨m, c, g, b, rfl, ms, hb, q⟩ := h
    refine ⟨_, (pss_cons (ps_set (i := 1) sc__law_coarse_right.nd rfl (Or.inl rfl) (pe_op op_add pe_int (pe_use u__law_draw (by decide) hr (by rfl) (pa_cons (pv 0) (pa_cons pe_int pa_nil)))))
      (pss_cons (ps_asg (pe_tup (pa_cons (pe_op op_add pe_int (pe_use u__law_draw (by decide) hr (by rfl) (pa_cons (pv 0) (pa_cons pe_int pa_nil)))) (pa_cons (pe_use u__law_draw (by decide) hr (by rfl) (pa_cons (pv 0) (pa_cons pe_int pa_nil))) pa_nil))) (pg_tup rfl (pgs_cons (pg_name (i := 2) sc__law_coarse_right.nd rfl (Or.inr rfl)) (pgs_cons (pg_name (i := 3) sc__law_coarse_right.nd rfl (Or.inr rfl)) pgs_nil))))
      (pss_cons (ps_set (i := 4) sc__law_coarse_right.nd rfl (Or.inl rfl) (pe_use u__law_numbered (by decide) hr (by rfl) (pa_cons (pe_lc (own := [("turn", 6)]) rfl sc__law_coarse_right.nd (pi_range1 (by rfl) T.range (pa_cons (pv 1) pa_nil)) (blkOk_by (N := ["m", "many", "cap", "kind", "first", "second", "turn", "doors"]) (sc := defScope s__law_coarse_right) (by decide +kernel)) (fun _ _ _ _ _ => (pg_name (i := 6) sc__law_coarse_right.nd rfl (Or.inl rfl))) (fun _ _ _ _ _ => pts_nil) (fun _ _ _ _ _ => (pe_use u__law_draw (by decide) hr (by rfl) (pa_cons (pv 0) (pa_cons (pv 2) pa_nil))))) pa_nil)))
      (pss_cons (ps_set (i := 5) sc__law_coarse_right.nd rfl (Or.inl rfl) (pe_ifExp (pt_cmpR op_eq (pv 3) pe_int (nomark _)) (pv 4) (pe_use u__law_numbered (by decide) hr (by rfl) (pa_cons (pe_lc (own := [("turn", 6)]) rfl sc__law_coarse_right.nd (pi_range1 (by rfl) T.range (pa_cons (pv 1) pa_nil)) (blkOk_by (N := ["m", "many", "cap", "kind", "first", "second", "turn", "doors"]) (sc := defScope s__law_coarse_right) (by decide +kernel)) (fun _ _ _ _ _ => (pg_name (i := 6) sc__law_coarse_right.nd rfl (Or.inl rfl))) (fun _ _ _ _ _ => pts_nil) (fun _ _ _ _ _ => (pe_use u__law_draw (by decide) hr (by rfl) (pa_cons (pv 0) (pa_cons (pv 3) pa_nil))))) pa_nil))))
      (pss_cons (ps_for PassesOwn.never rfl (pi_range1 (by rfl) T.range (pa_cons pe_int pa_nil)) (pg_name (i := 6) sc__law_coarse_right.nd rfl (Or.inl rfl))
      (pss_cons (ps_set (i := 7) sc__law_coarse_right.nd rfl (Or.inl rfl) (pe_callTy (k_tupOf (K := K) rfl) (by rfl) T.tuple (by decide +kernel) (pa_cons (pe_slice (k_sll (K := K) rfl) (pe_use u__law_order (by decide) hr (by rfl) (pa_cons (pv 0) (pa_cons (pv 1) pa_nil))) po_none (po_some (pe_ifExp (PW.pt (pw_or (pt_cmpR op_lt (pv 6) pe_int (nomark _)) (pw_or1 (pt_cmpR op_lt (pv 1) pe_int (nomark _))))) pe_int pe_int))) pa_nil)))
      (pss_one (ps_if (pt_not (pt_val (pe_use u__law_likeB (by decide) hr (by rfl) (pa_cons (pe_use u_is_ring (by decide) hr (by rfl) (pa_cons (pv 4) (pa_cons (pv 5) (pa_cons (pv 7) pa_nil)))) (pa_cons (pe_use u__law_is_right_ring (by decide) hr (by rfl) (pa_cons (pv 4) (pa_cons (pv 5) (pa_cons (pv 7) pa_nil)))) pa_nil))))) (pss_one (ps_ret pe_bl)) pss_nil))))
      (pss_one (ps_ret pe_bl))))))), ?_⟩
    refine ⟨_, rfl, m, c, g, b, 5, rfl, ms, by omega, by decide, by decide, fun H1 d1 k1 ms1 d10 d11 => ⟨4, d1, rfl, rfl, ?_⟩⟩
    refine ⟨_, rfl, m, c, g, _, 3, rfl, ms1, by omega, by decide, by decide, fun H2 d2 k2 ms2 d20 d21 => ⟨1, d2, rfl, rfl, ?_⟩⟩
    refine ⟨_, rfl, m, c, g, _, 4, rfl, ms2, by omega, by decide, by decide, fun H3 kd k3 ms3 d30 d31 => ?_⟩
    refine ⟨by show 2 ≤ sizeLine; decide, fun T0 nT0 => ?_⟩
    refine ⟨T0, _, rfl, .inl (.inl upd_same), rfl, _, _, rfl, _, [], rfl, rfl, ?_⟩
    have ms4 := ms3.mono (same_new (o := .tup [.int (1 + d2), .int kd]) nT0)
    generalize upd H3 T0 (.tup [.int (1 + d2), .int kd]) = H4 at ms4
    clear ms ms1 ms2 ms3 k1 k2 k3 nT0
    refine ⟨_, rfl, _, rfl, by omega, by omega, fun L nL => ?_⟩
    have Ln := ms4.ne nL
    refine lc_range (fun i H5 => (∃ xs : List Int, H5 L = some (.lst (xs.map V.int)) ∧ xs.length = i) ∧ Kept H4 H5 m g ∧ MS H5 m c g (b + 3 + (i : Nat)))
      ⟨⟨[], upd_same, rfl⟩, kept_mut (fun _ _ h _ _ => h) nL, (ms4.put Ln.1 Ln.2.1 Ln.2.2).le (by omega)⟩ ?_ ?_
    · rintro i H5 hi ⟨⟨xs, eL, lx⟩, k5, ms5⟩
      refine ⟨rfl, _, rfl, _, rfl, m, c, g, _, _, rfl, ms5, by omega, by omega, by omega, fun H6 e k6 ms6 e0 e1 => ?_⟩
      have eL6 := k6 L _ eL Ln.1 Ln.2.2
      refine ⟨_, eL6, ?_, ⟨xs ++ [e], ?_, ?_⟩, kept_mut (k5.trans k6) nL, (ms6.put Ln.1 Ln.2.1 Ln.2.2).le (by omega)⟩
      · rw [List.length_map, lx]
        exact small_of (by omega)
      · rw [upd_same, List.map_append]
        rfl
      · rw [List.length_append, lx]
        rfl
    rintro H5 ⟨⟨xs, eL, lx⟩, k5, ms5⟩
    refine ⟨L, xs, rfl, eL, by omega, fun H6 t s6 ht => ?_⟩
    have ms6 := ms5.mono s6
    have par : Par (num xs) := num_par (fun e => by rw [e] at lx; simp at lx; omega) (by omega)
    have lp : (num xs).length = (4 + d1).toNat := by rw [num_len, lx]
    generalize num xs = p at ht par lp
    clear eL k5 ms5 s6 lx Ln nL ms4
    refine ⟨_, rfl, rfl, _, rfl, ?_⟩
    refine if_factB (fun v H' => ∃ t2 r, v = .ref t2 ∧ Kept H6 H' m g ∧ MS H' m c g (b + 30) ∧ TI H' t2 r ∧ Par r ∧ r.length = p.length) ?_ ?_ ?_
    · intro _ Qv h
      exact ⟨_, rfl, h _ _ ⟨t, p, rfl, fun _ _ h _ _ => h, ms6.le (by omega), ht, par, rfl⟩⟩
    · intro hkd Qv h
      have hk0 : kd ≠ 0 := fun e => (of_decide_eq_false hkd) (congrArg V.int e)
      refine ⟨_, rfl, _, rfl, by omega, by omega, fun L nL => ?_⟩
      have Ln := ms6.ne nL
      refine lc_range (fun i H5 => (∃ xs : List Int, H5 L = some (.lst (xs.map V.int)) ∧ xs.length = i) ∧ Kept H6 H5 m g ∧ MS H5 m c g (b + 12 + (i : Nat)))
        ⟨⟨[], upd_same, rfl⟩, kept_mut (fun _ _ h _ _ => h) nL, (ms6.put Ln.1 Ln.2.1 Ln.2.2).le (by omega)⟩ ?_ ?_
      · rintro i H5 hi ⟨⟨xs, eL, lx⟩, k5, ms5⟩
        refine ⟨rfl, _, rfl, _, rfl, m, c, g, _, _, rfl, ms5, by omega, by omega, by omega, fun H7 e k6 ms7 e0 e1 => ?_⟩
        have eL6 := k6 L _ eL Ln.1 Ln.2.2
        refine ⟨_, eL6, ?_, ⟨xs ++ [e], ?_, ?_⟩, kept_mut (k5.trans k6) nL, (ms7.put Ln.1 Ln.2.1 Ln.2.2).le (by omega)⟩
        · rw [List.length_map, lx]
          exact small_of (by omega)
        · rw [upd_same, List.map_append]
          rfl
        · rw [List.length_append, lx]
          rfl
      rintro H5 ⟨⟨xs, eL, lx⟩, k5, ms5⟩
      refine ⟨L, xs, rfl, eL, by omega, fun H7 t2 s7 ht2 => ?_⟩
      exact h _ _ ⟨t2, num xs, rfl, k5.trans (Kept.of s7), (ms5.mono s7).le (by omega), ht2, num_par (fun e => by rw [e] at lx; simp at lx; omega) (by omega), by rw [num_len, lx, lp]⟩
    rintro v H7 ⟨t2, r, rfl, k7, ms7, hr7, parr, lr⟩
    have hp7 := k7.ti ms6 ht
    clear k7 ms6 ht
    refine ⟨8, rfl, by decide, by decide, for_range (lo := 0) (n := (8 : Int).toNat)
      (fun i σ H8 => ∃ y6 y7, σ = [some (.ref m), some (.int (4 + d1)), some (.int (1 + d2)), some (.int kd), some (.ref t), some (.ref t2), y6, y7] ∧ Kept H7 H8 m g ∧ MS H8 m c g (b + 30 + 8 * (i : Nat))) ⟨none, none, rfl, fun _ _ h _ _ => h, ms7.le (by omega)⟩ ?_ ?_⟩
    · rintro i σ H8 hi ⟨y6, y7, rfl, k8, ms8⟩
      refine ⟨_, rfl, _, rfl, m, c, g, _, 4 + d1, rfl, ms8, by omega, by omega, by omega, fun H9 od ds k9 ms9 eod nod lds nds rds => ?_⟩
      have hp9 := (k8.trans k9).ti ms7 hp7
      have hr9 := (k8.trans k9).ti ms7 hr7
      have odd : ∀ {Hx : Hp} {lim : Int}, ∀ v ∈ cutV (ds.map V.int) none (some lim), OddV Hx v := fun v hv => by
        obtain ⟨i, _, rfl⟩ := List.mem_map.mp (cut_sub hv)
        exact .int i
      have clen : ∀ {lim : Int}, (cutV (ds.map V.int) none (some lim)).length ≤ 1000 := fun {lim} => by
        have := cutV_length (ds.map V.int) none (some lim)
        rw [List.length_map, lds] at this
        omega
      refine ⟨_, rfl, _, 6, rfl, rfl, _, rfl, ?_⟩
      by_cases h6 : 0 + (i : Int) < 6
      · rw [decide_eq_true h6]
        refine ⟨_, rfl, od, _, rfl, sqL eod, fun p9 np9 => ?_⟩
        have s10 : Same H9 (upd H9 p9 (.lst (cutV (ds.map V.int) none (some 4)))) := same_new np9
        refine ⟨p9, _, rfl, .inl ⟨sqL upd_same, fun t3 nt3 => ?_⟩⟩
        have s11 := s10.trans (same_new (o := .tup (cutV (ds.map V.int) none (some 4))) nt3)
        have th : Thing (upd (upd H9 p9 (.lst (cutV (ds.map V.int) none (some 4)))) t3 (.tup (cutV (ds.map V.int) none (some 4)))) (.ref t3) (some (cutV (ds.map V.int) none (some 4))) := .tup upd_same odd clen
        generalize upd (upd H9 p9 (.lst (cutV (ds.map V.int) none (some 4)))) t3 (.tup (cutV (ds.map V.int) none (some 4))) = Ha at s11 th
        refine ⟨_, rfl, _, rfl, _, rfl, t, t2, .ref t3, p, r, _, rfl, hp9.mono s11, hr9.mono s11, par, parr, lr.symm, th, fun Hb c1 sb hc1 => ?_⟩
        refine ⟨_, rfl, _, rfl, _, rfl, t, t2, .ref t3, p, r, _, rfl, (hp9.mono s11).mono sb, (hr9.mono s11).mono sb, par, parr, lr.symm, th.mono sb, fun Hc c2 sc hc2 => ?_⟩
        refine ⟨c1, c2, rfl, Bool.eq_iff_iff.mpr (hc1.trans hc2.symm), _, rfl, ?_⟩
        exact ⟨_, _, rfl, (k8.trans k9).trans (Kept.of ((s11.trans sb).trans sc)), (ms9.mono ((s11.trans sb).trans sc)).le (by omega)⟩
      · rw [decide_eq_false h6]
        refine ⟨_, rfl, _, 6, rfl, rfl, _, rfl, ?_⟩
        by_cases m6 : 4 + d1 < 6
        · rw [decide_eq_true m6]
          refine ⟨_, rfl, od, _, rfl, sqL eod, fun p9 np9 => ?_⟩
          have s10 : Same H9 (upd H9 p9 (.lst (cutV (ds.map V.int) none (some 4)))) := same_new np9
          refine ⟨p9, _, rfl, .inl ⟨sqL upd_same, fun t3 nt3 => ?_⟩⟩
          have s11 := s10.trans (same_new (o := .tup (cutV (ds.map V.int) none (some 4))) nt3)
          have th : Thing (upd (upd H9 p9 (.lst (cutV (ds.map V.int) none (some 4)))) t3 (.tup (cutV (ds.map V.int) none (some 4)))) (.ref t3) (some (cutV (ds.map V.int) none (some 4))) := .tup upd_same odd clen
          generalize upd (upd H9 p9 (.lst (cutV (ds.map V.int) none (some 4)))) t3 (.tup (cutV (ds.map V.int) none (some 4))) = Ha at s11 th
          refine ⟨_, rfl, _, rfl, _, rfl, t, t2, .ref t3, p, r, _, rfl, hp9.mono s11, hr9.mono s11, par, parr, lr.symm, th, fun Hb c1 sb hc1 => ?_⟩
          refine ⟨_, rfl, _, rfl, _, rfl, t, t2, .ref t3, p, r, _, rfl, (hp9.mono s11).mono sb, (hr9.mono s11).mono sb, par, parr, lr.symm, th.mono sb, fun Hc c2 sc hc2 => ?_⟩
          refine ⟨c1, c2, rfl, Bool.eq_iff_iff.mpr (hc1.trans hc2.symm), _, rfl, ?_⟩
          exact ⟨_, _, rfl, (k8.trans k9).trans (Kept.of ((s11.trans sb).trans sc)), (ms9.mono ((s11.trans sb).trans sc)).le (by omega)⟩
        · rw [decide_eq_false m6]
          refine ⟨_, rfl, od, _, rfl, sqL eod, fun p9 np9 => ?_⟩
          have s10 : Same H9 (upd H9 p9 (.lst (cutV (ds.map V.int) none (some 6)))) := same_new np9
          refine ⟨p9, _, rfl, .inl ⟨sqL upd_same, fun t3 nt3 => ?_⟩⟩
          have s11 := s10.trans (same_new (o := .tup (cutV (ds.map V.int) none (some 6))) nt3)
          have th : Thing (upd (upd H9 p9 (.lst (cutV (ds.map V.int) none (some 6)))) t3 (.tup (cutV (ds.map V.int) none (some 6)))) (.ref t3) (some (cutV (ds.map V.int) none (some 6))) := .tup upd_same odd clen
          generalize upd (upd H9 p9 (.lst (cutV (ds.map V.int) none (some 6)))) t3 (.tup (cutV (ds.map V.int) none (some 6))) = Ha at s11 th
          refine ⟨_, rfl, _, rfl, _, rfl, t, t2, .ref t3, p, r, _, rfl, hp9.mono s11, hr9.mono s11, par, parr, lr.symm, th, fun Hb c1 sb hc1 => ?_⟩
          refine ⟨_, rfl, _, rfl, _, rfl, t, t2, .ref t3, p, r, _, rfl, (hp9.mono s11).mono sb, (hr9.mono s11).mono sb, par, parr, lr.symm, th.mono sb, fun Hc c2 sc hc2 => ?_⟩
          refine ⟨c1, c2, rfl, Bool.eq_iff_iff.mpr (hc1.trans hc2.symm), _, rfl, ?_⟩
          exact ⟨_, _, rfl, (k8.trans k9).trans (Kept.of ((s11.trans sb).trans sc)), (ms9.mono ((s11.trans sb).trans sc)).le (by omega)⟩
    · rintro σ H8 ⟨y6, y7, rfl, _, _⟩
      exact q H8
end
end KQ
namespace KQ
open PySem PySem.Spec PyProof.Rows L2 KR KM StX
section
variable {P : Program} {w : World} {K : PySem.W.Frag} {mg : Str → Option Value} {base : Heap}
abbrev s_law : Stmt := topS 49
theorem sc_law : FnScope ["script", "m", "many", "first", "second", "labels", "closing", "pieces", "told", "row", "thing", "n", "label"] ["script"] (defScope s_law) := ⟨rfl, rfl, rfl, by decide +kernel, rfl, by decide +kernel, by decide +kernel⟩
/-- what law calls -/
structure Calls (P : Program) (w : World) (K : PySem.W.Frag) (mg : Str → Option Value) (base : Heap) : Prop where
  begun : Use P w K mg base "_law_begun" 2 ["script"] (spBegun K)
  draw : Use P w K mg base "_law_draw" 2 ["m", "limit"] spDraw
  any : Use P w K mg base "_law_any_parting" 3 ["m", "many"] spAny
  second : Use P w K mg base "_law_second" 5 ["m", "first"] spSecond
  hung : Use P w K mg base "_law_hung" 1 ["parting", "other"] spHung2
  tree : Use P w K mg base "meet_in_tree" 7 ["parting", "other"] spMeets
  wood : Use P w K mg base "meet_in_wood" 7 ["parting", "other"] spNoRing
  above : Use P w K mg base "finest_above" 7 ["parting", "other"] spAbove
  like : UseG P w K mg base "_law_like" 1 ["got", "due"] (spLike K)
  likeB : Use P w K mg base "_law_like" 1 ["got", "due"] spLikeB
  ring : Use P w K mg base "ring" 7 ["parting", "other"] spRing
  right : Use P w K mg base "_law_is_right_ring" 2 ["one", "two", "row"] spIsRing
  isr : Use P w K mg base "is_ring" 7 ["parting", "other", "doors"] spIsRing
  bent : Use P w K mg base "_law_bent" 4 ["m", "row", "many"] spBent
  coarse : Use P w K mg base "_law_coarse_right" 8 ["m"] spCoarse
def spLaw (K : PySem.W.Frag) : Sp := fun vs H Q _ => ∃ (a : Addr) (ns : List Int), vs = [.ref a] ∧ SqL K H a (ns.map V.int) ∧ ns.length ≤ 63 ∧ ∀ H', Q (.bl true) H'
/-- the context of law's own lines -/
abbrev LX (P : Program) (w : World) (K : PySem.W.Frag) (mg : Str → Option Value) (base : Heap) (f : Addr) (cdv : Value) (A : Around) (outer : List Env) (s : Shared) (H : Hp) (E : XK) : Cx :=
  (cxOf CX0 P w K mg base ["script", "m", "many", "first", "second", "labels", "closing", "pieces", "told", "row", "thing", "n", "label"] "law" (defScope s_law) f cdv A outer s H E).nox
theorem tree_flip {p r : List Int} (hp : Rg 0 p) (hr : Rg 0 r) (hl : p.length = r.length) : NoRing p r → NoRing r p := by
  intro h i ⟨y, x, hy, hx, hg⟩
  refine h i ⟨x, y, hx, hy, ?_⟩
  have a1 := (rg_mem 0 p (Int.le_refl _) hp).1 x (List.mem_of_getElem? hx)
  have a2 := (rg_mem 0 r (Int.le_refl _) hr).1 y (List.mem_of_getElem? hy)
  have e : (tiesOf r p).take i = ((tiesOf p r).take i).map fun t => (flip (bc 0 p).toNat (bc 0 r).toNat t.2, flip (bc 0 p).toNat (bc 0 r).toNat t.1) := by
    rw [List.map_take]
    congr 1
    unfold tiesOf
    rw [List.map_map, zip_swap p r, List.map_map]
    refine List.map_congr_left fun q hq => ?_
    have h1 := (rg_mem 0 p (Int.le_refl _) hp).1 q.1 (List.of_mem_zip hq).1
    have h2 := (rg_mem 0 r (Int.le_refl _) hr).1 q.2 (List.of_mem_zip hq).2
    have e1 : flip (bc 0 p).toNat (bc 0 r).toNat (bc 0 p + q.2).toNat = q.2.toNat := by
      unfold flip
      rw [if_neg (by omega), if_pos (by omega)]
      omega
    have e2 : flip (bc 0 p).toNat (bc 0 r).toNat q.1.toNat = (bc 0 r + q.1).toNat := by
      unfold flip
      rw [if_pos (by omega)]
      omega
    show (q.2.toNat, (bc 0 r + q.1).toNat) = (_, _)
    rw [e1, e2]
  rw [e] at hg
  have e1 : flip (bc 0 p).toNat (bc 0 r).toNat (bc 0 p + y).toNat = y.toNat := by
    unfold flip
    rw [if_neg (by omega), if_pos (by omega)]
    omega
  have e2 : flip (bc 0 p).toNat (bc 0 r).toNat x.toNat = (bc 0 r + x).toNat := by
    unfold flip
    rw [if_pos (by omega)]
    omega
  rw [← e1, ← e2] at hg
  exact (glue_eqv _).symm _ _ ((glue_map ((tiesOf p r).take i) Eq Eq (fun _ _ => flip_inj) _ _).mp hg)
variable {f : Addr} {cdv : Value} {A : Around} {outer : List Env} {s : Shared} {H0 : Hp} {E : XK}
theorem lawB (T : Bt mg) (C : Calls P w K mg base) (gd : (A.deeper (envOfC "law" (defScope s_law) s.heap.objs.size f cdv)).guards = some []) (hr : Room 8 (A.deeper (envOfC "law" (defScope s_law) s.heap.objs.size f cdv))) :
    ∃ t, PSs (LX P w K mg base f cdv A outer s H0 E) ((defBody s_law).drop 9) t ∧ ∀ (D : Ends) (σ : L2.St) (H : Hp), (∃ (m c g fa sa : Addr) (many : Int) (p r : List Int) (cl : V) (y0 y5 y7 y8 y9 y10 y11 y12 : Option V), σ = [y0, some (.ref m), some (.int many), some (.ref fa), some (.ref sa), y5, some cl, y7, y8, y9, y10, y11, y12] ∧ MS H m c g 600 ∧ TI H fa p ∧ TI H sa r ∧ Par p ∧ Par r ∧ p.length = r.length ∧ (p.length : Int) = many ∧ ClosedBy p r p.length cl ∧ ∀ H', D.rt (.bl true) H') → t D σ H := by
  have u__law_begun := C.begun
  have u__law_draw := C.draw
  have u__law_likeB := C.likeB
  have u_ring := C.ring
  have u__law_is_right_ring := C.right
  have u_is_ring := C.isr
  have u__law_bent := C.bent
  have u__law_coarse_right := C.coarse
  refine ⟨_, (pss_cons (ps_set (i := 9) sc_law.nd rfl (Or.inl rfl) (pe_use u_ring (by decide) hr (by rfl) (pa_cons (pv 3) (pa_cons (pv 4) pa_nil))))
      (pss_cons (ps_if (pt_cmpR op_isN (pv 6) pe_non (nomark _)) (pss_cons (ps_if (pt_cmpR op_notN (pv 9) pe_non (nomark _)) (pss_one (ps_ret pe_bl)) pss_nil)
      (pss_one (ps_set (i := 9) sc_law.nd rfl (Or.inl rfl) (pe_tup pa_nil)))) (pss_one (ps_if (PW.pt (pw_or (pt_not (pt_val (pe_use u__law_is_right_ring (by decide) hr (by rfl) (pa_cons (pv 3) (pa_cons (pv 4) (pa_cons (pv 9) pa_nil)))))) (pw_or (pt_cmpR op_ne (pe_ix (k_ixt (K := K) rfl) (pv 9) pe_int (fun _ _ => rfl)) (pv 6) (nomark _)) (pw_or1 (pt_cmpR op_ne (pe_callB (k_maxT (K := K) rfl rfl hr.units) (by rfl) T.max (by decide +kernel) (pa_cons (pv 9) pa_nil)) (pv 6) (nomark _)))))) (pss_one (ps_ret pe_bl)) pss_nil)))
      (pss_cons (ps_for PassesOwn.never rfl (k_list (K := K) rfl (pe_use u__law_bent (by decide) hr (by rfl) (pa_cons (pv 1) (pa_cons (pv 9) (pa_cons (pv 2) pa_nil))))) (pg_name (i := 10) sc_law.nd rfl (Or.inl rfl))
      (pss_one (ps_if (pt_not (pt_val (pe_use u__law_likeB (by decide) hr (by rfl) (pa_cons (pe_use u_is_ring (by decide) hr (by rfl) (pa_cons (pv 3) (pa_cons (pv 4) (pa_cons (pv 10) pa_nil)))) (pa_cons (pe_use u__law_is_right_ring (by decide) hr (by rfl) (pa_cons (pv 3) (pa_cons (pv 4) (pa_cons (pv 10) pa_nil)))) pa_nil))))) (pss_one (ps_ret pe_bl)) pss_nil)))
      (pss_one (ps_ret (pe_use u__law_coarse_right (by decide) hr (by rfl) (pa_cons (pv 1) pa_nil))))))), ?_⟩
  rintro D σ H ⟨m, c, g, fa, sa, many, p, r, cl, y0, y5, y7, y8, y9, y10, y11, y12, rfl, ms, hp, hr', par, parr, lr, lp, hcl, q⟩
  have g2 := par.le
  have many1 : 1 ≤ many := by
    have := List.length_pos_iff.mpr par.ne
    omega
  refine ⟨_, rfl, _, rfl, fa, sa, p, r, rfl, hp, hr', par, parr, lr, fun H1 v s1 hv => ?_⟩
  have ms1 := ms.mono s1
  have hp1 := hp.mono s1
  have hr1 := hr'.mono s1
  clear ms hp hr' s1
  refine ⟨_, rfl, rfl, _, rfl, ?_⟩
  refine ifs_fact2 (fun σ' H' => ∃ (t : Addr) (ds : List Int), σ' = [y0, some (.ref m), some (.int many), some (.ref fa), some (.ref sa), y5, some cl, y7, y8, some (.ref t), y10, y11, y12] ∧ Same H1 H' ∧ TI H' t ds ∧ ds.length ≤ 60) ?_ ?_ ?_
  · intro e D kD
    have ec : cl = .non := of_decide_eq_true e
    subst ec
    have no : NoRing p r := by
      rcases hcl with ⟨_, h⟩ | ⟨n, h, _⟩
      · exact fun i hi => h i (ring_lt hi) hi
      · cases h
    rcases hv with ⟨rfl, _⟩ | ⟨n, t, ds, _, _, hra, _⟩
    · refine ⟨_, rfl, rfl, _, rfl, ?_⟩
      rw [decide_eq_true rfl]
      refine ⟨by show 0 ≤ sizeLine; decide, fun z nz => kD _ _ ⟨z, [], rfl, same_new nz, upd_same, by decide⟩⟩
    · exact absurd hra (no n)
  · intro e D kD
    have ec : cl ≠ .non := of_decide_eq_false e
    obtain ⟨n, rfl, hn, hra, hmin⟩ : ∃ n : Nat, cl = .int ((n : Nat) : Int) ∧ n < p.length ∧ RingAt p r n ∧ ∀ j, j < n → ¬ RingAt p r j := by
      rcases hcl with ⟨h, _⟩ | h
      · exact absurd h ec
      · exact h
    rcases hv with ⟨_, h⟩ | ⟨n', t, ds, rfl, ht, hra', hmin', hring, h0, hle⟩
    · exact absurd hra (h n)
    · have en : n' = n := by
        rcases Nat.lt_trichotomy n' n with h | h | h
        · exact absurd hra' (hmin n' h)
        · exact h
        · exact absurd hra (hmin' n h)
      subst en
      have l60 : ds.length ≤ 60 := by
        have := sub_len (xs := ds) (ys := (List.range 60).map fun n => ((n : Nat) : Int)) hring.nodup fun x hx => by
          have := hring.rng x hx
          exact List.mem_map.mpr ⟨x.toNat, List.mem_range.mpr (by omega), by omega⟩
        rw [List.length_map, List.length_range] at this
        exact this
      refine ⟨_, rfl, _, rfl, _, rfl, fa, sa, .ref t, p, r, _, rfl, hp1, hr1, par, parr, lr, thing_tup ht (by omega), fun H2 c2 s2 hc2 => ?_⟩
      obtain rfl : c2 = true := hc2.mpr (right_ints.mpr hring)
      refine ⟨_, rfl, ?_⟩
      have ht2 := ht.mono s2
      refine ⟨_, rfl, t, _, 0, .int ((n' : Nat) : Int), rfl, rfl, ht2.seq, atI_of (j := 0) rfl (at_map h0), _, rfl, rfl, _, rfl, ?_⟩
      rw [decide_eq_true rfl]
      refine ⟨_, rfl, t, ds, rfl, ht2.seq, hring.ne, fun mx hm hmx => ⟨_, rfl, rfl, _, rfl, ?_⟩⟩
      have emx : mx = ((n' : Nat) : Int) := by
        have a := hle mx hm
        have b := hmx _ (List.mem_of_getElem? h0)
        omega
      subst emx
      rw [decide_eq_true rfl]
      exact kD _ _ ⟨t, ds, rfl, s2, ht2, l60⟩
  rintro σ' H2 ⟨t, ds, rfl, s2, ht, l60⟩
  have ms2 := ms1.mono s2
  have hp2 := hp1.mono s2
  have hr2 := hr1.mono s2
  clear hp1 hr1 ms1 hv s2
  refine ⟨_, rfl, _, rfl, _, rfl, m, c, g, _, t, ds, many, rfl, ms2, by decide, ht, l60, many1, by omega, fun H3 l ws k3 ms3 el lm lg lw gd' => ?_⟩
  have hp3 := k3.ti ms2 hp2
  have hr3 := k3.ti ms2 hr2
  refine ⟨l, rfl, ⟨_, sqL el⟩, for_list (K := K) (a := l) (xs := ws) (fun i σ H4 => ∃ y10, σ = [y0, some (.ref m), some (.int many), some (.ref fa), some (.ref sa), y5, some cl, y7, y8, some (.ref t), y10, y11, y12] ∧ Same H3 H4)
    ⟨y10, rfl, Same.refl H3⟩ (fun i σ H4 _ ⟨_, _, s4⟩ => sqL (s4 _ _ el)) ?_ ?_⟩
  · rintro i v σ H4 hi ⟨y10, rfl, s4⟩
    obtain ⟨o, th, _⟩ := (gd' v (List.mem_of_getElem? hi)).same s4
    have hp4 := hp3.mono s4
    have hr4 := hr3.mono s4
    refine ⟨_, rfl, _, rfl, _, rfl, fa, sa, v, p, r, o, rfl, hp4, hr4, par, parr, lr, th, fun Hb c1 sb hc1 => ?_⟩
    refine ⟨_, rfl, _, rfl, _, rfl, fa, sa, v, p, r, o, rfl, hp4.mono sb, hr4.mono sb, par, parr, lr, th.mono sb, fun Hc c2 sc hc2 => ?_⟩
    refine ⟨c1, c2, rfl, Bool.eq_iff_iff.mpr (hc1.trans hc2.symm), _, rfl, ?_⟩
    exact ⟨_, rfl, (s4.trans sb).trans sc⟩
  · rintro σ H4 ⟨y10, rfl, s4⟩
    exact ⟨_, rfl, m, c, g, _, rfl, ms3.mono s4, by decide, fun H' => q H'⟩
/-- as many labels as the finest one above has blocks -/
theorem above_count {p r ls : List Int} {L : Nat → Int} (par : Par p) (parr : Par r) (hl : p.length = r.length) (lln : ls.length = (bc 0 p + bc 0 r).toNat) (h : ∀ x y, L x = L y ↔ glue (tiesOf p r) x y)
    (hg : ∀ x y, x < ls.length → y < ls.length → (LabOf ls x = LabOf ls y ↔ glue (tiesOf p r) x y)) : bc 0 (num (p.map fun b => L b.toNat)) = ((dcount ls : Nat) : Int) := by
  have g0 := bc_ge 0 p
  have g1 := bc_ge 0 r
  rw [← above_labels par.rg (by omega) h hg, ← dcount_num]
  have mp := rg_mem 0 p (Int.le_refl _) par.rg
  have mr := rg_mem 0 r (Int.le_refl _) parr.rg
  refine congrArg Nat.cast (dcount_same fun x => ⟨fun hx => ?_, fun hx => ?_⟩)
  · obtain ⟨b, hb, rfl⟩ := List.mem_map.mp hx
    have := mp.1 b hb
    unfold LabOf
    rw [List.getD_eq_getElem?_getD, List.getElem?_eq_getElem (by omega)]
    exact List.getElem_mem _
  · obtain ⟨i, hi⟩ := List.mem_iff_getElem?.mp hx
    have il := (List.getElem?_eq_some_iff.mp hi).1
    have li : LabOf ls i = x := by
      unfold LabOf
      rw [List.getD_eq_getElem?_getD, hi]
      rfl
    by_cases hip : (i : Int) < bc 0 p
    · refine List.mem_map.mpr ⟨(i : Int), mp.2 i (by omega) hip, ?_⟩
      show LabOf ls ((i : Int)).toNat = x
      rw [Int.toNat_natCast, li]
    · have hm := mr.2 ((i : Int) - bc 0 p) (by omega) (by omega)
      obtain ⟨j, hj⟩ := List.mem_iff_getElem?.mp hm
      have jl := (List.getElem?_eq_some_iff.mp hj).1
      obtain ⟨b, hb⟩ := at_some (xs := p) (i := j) (by omega)
      have bm := List.mem_of_getElem? hb
      have br := mp.1 b bm
      refine List.mem_map.mpr ⟨b, bm, ?_⟩
      show LabOf ls b.toNat = x
      rw [← li]
      refine (hg _ _ (by omega) il).mpr ?_
      have := tie_at hb hj
      rw [show (bc 0 p + ((i : Int) - bc 0 p)).toNat = i by omega] at this
      exact this
theorem dcount_snoc (xs : List Int) (x : Int) : dcount (xs ++ [x]) = if x ∈ xs then dcount xs else dcount xs + 1 := by
  unfold dcount
  rw [firsts_snoc]
  unfold ins
  by_cases h : x ∈ xs
  · rw [if_pos ((mem_firsts xs).mpr h), if_pos h]
  · rw [if_neg (fun z => h ((mem_firsts xs).mp z)), if_neg h, List.length_append]
    rfl
theorem fn_law (F : Fun K "law" "law" s_law f fd) (T : Bt mg) (C : Calls P w K mg base) : FnG P w K mg base 9 f fd ["script"] (spLaw K) := by
  have u__law_begun := C.begun
  have u__law_draw := C.draw
  have u__law_any_parting := C.any
  have u__law_second := C.second
  have u__law_hung := C.hung
  have u_meet_in_tree := C.tree
  have u_meet_in_wood := C.wood
  have u_finest_above := C.above
  have u__law_like := C.like
  refine Fun.okG F sc_law (fun vs H Q E h => ?_) (fun cdv A outer s H vs Q E gd hr h => ?_)
  · obtain ⟨a, ns, rfl, _⟩ := h
    rfl
  obtain ⟨a, ns, rfl, hs, hl, q⟩ := h
  obtain ⟨t2, h2, k2⟩ := lawB (P := P) (w := w) (K := K) (mg := mg) (base := base) (f := f) (cdv := cdv) (A := A) (outer := outer) (s := s) (H0 := H) (E := E) T C gd hr
  refine ⟨_, (pss_cons (ps_set (i := 1) sc_law.nd rfl (Or.inl rfl) (pe_use u__law_begun (by decide) hr (by rfl) (pa_cons (pv 0) pa_nil)))
      (pss_cons (ps_set (i := 2) sc_law.nd rfl (Or.inl rfl) (pe_op op_add pe_int (pe_use u__law_draw (by decide) hr (by rfl) (pa_cons (pv 1) (pa_cons (pe_ifExp (pt_cmpR op_gt (pe_use u__law_draw (by decide) hr (by rfl) (pa_cons (pv 1) (pa_cons pe_int pa_nil))) pe_int (nomark _)) pe_int pe_int) pa_nil)))))
      (pss_cons (ps_set (i := 3) sc_law.nd rfl (Or.inl rfl) (pe_use u__law_any_parting (by decide) hr (by rfl) (pa_cons (pv 1) (pa_cons (pv 2) pa_nil))))
      (pss_cons (ps_set (i := 4) sc_law.nd rfl (Or.inl rfl) (pe_use u__law_second (by decide) hr (by rfl) (pa_cons (pv 1) (pa_cons (pv 3) pa_nil))))
      (pss_cons (ps_asg (pe_use u__law_hung (by decide) hr (by rfl) (pa_cons (pv 3) (pa_cons (pv 4) pa_nil))) (pg_tup rfl (pgs_cons (pg_name (i := 5) sc_law.nd rfl (Or.inr rfl)) (pgs_cons (pg_name (i := 6) sc_law.nd rfl (Or.inl rfl)) pgs_nil))))
      (pss_cons (ps_set (i := 7) sc_law.nd rfl (Or.inl rfl) (pe_callB (k_len (K := K) rfl) (by rfl) T.len PySem.boot_len (pa_cons (pe_lc (own := [("n", 11), ("label", 12)]) rfl sc_law.nd (k_enum (K := K) rfl (by rfl) T.enumerate (pa_cons (pv 5) pa_nil)) (blkOk_by (N := ["script", "m", "many", "first", "second", "labels", "closing", "pieces", "told", "row", "thing", "n", "label"]) (sc := defScope s_law) (by decide +kernel)) (fun _ _ _ _ _ => (k_gtup (K := K) (n := 2) rfl rfl (pgs_cons (pg_name (i := 11) sc_law.nd rfl (Or.inl rfl)) (pgs_cons (pg_name (i := 12) sc_law.nd rfl (Or.inl rfl)) pgs_nil)))) (fun _ _ _ _ _ => (pts_one (pt_cmpR (k_notIn (K := K) rfl) (pv 12) (pe_slice (k_sll (K := K) rfl) (pv 5) po_none (po_some (pv 11))) (by rfl)))) (fun _ _ _ _ _ => pe_int)) pa_nil)))
      (pss_cons (ps_set (i := 8) sc_law.nd rfl (Or.inl rfl) (pe_lst (pa_cons (pe_use u_meet_in_tree (by decide) hr (by rfl) (pa_cons (pv 3) (pa_cons (pv 4) pa_nil))) (pa_cons (pe_use u_meet_in_wood (by decide) hr (by rfl) (pa_cons (pv 3) (pa_cons (pv 4) pa_nil))) (pa_cons (pe_op op_add (pe_callB (k_maxT (K := K) rfl rfl hr.units) (by rfl) T.max (by decide +kernel) (pa_cons (pe_use u_finest_above (by decide) hr (by rfl) (pa_cons (pv 3) (pa_cons (pv 4) pa_nil))) pa_nil)) pe_int) pa_nil)))))
      (pss_cons (ps_if (pt_not (pt_val (pe_useG u__law_like gd (by decide) hr (by rfl) (pa_cons (pv 8) (pa_cons (pe_lst (pa_cons (pe_and (pe_cmpR op_isN (pv 6) pe_non (nomark _)) (pe_one (pe_cmpR op_eq (pv 7) pe_int (nomark _)))) (pa_cons (pe_cmpR op_isN (pv 6) pe_non (nomark _)) (pa_cons (pv 7) pa_nil)))) pa_nil))))) (pss_one (ps_ret pe_bl)) pss_nil)
      (pss_cons (ps_if (pt_not (pt_val (pe_useG u__law_like gd (by decide) hr (by rfl) (pa_cons (pe_lst (pa_cons (pe_use u_meet_in_tree (by decide) hr (by rfl) (pa_cons (pv 4) (pa_cons (pv 3) pa_nil))) (pa_cons (pe_use u_meet_in_wood (by decide) hr (by rfl) (pa_cons (pv 4) (pa_cons (pv 3) pa_nil))) pa_nil))) (pa_cons (pe_slice (k_sll (K := K) rfl) (pv 8) po_none (po_some pe_int)) pa_nil))))) (pss_one (ps_ret pe_bl)) pss_nil)
      h2))))))))), ?_⟩
  refine ⟨_, rfl, a, ns, rfl, hs, hl, fun H0 m c g ms0 => ?_⟩
  refine ⟨_, rfl, _, rfl, m, c, g, 0, 3, rfl, ms0, by decide, by decide, by decide, fun H1 d1 k1 ms1 d10 d11 => ⟨_, _, rfl, rfl, _, rfl, ?_⟩⟩
  refine if_factB (fun v H' => ∃ lim : Int, v = .int lim ∧ (lim = 60 ∨ lim = 6) ∧ H' = H1) (fun _ Qv h => h _ _ ⟨60, rfl, .inl rfl, rfl⟩) (fun _ Qv h => h _ _ ⟨6, rfl, .inr rfl, rfl⟩) ?_
  rintro v H' ⟨lim, rfl, hlim, rfl⟩
  clear k1
  refine ⟨m, c, g, 1, lim, rfl, ms1, by decide, by omega, by omega, fun H2 d2 k2' ms2 d20 d21 => ⟨1, d2, rfl, rfl, ?_⟩⟩
  clear k2' ms0 ms1
  have many1 : 1 ≤ 1 + d2 := by omega
  have many2 : 1 + d2 ≤ 60 := by omega
  refine ⟨_, rfl, _, rfl, m, c, g, 2, 1 + d2, rfl, ms2, by decide, by omega, by omega, fun H3 fa p k3 ms3 hp3 par lp => ?_⟩
  refine ⟨_, rfl, _, rfl, m, c, g, _, fa, p, rfl, ms3, by omega, hp3, par, fun H4 sa r k4 ms4 hr4 parr lr => ?_⟩
  have hp4 := k4.ti ms3 hp3
  have ms5 : MS H4 m c g 500 := ms4.le (by omega)
  clear k3 k4 ms2 ms3 ms4 hp3
  have g0 := bc_ge 0 p
  have g1 := bc_le 0 p
  have g2 := par.le
  have g3 := bc_ge 0 r
  have g4 := bc_le 0 r
  have hl' : p.length = r.length := lr.symm
  refine ⟨_, rfl, _, rfl, fa, sa, p, r, rfl, hp4, hr4, par, parr, hl', fun H5 t l cl ls s5 et el lln hg hcl hd hbd => ?_⟩
  refine ⟨t, _, rfl, .inl (.inl et), rfl, _, _, rfl, _, [], rfl, rfl, ?_⟩
  have hp5 := hp4.mono s5
  have hr5 := hr4.mono s5
  have ms6 := ms5.mono s5
  clear hp4 hr4 ms5 s5 et
  -- how many pieces
  refine ⟨_, rfl, l, _, rfl, sqL el, fun L nL => ?_⟩
  refine lc_enumL (K := K) (a := l) (xs := ls.map V.int) (fun k H6 => Same H5 H6 ∧ H6 L = some (.lst ((List.replicate (dcount (ls.take k)) (1 : Int)).map V.int)))
    ⟨same_new nL, upd_same⟩ (fun k H6 _ ⟨s6, _⟩ => sqL (s6 _ _ el)) ?_ ?_
  · rintro k v T1 H6 hk ⟨s6, eL⟩ hT
    obtain ⟨d, hd', rfl⟩ := map_at hk
    have kl := (List.getElem?_eq_some_iff.mp hd').1
    have s7 : Same H6 (upd H6 T1 (.tup [.int (k : Nat), .int d])) := same_new hT
    refine ⟨T1, _, rfl, .inl (.inl upd_same), rfl, _, _, rfl, _, [], rfl, rfl, ?_⟩
    have cutk : cutV (ls.map V.int) none (some ((k : Nat) : Int)) = (ls.take k).map V.int := by
      unfold cutV
      rw [HT.sIx_none, HT.sIx_nat, List.length_map, Nat.min_eq_left (by omega), List.drop_zero, Nat.sub_zero, List.map_take]
    refine ⟨rfl, _, rfl, _, rfl, _, rfl, _, rfl, l, _, rfl, sqL (s7 _ _ (s6 _ _ el)), fun S nS => ?_⟩
    rw [cutk]
    have s8 := s7.trans (same_new (o := .lst ((ls.take k).map V.int)) nS)
    refine ⟨S, _, rfl, .inl (sqL upd_same), rfl, flat_ints _, _, rfl, ?_⟩
    rw [show (if true = true then !L2.inV (V.int d) ((ls.take k).map V.int) else L2.inV (V.int d) ((ls.take k).map V.int)) = !decide (d ∈ ls.take k) from congrArg Bool.not (inV_ints _ _)]
    have eL8 := s8 _ _ eL
    have s68 := s6.trans s8
    by_cases hm : d ∈ ls.take k
    · rw [decide_eq_true hm]
      refine ⟨s68, ?_⟩
      rw [eL8, take_snoc hd', dcount_snoc, if_pos hm]
    · rw [decide_eq_false hm]
      refine ⟨_, eL8, ?_, same_mut s68 nL, ?_⟩
      · have := firsts_le (ls.take k)
        rw [List.length_take] at this
        rw [List.length_map, List.length_replicate]
        exact small_of (by show (firsts (ls.take k)).length ≤ 100000; omega)
      · rw [upd_same, take_snoc hd', dcount_snoc, if_neg hm, List.replicate_succ', List.map_append]
        rfl
  rintro H6 ⟨s6, eL⟩
  rw [List.length_map, List.take_length] at eL
  have hp6 := hp5.mono s6
  have hr6 := hr5.mono s6
  have ms7 := ms6.mono s6
  clear hp5 hr5 ms6 el s6
  refine ⟨L, _, rfl, .inl (sqL eL), ?_⟩
  rw [List.length_map, List.length_replicate]
  clear eL nL
  -- told
  refine ⟨_, rfl, _, rfl, fa, sa, p, r, rfl, hp6, hr6, par, parr, hl', fun H7 c1 s7 hc1 => ?_⟩
  refine ⟨_, rfl, _, rfl, fa, sa, p, r, rfl, hp6.mono s7, hr6.mono s7, par, parr, hl', fun H8 c2 s8 hc2 => ?_⟩
  refine ⟨_, rfl, _, rfl, fa, sa, p, r, rfl, (hp6.mono s7).mono s8, (hr6.mono s7).mono s8, par, parr, hl', fun H9 t9 LL s9 hLL ht9 => ?_⟩
  have dle : dcount ls ≤ 120 := by
    have := firsts_le ls
    unfold dcount
    omega
  have nne : num (p.map fun b => LL b.toNat) ≠ [] := fun e => by
    have := congrArg List.length e
    rw [num_len, List.length_map] at this
    exact par.ne (List.eq_nil_of_length_eq_zero this)
  refine ⟨t9, _, rfl, ht9.seq, nne, fun mx hm hmx => ⟨_, 1, rfl, rfl, ?_⟩⟩
  have emx : mx + 1 = ((dcount ls : Nat) : Int) := by
    rw [← above_count par parr hl' lln hLL hg]
    exact par_max (num_par (fun e => par.ne (List.map_eq_nil_iff.mp e)) (by rw [List.length_map]; exact g2)) hm hmx
  refine ⟨by show 3 ≤ sizeLine; decide, fun tl ntl => ?_⟩
  have s10 := ((s7.trans s8).trans s9).trans (same_new (o := .lst [.bl c1, .bl c2, .int (mx + 1)]) ntl)
  have etl : (upd H9 tl (.lst [.bl c1, .bl c2, .int (mx + 1)])) tl = some (.lst [.bl c1, .bl c2, .int (mx + 1)]) := upd_same
  generalize upd H9 tl (.lst [.bl c1, .bl c2, .int (mx + 1)]) = H10 at s10 etl
  have hp10 := hp6.mono s10
  have hr10 := hr6.mono s10
  have ms10 := ms7.mono s10
  clear hp6 hr6 ms7 s7 s8 s9 s10 ht9 ntl
  have w2 : c2 = true ↔ cl = .non := hc2.trans ⟨fun h => by
    rcases hcl with ⟨e, _⟩ | ⟨n, _, _, hra, _⟩
    · exact e
    · exact absurd hra (h n), fun e i hi => by
    rcases hcl with ⟨_, h⟩ | ⟨n, e', _⟩
    · exact h i (ring_lt hi) hi
    · rw [e] at e'; cases e'⟩
  have w1 : c1 = true ↔ cl = .non ∧ dcount ls = 1 := hc1.trans ⟨fun h => by
    have e := w2.mp (hc2.mpr h.2)
    have := hd e
    have := h.1
    exact ⟨e, by omega⟩, fun h => by
    have := hd h.1
    refine ⟨by omega, hc2.mp (w2.mpr h.1)⟩⟩
  have nc3 : Nc 20 (2 ^ 20) (.list [.bool c1, .bool c2, .int ((dcount ls : Nat) : Int)]) :=
    (nc_lst (nc_cons (nc_bool c1) (nc_cons (nc_bool c2) (nc_cons (nc_int (by omega) (by omega)) (nc_nil 0))))).le (by decide) (by decide)
  -- like
  have eb2 : decide (cl = V.non) = c2 := by
    rw [Bool.eq_iff_iff, decide_eq_true_eq]
    exact w2.symm
  have t12 : Tree r p ↔ Tree p r := by
    have f1 : NoRing p r ↔ NoRing r p := ⟨tree_flip par.rg parr.rg hl', tree_flip parr.rg par.rg hl'.symm⟩
    refine ⟨fun h => ⟨by have := h.1; omega, f1.mpr h.2⟩, fun h => ⟨by have := h.1; omega, f1.mp h.2⟩⟩
  have n12 : NoRing r p ↔ NoRing p r := ⟨tree_flip parr.rg par.rg hl'.symm, tree_flip par.rg parr.rg hl'⟩
  have nc2 : Nc 20 (2 ^ 20) (.list [.bool c1, .bool c2]) := (nc_lst (nc_cons (nc_bool c1) (nc_cons (nc_bool c2) (nc_nil 0)))).le (by decide) (by decide)
  refine ⟨_, rfl, _, rfl, rfl, _, rfl, ?_⟩
  by_cases ec : cl = .non
  · rw [decide_eq_true ec]
    refine ⟨_, rfl, rfl, _, rfl, rfl, _, rfl, by show 3 ≤ sizeLine; decide, fun dl ndl => ?_⟩
    have sdl := same_new (o := .lst [.bl (decide (V.int ((dcount ls : Nat) : Int) = V.int 1)), .bl (decide (cl = V.non)), .int ((dcount ls : Nat) : Int)]) ndl
    have eb1 : decide (V.int ((dcount ls : Nat) : Int) = V.int 1) = c1 := by
      rw [Bool.eq_iff_iff, decide_eq_true_eq, w1]
      exact ⟨fun h => ⟨ec, by have := V.int.inj h; omega⟩, fun h => congrArg V.int (by omega)⟩
    refine ⟨.ref tl, .ref dl, .list [.bool c1, .bool c2, .int ((dcount ls : Nat) : Int)], rfl,
      .lst (sqL (sdl _ _ etl)) (.cons (.bl c1) (.cons (.bl c2) (.cons (by rw [← emx]; exact .int _) .nil))),
      .lst (sqL upd_same) (.cons (by rw [eb1]; exact .bl _) (.cons (by rw [eb2]; exact .bl _) (.cons (.int _) .nil))), rfl, nc3, true, rfl, ?_⟩
    refine ⟨_, rfl, _, rfl, sa, fa, r, p, rfl, hr10.mono sdl, hp10.mono sdl, parr, par, hl'.symm, fun H11 c3 s11 hc3 => ?_⟩
    refine ⟨_, rfl, _, rfl, sa, fa, r, p, rfl, (hr10.mono sdl).mono s11, (hp10.mono sdl).mono s11, parr, par, hl'.symm, fun H12 c4 s12 hc4 => ?_⟩
    obtain rfl : c3 = c1 := Bool.eq_iff_iff.mpr ((hc3.trans t12).trans hc1.symm)
    obtain rfl : c4 = c2 := Bool.eq_iff_iff.mpr ((hc4.trans n12).trans hc2.symm)
    refine ⟨by show 2 ≤ sizeLine; decide, fun ml nml => ?_⟩
    have sml := (s11.trans s12).trans (same_new (o := .lst [.bl c3, .bl c4]) nml)
    have eml : (upd H12 ml (.lst [.bl c3, .bl c4])) ml = some (.lst [.bl c3, .bl c4]) := upd_same
    have etl2 := sml _ _ (sdl _ _ etl)
    have s20 := sdl.trans sml
    generalize upd H12 ml (.lst [.bl c3, .bl c4]) = H13 at eml etl2 s20
    refine ⟨_, rfl, 2, rfl, tl, _, rfl, sqL etl2, fun sl nsl => ?_⟩
    have ssl := same_new (o := .lst [.bl c3, .bl c4]) nsl
    refine ⟨.ref ml, .ref sl, .list [.bool c3, .bool c4], rfl, .lst (sqL (ssl _ _ eml)) (.cons (.bl c3) (.cons (.bl c4) .nil)), .lst (sqL (xs := [.bl c3, .bl c4]) upd_same) (.cons (.bl c3) (.cons (.bl c4) .nil)), rfl, nc2, true, rfl, ?_⟩
    have s21 := s20.trans ssl
    exact k2 _ _ _ ⟨m, c, g, fa, sa, 1 + d2, p, r, cl, _, _, _, _, _, _, _, _, rfl, (ms10.mono s21).le (by omega), hp10.mono s21, hr10.mono s21, par, parr, hl', by omega, hcl, fun H' => q H'⟩
  · rw [decide_eq_false ec]
    refine ⟨_, rfl, rfl, _, rfl, by show 3 ≤ sizeLine; decide, fun dl ndl => ?_⟩
    have sdl := same_new (o := .lst [.bl false, .bl (decide (cl = V.non)), .int ((dcount ls : Nat) : Int)]) ndl
    have eb1 : c1 = false := by
      cases c1 with
      | false => rfl
      | true => exact absurd (w1.mp rfl).1 ec
    refine ⟨.ref tl, .ref dl, .list [.bool c1, .bool c2, .int ((dcount ls : Nat) : Int)], rfl,
      .lst (sqL (sdl _ _ etl)) (.cons (.bl c1) (.cons (.bl c2) (.cons (by rw [← emx]; exact .int _) .nil))),
      .lst (sqL upd_same) (.cons (by rw [eb1]; exact .bl _) (.cons (by rw [eb2]; exact .bl _) (.cons (.int _) .nil))), rfl, nc3, true, rfl, ?_⟩
    refine ⟨_, rfl, _, rfl, sa, fa, r, p, rfl, hr10.mono sdl, hp10.mono sdl, parr, par, hl'.symm, fun H11 c3 s11 hc3 => ?_⟩
    refine ⟨_, rfl, _, rfl, sa, fa, r, p, rfl, (hr10.mono sdl).mono s11, (hp10.mono sdl).mono s11, parr, par, hl'.symm, fun H12 c4 s12 hc4 => ?_⟩
    obtain rfl : c3 = c1 := Bool.eq_iff_iff.mpr ((hc3.trans t12).trans hc1.symm)
    obtain rfl : c4 = c2 := Bool.eq_iff_iff.mpr ((hc4.trans n12).trans hc2.symm)
    refine ⟨by show 2 ≤ sizeLine; decide, fun ml nml => ?_⟩
    have sml := (s11.trans s12).trans (same_new (o := .lst [.bl c3, .bl c4]) nml)
    have eml : (upd H12 ml (.lst [.bl c3, .bl c4])) ml = some (.lst [.bl c3, .bl c4]) := upd_same
    have etl2 := sml _ _ (sdl _ _ etl)
    have s20 := sdl.trans sml
    generalize upd H12 ml (.lst [.bl c3, .bl c4]) = H13 at eml etl2 s20
    refine ⟨_, rfl, 2, rfl, tl, _, rfl, sqL etl2, fun sl nsl => ?_⟩
    have ssl := same_new (o := .lst [.bl c3, .bl c4]) nsl
    refine ⟨.ref ml, .ref sl, .list [.bool c3, .bool c4], rfl, .lst (sqL (ssl _ _ eml)) (.cons (.bl c3) (.cons (.bl c4) .nil)), .lst (sqL (xs := [.bl c3, .bl c4]) upd_same) (.cons (.bl c3) (.cons (.bl c4) .nil)), rfl, nc2, true, rfl, ?_⟩
    have s21 := s20.trans ssl
    exact k2 _ _ _ ⟨m, c, g, fa, sa, 1 + d2, p, r, cl, _, _, _, _, _, _, _, _, rfl, (ms10.mono s21).le (by omega), hp10.mono s21, hr10.mono s21, par, parr, hl', by omega, hcl, fun H' => q H'⟩
end
end KQ
namespace KQ
open PySem PySem.Spec PyProof.Rows L2 KR
section
variable {P : Program} {w : World} {K : PySem.W.Frag} {mg : Str → Option Value} {h : Heap} {Goal : Prop}
/-- a def that the top has -/
theorem step_def {x : Str} {st : Stmt} {f : Addr} {oc : Value} {od an : Option Addr} {osl : Array (Option Value)} {kV doc pm cdv ct : Value} (X : K.In h) (G : h.Ns mainGlobals mg)
    (a : PySem.W.nsIn K mainGlobals x = some (some (.ref f))) (l : K.lookup f = some ⟨oc, od, .func (PySem.W.fnOf x x (defArgs st) (defBody st) (defScope st) .none kV doc pm an cdv ct), osl⟩)
    (c : PySem.W.codeIn K cdv x = true) (k : PySem.W.keepIn K (.ref f) = true) (n : DefAt K mg x st → Goal) : Goal :=
  n ⟨f, _, fun_mk (st := st) l c k, PySem.W.mg_of X G a⟩
theorem step_cst {x : Str} {v : Int} {t : Tok} (X : K.In h) (G : h.Ns mainGlobals mg) (a : PySem.W.nsIn K mainGlobals x = some (some (.int v t))) (n : Cst mg x v → Goal) : Goal := n ⟨t, PySem.W.mg_of X G a⟩
theorem step_none {x : Str} (X : K.In h) (G : h.Ns mainGlobals mg) (a : PySem.W.nsIn K mainGlobals x = some none) (n : mg x = none → Goal) : Goal := n (PySem.W.mg_none_of X G a)
theorem step_cls {x : Str} {C : Addr} (X : K.In h) (G : h.Ns mainGlobals mg) (aC : PySem.W.nsIn K mainGlobals x = some (some (.ref C))) (pg : PySem.W.plainGet K C Str.empty = true) (hd : PySem.W.hasDictIn K C = true)
    (po : PySem.W.plainOver K C = true) (sa : PySem.W.findIn K (.ref C) "__setattr__" = some (some (.builtin "object.__setattr__"))) (mk : PySem.W.makesIn K C = true) (kc : PySem.W.keepIn K (.ref C) = true)
    (n : Cls K C → mg x = some (.ref C) → PySem.W.makesIn K C = true → PySem.W.keepIn K (.ref C) = true → Goal) : Goal := n ⟨pg, hd, po, sa⟩ (PySem.W.mg_of X G aC) mk kc
theorem step_init {q : Str} {st : Stmt} {C f : Addr} {oc : Value} {od an : Option Addr} {osl : Array (Option Value)} {kV doc pm cdv ct : Value}
    (a : PySem.W.findIn K (.ref C) "__init__" = some (some (.ref f))) (i : PySem.W.isFn K (.ref f) = true) (l : K.lookup f = some ⟨oc, od, .func (PySem.W.fnOf "__init__" q (defArgs st) (defBody st) (defScope st) .none kV doc pm an cdv ct), osl⟩)
    (c : PySem.W.codeIn K cdv q = true) (k : PySem.W.keepIn K (.ref f) = true) (mk : PySem.W.makesIn K C = true) (kc : PySem.W.keepIn K (.ref C) = true) (n : IAt K C q st → Goal) : Goal :=
  n ⟨f, _, fun_mk (st := st) l c k, ⟨mk, a, i, kc⟩⟩
theorem step_meth {m q : Str} {st : Stmt} {C f : Addr} {oc : Value} {od an : Option Addr} {osl : Array (Option Value)} {kV doc pm cdv ct : Value}
    (_X : Cls K C) (a : PySem.W.findIn K (.ref C) m = some (some (.ref f))) (i : PySem.W.isFn K (.ref f) = true) (l : K.lookup f = some ⟨oc, od, .func (PySem.W.fnOf m q (defArgs st) (defBody st) (defScope st) .none kV doc pm an cdv ct), osl⟩)
    (c : PySem.W.codeIn K cdv q = true) (k : PySem.W.keepIn K (.ref f) = true) (n : MAt K C m q st → Goal) : Goal :=
  n ⟨f, _, fun_mk (st := st) l c k, ⟨a, i, k⟩⟩
theorem step_noattr {x : Str} {C : Addr} (_X : Cls K C) (a : PySem.W.findIn K (.ref C) x = some none) (n : NoAttr K C x → Goal) : Goal := n a
end
end KQ
namespace KQ
open PySem PySem.Spec PyProof.Rows L2 KR KM StX
section
variable {P : Program} {w : World} {K : PySem.W.Frag} {mg : Str → Option Value} {base : Heap}
structure Defs (K : PySem.W.Frag) (mg : Str → Option Value) : Prop where
  d_is_integer : DefAt K mg "is_integer" s_is_integer
  d_is_integer_within : DefAt K mg "is_integer_within" s_is_integer_within
  d_is_tuple_within : DefAt K mg "is_tuple_within" s_is_tuple_within
  d_first_wrong_block : DefAt K mg "first_wrong_block" s_first_wrong_block
  d_need_parting : DefAt K mg "need_parting" s_need_parting
  d_need_parting_of : DefAt K mg "need_parting_of" s_need_parting_of
  d_need_two_partings : DefAt K mg "need_two_partings" s_need_two_partings
  d_numbered : DefAt K mg "numbered" s_numbered
  d_block_count : DefAt K mg "block_count" s_block_count
  d_has_no_ring : DefAt K mg "has_no_ring" s_has_no_ring
  d_meets : DefAt K mg "meets" s_meets
  d_meet_in_tree : DefAt K mg "meet_in_tree" s_meet_in_tree
  d_meet_in_wood : DefAt K mg "meet_in_wood" s_meet_in_wood
  d_has_like : DefAt K mg "has_like" s_has_like
  d_is_ring : DefAt K mg "is_ring" s_is_ring
  d_doors_ahead : DefAt K mg "doors_ahead" s_doors_ahead
  d_way_back : DefAt K mg "way_back" s_way_back
  d_ring_up_to : DefAt K mg "ring_up_to" s_ring_up_to
  d_ring : DefAt K mg "ring" s_ring
  d_finest_above : DefAt K mg "finest_above" s_finest_above
  d__law_mixed : DefAt K mg "_law_mixed" s__law_mixed
  d__law_folded : DefAt K mg "_law_folded" s__law_folded
  d__law_draw : DefAt K mg "_law_draw" s__law_draw
  d__law_begun : DefAt K mg "_law_begun" s__law_begun
  d__law_like : DefAt K mg "_law_like" s__law_like
  d__law_of : DefAt K mg "_law_of" s__law_of
  d__law_is_int : DefAt K mg "_law_is_int" s__law_is_int
  d__law_order : DefAt K mg "_law_order" s__law_order
  d__law_numbered : DefAt K mg "_law_numbered" s__law_numbered
  d__law_any_parting : DefAt K mg "_law_any_parting" s__law_any_parting
  d__law_hung : DefAt K mg "_law_hung" s__law_hung
  d__law_met : DefAt K mg "_law_met" s__law_met
  d__law_is_right_ring : DefAt K mg "_law_is_right_ring" s__law_is_right_ring
  d__law_second : DefAt K mg "_law_second" s__law_second
  d__law_bent : DefAt K mg "_law_bent" s__law_bent
  d__law_coarse_right : DefAt K mg "_law_coarse_right" s__law_coarse_right
  c_MOST_DOORS : Cst mg "MOST_DOORS" 60
structure Clu (K : PySem.W.Frag) (mg : Str → Option Value) (C : Addr) : Prop where
  cC : Cls K C
  hm : mg "Clumps" = some (.ref C)
  nH : NoAttr K C "heads"
  nM : NoAttr K C "many"
  i : IAt K C "Clumps.__init__" s_Clumps___init__
  h : MAt K C "head" "Clumps.head" s_Clumps_head
  u : MAt K C "unite" "Clumps.unite" s_Clumps_unite
theorem calls {C : Addr} (D : Defs K mg) (T : Bt mg) (L : Clu K mg C) : Calls P w K mg base := by
  have u_is_integer := ok_is_integer (P := P) (w := w) (base := base) D.d_is_integer T
  have u_is_integer_within := ok_is_integer_within D.d_is_integer_within T u_is_integer
  have u_is_integerA := ok_is_integerA (P := P) (w := w) (base := base) D.d_is_integer T
  have u_is_integer_withinA := ok_is_integer_withinA D.d_is_integer_within T u_is_integerA
  have u_is_tuple_within := ok_is_tuple_within (P := P) (w := w) (base := base) D.d_is_tuple_within T
  have u_first_wrong_block := ok_first_wrong_block (P := P) (w := w) (base := base) D.d_first_wrong_block T
  have u_need_parting := ok_need_parting D.d_need_parting T D.c_MOST_DOORS u_is_tuple_within u_first_wrong_block
  have u_need_parting_of := ok_need_parting_of D.d_need_parting_of T u_need_parting
  have u_need_two_partings := ok_need_two_partings D.d_need_two_partings T u_need_parting u_need_parting_of
  have u_block_count := ok_block_count (P := P) (w := w) (base := base) D.d_block_count T
  have u_numL := ok_numberedL (P := P) (w := w) (base := base) D.d_numbered T
  have u_Clumps := ok_init (P := P) (w := w) (base := base) L.i T L.cC L.nH L.nM L.hm
  have u_m_head := ok_head (P := P) (w := w) (base := base) L.h T L.cC L.nH
  have u_m_unite := ok_unite L.u T L.cC L.nH L.nM u_m_head
  have u_finest_above := ok_finest_above D.d_finest_above T L.cC u_need_two_partings u_block_count u_Clumps u_m_unite u_m_head u_numL
  have u_has_no_ring := ok_has_no_ring D.d_has_no_ring T u_block_count
  have u_meets := ok_meets D.d_meets T u_block_count u_has_no_ring
  have u_tree := ok_meet_in_tree D.d_meet_in_tree T u_need_two_partings u_meets
  have u_wood := ok_meet_in_wood D.d_meet_in_wood T u_need_two_partings u_has_no_ring
  have u_likeT := ok_has_likeT (P := P) (w := w) (base := base) D.d_has_like T
  have u_likeL := ok_has_likeL (P := P) (w := w) (base := base) D.d_has_like T
  have u_isr := ok_is_ring D.d_is_ring T u_need_two_partings u_is_integer_withinA u_likeT u_likeL
  have u_ahead := ok_doors_ahead (P := P) (w := w) (base := base) D.d_doors_ahead T
  have u_back := ok_way_back (P := P) (w := w) (base := base) D.d_way_back T
  have u_upto := ok_ring_up_to D.d_ring_up_to T u_ahead u_back
  have u_ring := ok_ring D.d_ring T u_need_two_partings u_upto
  have u_mixed := ok_mixed (P := P) (w := w) (base := base) D.d__law_mixed T
  have u_draw := ok_draw D.d__law_draw T u_mixed
  have u_folded := ok_folded (P := P) (w := w) (base := base) D.d__law_folded T
  have u_lnumL := ok_lnumL (P := P) (w := w) (base := base) D.d__law_numbered T
  have u_order := ok_order D.d__law_order T u_draw
  have u_of := ok_of D.d__law_of T u_draw
  have u_ofA := ok_ofA D.d__law_of T u_draw
  have u_met := ok_met D.d__law_met T u_of u_order u_lnumL
  have u_any := ok_any D.d__law_any_parting T u_draw u_lnumL
  have u_int := ok_law_is_int (P := P) (w := w) (base := base) D.d__law_is_int T
  have u_right := ok_right_ring D.d__law_is_right_ring T u_int
  have u_likeB := ok_likeB (P := P) (w := w) (base := base) D.d__law_like T
  exact ⟨ok_begun D.d__law_begun T u_folded, u_draw, u_any, ok_second D.d__law_second T u_draw u_any u_of u_met u_lnumL, ok_hung2 D.d__law_hung T, u_tree, u_wood, u_finest_above,
    ok_like D.d__law_like T, u_likeB, u_ring, u_right, u_isr, ok_bent D.d__law_bent T u_draw u_ofA u_order, ok_coarse D.d__law_coarse_right T u_draw u_order u_lnumL u_likeB u_isr u_right⟩
theorem finish {l : PySem.W.OpenLaw} {fa : Addr} {C : Addr} (hfa : mg "law" = some (.ref fa)) (DL : DefAt K mg "law" s_law) (D : Defs K mg) (T : Bt mg) (L : Clu K mg C) :
    ∃ fd : FuncData, (∀ (s : Shared) (u : Value), BindsTo s fd ⟨[u], []⟩ [("script", u)]) ∧ ∀ base : Heap, K.In base → base.Ns mainGlobals mg → FnG l.prog w K mg base 9 fa fd ["script"] (spLaw K) := by
  obtain ⟨f, fd, F, hm⟩ := DL
  have e := hfa.symm.trans hm
  cases e
  have F' := F
  obtain ⟨oc, od, kV, doc, pm, an, cdv, ct, osl, rfl, lk, hcd⟩ := F'.ex
  exact ⟨_, fun s v => .of_eq rfl, fun base _ _ => fn_law F T (calls D T L)⟩
theorem walk {l : PySem.W.OpenLaw} {q : Program} {loose : List Str} {XP : (Str → Option Value) → Heap → Prop} {YP : World → Heap → Prop} {d : DefRec} {K : Params → PySem.W.Frag} (hn : l.most = some 63) (hdf : d.params.defaults = [])
    (hY : ∀ (w : World) (h : Heap), YP w h → (K w.params).In h)
    (F : ∀ (w : World) (mg : Str → Option Value) (fa : Addr) (h : Heap), (K w.params).In h → h.Ns mainGlobals mg → mg d.name = some (.ref fa) →
      ∃ fd : FuncData, (∀ (s : Shared) (u : Value), BindsTo s fd ⟨[u], []⟩ [("script", u)]) ∧ ∀ base : Heap, (K w.params).In base → base.Ns mainGlobals mg → FnG l.prog w (K w.params) mg base 9 fa fd ["script"] (spLaw (K w.params))) :
    PySem.W.WalkO q loose XP YP l.row.toRowW d [] (fun f vs => PySem.call f vs) :=
  KR.walk_ofG (n := 63) (k := 9) (x := "script") (sp := fun w => spLaw (K w.params)) hn (by decide) hdf ⟨rfl, by decide, by decide⟩ hY F (fun _ _ a ns hl _ hS => ⟨a, ns, rfl, hS, hl, fun _ => rfl⟩)
end
end KQ
open PySem PySem.W PyProof.Rows
set_option maxRecDepth 100000 in
set_option maxHeartbeats 0 in
theorem PySem.Challenge.cw_fittingdoors_k03_whole_rings_and_trees_holds : PySem.Challenge.rw_fittingdoors_k03_whole_rings_and_trees.Holds := by
  w_on; o_law; k_head; (case hw => w_witness2)
  k_fill
  refine KQ.walk (l := PySem.Challenge.rw_fittingdoors_k03_whole_rings_and_trees) rfl rfl (fun w h Y => PySem.W.kIn_of Y) ?F
  case F =>
    intro w mg fa h KX G hmg
    refine' KQ.step_def (x := "is_integer") (st := KQ.s_is_integer) KX G ?a1 ?l1 ?c1 ?k1 ?n1
    (case a1 => k_is); (case l1 => k_is); (case c1 => k_is); (case k1 => k_is)
    intro d_is_integer
    refine' KQ.step_def (x := "is_integer_within") (st := KQ.s_is_integer_within) KX G ?a2 ?l2 ?c2 ?k2 ?n2
    (case a2 => k_is); (case l2 => k_is); (case c2 => k_is); (case k2 => k_is)
    intro d_is_integer_within
    refine' KQ.step_def (x := "is_tuple_within") (st := KQ.s_is_tuple_within) KX G ?a3 ?l3 ?c3 ?k3 ?n3
    (case a3 => k_is); (case l3 => k_is); (case c3 => k_is); (case k3 => k_is)
    intro d_is_tuple_within
    refine' KQ.step_def (x := "first_wrong_block") (st := KQ.s_first_wrong_block) KX G ?a4 ?l4 ?c4 ?k4 ?n4
    (case a4 => k_is); (case l4 => k_is); (case c4 => k_is); (case k4 => k_is)
    intro d_first_wrong_block
    refine' KQ.step_def (x := "need_parting") (st := KQ.s_need_parting) KX G ?a5 ?l5 ?c5 ?k5 ?n5
    (case a5 => k_is); (case l5 => k_is); (case c5 => k_is); (case k5 => k_is)
    intro d_need_parting
    refine' KQ.step_def (x := "need_parting_of") (st := KQ.s_need_parting_of) KX G ?a6 ?l6 ?c6 ?k6 ?n6
    (case a6 => k_is); (case l6 => k_is); (case c6 => k_is); (case k6 => k_is)
    intro d_need_parting_of
    refine' KQ.step_def (x := "need_two_partings") (st := KQ.s_need_two_partings) KX G ?a7 ?l7 ?c7 ?k7 ?n7
    (case a7 => k_is); (case l7 => k_is); (case c7 => k_is); (case k7 => k_is)
    intro d_need_two_partings
    refine' KQ.step_def (x := "numbered") (st := KQ.s_numbered) KX G ?a8 ?l8 ?c8 ?k8 ?n8
    (case a8 => k_is); (case l8 => k_is); (case c8 => k_is); (case k8 => k_is)
    intro d_numbered
    refine' KQ.step_def (x := "block_count") (st := KQ.s_block_count) KX G ?a9 ?l9 ?c9 ?k9 ?n9
    (case a9 => k_is); (case l9 => k_is); (case c9 => k_is); (case k9 => k_is)
    intro d_block_count
    refine' KQ.step_def (x := "has_no_ring") (st := KQ.s_has_no_ring) KX G ?a10 ?l10 ?c10 ?k10 ?n10
    (case a10 => k_is); (case l10 => k_is); (case c10 => k_is); (case k10 => k_is)
    intro d_has_no_ring
    refine' KQ.step_def (x := "meets") (st := KQ.s_meets) KX G ?a11 ?l11 ?c11 ?k11 ?n11
    (case a11 => k_is); (case l11 => k_is); (case c11 => k_is); (case k11 => k_is)
    intro d_meets
    refine' KQ.step_def (x := "meet_in_tree") (st := KQ.s_meet_in_tree) KX G ?a12 ?l12 ?c12 ?k12 ?n12
    (case a12 => k_is); (case l12 => k_is); (case c12 => k_is); (case k12 => k_is)
    intro d_meet_in_tree
    refine' KQ.step_def (x := "meet_in_wood") (st := KQ.s_meet_in_wood) KX G ?a13 ?l13 ?c13 ?k13 ?n13
    (case a13 => k_is); (case l13 => k_is); (case c13 => k_is); (case k13 => k_is)
    intro d_meet_in_wood
    refine' KQ.step_def (x := "has_like") (st := KQ.s_has_like) KX G ?a14 ?l14 ?c14 ?k14 ?n14
    (case a14 => k_is); (case l14 => k_is); (case c14 => k_is); (case k14 => k_is)
    intro d_has_like
    refine' KQ.step_def (x := "is_ring") (st := KQ.s_is_ring) KX G ?a15 ?l15 ?c15 ?k15 ?n15
    (case a15 => k_is); (case l15 => k_is); (case c15 => k_is); (case k15 => k_is)
    intro d_is_ring
    refine' KQ.step_def (x := "doors_ahead") (st := KQ.s_doors_ahead) KX G ?a16 ?l16 ?c16 ?k16 ?n16
    (case a16 => k_is); (case l16 => k_is); (case c16 => k_is); (case k16 => k_is)
    intro d_doors_ahead
    refine' KQ.step_def (x := "way_back") (st := KQ.s_way_back) KX G ?a17 ?l17 ?c17 ?k17 ?n17
    (case a17 => k_is); (case l17 => k_is); (case c17 => k_is); (case k17 => k_is)
    intro d_way_back
    refine' KQ.step_def (x := "ring_up_to") (st := KQ.s_ring_up_to) KX G ?a18 ?l18 ?c18 ?k18 ?n18
    (case a18 => k_is); (case l18 => k_is); (case c18 => k_is); (case k18 => k_is)
    intro d_ring_up_to
    refine' KQ.step_def (x := "ring") (st := KQ.s_ring) KX G ?a19 ?l19 ?c19 ?k19 ?n19
    (case a19 => k_is); (case l19 => k_is); (case c19 => k_is); (case k19 => k_is)
    intro d_ring
    refine' KQ.step_def (x := "finest_above") (st := KQ.s_finest_above) KX G ?a20 ?l20 ?c20 ?k20 ?n20
    (case a20 => k_is); (case l20 => k_is); (case c20 => k_is); (case k20 => k_is)
    intro d_finest_above
    refine' KQ.step_def (x := "_law_mixed") (st := KQ.s__law_mixed) KX G ?a21 ?l21 ?c21 ?k21 ?n21
    (case a21 => k_is); (case l21 => k_is); (case c21 => k_is); (case k21 => k_is)
    intro d__law_mixed
    refine' KQ.step_def (x := "_law_folded") (st := KQ.s__law_folded) KX G ?a22 ?l22 ?c22 ?k22 ?n22
    (case a22 => k_is); (case l22 => k_is); (case c22 => k_is); (case k22 => k_is)
    intro d__law_folded
    refine' KQ.step_def (x := "_law_draw") (st := KQ.s__law_draw) KX G ?a23 ?l23 ?c23 ?k23 ?n23
    (case a23 => k_is); (case l23 => k_is); (case c23 => k_is); (case k23 => k_is)
    intro d__law_draw
    refine' KQ.step_def (x := "_law_begun") (st := KQ.s__law_begun) KX G ?a24 ?l24 ?c24 ?k24 ?n24
    (case a24 => k_is); (case l24 => k_is); (case c24 => k_is); (case k24 => k_is)
    intro d__law_begun
    refine' KQ.step_def (x := "_law_like") (st := KQ.s__law_like) KX G ?a25 ?l25 ?c25 ?k25 ?n25
    (case a25 => k_is); (case l25 => k_is); (case c25 => k_is); (case k25 => k_is)
    intro d__law_like
    refine' KQ.step_def (x := "_law_of") (st := KQ.s__law_of) KX G ?a26 ?l26 ?c26 ?k26 ?n26
    (case a26 => k_is); (case l26 => k_is); (case c26 => k_is); (case k26 => k_is)
    intro d__law_of
    refine' KQ.step_def (x := "_law_is_int") (st := KQ.s__law_is_int) KX G ?a27 ?l27 ?c27 ?k27 ?n27
    (case a27 => k_is); (case l27 => k_is); (case c27 => k_is); (case k27 => k_is)
    intro d__law_is_int
    refine' KQ.step_def (x := "_law_order") (st := KQ.s__law_order) KX G ?a28 ?l28 ?c28 ?k28 ?n28
    (case a28 => k_is); (case l28 => k_is); (case c28 => k_is); (case k28 => k_is)
    intro d__law_order
    refine' KQ.step_def (x := "_law_numbered") (st := KQ.s__law_numbered) KX G ?a29 ?l29 ?c29 ?k29 ?n29
    (case a29 => k_is); (case l29 => k_is); (case c29 => k_is); (case k29 => k_is)
    intro d__law_numbered
    refine' KQ.step_def (x := "_law_any_parting") (st := KQ.s__law_any_parting) KX G ?a30 ?l30 ?c30 ?k30 ?n30
    (case a30 => k_is); (case l30 => k_is); (case c30 => k_is); (case k30 => k_is)
    intro d__law_any_parting
    refine' KQ.step_def (x := "_law_hung") (st := KQ.s__law_hung) KX G ?a31 ?l31 ?c31 ?k31 ?n31
    (case a31 => k_is); (case l31 => k_is); (case c31 => k_is); (case k31 => k_is)
    intro d__law_hung
    refine' KQ.step_def (x := "_law_met") (st := KQ.s__law_met) KX G ?a32 ?l32 ?c32 ?k32 ?n32
    (case a32 => k_is); (case l32 => k_is); (case c32 => k_is); (case k32 => k_is)
    intro d__law_met
    refine' KQ.step_def (x := "_law_is_right_ring") (st := KQ.s__law_is_right_ring) KX G ?a33 ?l33 ?c33 ?k33 ?n33
    (case a33 => k_is); (case l33 => k_is); (case c33 => k_is); (case k33 => k_is)
    intro d__law_is_right_ring
    refine' KQ.step_def (x := "_law_second") (st := KQ.s__law_second) KX G ?a34 ?l34 ?c34 ?k34 ?n34
    (case a34 => k_is); (case l34 => k_is); (case c34 => k_is); (case k34 => k_is)
    intro d__law_second
    refine' KQ.step_def (x := "_law_bent") (st := KQ.s__law_bent) KX G ?a35 ?l35 ?c35 ?k35 ?n35
    (case a35 => k_is); (case l35 => k_is); (case c35 => k_is); (case k35 => k_is)
    intro d__law_bent
    refine' KQ.step_def (x := "_law_coarse_right") (st := KQ.s__law_coarse_right) KX G ?a36 ?l36 ?c36 ?k36 ?n36
    (case a36 => k_is); (case l36 => k_is); (case c36 => k_is); (case k36 => k_is)
    intro d__law_coarse_right
    refine' KQ.step_def (x := "law") (st := KQ.s_law) KX G ?a37 ?l37 ?c37 ?k37 ?n37
    (case a37 => k_is); (case l37 => k_is); (case c37 => k_is); (case k37 => k_is)
    intro d_law
    refine' KQ.step_cst (x := "MOST_DOORS") (v := 60) KX G ?a38 ?n38
    (case a38 => k_is)
    intro c_MOST_DOORS
    refine' KQ.step_none (x := "len") KX G ?a39 ?n39
    (case a39 => k_is)
    intro z_len
    refine' KQ.step_none (x := "range") KX G ?a40 ?n40
    (case a40 => k_is)
    intro z_range
    refine' KQ.step_none (x := "enumerate") KX G ?a41 ?n41
    (case a41 => k_is)
    intro z_enumerate
    refine' KQ.step_none (x := "zip") KX G ?a42 ?n42
    (case a42 => k_is)
    intro z_zip
    refine' KQ.step_none (x := "isinstance") KX G ?a43 ?n43
    (case a43 => k_is)
    intro z_isinstance
    refine' KQ.step_none (x := "int") KX G ?a44 ?n44
    (case a44 => k_is)
    intro z_int
    refine' KQ.step_none (x := "bool") KX G ?a45 ?n45
    (case a45 => k_is)
    intro z_bool
    refine' KQ.step_none (x := "tuple") KX G ?a46 ?n46
    (case a46 => k_is)
    intro z_tuple
    refine' KQ.step_none (x := "list") KX G ?a47 ?n47
    (case a47 => k_is)
    intro z_list
    refine' KQ.step_none (x := "max") KX G ?a48 ?n48
    (case a48 => k_is)
    intro z_max
    refine' KQ.step_none (x := "min") KX G ?a49 ?n49
    (case a49 => k_is)
    intro z_min
    refine' KQ.step_none (x := "repr") KX G ?a50 ?n50
    (case a50 => k_is)
    intro z_repr
    refine' KQ.step_none (x := "set") KX G ?a51 ?n51
    (case a51 => k_is)
    intro z_set
    refine' KQ.step_none (x := "sum") KX G ?a52 ?n52
    (case a52 => k_is)
    intro z_sum
    refine' KQ.step_none (x := "sorted") KX G ?a53 ?n53
    (case a53 => k_is)
    intro z_sorted
    refine' KQ.step_cls (x := "Clumps") KX G ?aC54 ?pg54 ?hd54 ?po54 ?sa54 ?mk54 ?kc54 ?n54
    (case aC54 => k_is); (case pg54 => k_is); (case hd54 => k_is); (case po54 => k_is); (case sa54 => k_is); (case mk54 => k_is); (case kc54 => k_is)
    intro cC hm mk kc
    refine' KQ.step_init (q := "Clumps.__init__") (st := KQ.s_Clumps___init__) ?a55 ?i55 ?l55 ?c55 ?k55 mk kc ?n55
    (case a55 => k_is); (case i55 => k_is); (case l55 => k_is); (case c55 => k_is); (case k55 => k_is)
    intro iC
    refine' KQ.step_meth (m := "head") (q := "Clumps.head") (st := KQ.s_Clumps_head) cC ?a56 ?i56 ?l56 ?c56 ?k56 ?n56
    (case a56 => k_is); (case i56 => k_is); (case l56 => k_is); (case c56 => k_is); (case k56 => k_is)
    intro hC
    refine' KQ.step_meth (m := "unite") (q := "Clumps.unite") (st := KQ.s_Clumps_unite) cC ?a57 ?i57 ?l57 ?c57 ?k57 ?n57
    (case a57 => k_is); (case i57 => k_is); (case l57 => k_is); (case c57 => k_is); (case k57 => k_is)
    intro uC
    refine' KQ.step_noattr (x := "heads") cC ?a58 ?n58
    (case a58 => k_is)
    intro nH
    refine' KQ.step_noattr (x := "many") cC ?a59 ?n59
    (case a59 => k_is)
    intro nM
    exact KQ.finish hmg d_law ⟨d_is_integer, d_is_integer_within, d_is_tuple_within, d_first_wrong_block, d_need_parting, d_need_parting_of, d_need_two_partings, d_numbered, d_block_count, d_has_no_ring, d_meets, d_meet_in_tree, d_meet_in_wood, d_has_like, d_is_ring, d_doors_ahead, d_way_back, d_ring_up_to, d_ring, d_finest_above, d__law_mixed, d__law_folded, d__law_draw, d__law_begun, d__law_like, d__law_of, d__law_is_int, d__law_order, d__law_numbered, d__law_any_parting, d__law_hung, d__law_met, d__law_is_right_ring, d__law_second, d__law_bent, d__law_coarse_right, c_MOST_DOORS⟩ ⟨z_len, z_range, z_enumerate, z_zip, z_isinstance, z_int, z_bool, z_tuple, z_list, z_max, z_min, z_repr, z_set, z_sum, z_sorted⟩ ⟨cC, hm, nH, nM, iC, hC, uC⟩
#print axioms PySem.Challenge.cw_fittingdoors_k03_whole_rings_and_trees_holds
