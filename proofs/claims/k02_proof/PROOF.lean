import PyProof.Rows.All
import Wide.All
import OpenK.AllK
import Wide.FinOn
import HandS.ForMost
import HandS.Exc
import HandS.IsInst
import HandS.Strs
import HandS.SetKeys
import HandS.Star
import HandS.Zip
import HandS.Conv
import HandS.Wide
import HandS.Style
import KE.DataMinMax
import KE.GoesNew
import KE.GoesMore
import KE.KDictKeyed
import PyProof.Rows.NestShow
import KE.DatumOrd
import KE.KDictZip
import HandS.TupLen
import HandS.SetFor
import HandS.TupAny
import HandS.Iter
import KE.BitLaws
import HandS.SortRule
import HandS.TupSets
import HandS.ExcCtx
import HandS.ExcInit
import KE.KSuper
import KE.KExcSuper
import HandS.TryMany
import HandS.ExcField
import HandS.CallLocal
import HandS.CallSlots
import HandS.DictComp
import HandS.RaiseMore
import HandS.SortInts
import HandS.ExcIs
import PySem.Challenge.RW_fittingdoors_k02_whole_partings_between
set_option Elab.async false
set_option linter.all false
set_option maxRecDepth 100000
set_option maxHeartbeats 8000000
/-! rules that the layer lacks: calls where no repr is going on; repr of data; max of a tuple; enumerate of a tuple -/
namespace KR
open PySem PySem.Spec PyProof.Rows L2

/-! ### defs called where no guard stands -/
structure FnG (P : Program) (w : World) (K : PySem.W.Frag) (mg : Str → Option Value) (base : Heap)
    (k : Nat) (f : Addr) (fd : FuncData) (ps : List Str) (sp : Sp) : Prop where
  len : ∀ vs H Q E, sp vs H Q E → vs.length = ps.length
  run : ∀ (A : Around) (outer : List Env) (s : Shared) (H : Hp) (args : Args) (us : List Value) (vs : List V) (Q : VK) (E : XK),
    A.guards = some [] → Room k A → Env0 P w K mg base A outer s H → BindsTo s fd args (ps.zip us) → Vals vs us → sp vs H Q E →
    codeAny (model P w) A (.call (.ref f) args) (CR CX0 outer P w H s Q E) s

theorem FnG.up {P : Program} {w : World} {K : PySem.W.Frag} {mg : Str → Option Value} {base : Heap} {j k : Nat} {f : Addr}
    {fd : FuncData} {ps : List Str} {sp : Sp} (F : FnG P w K mg base j f fd ps sp) (h : j ≤ k) : FnG P w K mg base k f fd ps sp :=
  ⟨F.len, fun A outer s H args us vs Q E hg hr => F.run A outer s H args us vs Q E hg (hr.mono h)⟩

theorem Fun.okG {P : Program} {w : World} {K : PySem.W.Frag} {mg : Str → Option Value} {base : Heap}
    {x qual : Str} {st : Stmt} {f : Addr} {fd : FuncData} {N ps : List Str} {k : Nat} {sp : Sp}
    (F : Fun K x qual st f fd) (S : FnScope N ps (defScope st)) (len : ∀ vs H Q E, sp vs H Q E → vs.length = ps.length)
    (body : ∀ (cdv : Value) (A : Around) (outer : List Env) (s : Shared) (H : Hp) (vs : List V) (Q : VK) (E : XK),
      (A.deeper (envOfC qual (defScope st) s.heap.objs.size f cdv)).guards = some [] →
      Room k (A.deeper (envOfC qual (defScope st) s.heap.objs.size f cdv)) → sp vs H Q E →
      ∃ t, PSs (cxOf CX0 P w K mg base N qual (defScope st) f cdv A outer s H E).nox (defBody st) t ∧
        t { nx := fun _ H' => Q .non H', rt := Q } (start N vs) H) : FnG P w K mg base (k + 1) f fd ps sp := by
  obtain ⟨oc, od, kV, doc, pm, an, cdv, ct, osl, rfl, lk, hcd⟩ := F.ex
  refine ⟨len, fun A outer s H args us vs Q E hg hr e0 hb r hsp => ?_⟩
  have hlen := len _ _ _ _ hsp
  have inS : K.In s.heap :=
    e0.mod.kin.keeps fun b o e => (e0.bs b o e).1
  have nolim : s.heap.NoLimit :=
    e0.mod.nolimit.keeps fun b o e => (e0.bs b o e).1
  have kinds : ∀ y ∈ ps.zip us, (defScope st).names.lookup y.1 = some .local ∨
      ((defScope st).names.lookup y.1 = some .cell ∧ ((cellsFrom (s.heap.objs.size + 1) (defScope st).names []).lookup y.1).isSome = true) := by
    rintro ⟨n, v⟩ hy
    rcases S.par n (List.of_mem_zip hy).1 with q | q
    · exact Or.inl q
    · exact Or.inr ⟨q, PySem.W.cellsFrom_some _ _ _ (Or.inl q)⟩
  refine codeAny_call_function hr.depth (inS _ _ lk) rfl S.co S.gen rfl
    (PySem.W.codeRec_of inS hcd) (hb _ _ _ _ ?_)
  refine wpAny_newFunctionEnv_cells S.kind kinds fun env he s1 x => ?_
  subst he
  refine ⟨nolim.keeps x.toInCall.keep, codeAny_func ?_⟩
  obtain ⟨t, ht, hq⟩ := body cdv A outer s H vs Q E hg (hr.deeper _) hsp
  have I : Inv (cxOf CX0 P w K mg base N qual (defScope st) f cdv A outer s H E) [] (start N vs) H s1 :=
    inv_start S hr.hd e0 hlen r x
  refine wpAny_mono (ht.nox.run [] s1 (start N vs) H _ I hq) (fun fl s' hs => ?_) (fun e s' hs => hs)
  have fin : ∀ {σ' : L2.St} {H' : Hp} {v : V} {u : Value}, Inv (cxOf CX0 P w K mg base N qual (defScope st) f cdv A outer s H E) [] σ' H' s' →
      RelV v u → Q v H' → CE outer P w H s Q u s' := by
    intro σ' H' v u J rv q
    exact ⟨v, H', J.os, J.bare, J.base, J.hok, rv, q⟩
  cases fl with
  | ret u =>
    obtain ⟨v, σ', H', J, rv, q⟩ := hs
    exact fin J rv q
  | next =>
    obtain ⟨σ', H', J, q⟩ := hs
    exact fin (v := V.non) (u := Value.none) J rfl q
  | brk =>
    obtain ⟨_, _, _, q⟩ := hs
    exact q.elim
  | cont =>
    obtain ⟨_, _, _, q⟩ := hs
    exact q.elim

section
variable {X : Cx} {k : Nat} {f : Addr} {fd : FuncData} {ps : List Str} {sp : Sp} {dvs : List V} {ds : List Value} {x : Str} {p pos : Pos} {e : Expr} {es : List Expr} {t : TA}

/-- a call where no guard stands -/
theorem pe_callG (F : FnG X.prog X.w X.K X.mg X.base k f fd ps sp) (gd : X.A.guards = some []) (hr : Room k X.A) (hg : Gl X x) (hm : X.mg x = some (.ref f))
    (hk : PySem.W.keepIn X.K (.ref f) = true) (hb : Binds X.K fd ps ds) (hd : Vals dvs ds) (ha : PA X (e :: es) t)
    (hdb : (x == ("__debug__" : Str)) = false := by decide)
    (he : starEach (e :: es) X.env = (false, eval e X.env) :: starEach es X.env := by rfl)
    (hpl : (backTo pos (starEach es X.env)).any (·.1) = false := by rfl) :
    PE X (.Call (.Name x p) (e :: es) [] pos) (tCall sp dvs E0 t) := by
  refine ⟨fun pins s σ H Q I h => ?_⟩
  refine wpAny_Call_Name_kw (ld_glob I hg hm ?_ hdb)
  refine PySem.W.callWith_K (h₀ := X.base) I.ok.mod.kin hk
    (thn (ha.run pos pins s σ H _ I h) fun us s1 ⟨vs, H1, I1, r, q⟩ => ⟨I1.kIn, ?_⟩) he hpl
  have r2 : Vals (vs ++ dvs) (us ++ ds) := r.append hd
  have hl : (us ++ ds).length = ps.length := by
    rw [← r2.length]
    exact F.len _ _ _ _ q
  refine wpAny_call (codeAny_mono (F.run X.A X.stack s1 H1 ⟨us, []⟩ (us ++ ds) (vs ++ dvs) Q E0 gd hr I1.env0
    (hb s1 us I1.kIn hl) r2 q) fun r s' hq => ?_)
  cases r with
  | error e => exact (show False from hq).elim
  | ok fl =>
    cases fl with
    | ret u => exact I1.after hq
    | next => exact (show False from hq).elim
    | brk => exact (show False from hq).elim
    | cont => exact (show False from hq).elim
end

/-! ### repr of data -/
def rRepr (K : PySem.W.Frag) : List V → Hp → VK → Prop := fun xs H Q => ∃ v d, xs = [v] ∧ Dp K H v d ∧
  isDisplay d = true ∧ d.showable = true ∧ d.hasDict = false ∧ d.depth ≤ 30 ∧ d.shown.length ≤ sizeLine ∧ Q (.str d.shown) H
theorem call_reprD {X : Cx} (gd : X.A.guards = some []) (hu : X.A.units + 64 < cLine) : CallR X (.builtin "repr") (rRepr X.K) := by
  intro pins s σ H xs us Q I r h
  obtain ⟨v, d, rfl, hd, hdisp, hs, hnd, hdep, hlen, q⟩ := h
  cases r with
  | cons r1 rr =>
    cases rr
    obtain ⟨as, rd⟩ := Dp.reads I d v _ hd r1
    obtain ⟨a, rfl⟩ := isRef_of_reads rd hdisp
    refine repr_of_reads' rd hs (PyData.noDict_hsm hnd) gd (by omega) (fun _ _ e => e) (fun h' u tk hk => ?_) hlen
    exact ⟨.str d.shown, H, I.kept hk, ⟨u, rfl⟩, q⟩

/-! ### the law's own call -/
theorem law_callG {P : Program} {w : World} {K : PySem.W.Frag} {mg mb : Str → Option Value} {k : Nat} {fa a : Addr} {fd : FuncData} {x : Str} {sp : Sp}
    {s₁ : Shared} {vs : List Value} {ns : List Int} (KX : K.In s₁.heap) (hns : s₁.heap.Ns mainGlobals mg) (hb : s₁.heap.Ns builtinsNs mb)
    (hbb : ∀ x : Str, x ≠ "__name__" → mb x = bootBuiltins x) (hlim : s₁.heap.NoLimit) (hg : s₁.gens = #[])
    (ha : s₁.heap.get? a = some { cls := .type "list", data := .seq vs.toArray }) (hi : IntsAre vs ns) (hl : ns.length ≤ sizeLine) (hr : Room k callerA)
    (F : ∀ base : Heap, K.In base → base.Ns mainGlobals mg → FnG P w K mg base k fa fd [x] sp)
    (hbind : ∀ (s : Shared) (u : Value), BindsTo s fd ⟨[u], []⟩ [(x, u)])
    (hsp : ∀ H : Hp, Only H → SqL K H a (ns.map V.int) → sp [.ref a] H (fun v _ => v = .bl true) fun _ _ _ => False) :
    codeAny (model P w) callerA (.call (.ref fa) ⟨[.ref a], []⟩)
      (fun r s' => r = .ok (.ret (.bool true)) ∧ OldK s₁.heap s'.heap ∧ s'.os = s₁.os ∧ AllBare s'.gens) s₁ := by
  have core : ∀ H : Hp, Only H → SqL K H a (ns.map V.int) → HOk P w H s₁.heap → (∀ b, H b ≠ none → b = a ∧ K.lookup b = none) →
      codeAny (model P w) callerA (.call (.ref fa) ⟨[.ref a], []⟩)
        (fun r s' => r = .ok (.ret (.bool true)) ∧ OldK s₁.heap s'.heap ∧ s'.os = s₁.os ∧ AllBare s'.gens) s₁ := by
    intro H hO hS hok hA
    have get1 : ∀ {b : Addr} {o : Obj}, s₁.heap.get? b = some o → H b = none → (hidT s₁.heap H).get? b = some o :=
      fun e n => hidT_get e n
    have freeD : ∀ {b : Addr} {o : Obj} {es : Array DictEntry} {ep : Nat}, s₁.heap.get? b = some o → o.data = .dict es ep → H b = none := by
      intro b o es ep e d
      apply Classical.byContradiction
      intro hne
      have eb := (hA b hne).1
      rw [eb, ha] at e
      cases e
      exact nomatch (show Data.seq vs.toArray _ = Data.dict es ep from d)
    have spaces : ∀ {b : Addr} {m : Str → Option Value}, s₁.heap.Ns b m → (hidT s₁.heap H).Ns b m := by
      rintro b m ⟨o, es, ep, e, d, r⟩
      exact ⟨o, es, ep, get1 e (freeD e d), d, r⟩
    have inB : K.In (hidT s₁.heap H) := by
      intro b o e
      refine get1 (KX b o e) (Classical.byContradiction fun hne => ?_)
      have := (hA b hne).2
      rw [e] at this
      cases this
    have hM : Mod K mg (hidT s₁.heap H) := by
      obtain ⟨mc, h1, h2⟩ := hlim
      exact ⟨inB, spaces hns, ⟨mb, spaces hb, hbb⟩, ⟨mc, spaces h1, h2⟩⟩
    have e0 : Env0 P w K mg (hidT s₁.heap H) callerA [] s₁ H :=
      ⟨rfl, hM, fun b o e => of_hidT e, Nat.le_of_eq (hidT_size _ _), trivial, fun b hb => (List.not_mem_nil hb).elim, hok, .of_eq hg⟩
    have run := (F _ inB (spaces hns)).run callerA [] s₁ H ⟨[.ref a], []⟩ [.ref a] [.ref a] _ _ (by first | rfl | decide) hr e0
      (hbind s₁ (.ref a)) (.cons rfl .nil) (hsp H hO hS)
    refine codeAny_mono run fun r s' h => ?_
    cases r with
    | error e => exact (show False from h).elim
    | ok fl =>
      cases fl with
      | next => exact (show False from h).elim
      | brk => exact (show False from h).elim
      | cont => exact (show False from h).elim
      | ret u =>
        obtain ⟨v, H', os, bare, un, hok', r', q⟩ := h
        obtain rfl : v = .bl true := q
        obtain rfl : u = Value.bool true := r'
        refine ⟨rfl, OldK.of_keep fun b o e => ?_, os, bare⟩
        rcases hO b with q | ⟨ob, xs, z⟩
        · exact un.keep b o e q (fun z => (List.not_mem_nil z).elim) (by simp)
        · have z2 := un.frzs b ob _ z
          obtain ⟨e1, _⟩ := hok b _ z
          obtain ⟨e2, _⟩ := hok' b _ z2
          rw [e] at e1
          cases e1
          exact e2
  have rv := vals_ints hi
  have lenV := hi.length
  cases hk : K.lookup a with
  | some o =>
    have e := KX a o hk
    rw [ha] at e
    cases e
    refine core (fun _ => none) (fun _ => Or.inl rfl) ?_ ?_ (fun b z => (z rfl).elim)
    · refine Or.inr ⟨_, vs.toArray, _, hk, rfl, rfl, rfl, ?_, ?_⟩
      · rw [List.size_toArray, lenV]
        exact hl
      · simpa using rv
    · intro b u z
      exact nomatch (show (none : Option HO) = some u from z)
  | none =>
    have only : ∀ b, (if b = a then some (HO.frz { cls := .type "list", data := .seq vs.toArray } (.lst (ns.map V.int))) else none) ≠ none → b = a := by
      intro b z
      exact Classical.byContradiction fun hb => z (if_neg hb)
    refine core (fun b => if b = a then some (.frz { cls := .type "list", data := .seq vs.toArray } (.lst (ns.map V.int))) else none) ?_ ?_ ?_ ?_
    · intro b
      by_cases hb : b = a
      · exact Or.inr ⟨_, _, if_pos hb⟩
      · exact Or.inl (if_neg hb)
    · exact Or.inl (Or.inr ⟨{ cls := .type "list", data := .seq vs.toArray }, if_pos rfl⟩)
    · intro b u z
      have hb := only b (by rw [show (if b = a then _ else _) = some u from z]; exact fun q => nomatch q)
      subst hb
      cases (if_pos rfl).symm.trans z
      exact ⟨ha, by rw [List.length_map]; exact hl, vs, _, rv, ha⟩
    · intro b z
      have hb := only b z
      exact ⟨hb, by rw [hb]; exact hk⟩

theorem walk_ofG {l : PySem.W.OpenLaw} {n k : Nat} {q : Program} {loose : List Str} {XP : (Str → Option Value) → Heap → Prop} {YP : World → Heap → Prop}
    {d : DefRec} {K : Params → PySem.W.Frag} {sp : World → Sp} {x : Str}
    (hn : l.most = some n) (hn2 : n ≤ sizeLine) (hdf : d.params.defaults = []) (hr : Room k callerA)
    (hY : ∀ (w : World) (h : Heap), YP w h → (K w.params).In h)
    (F : ∀ (w : World) (mg : Str → Option Value) (fa : Addr) (h : Heap), (K w.params).In h → h.Ns mainGlobals mg → mg d.name = some (.ref fa) →
      ∃ fd : FuncData, (∀ (s : Shared) (u : Value), BindsTo s fd ⟨[u], []⟩ [(x, u)]) ∧
        ∀ base : Heap, (K w.params).In base → base.Ns mainGlobals mg → FnG l.prog w (K w.params) mg base k fa fd [x] (sp w))
    (hsp : ∀ (w : World) (H : Hp) (a : Addr) (ns : List Int), ns.length ≤ n → Only H → SqL (K w.params) H a (ns.map V.int) →
      sp w [.ref a] H (fun v _ => v = .bl true) fun _ _ _ => False) :
    PySem.W.WalkO q loose XP YP l.row.toRowW d [] (fun f vs => PySem.call f vs) := by
  refine Att.attach_call hn hdf fun w s₀ s₁ mg mb fa o pm cd doc a vs ns G Y ho hd hcd hmg hobj hints hlen hg => ?_
  obtain ⟨fd, hb, hF⟩ := F w mg fa _ (hY w _ Y) G.T.g hmg
  exact law_callG (hY w _ Y) G.T.g G.T.b G.T.builtins G.T.nolimit hg hobj hints (Nat.le_trans hlen hn2) hr hF hb
    (fun H hO hS => hsp w H a ns hlen hO hS)
end KR
namespace KR
open PySem PySem.Spec PyProof.Rows L2

/-! ### max of a tuple of whole numbers -/
theorem dpAll_ints {K : PySem.W.Frag} {H : Hp} : ∀ ns : List Int, DpAll K H (ns.map V.int) (ns.map PyData.int)
  | [] => .nil
  | n :: ns => .cons (.int n) (dpAll_ints ns)
def rMaxT (K : PySem.W.Frag) : List V → Hp → VK → Prop := fun vs H Q => ∃ (a : Addr) (ns : List Int), vs = [V.ref a] ∧ SqT K H a (ns.map V.int) ∧ ns ≠ [] ∧
  ∀ m, m ∈ ns → (∀ y, y ∈ ns → y ≤ m) → Q (.int m) H
theorem maxOf_spec : ∀ (r : List Int) (x : Int), PySem.W.maxOf x r ∈ x :: r ∧ ∀ y ∈ x :: r, y ≤ PySem.W.maxOf x r
  | [], x => by
    refine ⟨List.mem_cons_self, fun y hy => ?_⟩
    rw [List.mem_singleton.mp hy]
    exact Int.le_refl _
  | z :: r, x => by
    have e : PySem.W.maxOf x (z :: r) = PySem.W.maxOf (if decide (x < z) = true then z else x) r := rfl
    rw [e]
    obtain ⟨h1, h2⟩ := maxOf_spec r (if decide (x < z) = true then z else x)
    have h3 : x ≤ (if decide (x < z) = true then z else x) ∧ z ≤ (if decide (x < z) = true then z else x) := by
      by_cases h : x < z
      · rw [if_pos (decide_eq_true h)]
        omega
      · rw [if_neg (by simpa using h)]
        omega
    have h4 := h2 _ List.mem_cons_self
    refine ⟨?_, fun y hy => ?_⟩
    · rcases List.mem_cons.mp h1 with q | q
      · rw [q]
        by_cases h : x < z
        · rw [if_pos (decide_eq_true h)]
          exact List.mem_cons_of_mem _ List.mem_cons_self
        · rw [if_neg (by simpa using h)]
          exact List.mem_cons_self
      · exact List.mem_cons_of_mem _ (List.mem_cons_of_mem _ q)
    · rcases List.mem_cons.mp hy with q | q
      · rw [q]
        omega
      · rcases List.mem_cons.mp q with q | q
        · rw [q]
          omega
        · exact h2 y (List.mem_cons_of_mem _ q)
theorem call_maxT {X : Cx} (hc : X.calm = true) (hu : X.A.units + 64 < cLine) : CallR X (.builtin "max") (rMaxT X.K) := by
  intro pins s σ H vs us Q I r h
  obtain ⟨a, ns, rfl, hs, hne, q⟩ := h
  obtain ⟨its, rv, hl, _⟩ := I.tuple hs
  rw [Vals.ref1 r]
  cases ns with
  | nil => exact (hne rfl).elim
  | cons x xs =>
    obtain ⟨as, rd⟩ := Dp.readsAll I ((x :: xs).map PyData.int) _ its (dpAll_ints (x :: xs)) rv
    refine PySem.W.max_tuple_datum (x := x) (xs := xs) (vs := its.toArray) (I.ok.hd hc) (show s.heap.IsTuple a its.toArray from hl) ⟨as, by rw [show its.toArray.toList = its by simp]; exact rd⟩ (by show X.A.units + 1 + 0 < cLine; omega) fun i v h' tk hv hh hk => ?_
    obtain ⟨bs, rr⟩ := hh
    obtain ⟨t, rfl⟩ : ∃ t, v = .int (PySem.W.maxOf x xs) t := by
      cases rr with
      | int _ t => exact ⟨t, rfl⟩
    obtain ⟨h1, h2⟩ := maxOf_spec xs x
    exact ⟨.int _, H, I.kept hk, ⟨_, rfl⟩, q _ h1 h2⟩

/-! ### enumerate of a tuple -/
def IteT (K : PySem.W.Frag) (a : Addr) : It where
  go := fun i H => ∃ (xs : List V) (x : V), SqT K H a xs ∧ xs[i]? = some x
  yld := fun i H v H' => ∃ T x, v = .ref T ∧ H T = none ∧ H' = upd H T (.tup [.int (i : Nat), x]) ∧ ∀ xs, SqT K H a xs → xs[i]? = some x
  stop := fun i H => ∃ xs : List V, SqT K H a xs ∧ xs.length ≤ i
theorem turn_enumT {P : Program} {w : World} {K : PySem.W.Frag} {elts : List Expr} {kk : Nat} {tpos : Pos} (a e it : Addr) (hea : a ≠ it) (hee : a ≠ e) :
    Turn P w K (.Tuple elts kk tpos) (IteT K a) [e, it] e
      (fun i h => (∃ old, IsEnum h e it ((i : Nat) : Int) old) ∧ h.IsTupleIter it a i ∧ e ≠ it) where
  mem := List.mem_cons_self
  obj := by
    rintro i h ⟨⟨old, he⟩, ⟨o, ho, hc, hd⟩, _⟩ b hb
    rcases List.mem_cons.mp hb with z | z
    · subst z
      exact ⟨_, he, fun v q => nomatch q⟩
    · cases List.mem_singleton.mp z
      exact ⟨o, ho, fun v q => by rw [hd] at q; cases q⟩
  keep := by
    rintro i h h' ⟨⟨old, he⟩, hi, hne⟩ k
    exact ⟨⟨old, k e List.mem_cons_self _ he⟩, hi.at fun o q => k it (List.mem_cons_of_mem _ List.mem_cons_self) o q, hne⟩
  item := by
    intro X hP hw hK hc i pins s σ H E I hf st hg
    subst hP hw hK
    obtain ⟨⟨old, he⟩, hit, hne⟩ := st
    obtain ⟨xs, x, hq, hx⟩ := hg
    obtain ⟨its, rv, p, hz⟩ := I.tuple hq
    obtain ⟨u, hu, ru⟩ := rv.get hx
    have hT : s.heap.IsTuple a its.toArray := p
    have hel : e < s.heap.objs.size := Heap.lt_size he
    have hil : it < s.heap.objs.size := by
      obtain ⟨_, q, _⟩ := hit
      exact Heap.lt_size q
    have hlt : i < its.toArray.size := by
      have := (List.getElem?_eq_some_iff.mp hu).1
      simpa using this
    have D := Draws.tuple (prog := X.prog) (w := X.w) (A := X.A.in1) (I.ok.hd hc) it a hea its.toArray
    have hef : e ∉ [it, a] := by
      intro hm
      rcases List.mem_cons.mp hm with z | z
      · exact hne z
      · exact hee (List.mem_singleton.mp z).symm
    refine wpAny_pyNext_enum_itemD D he ⟨hit, hT⟩ hlt hne hef fun x' h' tk hP ho hit' hT' hsz hk => ?_
    have ex : x' = u := by
      have h1 : its.toArray[i]? = some u := by simpa using hu
      rw [show its.toArray[i]? = some x' from hP] at h1
      exact Option.some.inj h1
    subst ex
    refine ⟨_, rfl, wpAny_letOwnedTupleGo_enum (s := { s with heap := h', toks := tk + 1 }) ho fun h'' he' sb => ?_⟩
    have hT2 : h''.get? s.heap.objs.size = some { cls := .type "tuple", data := .seq #[.int i tk, x'] } :=
      (sb.2 _ (Nat.ne_of_gt hel)).trans hT'
    have new : ObjOk X.prog X.w (upd H s.heap.objs.size (.tup [.int (i : Nat), x])) h'' s.heap.objs.size (.tup [.int (i : Nat), x]) :=
      ⟨show 2 ≤ sizeLine by decide, [.int i tk, x'], .cons ⟨_, rfl⟩ (.cons ru .nil), _, hT2, rfl, _, rfl⟩
    have I1 : Inv X pins σ (upd H s.heap.objs.size (.tup [.int (i : Nat), x])) { s with heap := h'', toks := tk + 1 } := by
      refine I.turnedNew (ch := [e, it]) (fun b ob hb q => ?_) hf (Nat.le_refl _) new
      have hbe : b ≠ e := fun z => hb (by rw [z]; exact List.mem_cons_self)
      have hbi : b ≠ it := fun z => hb (by rw [z]; exact List.mem_cons_of_mem _ List.mem_cons_self)
      exact (sb.2 b hbe).trans (hk b ob hbe hbi q)
    refine ⟨.ref s.heap.objs.size, _, I1, rfl, ⟨_, x, rfl, I.hok.fresh (Nat.le_refl _), rfl, fun ys hy => ?_⟩, ⟨⟨x', ?_⟩, ?_, hne⟩, fun b hb => ?_⟩
    · rw [I.tuple_inj hy hq]
      exact hx
    · rw [show ((i + 1 : Nat) : Int) = (i : Int) + 1 by omega]
      exact he'
    · exact hit'.1.at fun o q => (sb.2 it (Ne.symm hne)).trans q
    · have hb' : b < s.heap.objs.size := by
        rcases List.mem_cons.mp hb with z | z
        · rw [z]
          exact hel
        · rw [List.mem_singleton.mp z]
          exact hil
      rw [upd_ne (Nat.ne_of_lt hb')]
      exact (hf b hb).1
  done := by
    intro X hP hw hK hc i pins s σ H E I hf st hg
    subst hP hw hK
    obtain ⟨⟨old, he⟩, hit, hne⟩ := st
    obtain ⟨xs, hq, hx⟩ := hg
    obtain ⟨its, rv, p, hz⟩ := I.tuple hq
    obtain ⟨f0, f1, f2, f3, f4, f5⟩ := hf it (List.mem_cons_of_mem _ List.mem_cons_self)
    have hl := rv.length
    have hT : s.heap.IsTuple a its.toArray := p
    have hT0 : s.TypeIs (.ref e) "enumerate" := ⟨_, he, rfl⟩
    unfold pyNext
    refine wpAny_bind (wpAny_attempt (wpAny_callSpecial?_slot (name := Str.ofString "__next__") hT0 F.slot_enumerate_next
      (wpAny_call_entry F.slot_enumerate_next hT0 F.entry_enumerate_next ?_ (F.args_enumerate_next_1 _))))
    show wpAny _ _ (field (.ref e) 2 >>= _) _ _ s
    refine wpAny_bind (wpAny_field he rfl (x := .ref it) rfl ?_)
    refine wpAny_bind (wpAny_nextOf_tuple_end (A := X.A.in1) (I.ok.hd hc) hit hT ?_ fun h' x he' hx' => ?_)
    · simp
      omega
    · obtain ⟨o, ho, hcl⟩ := hx'
      refine wpAny_bind (wpAny_isInstance (T := "StopIteration") (b := true) ⟨o, ho, hcl⟩ isSubtype_stop ?_)
      exact wpAny_pure ⟨rfl, I.turned (t' := s.toks) (fun b o hb q => he' b o hb q) f0 f1 f3 f4 f5⟩
  self := fun A i s Q E st h => let ⟨⟨_, he⟩, _⟩ := st; wpAny_pyIter_enum he h
def iEnumT (K : PySem.W.Frag) (ta : TA) : TI := fun σ H R => ta σ H fun vs H1 => ∃ a xs, vs = [.ref a] ∧ SqT K H1 a xs ∧ R (IteT K a) H1
set_option maxHeartbeats 4000000 in
theorem meets_enumT (t : Addr) (items : Array Value) :
    Meets (Builtin.«enumerate.__new__» ⟨[.type "enumerate", .ref t], []⟩) (fun _ R s => s.heap.IsTuple t items ∧
      R (.ok (.ret (.ref (s.heap.push { cls := .type "tuple_iterator", data := .fields #[.ref t, .int 0 0] }).objs.size)))
        { s with heap := (s.heap.push { cls := .type "tuple_iterator", data := .fields #[.ref t, .int 0 0] }).push { cls := .type "enumerate", data := .fields #[.none, .bool false, .ref s.heap.objs.size, rawInt 0, .none, .none] } }) :=
  .of_wp fun prog w A R s h => by
    obtain ⟨hp, g, d, tk, os⟩ := s
    obtain ⟨h1, h⟩ := h
    have hsub := sub_enumerate
    have B := begins_tuple t items
    have q1 : ∀ {A' : Around} {E : Value → Shared → Prop} {Q : Value → Shared → Prop},
        Q (.ref hp.objs.size) ⟨hp.push { cls := .type "tuple_iterator", data := .fields #[.ref t, .int 0 0] }, g, d, tk, os⟩ → wpAny (model prog w) A' (pyIter (.ref t)) Q E ⟨hp, g, d, tk, os⟩ :=
      fun q => B.iter prog w _ _ ⟨hp, g, d, tk, os⟩ _ h1 q
    wp_walk using q1
    refine wpAny_stack_any fun st => wpAny_pure ?_
    split
    · rename_i c _ _ _ _ _
      cases (c == Value.type "enumerate")
      · wp_walk using q1
        exact ⟨_, rfl, h⟩
      · wp_walk using q1
        exact ⟨_, rfl, h⟩
    · wp_walk using q1
      exact ⟨_, rfl, h⟩
theorem call_enumT {prog : Program} {w : World} {A : Around} {E : Value → Shared → Prop} {s : Shared} {t : Addr} {items : Array Value} {Q : Value → Shared → Prop} (hT : s.heap.IsTuple t items)
    (h : ∀ h', IsEnum h' (s.heap.objs.size + 1) s.heap.objs.size 0 .none → h'.IsTupleIter s.heap.objs.size t 0 → h'.objs.size = s.heap.objs.size + 2 →
      (∀ b o, s.heap.get? b = some o → h'.get? b = some o) → Q (.ref (s.heap.objs.size + 1)) { s with heap := h' }) :
    wpAny (model prog w) A (call (.type "enumerate") [.ref t]) Q E s := by
  refine callType_new F.called_enumerate (by decide) (F.typeCall_enumerate_1 _) (F.newCall_enumerate_1 _) (fun obj => F.args_object_init_2 obj _) F.entry_enumerate_new
    (meets_enumT t items) ⟨hT, ?_⟩
  have hz : (s.heap.push { cls := .type "tuple_iterator", data := .fields #[.ref t, .int 0 0] }).objs.size = s.heap.objs.size + 1 := Heap.size_push ..
  show _ ∧ _
  rw [hz]
  have he : IsEnum ((s.heap.push { cls := .type "tuple_iterator", data := .fields #[.ref t, .int 0 0] }).push
      { cls := .type "enumerate", data := .fields #[.none, .bool false, .ref s.heap.objs.size, rawInt 0, .none, .none] }) (s.heap.objs.size + 1) s.heap.objs.size 0 .none := by
    have q := Heap.get?_push_size (s.heap.push { cls := .type "tuple_iterator", data := .fields #[.ref t, .int 0 0] })
      (o := { cls := .type "enumerate", data := .fields #[.none, .bool false, .ref s.heap.objs.size, rawInt 0, .none, .none] }) rfl
    rw [hz] at q
    exact q
  refine ⟨⟨_, he, rfl⟩, h _ he ⟨{ cls := .type "tuple_iterator", data := .fields #[.ref t, .int 0 0] }, Heap.get?_push_of_some _ (Heap.get?_push_size _ rfl), rfl, rfl⟩ (by rw [Heap.size_push, hz]) fun b o x => ?_⟩
  exact Heap.get?_push_of_some _ (Heap.get?_push_of_some _ x)
theorem pi_enumT {X : Cx} {e : Expr} {ta : TA} {p pos tpos : Pos} {elts : List Expr} {kk : Nat} (hg : Gl X "enumerate") (hm : X.mg "enumerate" = none)
    (ha : PA X [e] ta) (hs : starEach [e] X.env = [(false, eval e X.env)] := by rfl) :
    PI X (.Tuple elts kk tpos) (.Call (.Name "enumerate" p) [e] [] pos) (iEnumT X.K ta) := by
  refine ⟨fun pins s σ H R I h => ?_⟩
  refine Call_ (ld_blt I hg hm boot_enumerate (PyProof.Rows.callWith_type1
    (thn (ha.run pos pins s σ H _ I h) fun us s1 ⟨vs, H1, I1, r1, q1⟩ => ?_) hs rfl))
  obtain ⟨a, xs, ex, hq, q⟩ := q1
  subst ex
  rw [Vals.ref1 r1]
  obtain ⟨its, rv, p', hz⟩ := I1.tuple hq
  have hT : s1.heap.IsTuple a its.toArray := p'
  have hal : a < s1.heap.objs.size := by
    obtain ⟨o, ho, _⟩ := id hT
    exact Heap.lt_size ho
  refine call_enumT hT fun h' he hit hsz hk => wpAny_pyIter_enum he ?_
  have I2 : Inv X pins σ H1 { s1 with heap := h' } := I1.kept (t' := s1.toks) hk
  refine ⟨s1.heap.objs.size + 1, [s1.heap.objs.size + 1, s1.heap.objs.size], _, _, H1, rfl, I2,
    turn_enumT a (s1.heap.objs.size + 1) s1.heap.objs.size (Nat.ne_of_lt hal) (Nat.ne_of_lt (Nat.lt_succ_of_lt hal)), ⟨⟨.none, he⟩, hit, Nat.succ_ne_self _⟩, fun b hb => ?_, q⟩
  have hle : s1.heap.objs.size ≤ b := by
    rcases List.mem_cons.mp hb with z | z
    · rw [z]
      exact Nat.le_add_right _ _
    · rw [List.mem_singleton.mp z]
      exact Nat.le_refl _
  exact I1.fpOk hle (I1.hok.fresh hle)
end KR
/-! list(zip(t, u)) of two tuples -/
namespace KR
open PySem PySem.Spec PySem.W PyProof.Rows L2 RZ

section
variable {prog : Program} {w : World} {A : Around} {E : Value → Shared → Prop} {s : Shared}
theorem zipH_item {z TI TO T i1 i2 l1 l2 : Addr} {f : Bool} {oT : Obj} {k1 k2 : Nat} {xs ys : Array Value} {x y : Value} {Q : Option Value → Shared → Prop}
    (D : ZipApart z TI TO i1 i2 l1 l2) (hz : IsZipHeld s.heap z TI TO T f) (hT : s.heap.get? T = some oT) (hTI : IsPair s.heap TI (.ref i1) (.ref i2))
    (h1 : s.heap.IsTupleIter i1 l1 k1) (h2 : s.heap.IsTupleIter i2 l2 k2) (hl1 : s.heap.IsTuple l1 xs) (hl2 : s.heap.IsTuple l2 ys) (hx : xs[k1]? = some x) (hy : ys[k2]? = some y)
    (hQ : ∀ h', IsZipHeld h' z TI TO T true → h'.IsTupleIter i1 l1 (k1 + 1) → h'.IsTupleIter i2 l2 (k2 + 1) → IsPair h' s.heap.objs.size x y → h'.objs.size = s.heap.objs.size + 1 →
      (∀ c o, c ≠ z → c ≠ i1 → c ≠ i2 → s.heap.get? c = some o → h'.get? c = some o) → Q (some (.ref s.heap.objs.size)) { s with heap := h' }) :
    wpAny (model prog w) A (pyNext (.ref z)) Q E s := by
  have hTy : s.TypeIs (.ref z) "zip" := ⟨_, hz, rfl⟩
  unfold pyNext
  refine wpAny_bind (wpAny_attempt (wpAny_callSpecial?_slot (name := Str.ofString "__next__") hTy F.slot_zip_next
    (wpAny_call_entry F.slot_zip_next hTy F.entry_zip_next ?_ (F.args_zip_next_1 _))))
  show wpAny _ _ (field (.ref z) 2 >>= _) _ _ s
  refine wpAny_bind (wpAny_field hz rfl (x := .bool false) rfl ?_)
  show wpAny _ _ (field (.ref z) 3 >>= _) _ _ s
  refine wpAny_bind (wpAny_field hz rfl (x := .ref TI) rfl ?_)
  refine wpAny_bind (wpAny_seqItems hTI rfl ?_)
  show wpAny _ _ (Builtin.SmallTypes.ownedTupleIsFree (.ref z) >>= _) _ _ s
  refine wpAny_bind (wpAny_tupleHeld_zip hz hT fun g1 zz1 sb1 => ?_)
  simp only [Bool.false_eq_true, if_false]
  refine wpAny_bind ?_
  rw [← Array.forIn_toList]
  simp only [List.forIn_cons, List.forIn_nil]
  refine wpAny_bind (wpAny_bind (wpAny_holding ?_))
  show wpAny _ _ (Builtin.SmallTypes.nextOf (.ref i1) >>= _) _ _ { s with heap := g1 }
  refine wpAny_bind (wpAny_nextOf_tuple_item (s := { s with heap := g1 }) (h1.extBut sb1.extBut D.i1z) (hl1.extBut sb1.extBut D.l1z) hx fun g2 it2 sb2 => wpAny_pure ?_)
  refine wpAny_pure ?_
  refine wpAny_bind (wpAny_bind (wpAny_holding ?_))
  show wpAny _ _ (Builtin.SmallTypes.nextOf (.ref i2) >>= _) _ _ { s with heap := g2 }
  refine wpAny_bind (wpAny_nextOf_tuple_item (s := { s with heap := g2 }) ((h2.extBut sb1.extBut D.i2z).extBut sb2.extBut D.i12.symm)
    ((hl2.extBut sb1.extBut D.l2z).extBut sb2.extBut D.l2i1) hy fun g3 it3 sb3 => wpAny_pure ?_)
  refine wpAny_pure (wpAny_pure ?_)
  show wpAny _ _ (newTuple [x, y] >>= _) _ _ { s with heap := g3 }
  refine wpAny_bind (wpAny_newTuple ?_)
  have size3 : g3.objs.size = s.heap.objs.size := by rw [sb3.1, sb2.1, sb1.1]
  have zz3 : IsZipHeld g3 z TI TO T true := sb3.extBut _ _ D.i2z.symm (sb2.extBut _ _ D.i1z.symm zz1)
  have kp : ∀ c o, c ≠ z → c ≠ i1 → c ≠ i2 → s.heap.get? c = some o → g3.get? c = some o :=
    fun c o c1 c2 c3 e => sb3.extBut _ _ c3 (sb2.extBut _ _ c2 (sb1.extBut _ _ c1 e))
  have it1 : g3.IsTupleIter i1 l1 (k1 + 1) := it2.extBut sb3.extBut D.i12
  have pr : IsPair (g3.push { cls := .type "tuple", data := .seq #[x, y] }) g3.objs.size x y := Heap.get?_push_size _ rfl
  have sz4 : (g3.push { cls := .type "tuple", data := .seq #[x, y] }).objs.size = g3.objs.size + 1 := Heap.size_push ..
  refine wpAny_pure ⟨_, rfl, wpAny_pure ?_⟩
  show Q (some (.ref g3.objs.size)) _
  rw [size3] at pr sz4 ⊢
  exact hQ _ (Heap.get?_push_of_some _ zz3) (it1.at fun o e => Heap.get?_push_of_some _ e) (it3.at fun o e => Heap.get?_push_of_some _ e) pr sz4
    fun c o c1 c2 c3 e => Heap.get?_push_of_some _ (kp c o c1 c2 c3 e)
theorem zipH_end {z TI TO T i1 i2 l1 l2 : Addr} {f : Bool} {oT : Obj} {k1 : Nat} {xs : Array Value} {Q : Option Value → Shared → Prop} (hh : A.handled = none)
    (D : ZipApart z TI TO i1 i2 l1 l2) (hz : IsZipHeld s.heap z TI TO T f) (hT : s.heap.get? T = some oT) (hTI : IsPair s.heap TI (.ref i1) (.ref i2))
    (h1 : s.heap.IsTupleIter i1 l1 k1) (hl1 : s.heap.IsTuple l1 xs) (hx : xs[k1]? = none)
    (hQ : ∀ h', (∀ c o, c ≠ z → c ≠ i1 → s.heap.get? c = some o → h'.get? c = some o) → Q none { s with heap := h' }) : wpAny (model prog w) A (pyNext (.ref z)) Q E s := by
  have hTy : s.TypeIs (.ref z) "zip" := ⟨_, hz, rfl⟩
  unfold pyNext
  refine wpAny_bind (wpAny_attempt (wpAny_callSpecial?_slot (name := Str.ofString "__next__") hTy F.slot_zip_next
    (wpAny_call_entry F.slot_zip_next hTy F.entry_zip_next ?_ (F.args_zip_next_1 _))))
  show wpAny _ _ (field (.ref z) 2 >>= _) _ _ s
  refine wpAny_bind (wpAny_field hz rfl (x := .bool false) rfl ?_)
  show wpAny _ _ (field (.ref z) 3 >>= _) _ _ s
  refine wpAny_bind (wpAny_field hz rfl (x := .ref TI) rfl ?_)
  refine wpAny_bind (wpAny_seqItems hTI rfl ?_)
  show wpAny _ _ (Builtin.SmallTypes.ownedTupleIsFree (.ref z) >>= _) _ _ s
  refine wpAny_bind (wpAny_tupleHeld_zip hz hT fun g1 zz1 sb1 => ?_)
  simp only [Bool.false_eq_true, if_false]
  refine wpAny_bind ?_
  rw [← Array.forIn_toList]
  simp only [List.forIn_cons, List.forIn_nil]
  refine wpAny_bind (wpAny_bind (wpAny_holding ?_))
  show wpAny _ _ (Builtin.SmallTypes.nextOf (.ref i1) >>= _) _ _ { s with heap := g1 }
  refine wpAny_bind (wpAny_nextOf_tuple_end (s := { s with heap := g1 }) hh (h1.extBut sb1.extBut D.i1z) (hl1.extBut sb1.extBut D.l1z) hx fun g2 e sb2 he => ?_)
  obtain ⟨o, ho, hcl⟩ := he
  refine wpAny_bind (wpAny_isInstance (T := "StopIteration") (b := true) ⟨o, ho, hcl⟩ isSubtype_stop ?_)
  exact wpAny_pure (hQ g2 fun c o c1 c2 q => sb2 _ _ c2 (sb1.extBut _ _ c1 q))
end

section
variable {X : Cx} {pins : List (Addr × Obj)} {σ : L2.St}
/-- where the zip stands -/
def ZState (z TI TO i1 i2 a b S : Addr) (i : Nat) (h : Heap) : Prop :=
  IsPair h TI (.ref i1) (.ref i2) ∧ h.IsTupleIter i1 a i ∧ h.IsTupleIter i2 b i ∧
  ((IsZip h z TI TO .none ∧ ∃ u v, IsPair h TO u v) ∨
    ∃ T f oT, IsZipHeld h z TI TO T f ∧ h.get? T = some oT ∧ T ≠ S ∧ T ≠ z ∧ T ≠ i1 ∧ T ≠ i2 ∧ ∃ o2, h.get? TO = some o2)

theorem zl_loop {z TI TO i1 i2 a b S : Addr} {xs ys : List V} {R : Result → Shared → Prop} {H₀ : Hp} (D : ZipApart z TI TO i1 i2 a b) (hl : xs.length = ys.length) (hln : xs.length < sizeLine)
    (hS : S ∉ [z, TI, TO, i1, i2]) (hc : X.calm = true) (hS0 : H₀ S = none)
    (hR : ∀ (ts : List Addr) (H' : Hp) s', Inv X pins σ H' s' → Same H₀ H' → H' S = some (.lst (ts.map V.ref)) → ts.length = xs.length →
      (∀ (i : Nat) (t : Addr), ts[i]? = some t → H₀ t = none ∧ ∃ x y, xs[i]? = some x ∧ ys[i]? = some y ∧ H' t = some (.tup [x, y])) → R (.ok (.ret .none)) s') :
    ∀ (k i : Nat) (ts : List Addr) (H : Hp) (s : Shared), xs.length - i = k → i ≤ xs.length → ts.length = i → Inv X pins σ H s → Same H₀ H →
      SqT X.K H a xs → SqT X.K H b ys → H S = some (.lst (ts.map V.ref)) → (∀ c ∈ [z, TI, TO, i1, i2], FpOk X pins H c) →
      (∀ (i : Nat) (t : Addr), ts[i]? = some t → H₀ t = none ∧ ∃ x y, xs[i]? = some x ∧ ys[i]? = some y ∧ H t = some (.tup [x, y])) →
      ZState z TI TO i1 i2 a b S i s.heap → codeAny (model X.prog X.w) X.A.in1 (.builtin "list.extend.loop" ⟨[.ref S, .ref z, .none], []⟩) R s := by
  have Sz : S ≠ z := fun e => hS (by rw [e]; simp)
  have STI : S ≠ TI := fun e => hS (by rw [e]; simp)
  have STO : S ≠ TO := fun e => hS (by rw [e]; simp)
  have Si1 : S ≠ i1 := fun e => hS (by rw [e]; simp)
  have Si2 : S ≠ i2 := fun e => hS (by rw [e]; simp)
  intro k
  induction k with
  | zero =>
    intro i ts H s hk hi hts I sm qa qb eS fp tt st
    have e1 : i = xs.length := by omega
    obtain ⟨hTI, h1, h2, hz⟩ := st
    obtain ⟨its, rv, p1, _⟩ := I.tuple qa
    have l1 := rv.length
    have hend : its.toArray[i]? = none := by
      simp
      omega
    refine codeAny_builtin F.entry_extend_loop ?_
    rw [Around.under_plainId F.plain_extend_loop _]
    show wpAny _ _ (pyNext (.ref z) >>= _) _ _ s
    have fin : ∀ h' : Heap, (∀ c o, c ∉ [z, TI, TO, i1, i2] → s.heap.get? c = some o → h'.get? c = some o) → R (.ok (.ret .none)) { s with heap := h' } := by
      intro h' kp
      refine hR ts H _ (I.turnedL (t' := s.toks) (ch := [z, TI, TO, i1, i2]) kp fp) sm eS (by omega) tt
    rcases hz with ⟨hz, u, v, hTO⟩ | ⟨T, f, oT, hz, hT, n1, n2, n3, n4, o2, hO2⟩
    · obtain ⟨its2, rv2, p2, _⟩ := I.tuple qb
      refine wpAny_bind (pyNext_zipT_end (A := X.A.in1.in1) (I.ok.hd hc) D hz hTI hTO h1 h2 (show s.heap.IsTuple a its.toArray from p1) (show s.heap.IsTuple b its2.toArray from p2) (.inl hend) fun h' kp => ?_)
      exact wpAny_pure (fin h' fun c o hcm e => kp c o (fun q => hcm (by simp [q])) (fun q => hcm (by simp [q])) (fun q => hcm (by simp [q])) (fun q => hcm (by simp [q])) e)
    · refine wpAny_bind (zipH_end (A := X.A.in1.in1) (I.ok.hd hc) D hz hT hTI h1 (show s.heap.IsTuple a its.toArray from p1) hend fun h' kp => ?_)
      exact wpAny_pure (fin h' fun c o hcm e => kp c o (fun q => hcm (by simp [q])) (fun q => hcm (by simp [q])) e)
  | succ k ih =>
    intro i ts H s hk hi hts I sm qa qb eS fp tt st
    have hlt : i < xs.length := by omega
    have hlt2 : i < ys.length := by omega
    obtain ⟨hTI, h1, h2, hz⟩ := st
    obtain ⟨its, rv, p1, _⟩ := I.tuple qa
    obtain ⟨its2, rv2, p2, _⟩ := I.tuple qb
    have gx : xs[i]? = some xs[i] := List.getElem?_eq_getElem hlt
    have gy : ys[i]? = some ys[i] := List.getElem?_eq_getElem hlt2
    obtain ⟨u, hu, ru⟩ := rv.get gx
    obtain ⟨u2, hu2, ru2⟩ := rv2.get gy
    have au : its.toArray[i]? = some u := by simpa using hu
    have au2 : its2.toArray[i]? = some u2 := by simpa using hu2
    refine codeAny_builtin F.entry_extend_loop ?_
    rw [Around.under_plainId F.plain_extend_loop _]
    show wpAny _ _ (pyNext (.ref z) >>= _) _ _ s
    have lt : ∀ {c : Addr}, H c ≠ none → c < s.heap.objs.size := fun {c} hne => by
      cases q : H c with
      | none => exact (hne q).elim
      | some o => exact (I.hok c o q).lt
    have old5 : ∀ c ∈ [z, TI, TO, i1, i2], c < s.heap.objs.size → True := fun _ _ _ => trivial
    have new := I.hok.fresh (Nat.le_refl s.heap.objs.size)
    have go : ∀ h' : Heap, (∀ c o, c ∉ [z, TI, TO, i1, i2] → s.heap.get? c = some o → h'.get? c = some o) → IsPair h' s.heap.objs.size u u2 → h'.objs.size = s.heap.objs.size + 1 →
        (∀ c ∈ [z, TI, TO, i1, i2], c < s.heap.objs.size) → ZState z TI TO i1 i2 a b S (i + 1) h' →
        wpAny (model X.prog X.w) X.A.in1.in1 (updateSeq S (·.push (.ref s.heap.objs.size)) >>= fun _ => again (.builtin "list.extend.loop" ⟨[.ref S, .ref z, .none], []⟩))
          (fun fin s' => match fin with | .done f => R (.ok f) s' | .again c' => c'.quiet = true ∧ codeAny (model X.prog X.w) X.A.in1 c' R s') (fun e s' => R (.error e) s') { s with heap := h' } := by
      intro h' kp pr sz old st'
      have ob : ObjOk X.prog X.w (upd H s.heap.objs.size (.tup [xs[i], ys[i]])) h' s.heap.objs.size (.tup [xs[i], ys[i]]) :=
        ⟨show 2 ≤ sizeLine by decide, [u, u2], .cons ru (.cons ru2 .nil), _, pr, rfl, _, rfl⟩
      have I1 : Inv X pins σ (upd H s.heap.objs.size (.tup [xs[i], ys[i]])) { s with heap := h' } := I.turnedNew (t' := s.toks) kp fp (Nat.le_refl _) ob
      have nS : S ≠ s.heap.objs.size := ne_of_none eS new
      have eS1 : (upd H s.heap.objs.size (.tup [xs[i], ys[i]])) S = some (.lst (ts.map V.ref)) := by
        rw [upd_ne nS]
        exact eS
      obtain ⟨hz', its3, n3, ri, e3⟩ := I1.hok S _ eS1
      have l3 := ri.length
      rw [List.length_map] at l3
      have sm1 : Same H (upd H s.heap.objs.size (.tup [xs[i], ys[i]])) := fun c o e => by
        rw [upd_ne (ne_of_none e new)]
        exact e
      refine wpAny_bind (wpAny_updateSeq e3 rfl (wpAny_pure ⟨plainId_quiet F.plain_extend_loop _, ?_⟩) ?_)
      · have I2 : Inv X pins σ (upd (upd H s.heap.objs.size (.tup [xs[i], ys[i]])) S (.lst ((ts ++ [s.heap.objs.size]).map V.ref)))
            { s with heap := h'.update S (Obj.mapSeq (·.push (.ref s.heap.objs.size))) } := by
          have up := Heap.get?_update_self (Obj.mapSeq (·.push (Value.ref s.heap.objs.size))) e3 rfl
          refine I1.write (t' := s.toks) (by rw [eS1]; trivial) (.inl rfl) (fun c o hcS q => ?_) ⟨_, up⟩ ⟨?_, its3 ++ [.ref s.heap.objs.size], n3 + 1, ?_, ?_⟩
          · exact (Heap.get?_update_other _ _ (fun q' : S = c => hcS q'.symm)).trans q
          · rw [List.length_map, List.length_append]
            show ts.length + 1 ≤ sizeLine
            omega
          · rw [List.map_append]
            exact ri.append (.cons rfl .nil)
          · refine up.trans ?_
            simp [Obj.mapSeq]
        have keepS : ∀ c o, c ≠ S → h'.get? c = some o → (h'.update S (Obj.mapSeq (·.push (.ref s.heap.objs.size)))).get? c = some o :=
          fun c o hcS q => (Heap.get?_update_other _ _ (fun q' : S = c => hcS q'.symm)).trans q
        have sm2 : Same H₀ (upd (upd H s.heap.objs.size (.tup [xs[i], ys[i]])) S (.lst ((ts ++ [s.heap.objs.size]).map V.ref))) := fun c o e => by
          rw [upd_ne (fun q => by rw [q, hS0] at e; cases e)]
          exact sm1 c o (sm c o e)
        have seqs : ∀ (c : Addr) (vs : List V), c ≠ S → SqT X.K H c vs → SqT X.K (upd (upd H s.heap.objs.size (.tup [xs[i], ys[i]])) S (.lst ((ts ++ [s.heap.objs.size]).map V.ref))) c vs := by
          intro c vs hcS q
          rcases q with (q | ⟨o, q⟩) | q
          · exact .inl (.inl (by rw [upd_ne hcS]; exact sm1 _ _ q))
          · exact .inl (.inr ⟨o, by rw [upd_ne hcS]; exact sm1 _ _ q⟩)
          · exact .inr q
        have Sa : a ≠ S := fun q => by
          obtain ⟨o, ho, hcl, _⟩ := p1
          have := (I.hok S _ eS)
          obtain ⟨_, _, _, _, e⟩ := this
          rw [← q, ho] at e
          cases e
          exact nomatch (show Value.type "list" = Value.type "tuple" from hcl)
        have Sb : b ≠ S := fun q => by
          obtain ⟨o, ho, hcl, _⟩ := p2
          have := (I.hok S _ eS)
          obtain ⟨_, _, _, _, e⟩ := this
          rw [← q, ho] at e
          cases e
          exact nomatch (show Value.type "list" = Value.type "tuple" from hcl)
        refine ih (i + 1) (ts ++ [s.heap.objs.size]) _ _ (by omega) hlt (by rw [List.length_append, hts]; rfl) I2 sm2 (seqs a xs Sa qa) (seqs b ys Sb qb) upd_same (fun c hcm => ?_) (fun j t hj => ?_) ?_
        · have hcS : c ≠ S := fun q => hS (by rw [← q]; exact hcm)
          have f := fp c hcm
          refine ⟨?_, f.2⟩
          rw [upd_ne hcS, upd_ne (Nat.ne_of_lt (old c hcm))]
          exact f.1
        · by_cases hjl : j < ts.length
          · rw [List.getElem?_append_left hjl] at hj
            obtain ⟨q0, x, y, q1, q2, q3⟩ := tt j t hj
            refine ⟨q0, x, y, q1, q2, ?_⟩
            have htS : t ≠ S := fun q => by rw [q, eS] at q3; cases q3
            rw [upd_ne htS]
            exact sm1 _ _ q3
          · rw [List.getElem?_append_right (by omega)] at hj
            have hj0 : j - ts.length = 0 := by
              apply Classical.byContradiction
              intro q
              rw [List.getElem?_eq_none (by show 1 ≤ _; omega)] at hj
              cases hj
            rw [hj0] at hj
            cases hj
            have ej : j = i := by omega
            subst ej
            refine ⟨sm.free new, _, _, gx, gy, ?_⟩
            rw [upd_ne nS.symm, upd_same]
        · obtain ⟨s1, s2, s3, s4⟩ := st'
          refine ⟨keepS _ _ STI.symm s1, s2.at fun o e => keepS _ o Si1.symm e, s3.at fun o e => keepS _ o Si2.symm e, ?_⟩
          rcases s4 with ⟨s4, v1, v2, s5⟩ | ⟨T, f, oT, s4, s5, s6, s7⟩
          · exact .inl ⟨keepS _ _ Sz.symm s4, v1, v2, keepS _ _ STO.symm s5⟩
          · obtain ⟨m1, m2, m3, o2, m4⟩ := s7
            exact .inr ⟨T, f, oT, keepS _ _ Sz.symm s4, keepS _ _ s6 s5, s6, m1, m2, m3, o2, keepS _ _ STO.symm m4⟩
      · rw [List.size_toArray]
        omega
    have hil1 : i1 < s.heap.objs.size := by
      obtain ⟨_, q, _⟩ := h1
      exact Heap.lt_size q
    have hil2 : i2 < s.heap.objs.size := by
      obtain ⟨_, q, _⟩ := h2
      exact Heap.lt_size q
    have hSl : S < s.heap.objs.size := lt (by rw [eS]; exact fun q => nomatch q)
    rcases hz with ⟨hz, v1, v2, hTO⟩ | ⟨T, f, oT, hz, hT, n1, n2, n3, n4, o2, hO2⟩
    · have all5 : ∀ c ∈ [z, TI, TO, i1, i2], c < s.heap.objs.size := by
        intro c hcm
        simp only [List.mem_cons, List.not_mem_nil, or_false] at hcm
        rcases hcm with q | q | q | q | q
        · rw [q]; exact Heap.lt_size hz
        · rw [q]; exact Heap.lt_size hTI
        · rw [q]; exact Heap.lt_size hTO
        · rw [q]; exact hil1
        · rw [q]; exact hil2
      refine wpAny_bind (pyNext_zipT_item D hz hTI hTO h1 h2 (show s.heap.IsTuple a its.toArray from p1) (show s.heap.IsTuple b its2.toArray from p2) au au2 fun h' a1 a2 a3 a4 a5 a6 kp => ?_)
      refine go h' (fun c o hcm e => kp c o (fun q => hcm (by simp [q])) (fun q => hcm (by simp [q])) (fun q => hcm (by simp [q])) (fun q => hcm (by simp [q])) e) a5 a6 all5 ?_
      exact ⟨kp _ _ D.TIz D.TITO D.TIi1 D.TIi2 hTI, a3, a4, .inr ⟨s.heap.objs.size, false, _, a1, a5, Nat.ne_of_gt hSl, Nat.ne_of_gt (Heap.lt_size hz), Nat.ne_of_gt hil1, Nat.ne_of_gt hil2, _, a2⟩⟩
    · refine wpAny_bind (zipH_item D hz hT hTI h1 h2 (show s.heap.IsTuple a its.toArray from p1) (show s.heap.IsTuple b its2.toArray from p2) au au2 fun h' a1 a3 a4 a5 a6 kp => ?_)
      refine go h' (fun c o hcm e => kp c o (fun q => hcm (by simp [q])) (fun q => hcm (by simp [q])) (fun q => hcm (by simp [q])) e) a5 a6 ?_ ?_
      · intro c hcm
        simp only [List.mem_cons, List.not_mem_nil, or_false] at hcm
        rcases hcm with q | q | q | q | q
        · rw [q]; exact Heap.lt_size hz
        · rw [q]; exact Heap.lt_size hTI
        · rw [q]; exact Heap.lt_size hO2
        · rw [q]; exact hil1
        · rw [q]; exact hil2
      · exact ⟨kp _ _ D.TIz D.TIi1 D.TIi2 hTI, a3, a4, .inr ⟨T, true, oT, a1, kp _ _ n2 n3 n4 hT, n1, n2, n3, n4, o2, kp _ _ D.TOz D.TOi1 D.TOi2 hO2⟩⟩
end

theorem zip_nolen : typeLookup (.type "zip") "__len__" = pure none := by rw [typeLookup_type, builtinLookup_eq_fast]; kernel_rfl
theorem zip_nohint : typeLookup (.type "zip") "__length_hint__" = pure none := by rw [typeLookup_type, builtinLookup_eq_fast]; kernel_rfl

section
variable {X : Cx} {pins : List (Addr × Obj)} {σ : L2.St}
/-- what list(zip(t, u)) gives -/
def Zipped (xs ys : List V) (H : Hp) (Q : VK) : Prop := ∀ (l : Addr) (ts : List Addr) (H' : Hp), H l = none → Same H H' → H' l = some (.lst (ts.map V.ref)) → ts.length = xs.length →
  (∀ (i : Nat) (t : Addr), ts[i]? = some t → H t = none ∧ ∃ x y, xs[i]? = some x ∧ ys[i]? = some y ∧ H' t = some (.tup [x, y])) → Q (.ref l) H'
theorem call_lzip {z TI TO i1 i2 a b : Addr} {xs ys : List V} {H : Hp} {s : Shared} {Q : VK} (D : ZipApart z TI TO i1 i2 a b) (hl : xs.length = ys.length) (hln : xs.length < sizeLine)
    (hc : X.calm = true) (I : Inv X pins σ H s) (qa : SqT X.K H a xs) (qb : SqT X.K H b ys) (fp : ∀ c ∈ [z, TI, TO, i1, i2], FpOk X pins H c)
    (hz : IsZip s.heap z TI TO .none) (hTI : IsPair s.heap TI (.ref i1) (.ref i2)) (hTO : IsPair s.heap TO .none .none)
    (h1 : s.heap.IsTupleIter i1 a 0) (h2 : s.heap.IsTupleIter i2 b 0) (q : Zipped xs ys H Q) :
    wpAny (model X.prog X.w) X.A (call (.type "list") [.ref z]) (EP X pins σ Q) X.xe s := by
  have all5 : ∀ c ∈ [z, TI, TO, i1, i2], c < s.heap.objs.size := by
    intro c hcm
    simp only [List.mem_cons, List.not_mem_nil, or_false] at hcm
    rcases hcm with q | q | q | q | q
    · rw [q]; exact Heap.lt_size hz
    · rw [q]; exact Heap.lt_size hTI
    · rw [q]; exact Heap.lt_size hTO
    · rw [q]; obtain ⟨_, q', _⟩ := h1; exact Heap.lt_size q'
    · rw [q]; obtain ⟨_, q', _⟩ := h2; exact Heap.lt_size q'
  have hSf : s.heap.objs.size ∉ [z, TI, TO, i1, i2] := fun hm => Nat.lt_irrefl _ (all5 _ hm)
  have new := I.hok.fresh (Nat.le_refl s.heap.objs.size)
  refine callType_codes (Q₁ := fun obj s₁ => obj = .ref s.heap.objs.size ∧ s₁ = { s with heap := s.heap.push { cls := .type "list", data := .seq #[] } }) F.called_list (F.typeCall_list_1 _) F.entry_list_init
    (code_list_new _ ⟨rfl, rfl⟩) fun obj s₁ e => ?_
  obtain ⟨rfl, rfl⟩ := e
  have hS : (s.heap.push { cls := .type "list", data := .seq #[] }).get? s.heap.objs.size = some { cls := .type "list", data := .seq #[] } := Heap.get?_push_size _ rfl
  refine ⟨⟨_, hS, rfl⟩, F.args_list_init_2 _ _, ?_⟩
  have kp0 : ∀ c o, s.heap.get? c = some o → (s.heap.push { cls := .type "list", data := .seq #[] }).get? c = some o := fun c o e => Heap.get?_push_of_some _ e
  show wpAny _ _ (do let old ← Builtin.List.listItems (.ref s.heap.objs.size); Builtin.List.listUpdate (.ref s.heap.objs.size) (fun _ => #[]); letGo old.toList.reverse; Builtin.List.listExtendWith (.ref s.heap.objs.size) (.ref z) .none) _ _ _
  refine wpAny_bind ?_
  unfold Builtin.List.listItems
  refine wpAny_bind (wpAny_seqItems hS rfl (wpAny_pure ?_))
  show wpAny _ _ (updateSeq s.heap.objs.size (fun _ => #[]) >>= fun _ => letGo (#[] : Array Value).toList.reverse >>= fun _ => Builtin.List.listExtendWith (.ref s.heap.objs.size) (.ref z) .none) _ _ _
  refine wpAny_bind (wpAny_updateSeq hS rfl ?_)
  have hS2 := Heap.get?_update_self (Obj.mapSeq (fun _ => (#[] : Array Value))) hS rfl
  have kp1 : ∀ c o, s.heap.get? c = some o → ((s.heap.push { cls := .type "list", data := .seq #[] }).update s.heap.objs.size (Obj.mapSeq (fun _ => (#[] : Array Value)))).get? c = some o :=
    fun c o e => (Heap.get?_update_other _ _ (Nat.ne_of_gt (Heap.lt_size e))).trans (kp0 c o e)
  refine wpAny_bind (wpAny_letGo ?_)
  generalize ((s.heap.push { cls := .type "list", data := .seq #[] }).update s.heap.objs.size (Obj.mapSeq (fun _ => (#[] : Array Value)))) = g1 at hS2 kp1 ⊢
  have hTy : ({ s with heap := g1 } : Shared).TypeIs (.ref z) "zip" := ⟨_, kp1 _ _ hz, rfl⟩
  unfold Builtin.List.listExtendWith
  refine wpAny_bind (wpAny_typeOf hTy ?_)
  have n1 : Builtin.List.listSameRef (.ref s.heap.objs.size) (.ref z) = false := by
    simp [Builtin.List.listSameRef, Nat.ne_of_gt (Heap.lt_size hz)]
  have n2 : (Value.type "zip" == Value.type "list") = false := by decide
  have n3 : (Value.type "zip" == Value.type "tuple") = false := by decide
  simp only [n1, n2, n3, Bool.or_false, Bool.false_eq_true, if_false]
  refine wpAny_bind (wpAny_pyIter_zip (kp1 _ _ hz) ?_)
  refine wpAny_bind (wpAny_holding ?_)
  unfold Builtin.List.listLengthHint
  refine wpAny_bind (wpAny_specialOf hTy zip_nolen ?_)
  show wpAny _ _ (specialOf (Value.ref z) (Str.ofString "__length_hint__") >>= _) _ _ _
  refine wpAny_bind (wpAny_specialOf hTy zip_nohint ?_)
  refine wpAny_pure ?_
  show wpAny _ _ (rule "list.extend.makes-room" >>= fun _ => Builtin.List.listTouch (.ref s.heap.objs.size) >>= fun _ =>
    again (.builtin "list.extend.loop" ⟨[.ref s.heap.objs.size, .ref z, .none], []⟩)) _ _ _
  refine wpAny_bind (wpAny_rule ?_)
  refine wpAny_bind ?_
  show wpAny _ _ (updateSeq s.heap.objs.size (·.push .none) >>= fun _ => updateSeq s.heap.objs.size (·.pop)) _ _ _
  refine wpAny_bind (wpAny_updateSeq hS2 rfl ?_)
  have hS3 := Heap.get?_update_self (Obj.mapSeq (·.push Value.none)) hS2 rfl
  refine wpAny_updateSeq (hz := by seq_fits) hS3 rfl ?_
  have hS4 := Heap.get?_update_self (Obj.mapSeq (·.pop)) hS3 rfl
  have kp2 : ∀ c o, s.heap.get? c = some o → ((g1.update s.heap.objs.size (Obj.mapSeq (·.push Value.none))).update s.heap.objs.size (Obj.mapSeq (·.pop))).get? c = some o :=
    fun c o e => (Heap.get?_update_other _ _ (Nat.ne_of_gt (Heap.lt_size e))).trans ((Heap.get?_update_other _ _ (Nat.ne_of_gt (Heap.lt_size e))).trans (kp1 c o e))
  generalize ((g1.update s.heap.objs.size (Obj.mapSeq (·.push Value.none))).update s.heap.objs.size (Obj.mapSeq (·.pop))) = g2 at hS4 kp2 ⊢
  have I2 : Inv X pins σ (upd H s.heap.objs.size (.lst [])) { s with heap := g2 } := by
    refine I.laid (t' := s.toks) kp2 (Nat.le_refl _) ⟨Nat.zero_le _, [], _, .nil, hS4⟩
  have sm : Same H (upd H s.heap.objs.size (.lst [])) := fun c o e => by
    rw [upd_ne (ne_of_none e new)]
    exact e
  have sqt : ∀ (c : Addr) (vs : List V), SqT X.K H c vs → SqT X.K (upd H s.heap.objs.size (.lst [])) c vs := by
    intro c vs q
    rcases q with (q | ⟨o, q⟩) | q
    · exact .inl (.inl (sm _ _ q))
    · exact .inl (.inr ⟨o, sm _ _ q⟩)
    · exact .inr q
  refine wpAny_pure ⟨plainId_quiet F.plain_extend_loop _, zl_loop D hl hln hSf hc new (fun ts H' s' I' sm' eS len tt => ⟨rfl, .ref s.heap.objs.size, H', I', rfl, q _ ts H' new sm' eS len tt⟩)
    xs.length 0 [] _ _ (Nat.sub_zero _) (Nat.zero_le _) rfl I2 sm (sqt a xs qa) (sqt b ys qb) upd_same (fun c hcm => ?_) (fun i t h => by simp at h) ?_⟩
  · have f := fp c hcm
    refine ⟨?_, f.2⟩
    rw [upd_ne (Nat.ne_of_lt (all5 c hcm))]
    exact f.1
  · exact ⟨kp2 _ _ hTI, h1.at fun o e => kp2 _ o e, h2.at fun o e => kp2 _ o e, .inl ⟨kp2 _ _ hz, _, _, kp2 _ _ hTO⟩⟩

/-- list(zip(e, e2)), two tuples of one length -/
theorem pe_lzip {e e2 : Expr} {ta : TA} {p p2 pos pos2 : Pos} (hc : X.calm = true) (hg : Gl X "list") (hm : X.mg "list" = none) (hg2 : Gl X "zip") (hm2 : X.mg "zip" = none) (ha : PA X [e, e2] ta)
    (hs : starEach [e, e2] X.env = (false, eval e X.env) :: starEach [e2] X.env := by rfl) (hpl : (backTo pos2 (starEach [e2] X.env)).any (·.1) = false := by rfl)
    (hs1 : starEach [.Call (.Name "zip" p2) [e, e2] [] pos2] X.env = [(false, eval (.Call (.Name "zip" p2) [e, e2] [] pos2) X.env)] := by rfl) :
    PE X (.Call (.Name "list" p) [.Call (.Name "zip" p2) [e, e2] [] pos2] [] pos)
      (fun σ H Q => ta σ H fun vs H1 => ∃ a b xs ys, vs = [.ref a, .ref b] ∧ SqT X.K H1 a xs ∧ SqT X.K H1 b ys ∧ xs.length = ys.length ∧ xs.length < sizeLine ∧ Zipped xs ys H1 Q) := by
  refine ⟨fun pins s σ H Q I h => ?_⟩
  refine Call_ (ld_blt I hg hm boot_list (PyProof.Rows.callWith_type1 (args_cons (Call_ (ld_blt I hg2 hm2 PyProof.Rows.boot_zip (PyProof.Rows.callWith_type1
    (thn (ha.run pos2 pins s σ H _ I h) fun us s1 ⟨vs, H1, I1, r1, q1⟩ => ?_) hs hpl))) hs1) hs1 rfl))
  obtain ⟨a, b, xs, ys, ex, qa, qb, hl, hln, q⟩ := q1
  subst ex
  cases r1 with
  | cons r rr =>
    cases rr with
    | cons r' rr =>
      cases rr
      cases r
      cases r'
      obtain ⟨its, rv, p1, _⟩ := I1.tuple qa
      obtain ⟨its2, rv2, p2', _⟩ := I1.tuple qb
      obtain ⟨o1, ho1, _⟩ := id p1
      obtain ⟨o2, ho2, _⟩ := id p2'
      refine call_zipT (show s1.heap.IsTuple a its.toArray from p1) (show s1.heap.IsTuple b its2.toArray from p2') fun h' hz hTI hTO h1 h2 hsz hk => ?_
      have I2 : Inv X pins σ H1 { s1 with heap := h' } := I1.kept (t' := s1.toks) hk
      refine args_nil (call_lzip (PySem.W.ktu_apart s1.heap.objs.size a b (Heap.lt_size ho1) (Heap.lt_size ho2)) hl hln hc I2 qa qb (fun c hcm => ?_) hz hTI hTO h1 h2 q)
      have hle : s1.heap.objs.size ≤ c := by
        simp only [List.mem_cons, List.not_mem_nil, or_false] at hcm
        rcases hcm with z | z | z | z | z
        · rw [z]; exact Nat.le_add_right _ _
        · rw [z]; exact Nat.le_add_right _ _
        · rw [z]; exact Nat.le_add_right _ _
        · rw [z]; exact Nat.le_refl _
        · rw [z]; exact Nat.le_add_right _ _
      exact I1.fpOk hle (I1.hok.fresh hle)
end
end KR
/-! setdefault where the keys are tuples -/
namespace KR
open PySem PySem.Spec PyProof.Rows L2
section
variable {X : Cx} {pins : List (Addr × Obj)} {σ : L2.St} {H : Hp} {s : Shared} {a b : Addr} {d : V} {r : Value} {A : Around} {E : Value → Shared → Prop} {kvs : List (List L2.Key × V)} {k : List L2.Key}
theorem d_setdT {Q : Value → Shared → Prop} (hu : A.units + 1 < cLine) (I : Inv X pins σ H s) (e : H a = some (.dT kvs)) (eb : H b = some (.tup (k.map kV))) (rd : RelV d r) (l : kvs.length < sizeLine)
    (h1 : ∀ v, valV kvs k = some v → ∀ w' s', Inv X pins σ H s' → RelV v w' → Q w' s')
    (h2 : valV kvs k = none → ∀ s', Inv X pins σ (upd H a (.dT (putK kvs k d))) s' → Q r s') :
    wpAny (model X.prog X.w) A (call (.builtin "dict.setdefault") [.ref a, .ref b, r]) Q E s := by
  obtain ⟨z, hd, xs, rel, dd⟩ := dt_of I.hok e
  have hz : xs.length ≤ sizeLine := by
    rw [← Paired.length rel]
    exact z
  have vk := rel.val k
  refine call_setdefault_heap (hsz := hz) (tupleKind_room_in1 hu) (key_of I.hok eb) hd dd (fun p hp => ?_) (fun hn h' dd' hs => ?_)
  · rw [hp] at vk
    cases q0 : valV kvs k with
    | none =>
      rw [q0] at vk
      exact (show False from vk).elim
    | some v0 =>
      rw [q0] at vk
      exact h1 v0 q0 _ _ (I.tok _) vk
  · rw [hn] at vk
    cases q0 : valV kvs k with
    | some v0 =>
      rw [q0] at vk
      exact (show False from vk).elim
    | none =>
      have hl : (putK kvs k d).length ≤ sizeLine := by
        have := length_putK kvs k d
        omega
      refine h2 q0 _ ?_
      obtain ⟨q, es, ep, hq, g2, g3, g4, _, g5⟩ := dd'
      refine d_write I (by rw [e]; exact True.intro) hs ⟨q, hq⟩ ⟨hl, hd, _, (rel.put k eb rd).keeps fun c ys ec => ?_, q, es, ep, hq, g2, g3, g4, g5⟩
      rw [upd_ne (ne_of ec e (fun z => nomatch z))]
      exact ec
end
/-- d.setdefault(y, z), keys that are tuples -/
def tDSetT (td ty tx : TE) : TE := fun σ H Q => td σ H fun x H1 => ∃ a, x = .ref a ∧ IsD H1 a ∧ ty σ H1 fun y H2 => tx σ H2 fun z H3 =>
  ∃ (kvs : List (List L2.Key × V)) (k : List L2.Key) (b : Addr), H3 a = some (.dT kvs) ∧ y = .ref b ∧ H3 b = some (.tup (k.map kV)) ∧ kvs.length < sizeLine ∧
  (∀ v, valV kvs k = some v → Q v H3) ∧ (valV kvs k = none → Q z (upd H3 a (.dT (putK kvs k z))))
theorem pe_dsetdT {X : Cx} {o e f : Expr} {td ty tx : TE} {apos cpos : Pos} (hu : X.A.units + 1 < cLine) (ho : PE X o td) (he : PE X e ty) (hf : PE X f tx) (m : M2 X o "setdefault" apos e f cpos) :
    PE X (.Call (.Attribute o "setdefault" apos) [e, f] [] cpos) (tDSetT td ty tx) := by
  refine ⟨fun pins s σ H Q I h => ?_⟩
  refine wpAny_Call_method m.base m.few m.line PySem.F.plainAttrs_dict PySem.F.slot_dict_setdefault PySem.F.type_dict_setdefault
    (thn (ho.run pins s σ H _ I h) fun u s1 ⟨x, H1, I1, rx, a, ex, d, q1⟩ => ?_)
  subst ex
  obtain rfl : u = Value.ref a := rx
  obtain ⟨t1, t2, _⟩ := isD_at I1 d
  refine ⟨t1, t2, ?_⟩
  rw [m.trees]
  refine Calls.callWith_builtin rfl (Calls.evalArgs_plain (Calls.spliced_cons (thn (he.run pins s1 σ H1 _ I1 q1) fun iv s2 ⟨y, H2, I2, ry, q2⟩ =>
    Calls.spliced_cons (thn (hf.run pins s2 σ H2 _ I2 q2) fun fv s3 ⟨z, H3, I3, rz, kvs, k, b, ea, ey, eb, hl, q3, q4⟩ => Calls.spliced_nil ?_))))
  subst ey
  cases (show iv = Value.ref b from ry)
  exact d_setdT hu I3 ea eb rz hl (fun v hv w' s4 I4 rw' => ⟨v, _, I4, rw', q3 v hv⟩) fun hn s4 I4 => ⟨z, _, I4, rz, q4 hn⟩
end KR
/-! short words: a def by its name and promise -/
namespace KR
open PySem PySem.Spec PyProof.Rows L2

/-- the built-ins that the text does not hide -/
structure Bt (mg : Str → Option Value) : Prop where
  len : mg "len" = none
  range : mg "range" = none
  enumerate : mg "enumerate" = none
  zip : mg "zip" = none
  isinstance : mg "isinstance" = none
  int : mg "int" = none
  bool : mg "bool" = none
  tuple : mg "tuple" = none
  list : mg "list" = none
  max : mg "max" = none
  min : mg "min" = none
  repr : mg "repr" = none
  set : mg "set" = none
  sum : mg "sum" = none
  sorted : mg "sorted" = none
def Cst (mg : Str → Option Value) (x : Str) (v : Int) : Prop := ∃ t, mg x = some (.int v t)
def DefAt (K : PySem.W.Frag) (mg : Str → Option Value) (x : Str) (st : Stmt) : Prop := ∃ f fd, Fun K x x st f fd ∧ mg x = some (.ref f)
def Use (P : Program) (w : World) (K : PySem.W.Frag) (mg : Str → Option Value) (base : Heap) (x : Str) (k : Nat) (ps : List Str) (sp : Sp) : Prop :=
  ∃ f fd, FnOk P w K mg base CX0 k f fd ps sp ∧ mg x = some (.ref f) ∧ PySem.W.keepIn K (.ref f) = true ∧ Binds K fd ps []
def UseG (P : Program) (w : World) (K : PySem.W.Frag) (mg : Str → Option Value) (base : Heap) (x : Str) (k : Nat) (ps : List Str) (sp : Sp) : Prop :=
  ∃ f fd, FnG P w K mg base k f fd ps sp ∧ mg x = some (.ref f) ∧ PySem.W.keepIn K (.ref f) = true ∧ Binds K fd ps []

section
variable {P : Program} {w : World} {K : PySem.W.Frag} {mg : Str → Option Value} {base : Heap} {x : Str} {st : Stmt} {k : Nat} {ps : List Str} {sp : Sp}
theorem use_of (D : DefAt K mg x st) (ok : ∀ f fd, Fun K x x st f fd → FnOk P w K mg base CX0 k f fd ps sp)
    (h : ∀ (kV doc pm : Value) (an : Option Addr) (cdv ct : Value) (us : List Value), us.length = ps.length → bindArgs (PySem.W.fnOf x x (defArgs st) (defBody st) (defScope st) .none kV doc pm an cdv ct) ⟨us, []⟩ = pure (ps.zip us)) :
    Use P w K mg base x k ps sp := by
  obtain ⟨f, fd, F, hm⟩ := D
  exact ⟨f, fd, ok f fd F, hm, F.kp, F.binds h⟩
theorem use_ofG (D : DefAt K mg x st) (ok : ∀ f fd, Fun K x x st f fd → FnG P w K mg base k f fd ps sp)
    (h : ∀ (kV doc pm : Value) (an : Option Addr) (cdv ct : Value) (us : List Value), us.length = ps.length → bindArgs (PySem.W.fnOf x x (defArgs st) (defBody st) (defScope st) .none kV doc pm an cdv ct) ⟨us, []⟩ = pure (ps.zip us)) :
    UseG P w K mg base x k ps sp := by
  obtain ⟨f, fd, F, hm⟩ := D
  exact ⟨f, fd, ok f fd F, hm, F.kp, F.binds h⟩
end
section
variable {X : Cx} {x : Str} {j k : Nat} {ps : List Str} {sp : Sp} {e : Expr} {es : List Expr} {t : TA} {p pos : Pos} {v : Int}
theorem pe_use (u : Use X.prog X.w X.K X.mg X.base x j ps sp) (le : j ≤ k) (hr : Room k X.A) (hg : Gl X x) (ha : PA X (e :: es) t)
    (hdb : (x == ("__debug__" : Str)) = false := by decide) (he : starEach (e :: es) X.env = (false, eval e X.env) :: starEach es X.env := by rfl)
    (hpl : (backTo pos (starEach es X.env)).any (·.1) = false := by rfl) : PE X (.Call (.Name x p) (e :: es) [] pos) (tCall sp [] E0 t) := by
  obtain ⟨f, fd, F, hm, kp, b⟩ := u
  exact pe_call F (hr.mono le) hg hm kp b .nil pass0 ha hdb he hpl
theorem pe_useG (u : UseG X.prog X.w X.K X.mg X.base x j ps sp) (gd : X.A.guards = some []) (le : j ≤ k) (hr : Room k X.A) (hg : Gl X x) (ha : PA X (e :: es) t)
    (hdb : (x == ("__debug__" : Str)) = false := by decide) (he : starEach (e :: es) X.env = (false, eval e X.env) :: starEach es X.env := by rfl)
    (hpl : (backTo pos (starEach es X.env)).any (·.1) = false := by rfl) : PE X (.Call (.Name x p) (e :: es) [] pos) (tCall sp [] E0 t) := by
  obtain ⟨f, fd, F, hm, kp, b⟩ := u
  exact pe_callG F gd (hr.mono le) hg hm kp b .nil ha hdb he hpl
theorem pe_cst (hg : Gl X x) (h : Cst X.mg x v) (hd : (x == ("__debug__" : Str)) = false := by decide) : PE X (.Name x pos) (tC (.int v)) := by
  obtain ⟨t, h⟩ := h
  exact pe_glob hg h ⟨t, rfl⟩ hd
end
/-- seqs kept -/
theorem sameT {K : PySem.W.Frag} {H H' : Hp} {a : Addr} {xs : List V} (e : Same H H') (h : SqT K H a xs) : SqT K H' a xs := by
  rcases h with (h | ⟨o, h⟩) | h
  · exact .inl (.inl (e _ _ h))
  · exact .inl (.inr ⟨o, e _ _ h⟩)
  · exact .inr h
theorem same_new {H : Hp} {p : Addr} {o : HO} (h : H p = none) : Same H (upd H p o) := fun b x e => by
  rw [upd_ne (ne_of_none e h)]
  exact e
/-- an object that H does not know was changed -/
theorem same_mut {H H' : Hp} {p : Addr} {o : HO} (e : Same H H') (h : H p = none) : Same H (upd H' p o) := fun a u ha => by
  rw [upd_ne (ne_of_none ha h)]
  exact e a u ha
theorem sqT {K : PySem.W.Frag} {H : Hp} {a : Addr} {xs : List V} (h : H a = some (.tup xs)) : SqT K H a xs := .inl (.inl h)
theorem sqL {K : PySem.W.Frag} {H : Hp} {a : Addr} {xs : List V} (h : H a = some (.lst xs)) : SqL K H a xs := .inl (.inl h)
end KR
/-! loops over enumerate(tuple), over a tuple, over a range, by an invariant -/
namespace KR
open PySem PySem.Spec PyProof.Rows L2
theorem for_enumT {K : PySem.W.Frag} {a : Addr} {xs : List V} {g : TG} {tb : TS} {D : Ends} {σ : L2.St} {H : Hp} (Pv : Nat → L2.St → Hp → Prop) (h0 : Pv 0 σ H)
    (hq : ∀ i σ H, Pv i σ H → SqT K H a xs)
    (hs : ∀ (i : Nat) (x : V) (T : Addr) (σ : L2.St) (H : Hp), xs[i]? = some x → Pv i σ H → H T = none →
      g (.ref T) σ (upd H T (.tup [.int (i : Nat), x])) fun σ2 H2 => tb { D with nx := Pv (i + 1), ct := Pv (i + 1), bk := D.nx } σ2 H2)
    (hd : ∀ σ H, Pv xs.length σ H → D.nx σ H) :
    ∃ W : Nat → Nat → L2.St → Hp → Prop, (∃ m, W 0 m σ H) ∧ ∀ i m σ H, W i m σ H →
      ((IteT K a).stop i H ∧ D.nx σ H) ∨ ((IteT K a).go i H ∧ ∃ N : L2.St → Hp → Prop, (∀ σ' H', N σ' H' → ∃ m', m' < m ∧ W (i + 1) m' σ' H') ∧
        ∀ v H', (IteT K a).yld i H v H' → g v σ H' fun σ2 H2 => tb { D with nx := N, ct := N, bk := D.nx } σ2 H2) := by
  refine ⟨fun i m σ H => m = xs.length - i ∧ i ≤ xs.length ∧ Pv i σ H, ⟨xs.length, rfl, Nat.zero_le _, h0⟩, ?_⟩
  rintro i m σ H ⟨rfl, hi, p⟩
  have q := hq i σ H p
  by_cases hlt : i < xs.length
  · have hx : xs[i]? = some xs[i] := List.getElem?_eq_getElem hlt
    refine .inr ⟨⟨xs, _, q, hx⟩, Pv (i + 1), fun σ' H' p' => ⟨xs.length - (i + 1), by omega, rfl, hlt, p'⟩, fun v H' y => ?_⟩
    obtain ⟨T, x', rfl, hT, rfl, f1⟩ := y
    exact hs i x' T σ H (f1 xs q) p hT
  · have e : i = xs.length := by omega
    subst e
    exact .inl ⟨⟨xs, q, Nat.le_refl _⟩, hd σ H p⟩
theorem for_enumL {K : PySem.W.Frag} {a : Addr} {xs : List V} {g : TG} {tb : TS} {D : Ends} {σ : L2.St} {H : Hp} (Pv : Nat → L2.St → Hp → Prop) (h0 : Pv 0 σ H)
    (hq : ∀ i σ H, Pv i σ H → SqL K H a xs)
    (hs : ∀ (i : Nat) (x : V) (T : Addr) (σ : L2.St) (H : Hp), xs[i]? = some x → Pv i σ H → H T = none →
      g (.ref T) σ (upd H T (.tup [.int (i : Nat), x])) fun σ2 H2 => tb { D with nx := Pv (i + 1), ct := Pv (i + 1), bk := D.nx } σ2 H2)
    (hd : ∀ σ H, Pv xs.length σ H → D.nx σ H) :
    ∃ W : Nat → Nat → L2.St → Hp → Prop, (∃ m, W 0 m σ H) ∧ ∀ i m σ H, W i m σ H →
      ((Ite K a).stop i H ∧ D.nx σ H) ∨ ((Ite K a).go i H ∧ ∃ N : L2.St → Hp → Prop, (∀ σ' H', N σ' H' → ∃ m', m' < m ∧ W (i + 1) m' σ' H') ∧
        ∀ v H', (Ite K a).yld i H v H' → g v σ H' fun σ2 H2 => tb { D with nx := N, ct := N, bk := D.nx } σ2 H2) := by
  refine ⟨fun i m σ H => m = xs.length - i ∧ i ≤ xs.length ∧ Pv i σ H, ⟨xs.length, rfl, Nat.zero_le _, h0⟩, ?_⟩
  rintro i m σ H ⟨rfl, hi, p⟩
  have q := hq i σ H p
  by_cases hlt : i < xs.length
  · have hx : xs[i]? = some xs[i] := List.getElem?_eq_getElem hlt
    refine .inr ⟨⟨xs, _, q, hx⟩, Pv (i + 1), fun σ' H' p' => ⟨xs.length - (i + 1), by omega, rfl, hlt, p'⟩, fun v H' y => ?_⟩
    obtain ⟨T, x', rfl, hT, rfl, f1⟩ := y
    exact hs i x' T σ H (f1 xs q) p hT
  · have e : i = xs.length := by omega
    subst e
    exact .inl ⟨⟨xs, q, Nat.le_refl _⟩, hd σ H p⟩
/-- an item of a mapped list -/
theorem map_at {α β : Type} {f : α → β} {xs : List α} {i : Nat} {y : β} (h : (xs.map f)[i]? = some y) : ∃ x, xs[i]? = some x ∧ y = f x := by
  rw [List.getElem?_map] at h
  cases e : xs[i]? with
  | none =>
    rw [e] at h
    cases h
  | some x =>
    rw [e] at h
    exact ⟨x, rfl, (Option.some.inj h).symm⟩
theorem at_map {α β : Type} {f : α → β} {xs : List α} {i : Nat} {x : α} (h : xs[i]? = some x) : (xs.map f)[i]? = some (f x) := by
  rw [List.getElem?_map, h]
  rfl
/-- a seq's place -/
theorem atI_of {xs : List V} {i : Int} {j : Nat} {v : V} (e : i = (j : Int)) (h : xs[j]? = some v) : atI xs i = some v := at_of e h
end KR
/-! comprehensions of two clauses: a list, then a range -/
namespace KR
open PySem PySem.Spec PyProof.Rows L2
theorem in_range {lo : Int} {n : Nat} {g1 : TG} {tt1 : TT} {te : TE} {vs1 : List Nat} {σ2 : L2.St} {H4 : Hp} {D : Addr} {Nx : Hp → Prop} (Pw : Nat → Hp → Prop) (h0 : Pw 0 H4)
    (hs : ∀ j H, j < n → Pw j H → g1 (.int (lo + (j : Nat))) (wipe σ2 vs1) H fun σ3 H5 => wipe σ3 vs1 = wipe σ2 vs1 ∧ tt1 σ3 H5 fun b H6 =>
      if b = true then te σ3 H6 fun y H7 => ∃ acc, H7 D = some (.lst acc) ∧ acc.length < sizeLine ∧ Pw (j + 1) (upd H7 D (.lst (acc ++ [y]))) else Pw (j + 1) H6)
    (hd : ∀ H, Pw n H → Nx H) :
    ∃ W1 : Nat → Nat → Hp → Prop, (∃ m, W1 0 m H4) ∧ ∀ j k H, W1 j k H →
      ((Itr lo n).stop j H ∧ Nx H) ∨ ((Itr lo n).go j H ∧ ∃ Nx1 : Hp → Prop, (∀ H', Nx1 H' → ∃ k', k' < k ∧ W1 (j + 1) k' H') ∧
        ∀ x H', (Itr lo n).yld j H x H' → g1 x (wipe σ2 vs1) H' fun σ3 H5 => wipe σ3 vs1 = wipe σ2 vs1 ∧ tt1 σ3 H5 fun b H6 =>
          if b = true then te σ3 H6 fun y H7 => ∃ acc, H7 D = some (.lst acc) ∧ acc.length < sizeLine ∧ Nx1 (upd H7 D (.lst (acc ++ [y]))) else Nx1 H6) := by
  refine ⟨fun j k H => k = n - j ∧ j ≤ n ∧ Pw j H, ⟨n, by simp, Nat.zero_le _, h0⟩, ?_⟩
  rintro j k H ⟨rfl, hj, p⟩
  by_cases hlt : j < n
  · refine .inr ⟨hlt, Pw (j + 1), fun H' p' => ⟨n - (j + 1), by omega, rfl, hlt, p'⟩, fun x H' y => ?_⟩
    obtain ⟨e, y⟩ := y
    subst e y
    exact hs j _ hlt p
  · have e : j = n := by omega
    subst e
    exact .inl ⟨Nat.le_refl _, hd H p⟩
theorem lc2_list {K : PySem.W.Frag} {a : Addr} {xs : List V} {g : TG} {tt : TT} {wi1 : TI} {g1 : TG} {tt1 : TT} {te : TE} {vs vs1 : List Nat} {σ : L2.St} {H1 : Hp} {D : Addr} {Qd : Hp → Prop}
    (Pv : Nat → Hp → Prop) (h0 : Pv 0 (upd H1 D (.lst []))) (hl : ∀ i H, i ≤ xs.length → Pv i H → SqL K H a xs)
    (hs : ∀ i x H, xs[i]? = some x → Pv i H → g x (wipe σ vs) H fun σ2 H2 => wipe σ2 vs = wipe σ vs ∧ tt σ2 H2 fun b H3 =>
      if b = true then wi1 σ2 H3 fun J1 H4 => ∃ W1 : Nat → Nat → Hp → Prop, (∃ m, W1 0 m H4) ∧ ∀ j k H, W1 j k H →
        (J1.stop j H ∧ Pv (i + 1) H) ∨ (J1.go j H ∧ ∃ Nx1 : Hp → Prop, (∀ H', Nx1 H' → ∃ k', k' < k ∧ W1 (j + 1) k' H') ∧ ∀ x H', J1.yld j H x H' →
          g1 x (wipe σ2 vs1) H' fun σ3 H5 => wipe σ3 vs1 = wipe σ2 vs1 ∧ tt1 σ3 H5 fun b H6 =>
          if b = true then te σ3 H6 fun y H7 => ∃ acc, H7 D = some (.lst acc) ∧ acc.length < sizeLine ∧ Nx1 (upd H7 D (.lst (acc ++ [y]))) else Nx1 H6)
      else Pv (i + 1) H3) (hd : ∀ H, Pv xs.length H → Qd H) :
    ∃ W : Nat → Nat → Hp → Prop, (∃ m, W 0 m (upd H1 D (.lst []))) ∧ ∀ i m H, W i m H →
      ((Itl K a).stop i H ∧ Qd H) ∨ ((Itl K a).go i H ∧ ∃ Nx : Hp → Prop, (∀ H', Nx H' → ∃ m', m' < m ∧ W (i + 1) m' H') ∧ ∀ x H', (Itl K a).yld i H x H' →
        g x (wipe σ vs) H' fun σ2 H2 => wipe σ2 vs = wipe σ vs ∧ tt σ2 H2 fun b H3 =>
        if b = true then wi1 σ2 H3 fun J1 H4 => ∃ W1 : Nat → Nat → Hp → Prop, (∃ m, W1 0 m H4) ∧ ∀ j k H, W1 j k H →
          (J1.stop j H ∧ Nx H) ∨ (J1.go j H ∧ ∃ Nx1 : Hp → Prop, (∀ H', Nx1 H' → ∃ k', k' < k ∧ W1 (j + 1) k' H') ∧ ∀ x H', J1.yld j H x H' →
            g1 x (wipe σ2 vs1) H' fun σ3 H5 => wipe σ3 vs1 = wipe σ2 vs1 ∧ tt1 σ3 H5 fun b H6 =>
            if b = true then te σ3 H6 fun y H7 => ∃ acc, H7 D = some (.lst acc) ∧ acc.length < sizeLine ∧ Nx1 (upd H7 D (.lst (acc ++ [y]))) else Nx1 H6)
        else Nx H3) := by
  refine ⟨fun i m H => m = xs.length - i ∧ i ≤ xs.length ∧ Pv i H, ⟨xs.length, by simp, Nat.zero_le _, h0⟩, ?_⟩
  rintro i m H ⟨rfl, hi, p⟩
  have q := hl i H hi p
  by_cases hlt : i < xs.length
  · refine .inr ⟨⟨xs, xs[i], q, by simp [hlt]⟩, Pv (i + 1), fun H' p' => ⟨xs.length - (i + 1), by omega, rfl, hlt, p'⟩, fun x H' y => ?_⟩
    obtain ⟨e, y⟩ := y
    subst e
    exact hs i x _ (y xs q) p
  · have e : i = xs.length := by omega
    subst e
    exact .inl ⟨⟨xs, q, Nat.le_refl _⟩, hd H p⟩
end KR
/-! the rules with the written part told, for a comprehension's block -/
namespace KR
open PySem PySem.Spec PyProof.Rows L2
section
variable {X : Cx} {K : PySem.W.Frag} {tg l e e2 o : Expr} {tl te to : TE} {ta t : TA} {es : List Expr} {T id : String} {r : V → List V → Hp → VK → Prop} {name : Str}
theorem k_ixl (hK : X.K = K) : IxR X (rIxL K) := by
  subst hK
  exact ix_list
theorem k_ixt (hK : X.K = K) : IxR X (rIxT K) := by
  subst hK
  exact ix_tup
theorem k_list (hK : X.K = K) (hl : PE X l tl) : PI X tg l (iList K tl) := by
  subst hK
  exact pi_list hl
theorem k_tup (hK : X.K = K) (hl : PE X l tl) : PI X tg l (iTup K tl) := by
  subst hK
  exact pi_tup hl
theorem k_isi (hK : X.K = K) : CallR X (.builtin "isinstance") (rIsi K) := by
  subst hK
  exact call_isi
theorem k_slt (hK : X.K = K) : SlR X (rSlT K) := by
  subst hK
  exact sl_tup
theorem k_sll (hK : X.K = K) : SlR X (rSlL K) := by
  subst hK
  exact sl_list
theorem k_catT (hK : X.K = K) : OpR X (binaryOp .Add) (rCatT K) := by
  subst hK
  exact op_catT
theorem k_in (hK : X.K = K) : OpR X (compareOp .In) (rIn K false) := by
  subst hK
  exact op_in_seq
theorem k_notIn (hK : X.K = K) : OpR X (compareOp .NotIn) (rIn K true) := by
  subst hK
  exact op_notIn_seq
def rLenK (K : PySem.W.Frag) : List V → Hp → VK → Prop := fun xs H Q => ∃ p ys, xs = [.ref p] ∧ (SqL K H p ys ∨ SqT K H p ys) ∧ Q (.int ys.length) H
theorem k_len (hK : X.K = K) : CallR X (.builtin "len") (rLenK K) := by
  subst hK
  exact call_len_seq
def rListK (K : PySem.W.Frag) : List V → Hp → VK → Prop := fun xs H Q => ∃ p ys, xs = [.ref p] ∧ (SqL K H p ys ∨ SqT K H p ys) ∧ ∀ l, H l = none → Q (.ref l) (upd H l (.lst ys))
theorem k_listOf (hK : X.K = K) : CallR X (.type "list") (rListK K) := by
  subst hK
  exact call_list_of
def rTupK (K : PySem.W.Frag) : List V → Hp → VK → Prop := fun xs H Q => ∃ p ys, xs = [.ref p] ∧ ((SqL K H p ys ∧ ∀ l, H l = none → Q (.ref l) (upd H l (.tup ys))) ∨ (SqT K H p ys ∧ Q (.ref p) H))
theorem k_tupOf (hK : X.K = K) : CallR X (.type "tuple") (rTupK K) := by
  subst hK
  exact call_tuple_of
theorem k_eqD (hK : X.K = K) (hu : X.A.units + 64 < cLine) : OpR X (compareOp .Eq) (rEqD K) := by
  subst hK
  exact op_eqD hu
theorem k_neD (hK : X.K = K) (hu : X.A.units + 64 < cLine) : OpR X (compareOp .NotEq) (rNeD K) := by
  subst hK
  exact op_neD hu
theorem k_maxT (hK : X.K = K) (hc : X.calm = true) (hu : X.A.units + 64 < cLine) : CallR X (.builtin "max") (rMaxT K) := by
  subst hK
  exact call_maxT hc hu
theorem k_max (hK : X.K = K) (hc : X.calm = true) : CallR X (.builtin "max") (rMax K) := by
  subst hK
  exact cr_max hc
theorem k_sum (hK : X.K = K) (hc : X.calm = true) : CallR X (.builtin "sum") (rSum K) := by
  subst hK
  exact cr_sum hc
theorem k_repr (hK : X.K = K) (gd : X.A.guards = some []) (hu : X.A.units + 64 < cLine) : CallR X (.builtin "repr") (rRepr K) := by
  subst hK
  exact call_reprD gd hu
theorem k_enumT {p pos tpos : Pos} {elts : List Expr} {kk : Nat} (hK : X.K = K) (hg : Gl X "enumerate") (hm : X.mg "enumerate" = none) (ha : PA X [e] ta)
    (hs : starEach [e] X.env = [(false, eval e X.env)] := by rfl) : PI X (.Tuple elts kk tpos) (.Call (.Name "enumerate" p) [e] [] pos) (iEnumT K ta) := by
  subst hK
  exact pi_enumT hg hm ha hs
theorem k_enum {p pos tpos : Pos} {elts : List Expr} {kk : Nat} (hK : X.K = K) (hg : Gl X "enumerate") (hm : X.mg "enumerate" = none) (ha : PA X [e] ta)
    (hs : starEach [e] X.env = [(false, eval e X.env)] := by rfl) : PI X (.Tuple elts kk tpos) (.Call (.Name "enumerate" p) [e] [] pos) (iEnum K ta) := by
  subst hK
  exact pi_enum hg hm ha hs
theorem k_zip {p pos tpos : Pos} {elts : List Expr} {kk : Nat} (hK : X.K = K) (hg : Gl X "zip") (hm : X.mg "zip" = none) (ha : PA X [e, e2] ta)
    (hs : starEach [e, e2] X.env = (false, eval e X.env) :: starEach [e2] X.env := by rfl) (hpl : (backTo pos (starEach [e2] X.env)).any (·.1) = false := by rfl) :
    PI X (.Tuple elts kk tpos) (.Call (.Name "zip" p) [e, e2] [] pos) (RZ.iZipA K ta) := by
  subst hK
  exact RZ.pi_zipA hg hm ha hs hpl
def tLzip (K : PySem.W.Frag) (ta : TA) : TE := fun σ H Q => ta σ H fun vs H1 => ∃ a b xs ys, vs = [.ref a, .ref b] ∧ SqT K H1 a xs ∧ SqT K H1 b ys ∧ xs.length = ys.length ∧ xs.length < sizeLine ∧ Zipped xs ys H1 Q
theorem k_lzip {p p2 pos pos2 : Pos} (hK : X.K = K) (hc : X.calm = true) (hg : Gl X "list") (hm : X.mg "list" = none) (hg2 : Gl X "zip") (hm2 : X.mg "zip" = none) (ha : PA X [e, e2] ta)
    (hs : starEach [e, e2] X.env = (false, eval e X.env) :: starEach [e2] X.env := by rfl) (hpl : (backTo pos2 (starEach [e2] X.env)).any (·.1) = false := by rfl)
    (hs1 : starEach [.Call (.Name "zip" p2) [e, e2] [] pos2] X.env = [(false, eval (.Call (.Name "zip" p2) [e, e2] [] pos2) X.env)] := by rfl) :
    PE X (.Call (.Name "list" p) [.Call (.Name "zip" p2) [e, e2] [] pos2] [] pos) (tLzip K ta) := by
  subst hK
  exact pe_lzip hc hg hm hg2 hm2 ha hs hpl hs1
theorem k_bm {apos cpos : Pos} (hK : X.K = K) (pa : PlainAttrs T) (slot : Slot T name id) (hty : typeOf (.builtin id) = pure (.type "method_descriptor")) (hm : MtR X id r) (ho : PE X o to) (ha : PA X (e :: es) t)
    (hbase : attributeBase o name X.env (eval o X.env) = eval o X.env := by rfl)
    (hfew : ((backTo cpos (starEach (e :: es) X.env)).all (fun x => !x.1) && (backToKw cpos (keywordEach [] X.env)).all (fun x => x.1.isSome)
      && decide ((e :: es).length + ([] : List Keyword).length + (if ([] : List Keyword).isEmpty then 0 else 1) < 30)) = true := by rfl)
    (hline : (apos.endLine == cpos.line) = true := by rfl) (hs : starEach (e :: es) X.env = (false, eval e X.env) :: starEach es X.env := by rfl)
    (hplain : (backTo cpos (starEach es X.env)).any (·.1) = false := by rfl) : PE X (.Call (.Attribute o name apos) (e :: es) [] cpos) (tBM K T r to t) := by
  subst hK
  exact pe_bm pa slot hty hm ho ha hbase hfew hline hs hplain
theorem k_star {p : Pos} {e : Expr} (hK : X.K = K) (he : PE X e te) (hr : PA X es t) (hs : starEach (.Starred e p :: es) X.env = (true, eval e X.env) :: starEach es X.env := by rfl) : PA X (.Starred e p :: es) (StX.tStar K te t) := by
  subst hK
  exact StX.pa_star he hr hs
theorem k_fld {apos : Pos} {f : Str} (hK : X.K = K) (h : PE X o te) (hx : attributeBase o f X.env (eval o X.env) = eval o X.env) : PE X (.Attribute o f apos) (tFld K te f) := by
  subst hK
  exact pe_fld h hx
end
end KR
/-! methods and instances by their names -/
namespace KR
open PySem PySem.Spec PyProof.Rows L2
def MAt (K : PySem.W.Frag) (C : Addr) (m qual : Str) (st : Stmt) : Prop := ∃ f fd, Fun K m qual st f fd ∧ Meth K C m f
def IAt (K : PySem.W.Frag) (C : Addr) (qual : Str) (st : Stmt) : Prop := ∃ f fd, Fun K "__init__" qual st f fd ∧ Mk K C f
def MUse (P : Program) (w : World) (K : PySem.W.Frag) (mg : Str → Option Value) (base : Heap) (C : Addr) (m : Str) (k : Nat) (ps : List Str) (sp : Sp) : Prop :=
  ∃ f fd, FnOk P w K mg base CX0 k f fd ps sp ∧ Meth K C m f ∧ Binds K fd ps []
def KUse (P : Program) (w : World) (K : PySem.W.Frag) (mg : Str → Option Value) (base : Heap) (C : Addr) (x : Str) (k : Nat) (ps : List Str) (sp : Sp) : Prop :=
  ∃ f fd, FnOk P w K mg base CX0 k f fd ps sp ∧ Mk K C f ∧ mg x = some (.ref C) ∧ Binds K fd ps []
section
variable {P : Program} {w : World} {K : PySem.W.Frag} {mg : Str → Option Value} {base : Heap} {x m qual : Str} {st : Stmt} {k : Nat} {ps : List Str} {sp : Sp} {C : Addr}
theorem muse_of (D : MAt K C m qual st) (ok : ∀ f fd, Fun K m qual st f fd → FnOk P w K mg base CX0 k f fd ps sp)
    (h : ∀ (kV doc pm : Value) (an : Option Addr) (cdv ct : Value) (us : List Value), us.length = ps.length → bindArgs (PySem.W.fnOf m qual (defArgs st) (defBody st) (defScope st) .none kV doc pm an cdv ct) ⟨us, []⟩ = pure (ps.zip us)) :
    MUse P w K mg base C m k ps sp := by
  obtain ⟨f, fd, F, hm⟩ := D
  exact ⟨f, fd, ok f fd F, hm, F.binds h⟩
theorem kuse_of (D : IAt K C qual st) (hm : mg x = some (.ref C)) (ok : ∀ f fd, Fun K "__init__" qual st f fd → FnOk P w K mg base CX0 k f fd ps sp)
    (h : ∀ (kV doc pm : Value) (an : Option Addr) (cdv ct : Value) (us : List Value), us.length = ps.length → bindArgs (PySem.W.fnOf "__init__" qual (defArgs st) (defBody st) (defScope st) .none kV doc pm an cdv ct) ⟨us, []⟩ = pure (ps.zip us)) :
    KUse P w K mg base C x k ps sp := by
  obtain ⟨f, fd, F, mk⟩ := D
  exact ⟨f, fd, ok f fd F, mk, hm, F.binds h⟩
end
section
variable {X : Cx} {x m : Str} {j k : Nat} {ps : List Str} {sp : Sp} {o e : Expr} {es : List Expr} {ta : TE} {t : TA} {p pos apos : Pos} {C : Addr}
theorem pe_mUse {pl : Sem Bool} (he : PE X o ta) (c : Cls X.K C) (u : MUse X.prog X.w X.K X.mg X.base C m j ps sp) (le : j ≤ k) (hr : Room k X.A) (ha : PA X (e :: es) t)
    (hst : starEach (e :: es) X.env = (false, eval e X.env) :: starEach es X.env := by rfl) (hpl : (backTo pos (starEach es X.env)).any (·.1) = false := by rfl)
    (ht : eval (.Call (.Attribute o m apos) (e :: es) [] pos) X.env = (do
      let ov ← eval o X.env
      standAt apos.atName
      let (f, first) ← holding [ov] (getMethod ov m pl)
      callWith pos f first (backTo pos (starEach (e :: es) X.env)) (backToKw pos (keywordEach [] X.env))) := by rfl) :
    PE X (.Call (.Attribute o m apos) (e :: es) [] pos) (tMeth C m sp [] E0 ta t) := by
  obtain ⟨f, fd, F, hm, b⟩ := u
  exact pe_meth he c hm F (hr.mono le) b .nil pass0 ha hst hpl ht
theorem pe_kUse (u : KUse X.prog X.w X.K X.mg X.base C x j ps sp) (le : j + 1 ≤ k) (hr : Room k X.A) (hg : Gl X x) (ha : PA X (e :: es) t)
    (hdb : (x == ("__debug__" : Str)) = false := by decide) (he : starEach (e :: es) X.env = (false, eval e X.env) :: starEach es X.env := by rfl)
    (hpl : (backTo pos (starEach es X.env)).any (·.1) = false := by rfl) : PE X (.Call (.Name x p) (e :: es) [] pos) (tMake C sp [] E0 t) := by
  obtain ⟨f, fd, F, mk, hm, b⟩ := u
  exact pe_make mk F (hr.mono le) hg hm b .nil pass0 ha hdb he hpl
end
theorem ixN_nat {n j : Nat} {i : Int} (e : i = (j : Int)) (h : j < n) : ixN n i = some j := by
  subst e
  unfold ixN
  rw [if_pos (by omega), if_pos (by omega)]
  rfl
end KR
/-! partings: the mathematics -/
namespace KM
/-- blocks numbered as they are first met, m of them ahead -/
def Rg : Int → List Int → Prop
  | _, [] => True
  | m, x :: r => 0 ≤ x ∧ x ≤ m ∧ Rg (if x = m then m + 1 else m) r
/-- how many blocks, m of them ahead -/
def bc : Int → List Int → Int
  | m, [] => m
  | m, x :: r => bc (if x = m then m + 1 else m) r
structure Par (p : List Int) : Prop where
  ne : p ≠ []
  le : p.length ≤ 60
  rg : Rg 0 p
theorem bc_app : ∀ (m : Int) (xs ys : List Int), bc m (xs ++ ys) = bc (bc m xs) ys
  | _, [], _ => rfl
  | m, x :: xs, ys => bc_app (if x = m then m + 1 else m) xs ys
theorem rg_app : ∀ (m : Int) (xs ys : List Int), Rg m (xs ++ ys) ↔ Rg m xs ∧ Rg (bc m xs) ys
  | _, [], _ => ⟨fun h => ⟨trivial, h⟩, fun h => h.2⟩
  | m, x :: xs, ys => by
    show (0 ≤ x ∧ x ≤ m ∧ Rg _ (xs ++ ys)) ↔ (0 ≤ x ∧ x ≤ m ∧ Rg _ xs) ∧ _
    rw [rg_app]
    exact ⟨fun ⟨a, b, c, d⟩ => ⟨⟨a, b, c⟩, d⟩, fun ⟨⟨a, b, c⟩, d⟩ => ⟨a, b, c, d⟩⟩
theorem bc_ge : ∀ (m : Int) (xs : List Int), m ≤ bc m xs
  | _, [] => Int.le_refl _
  | m, x :: xs => by
    have h := bc_ge (if x = m then m + 1 else m) xs
    show m ≤ bc (if x = m then m + 1 else m) xs
    split at h <;> split <;> first | omega | contradiction
theorem bc_le : ∀ (m : Int) (xs : List Int), bc m xs ≤ m + xs.length
  | m, [] => by
    show m ≤ m + ((0 : Nat) : Int)
    omega
  | m, x :: xs => by
    have h := bc_le (if x = m then m + 1 else m) xs
    show bc (if x = m then m + 1 else m) xs ≤ m + ((xs.length + 1 : Nat) : Int)
    split at h <;> split <;> first | omega | contradiction
theorem rg_at {p : List Int} {i : Nat} {x : Int} (h : Rg 0 p) (hx : p[i]? = some x) : 0 ≤ x ∧ x ≤ bc 0 (p.take i) := by
  obtain ⟨hi, e⟩ := List.getElem?_eq_some_iff.mp hx
  have e2 : p = p.take i ++ (x :: p.drop (i + 1)) := by
    rw [← e, List.getElem_cons_drop, List.take_append_drop]
  rw [e2, rg_app] at h
  have h2 : 0 ≤ x ∧ x ≤ bc 0 (p.take i) ∧ Rg _ (p.drop (i + 1)) := h.2
  exact ⟨h2.1, h2.2.1⟩
theorem bc_take {p : List Int} {i : Nat} {x : Int} (hx : p[i]? = some x) : bc 0 (p.take (i + 1)) = if x = bc 0 (p.take i) then bc 0 (p.take i) + 1 else bc 0 (p.take i) := by
  rw [List.take_add_one, hx, bc_app]
  rfl
/-- all values lie below the number of blocks, each number below it is one -/
theorem rg_mem : ∀ (m : Int) (p : List Int), 0 ≤ m → Rg m p → (∀ x ∈ p, 0 ≤ x ∧ x < bc m p) ∧ ∀ y, m ≤ y → y < bc m p → y ∈ p
  | m, [], hm, _ => ⟨fun x hx => (nomatch hx), fun y h1 h2 => by
    have h2' : y < m := h2
    omega⟩
  | m, x :: r, hm, h => by
    obtain ⟨h0, h1, h2⟩ := h
    have hm2 : 0 ≤ (if x = m then m + 1 else m) := by split <;> omega
    obtain ⟨ih1, ih2⟩ := rg_mem (if x = m then m + 1 else m) r hm2 h2
    have e : bc m (x :: r) = bc (if x = m then m + 1 else m) r := rfl
    have g := bc_ge (if x = m then m + 1 else m) r
    rw [e]
    refine ⟨fun y hy => ?_, fun y h3 h4 => ?_⟩
    · rcases List.mem_cons.mp hy with q | q
      · subst q
        refine ⟨h0, ?_⟩
        split at g <;> split <;> first | omega | contradiction
      · exact ih1 y q
    · by_cases hy : x = y
      · rw [hy]
        exact List.mem_cons_self
      · refine List.mem_cons_of_mem _ (ih2 y ?_ h4)
        split <;> omega
theorem par_max {p : List Int} (h : Par p) {m : Int} (hm : m ∈ p) (hle : ∀ y ∈ p, y ≤ m) : m + 1 = bc 0 p := by
  obtain ⟨h1, h2⟩ := rg_mem 0 p (Int.le_refl _) h.rg
  have a := (h1 m hm).2
  have b0 := (h1 m hm).1
  by_cases e : m + 1 = bc 0 p
  · exact e
  · have := hle (bc 0 p - 1) (h2 _ (by omega) (by omega))
    omega
/-- two partings with the same kernel are one -/
theorem rg_unique : ∀ (n : Nat) (p q : List Int), p.length = n → q.length = n → Rg 0 p → Rg 0 q →
    (∀ (i j : Nat) (x y u v : Int), p[i]? = some x → p[j]? = some y → q[i]? = some u → q[j]? = some v → (x = y ↔ u = v)) → p = q ∧ bc 0 p = bc 0 q
  | 0, p, q, hp, hq, _, _, _ => by
    rw [List.eq_nil_of_length_eq_zero hp, List.eq_nil_of_length_eq_zero hq]
    exact ⟨rfl, rfl⟩
  | n + 1, p, q, hp, hq, rp, rq, h => by
    obtain ⟨p', x, rfl⟩ : ∃ p' x, p = p' ++ [x] := ⟨p.dropLast, p.getLast (by intro e; rw [e] at hp; cases hp), (List.dropLast_concat_getLast _).symm⟩
    obtain ⟨q', u, rfl⟩ : ∃ q' u, q = q' ++ [u] := ⟨q.dropLast, q.getLast (by intro e; rw [e] at hq; cases hq), (List.dropLast_concat_getLast _).symm⟩
    have lp : p'.length = n := by simpa using hp
    have lq : q'.length = n := by simpa using hq
    rw [rg_app] at rp rq
    have gp : ∀ {i : Nat} {z : Int}, p'[i]? = some z → (p' ++ [x])[i]? = some z := fun {i z} e => by
      have := (List.getElem?_eq_some_iff.mp e).1
      rw [List.getElem?_append_left this]
      exact e
    have gq : ∀ {i : Nat} {z : Int}, q'[i]? = some z → (q' ++ [u])[i]? = some z := fun {i z} e => by
      have := (List.getElem?_eq_some_iff.mp e).1
      rw [List.getElem?_append_left this]
      exact e
    obtain ⟨e1, e2⟩ := rg_unique n p' q' lp lq rp.1 rq.1 fun i j a b c d h1 h2 h3 h4 => h i j a b c d (gp h1) (gp h2) (gq h3) (gq h4)
    subst e1
    have lastp : (p' ++ [x])[n]? = some x := by
      rw [List.getElem?_append_right (by omega), lp]
      simp
    have lastq : (p' ++ [u])[n]? = some u := by
      rw [List.getElem?_append_right (by omega), lp]
      simp
    obtain ⟨x0, x1, _⟩ := rp.2
    obtain ⟨u0, u1, _⟩ := rq.2
    obtain ⟨m1, m2⟩ := rg_mem 0 p' (Int.le_refl _) rp.1
    have exu : x = u := by
      by_cases hx : x < bc 0 p'
      · obtain ⟨i, hi, ei⟩ := List.getElem_of_mem (m2 x x0 hx)
        have e3 : p'[i]? = some x := by rw [List.getElem?_eq_getElem hi, ei]
        exact ((h i n x x x u (gp e3) lastp (gq e3) lastq).mp rfl)
      · by_cases hu : u < bc 0 p'
        · obtain ⟨i, hi, ei⟩ := List.getElem_of_mem (m2 u u0 hu)
          have e3 : p'[i]? = some u := by rw [List.getElem?_eq_getElem hi, ei]
          exact ((h i n u x u u (gp e3) lastp (gq e3) lastq).mpr rfl).symm
        · omega
    subst exu
    exact ⟨rfl, rfl⟩

/-! ### numbering -/
variable {α : Type} [DecidableEq α]
def ins (ks : List α) (x : α) : List α := if x ∈ ks then ks else ks ++ [x]
def firsts (xs : List α) : List α := xs.foldl ins []
def num (xs : List α) : List Int := xs.map fun x => (((firsts xs).idxOf x : Nat) : Int)
theorem firsts_snoc (xs : List α) (x : α) : firsts (xs ++ [x]) = ins (firsts xs) x := by
  unfold firsts
  rw [List.foldl_append]
  rfl
theorem ins_nodup {ks : List α} (h : ks.Nodup) (x : α) : (ins ks x).Nodup := by
  unfold ins
  split
  · exact h
  · rename_i hx
    rw [List.nodup_append]
    refine ⟨h, by simp, fun a ha b hb => ?_⟩
    rw [List.mem_singleton.mp hb]
    intro e
    exact hx (e ▸ ha)
theorem mem_ins {ks : List α} {x y : α} : y ∈ ins ks x ↔ y ∈ ks ∨ y = x := by
  unfold ins
  split
  · rename_i hx
    exact ⟨Or.inl, fun h => h.elim id fun e => e ▸ hx⟩
  · rw [List.mem_append, List.mem_singleton]
theorem firsts_rec {P : List α → Prop} (h0 : P []) (hs : ∀ xs x, P xs → P (xs ++ [x])) : ∀ xs, P xs := by
  intro xs
  have : ∀ n (xs : List α), xs.length = n → P xs := by
    intro n
    induction n with
    | zero =>
      intro xs h
      rw [List.eq_nil_of_length_eq_zero h]
      exact h0
    | succ n ih =>
      intro xs h
      have hne : xs ≠ [] := by
        intro e
        rw [e] at h
        cases h
      rw [← List.dropLast_concat_getLast hne]
      exact hs _ _ (ih _ (by rw [List.length_dropLast, h]; rfl))
  exact this _ xs rfl
theorem firsts_nodup (xs : List α) : (firsts xs).Nodup := by
  refine firsts_rec (P := fun xs => (firsts xs).Nodup) (by exact List.nodup_nil) (fun xs x h => ?_) xs
  rw [firsts_snoc]
  exact ins_nodup h x
theorem mem_firsts {y : α} (xs : List α) : y ∈ firsts xs ↔ y ∈ xs := by
  refine firsts_rec (P := fun xs => y ∈ firsts xs ↔ y ∈ xs) (by exact Iff.rfl) (fun xs x h => ?_) xs
  rw [firsts_snoc, mem_ins, h, List.mem_append, List.mem_singleton]
theorem idx_ins {ks : List α} {x y : α} (hy : y ∈ ks) : (ins ks x).idxOf y = ks.idxOf y := by
  unfold ins
  split
  · rfl
  · rw [List.idxOf_append, if_pos hy]
theorem num_snoc (xs : List α) (x : α) : num (xs ++ [x]) = num xs ++ [if x ∈ firsts xs then (((firsts xs).idxOf x : Nat) : Int) else ((firsts xs).length : Int)] := by
  unfold num
  rw [List.map_append, firsts_snoc]
  congr 1
  · refine List.map_congr_left fun y hy => ?_
    rw [idx_ins ((mem_firsts xs).mpr hy)]
  · show [_] = [_]
    congr 1
    split
    · rename_i h
      show (((ins (firsts xs) x).idxOf x : Nat) : Int) = _
      rw [idx_ins h]
    · rename_i h
      show (((ins (firsts xs) x).idxOf x : Nat) : Int) = _
      unfold ins
      rw [if_neg h, List.idxOf_append, if_neg h]
      simp
theorem firsts_len (xs : List α) : ((firsts xs).length : Int) = bc 0 (num xs) ∧ Rg 0 (num xs) := by
  refine firsts_rec (P := fun xs => ((firsts xs).length : Int) = bc 0 (num xs) ∧ Rg 0 (num xs)) ⟨rfl, trivial⟩ (fun xs x h => ?_) xs
  obtain ⟨h1, h2⟩ := h
  rw [num_snoc, firsts_snoc, bc_app, rg_app, ← h1]
  unfold ins
  by_cases hx : x ∈ firsts xs
  · rw [if_pos hx, if_pos hx]
    have hl := List.idxOf_lt_length_of_mem hx
    refine ⟨?_, h2, ?_⟩
    · show _ = if _ then _ else _
      rw [if_neg (by omega)]
    · exact ⟨by omega, by omega, trivial⟩
  · rw [if_neg hx, if_neg hx]
    refine ⟨?_, h2, ?_⟩
    · show _ = if _ then _ else _
      rw [if_pos rfl, List.length_append]
      show ((_ + 1 : Nat) : Int) = _
      show _ = bc _ []
      show _ = (_ : Int) + 1
      omega
    · exact ⟨by omega, by omega, trivial⟩
theorem num_rg (xs : List α) : Rg 0 (num xs) := (firsts_len xs).2
theorem num_len (xs : List α) : (num xs).length = xs.length := by
  unfold num
  rw [List.length_map]
theorem num_get {xs : List α} {i : Nat} {x : α} (h : xs[i]? = some x) : (num xs)[i]? = some (((firsts xs).idxOf x : Nat) : Int) := by
  unfold num
  rw [List.getElem?_map, h]
  rfl
theorem num_ker {xs : List α} {i j : Nat} {x y : α} {u v : Int} (hi : xs[i]? = some x) (hj : xs[j]? = some y) (ui : (num xs)[i]? = some u) (vj : (num xs)[j]? = some v) : u = v ↔ x = y := by
  rw [num_get hi] at ui
  rw [num_get hj] at vj
  cases ui
  cases vj
  constructor
  · intro e
    have e' : (firsts xs).idxOf x = (firsts xs).idxOf y := by omega
    have hx := (mem_firsts xs).mpr (List.mem_of_getElem? hi)
    have hy := (mem_firsts xs).mpr (List.mem_of_getElem? hj)
    have a := List.getElem_idxOf (List.idxOf_lt_length_of_mem hx)
    have b := List.getElem_idxOf (List.idxOf_lt_length_of_mem hy)
    rw [← a, ← b]
    congr 1
  · intro e
    rw [e]
theorem num_par {xs : List α} (h : xs ≠ []) (hl : xs.length ≤ 60) : Par (num xs) :=
  ⟨fun e => h (List.eq_nil_of_length_eq_zero (by rw [← num_len xs, e]; rfl)), by rw [num_len]; exact hl, num_rg xs⟩
/-- a parting is told by its kernel -/
theorem num_is {xs : List α} {q : List Int} (hl : q.length = xs.length) (hq : Rg 0 q)
    (h : ∀ (i j : Nat) (x y : α) (u v : Int), xs[i]? = some x → xs[j]? = some y → q[i]? = some u → q[j]? = some v → (x = y ↔ u = v)) : num xs = q := by
  refine (rg_unique xs.length (num xs) q (num_len xs) hl (num_rg xs) hq fun i j a b u v h1 h2 h3 h4 => ?_).1
  have li := (List.getElem?_eq_some_iff.mp h1).1
  have lj := (List.getElem?_eq_some_iff.mp h2).1
  rw [num_len] at li lj
  have gi : xs[i]? = some xs[i] := List.getElem?_eq_getElem li
  have gj : xs[j]? = some xs[j] := List.getElem?_eq_getElem lj
  rw [num_ker gi gj h1 h2]
  exact h i j _ _ u v gi gj h3 h4
end KM
namespace KM
/-! doors by block; all partings -/
def doorsOf (p : List Int) (b : Int) : List Int := (p.zipIdx.filter fun q => decide (q.1 = b)).map fun q => ((q.2 : Nat) : Int)
theorem doorsOf_snoc (p : List Int) (x b : Int) : doorsOf (p ++ [x]) b = doorsOf p b ++ (if x = b then [((p.length : Nat) : Int)] else []) := by
  unfold doorsOf
  rw [List.zipIdx_append, List.filter_append, List.map_append]
  by_cases h : x = b
  · simp [h]
  · simp [h]
theorem doorsOf_len (p : List Int) (b : Int) : (doorsOf p b).length ≤ p.length := by
  unfold doorsOf
  rw [List.length_map]
  refine Nat.le_trans (List.length_filter_le _ _) ?_
  rw [List.length_zipIdx]
  exact Nat.le_refl _
theorem doorsOf_small (p : List Int) (b : Int) : ∀ x ∈ doorsOf p b, 0 ≤ x ∧ x < p.length := by
  intro x hx
  unfold doorsOf at hx
  obtain ⟨q, hq, rfl⟩ := List.mem_map.mp hx
  have h1 := (List.mem_filter.mp hq).1
  have h2 := List.mem_zipIdx h1
  omega
/-- a row and one door more, into each block and a new one -/
def ext (row : List Int) : List (List Int) := (List.range (bc 0 row + 1).toNat).map fun b => row ++ [((b : Nat) : Int)]
def allP : Nat → List (List Int)
  | 0 => [[0]]
  | n + 1 => (allP n).flatMap ext
theorem allP_ok : ∀ (n : Nat), ∀ r ∈ allP n, Rg 0 r ∧ r.length = n + 1
  | 0, r, h => by
    rw [List.mem_singleton.mp h]
    exact ⟨⟨Int.le_refl _, Int.le_refl _, trivial⟩, rfl⟩
  | n + 1, r, h => by
    obtain ⟨q, hq, hr⟩ := List.mem_flatMap.mp h
    obtain ⟨b, hb, rfl⟩ := List.mem_map.mp hr
    obtain ⟨h1, h2⟩ := allP_ok n q hq
    have hb := List.mem_range.mp hb
    have := bc_ge 0 q
    refine ⟨?_, by rw [List.length_append, h2]; rfl⟩
    rw [rg_app]
    exact ⟨h1, by omega, by omega, trivial⟩
theorem allP_count : ∀ n : Fin 8, (allP n.val).length ≤ 4140 := by decide +kernel
theorem ext_len (row : List Int) : (ext row).length = (bc 0 row + 1).toNat := by
  unfold ext
  rw [List.length_map, List.length_range]
theorem flat_take {α β : Type} (f : α → List β) {xs : List α} {i : Nat} {x : α} (h : xs[i]? = some x) : (xs.take (i + 1)).flatMap f = (xs.take i).flatMap f ++ f x := by
  rw [List.take_add_one, h]
  simp
theorem flat_le {α β : Type} (f : α → List β) {xs : List α} {i : Nat} {x : α} (h : xs[i]? = some x) : ((xs.take i).flatMap f).length + (f x).length ≤ (xs.flatMap f).length := by
  have e : xs = xs.take (i + 1) ++ xs.drop (i + 1) := (List.take_append_drop _ _).symm
  have e2 : (xs.flatMap f).length = ((xs.take (i + 1)).flatMap f).length + ((xs.drop (i + 1)).flatMap f).length := by
    conv => lhs; rw [e]
    rw [List.flatMap_append, List.length_append]
  rw [e2, flat_take f h, List.length_append]
  omega
theorem ext_take {row : List Int} {j : Nat} (hj : j < (bc 0 row + 1).toNat) : (ext row).take (j + 1) = (ext row).take j ++ [row ++ [((j : Nat) : Int)]] := by
  have h : (ext row)[j]? = some (row ++ [((j : Nat) : Int)]) := by
    unfold ext
    rw [List.getElem?_map, List.getElem?_range hj]
    rfl
  rw [List.take_add_one, h]
  rfl
end KM
namespace KM
/-! ### clumps: roots -/
def up (hs : List Nat) (x : Nat) : Nat := hs.getD x x
def Dn (hs : List Nat) : Prop := ∀ x, up hs x ≤ x
def rt (hs : List Nat) : Nat → Nat → Nat
  | 0, x => x
  | f + 1, x => if up hs x = x then x else rt hs f (up hs x)
/-- more fuel changes nothing -/
theorem rt_more {hs : List Nat} (h : Dn hs) : ∀ (f x k : Nat), x ≤ f → rt hs (f + k) x = rt hs f x := by
  intro f
  induction f with
  | zero =>
    intro x k hx
    have e0 : x = 0 := by omega
    subst e0
    have e : up hs 0 = 0 := by have := h 0; omega
    cases k with
    | zero => rfl
    | succ k =>
      show rt hs (0 + (k + 1)) 0 = 0
      rw [Nat.zero_add]
      show (if up hs 0 = 0 then 0 else _) = 0
      rw [if_pos e]
  | succ f ih =>
    intro x k hx
    rw [show f + 1 + k = (f + k) + 1 by omega]
    show (if up hs x = x then x else rt hs (f + k) (up hs x)) = (if up hs x = x then x else rt hs f (up hs x))
    have hx0 := h x
    by_cases e : up hs x = x
    · rw [if_pos e, if_pos e]
    · rw [if_neg e, if_neg e, ih _ k (by omega)]
def root (hs : List Nat) (x : Nat) : Nat := rt hs x x
theorem root_fuel {hs : List Nat} (h : Dn hs) {f x : Nat} (hx : x ≤ f) : rt hs f x = root hs x := by
  have := rt_more h x x (f - x) (Nat.le_refl _)
  rw [show x + (f - x) = f by omega] at this
  exact this
theorem root_at {hs : List Nat} (h : Dn hs) (x : Nat) : root hs x = if up hs x = x then x else root hs (up hs x) := by
  have hx0 := h x
  cases x with
  | zero =>
    rw [if_pos (by omega)]
    rfl
  | succ x =>
    show (if up hs (x + 1) = x + 1 then x + 1 else rt hs x (up hs (x + 1))) = _
    by_cases e : up hs (x + 1) = x + 1
    · rw [if_pos e, if_pos e]
    · rw [if_neg e, if_neg e, root_fuel h (by omega)]
theorem root_self {hs : List Nat} (h : Dn hs) {x : Nat} (e : up hs x = x) : root hs x = x := by
  rw [root_at h, if_pos e]
theorem root_up {hs : List Nat} (h : Dn hs) (x : Nat) : root hs (up hs x) = root hs x := by
  rw [root_at h x]
  by_cases e : up hs x = x
  · rw [if_pos e, e, root_self h e]
  · rw [if_neg e]
theorem root_le {hs : List Nat} (h : Dn hs) : ∀ (n x : Nat), x ≤ n → root hs x ≤ x ∧ up hs (root hs x) = root hs x
  | 0, x, hx => by
    have e0 : x = 0 := by omega
    subst e0
    have e : up hs 0 = 0 := by have := h 0; omega
    rw [root_self h e]
    exact ⟨Nat.le_refl _, e⟩
  | n + 1, x, hx => by
    have hx0 := h x
    by_cases e : up hs x = x
    · rw [root_self h e]
      exact ⟨Nat.le_refl _, e⟩
    · have ih := root_le h n (up hs x) (by omega)
      rw [root_up h] at ih
      exact ⟨by omega, ih.2⟩
theorem up_root {hs : List Nat} (h : Dn hs) (x : Nat) : up hs (root hs x) = root hs x := (root_le h x x (Nat.le_refl _)).2
theorem root_le' {hs : List Nat} (h : Dn hs) (x : Nat) : root hs x ≤ x := (root_le h x x (Nat.le_refl _)).1
theorem up_set {hs : List Nat} {x v y : Nat} (hx : x < hs.length) : up (hs.set x v) y = if y = x then v else up hs y := by
  unfold up
  rw [List.getD_eq_getElem?_getD, List.getElem?_set, List.getD_eq_getElem?_getD]
  by_cases e : x = y
  · subst e
    simp [hx]
  · have e2 : ¬ y = x := fun q => e q.symm
    simp [e, e2]
theorem dn_set {hs : List Nat} (h : Dn hs) {x v : Nat} (hx : x < hs.length) (hv : v ≤ x) : Dn (hs.set x v) := fun y => by
  rw [up_set hx]
  split
  · omega
  · exact h y
/-- a shorter way: the roots stay -/
theorem root_halve {hs : List Nat} (h : Dn hs) {x : Nat} (hx : x < hs.length) : ∀ (n y : Nat), y ≤ n → root (hs.set x (up hs (up hs x))) y = root hs y := by
  have hv : up hs (up hs x) ≤ x := Nat.le_trans (h _) (h x)
  have h2 := dn_set h hx hv
  intro n
  induction n with
  | zero =>
    intro y hy
    have e0 : y = 0 := by omega
    subst e0
    have a := root_le' h 0
    have b := root_le' h2 0
    omega
  | succ n ih =>
    intro y hy
    rw [root_at h2, up_set hx]
    by_cases e : y = x
    · subst e
      rw [if_pos rfl]
      by_cases e2 : up hs (up hs y) = y
      · have e3 : up hs y = y := by
          have := h (up hs y)
          have := h y
          omega
        rw [if_pos e2, root_self h e3]
      · have lt : up hs (up hs y) < y := by
          have := h (up hs y)
          have := h y
          omega
        rw [if_neg e2, ih _ (by omega), root_up h, root_up h]
    · rw [if_neg e]
      have hy0 := h y
      by_cases e2 : up hs y = y
      · rw [if_pos e2, root_self h e2]
      · rw [if_neg e2, ih _ (by omega), root_up h]
/-- two roots made one -/
theorem root_unite {hs : List Nat} (h : Dn hs) {a b : Nat} (hb : b < hs.length) (ea : up hs a = a) (eb : up hs b = b) (lt : a < b) : ∀ (n y : Nat), y ≤ n → root (hs.set b a) y = if root hs y = b then a else root hs y := by
  have h2 := dn_set h hb (Nat.le_of_lt lt)
  intro n
  induction n with
  | zero =>
    intro y hy
    have e0 : y = 0 := by omega
    subst e0
    have p := root_le' h 0
    have q := root_le' h2 0
    rw [if_neg (by omega)]
    omega
  | succ n ih =>
    intro y hy
    rw [root_at h2, up_set hb]
    by_cases e : y = b
    · subst e
      rw [if_pos rfl, if_neg (by omega), ih _ (by omega), root_self h ea, root_self h eb, if_neg (by omega), if_pos rfl]
    · rw [if_neg e]
      have hy0 := h y
      by_cases e2 : up hs y = y
      · rw [if_pos e2, root_self h e2, if_neg e]
      · rw [if_neg e2, ih _ (by omega), root_up h]
/-! ### what is glued together -/
def J (R : Nat → Nat → Prop) (a b x y : Nat) : Prop := R x y ∨ (R x a ∧ R b y) ∨ (R x b ∧ R a y)
def glue (ts : List (Nat × Nat)) : Nat → Nat → Prop := ts.foldl (fun R t => J R t.1 t.2) Eq
theorem glue_snoc (ts : List (Nat × Nat)) (t : Nat × Nat) : glue (ts ++ [t]) = J (glue ts) t.1 t.2 := by
  unfold glue
  rw [List.foldl_append]
  rfl
structure Eqv (R : Nat → Nat → Prop) : Prop where
  refl : ∀ x, R x x
  symm : ∀ x y, R x y → R y x
  trans : ∀ x y z, R x y → R y z → R x z
theorem J_eqv {R : Nat → Nat → Prop} (h : Eqv R) (a b : Nat) : Eqv (J R a b) := by
  refine ⟨fun x => .inl (h.refl x), fun x y q => ?_, fun x y z q1 q2 => ?_⟩
  · rcases q with q | ⟨q, r⟩ | ⟨q, r⟩
    · exact .inl (h.symm _ _ q)
    · exact .inr (.inr ⟨h.symm _ _ r, h.symm _ _ q⟩)
    · exact .inr (.inl ⟨h.symm _ _ r, h.symm _ _ q⟩)
  · have t := h.trans
    have s := h.symm
    rcases q1 with q1 | ⟨q1, r1⟩ | ⟨q1, r1⟩ <;> rcases q2 with q2 | ⟨q2, r2⟩ | ⟨q2, r2⟩
    · exact .inl (t _ _ _ q1 q2)
    · exact .inr (.inl ⟨t _ _ _ q1 q2, r2⟩)
    · exact .inr (.inr ⟨t _ _ _ q1 q2, r2⟩)
    · exact .inr (.inl ⟨q1, t _ _ _ r1 q2⟩)
    · exact .inr (.inl ⟨q1, r2⟩)
    · exact .inl (t _ _ _ q1 r2)
    · exact .inr (.inr ⟨q1, t _ _ _ r1 q2⟩)
    · exact .inl (t _ _ _ q1 r2)
    · exact .inr (.inr ⟨q1, r2⟩)
theorem glue_eqv (ts : List (Nat × Nat)) : Eqv (glue ts) := by
  refine firsts_rec' (P := fun ts => Eqv (glue ts)) ⟨fun _ => rfl, fun _ _ h => Eq.symm h, fun _ _ _ h1 h2 => Eq.trans h1 h2⟩ (fun ts t h => ?_) ts
  rw [glue_snoc]
  exact J_eqv h _ _
where
  firsts_rec' {α : Type} {P : List α → Prop} (h0 : P []) (hs : ∀ xs x, P xs → P (xs ++ [x])) : ∀ xs, P xs := by
    intro xs
    have : ∀ n (xs : List α), xs.length = n → P xs := by
      intro n
      induction n with
      | zero =>
        intro xs h
        rw [List.eq_nil_of_length_eq_zero h]
        exact h0
      | succ n ih =>
        intro xs h
        have hne : xs ≠ [] := by
          intro e
          rw [e] at h
          cases h
        rw [← List.dropLast_concat_getLast hne]
        exact hs _ _ (ih _ (by rw [List.length_dropLast, h]; rfl))
    exact this _ xs rfl
/-- the roots behind a tie -/
theorem tie_roots {hs hs' : List Nat} {R : Nat → Nat → Prop} {a b : Nat} (e : Eqv R) (h : ∀ x y, root hs x = root hs y ↔ R x y)
    (h' : ∀ y, root hs' y = if root hs y = max (root hs a) (root hs b) then min (root hs a) (root hs b) else root hs y) (x y : Nat) : root hs' x = root hs' y ↔ J R a b x y := by
  unfold J
  rw [h' x, h' y, ← h x y, ← h x a, ← h b y, ← h x b, ← h a y]
  generalize root hs x = rx
  generalize root hs y = ry
  generalize root hs a = ra
  generalize root hs b = rb
  rcases Nat.lt_trichotomy ra rb with g | g | g
  · rw [Nat.max_eq_right (by omega), Nat.min_eq_left (by omega)]
    split <;> split <;> omega
  · subst g
    rw [Nat.max_self, Nat.min_self]
    split <;> split <;> omega
  · rw [Nat.max_eq_left (by omega), Nat.min_eq_right (by omega)]
    split <;> split <;> omega
/-- labels behind a tie -/
theorem tie_labels {L L' : Nat → Int} {R : Nat → Nat → Prop} {a b : Nat} {S : Nat → Prop} (h : ∀ x y, S x → S y → (L x = L y ↔ R x y)) (sa : S a) (sb : S b)
    (h' : ∀ y, S y → L' y = if L y = L b then L a else L y) (x y : Nat) (sx : S x) (sy : S y) : L' x = L' y ↔ J R a b x y := by
  unfold J
  rw [h' x sx, h' y sy, ← h x y sx sy, ← h x a sx sa, ← h b y sb sy, ← h x b sx sb, ← h a y sa sy]
  generalize L x = rx
  generalize L y = ry
  generalize L a = ra
  generalize L b = rb
  split <;> split <;> omega
theorem up_range (n x : Nat) : up (List.range n) x = x := by
  unfold up
  rw [List.getD_eq_getElem?_getD]
  by_cases h : x < n
  · rw [List.getElem?_range h]
    rfl
  · rw [List.getElem?_eq_none (by rw [List.length_range]; omega)]
    rfl
theorem dn_range (n : Nat) : Dn (List.range n) := fun x => by
  rw [up_range]
  exact Nat.le_refl _
theorem root_range (n x : Nat) : root (List.range n) x = x := root_self (dn_range n) (up_range n x)
end KM
namespace KQ
open PySem PySem.Spec PyProof.Rows L2 KR
def topS (i : Nat) : Stmt := PySem.Challenge.pw_fittingdoors_k02_whole_partings_between.main.body.getD i (.Pass ⟨0, 0, 0, 0⟩)
section
variable {P : Program} {w : World} {K : PySem.W.Frag} {mg : Str → Option Value} {base : Heap}
abbrev s_is_integer : Stmt := topS 5
theorem sc_is_integer : FnScope ["value"] ["value"] (defScope s_is_integer) := ⟨rfl, rfl, rfl, by decide +kernel, rfl, by decide +kernel, by decide +kernel⟩
def spIsInteger : Sp := fun vs H Q _ => ∃ i : Int, vs = [.int i] ∧ Q (.bl true) H
theorem ok_is_integer (D : DefAt K mg "is_integer" s_is_integer) (T : Bt mg) : Use P w K mg base "is_integer" 1 ["value"] spIsInteger := by
  refine use_of D (fun f fd F => F.ok sc_is_integer (fun vs H Q E h => ?_) (fun cdv A outer s H vs Q E hr h => ?_)) (fun _ _ _ _ _ _ us hl => match us, hl with | [_], _ => rfl)
  · obtain ⟨i, rfl, _⟩ := h
    rfl
  · obtain ⟨i, rfl, q⟩ := h
    refine ⟨_, (pss_one (ps_ret (pe_and (pe_callB (k_isi (K := K) rfl) (by rfl) T.isinstance (by decide +kernel) (pa_cons (pv 0) (pa_cons (pe_bltn (v := .ty "int") (by rfl) T.int (by decide +kernel) rfl) pa_nil))) (pe_one (pe_not (pe_callB (k_isi (K := K) rfl) (by rfl) T.isinstance (by decide +kernel) (pa_cons (pv 0) (pa_cons (pe_bltn (v := .ty "bool") (by rfl) T.bool (by decide +kernel) rfl) pa_nil)))))))), ?_⟩
    refine ⟨_, rfl, _, _, _, _, true, rfl, .ty _, .base (.int i), kit_ty (by decide +kernel), true, rfl, iteT ?_⟩
    exact ⟨_, rfl, _, _, _, _, false, rfl, .ty _, .base (.int i), kit_ty (by decide +kernel), _, rfl, q⟩
def spIntW : Sp := fun vs H Q _ => ∃ i lo hi : Int, vs = [.int i, .int lo, .int hi] ∧ Q (.bl (decide (lo ≤ i ∧ i ≤ hi))) H
abbrev s_is_tuple_within : Stmt := topS 6
theorem sc_is_tuple_within : FnScope ["value", "least", "most"] ["value", "least", "most"] (defScope s_is_tuple_within) := ⟨rfl, rfl, rfl, by decide +kernel, rfl, by decide +kernel, by decide +kernel⟩
def spTupW (K : PySem.W.Frag) : Sp := fun vs H Q _ => ∃ (a : Addr) (xs : List V) (lo hi : Int), vs = [.ref a, .int lo, .int hi] ∧ SqT K H a xs ∧ TyX K H (.ref a) (.type "tuple") ∧ Q (.bl (decide (lo ≤ xs.length ∧ (xs.length : Int) ≤ hi))) H
theorem ok_is_tuple_within (D : DefAt K mg "is_tuple_within" s_is_tuple_within) (T : Bt mg) :
    Use P w K mg base "is_tuple_within" 1 ["value", "least", "most"] (spTupW K) := by
  refine use_of D (fun f fd F => F.ok sc_is_tuple_within (fun vs H Q E h => ?_) (fun cdv A outer s H vs Q E hr h => ?_)) (fun _ _ _ _ _ _ us hl => match us, hl with | [_, _, _], _ => rfl)
  · obtain ⟨a, xs, lo, hi, rfl, _⟩ := h
    rfl
  · obtain ⟨a, xs, lo, hi, rfl, hs, ht, q⟩ := h
    refine ⟨_, (pss_one (ps_ret (pe_and (pe_callB (k_isi (K := K) rfl) (by rfl) T.isinstance (by decide +kernel) (pa_cons (pv 0) (pa_cons (pe_bltn (v := .ty "tuple") (by rfl) T.tuple (by decide +kernel) rfl) pa_nil))) (pe_one (pe_chain op_le op_le (pv 1) (pe_callB (k_len (K := K) rfl) (by rfl) T.len PySem.boot_len (pa_cons (pv 0) pa_nil)) (pv 2)))))), ?_⟩
    refine ⟨_, rfl, _, _, _, _, true, rfl, .ty _, ht, kit_ty (by decide +kernel), true, rfl, iteT ?_⟩
    refine ⟨_, rfl, _, rfl, a, xs, rfl, .inr hs, lo, _, rfl, rfl, _, rfl, ?_⟩
    by_cases h1 : lo ≤ (xs.length : Int)
    · rw [decide_eq_true h1]
      refine iteT ⟨_, rfl, _, hi, rfl, rfl, ?_⟩
      have e : decide (lo ≤ (xs.length : Int) ∧ (xs.length : Int) ≤ hi) = decide ((xs.length : Int) ≤ hi) := by simp [h1]
      rw [e] at q
      exact q
    · rw [decide_eq_false h1]
      refine iteF ?_
      have e : decide (lo ≤ (xs.length : Int) ∧ (xs.length : Int) ≤ hi) = false := by simp [h1]
      rw [e] at q
      exact q
end
end KQ
namespace KQ
open PySem PySem.Spec PyProof.Rows L2 KR KM
section
variable {P : Program} {w : World} {K : PySem.W.Frag} {mg : Str → Option Value} {base : Heap}
/-- a tuple of whole numbers stands at a -/
def TI (H : Hp) (a : Addr) (p : List Int) : Prop := H a = some (.tup (p.map V.int))
theorem TI.mono {H H' : Hp} {a : Addr} {p : List Int} (h : TI H a p) (e : Same H H') : TI H' a p := e _ _ h
theorem TI.ty {H : Hp} {a : Addr} {p : List Int} (h : TI H a p) : TyX K H (.ref a) (.type "tuple") := .base (.tup h)
theorem TI.seq {H : Hp} {a : Addr} {p : List Int} (h : TI H a p) : SqT K H a (p.map V.int) := .inl (.inl h)
abbrev s_first_wrong_block : Stmt := topS 9
theorem sc_first_wrong_block : FnScope ["blocks", "many", "place", "block"] ["blocks"] (defScope s_first_wrong_block) := ⟨rfl, rfl, rfl, by decide +kernel, rfl, by decide +kernel, by decide +kernel⟩
def spFwb : Sp := fun vs H Q _ => ∃ a p, vs = [.ref a] ∧ TI H a p ∧ Par p ∧ ∀ H', Same H H' → Q .non H'
theorem ok_first_wrong_block (D : DefAt K mg "first_wrong_block" s_first_wrong_block) (T : Bt mg) :
    Use P w K mg base "first_wrong_block" 3 ["blocks"] spFwb := by
  refine use_of D (fun f fd F => F.ok sc_first_wrong_block (fun vs H Q E h => ?_) (fun cdv A outer s H vs Q E hr h => ?_)) (fun _ _ _ _ _ _ us hl => match us, hl with | [_], _ => rfl)
  · obtain ⟨a, p, rfl, _⟩ := h
    rfl
  · obtain ⟨a, p, rfl, hp, par, q⟩ := h
    refine ⟨_, (pss_cons (ps_set (i := 1) sc_first_wrong_block.nd rfl (Or.inl rfl) pe_int)
      (pss_cons (ps_for PassesOwn.never rfl (k_enumT (K := K) rfl (by rfl) T.enumerate (pa_cons (pv 0) pa_nil)) (pg_tup rfl (pgs_cons (pg_name (i := 2) sc_first_wrong_block.nd rfl (Or.inl rfl)) (pgs_cons (pg_name (i := 3) sc_first_wrong_block.nd rfl (Or.inl rfl)) pgs_nil)))
      (pss_cons (ps_if (PW.pt (pw_or (pt_not (pt_val (pe_callB (k_isi (K := K) rfl) (by rfl) T.isinstance (by decide +kernel) (pa_cons (pv 3) (pa_cons (pe_bltn (v := .ty "int") (by rfl) T.int (by decide +kernel) rfl) pa_nil))))) (pw_or (pt_val (pe_callB (k_isi (K := K) rfl) (by rfl) T.isinstance (by decide +kernel) (pa_cons (pv 3) (pa_cons (pe_bltn (v := .ty "bool") (by rfl) T.bool (by decide +kernel) rfl) pa_nil)))) (pw_or (pt_cmpR op_lt (pv 3) pe_int (nomark _)) (pw_or1 (pt_cmpR op_gt (pv 3) (pv 1) (nomark _))))))) (pss_one (ps_ret (pv 2))) pss_nil)
      (pss_one (ps_if (pt_cmpR op_eq (pv 3) (pv 1) (nomark _)) (pss_one (ps_aug (i := 1) sc_first_wrong_block.nd rfl (Or.inl rfl) pe_int ip_add)) pss_nil))))
      (pss_one (ps_ret pe_non)))), ?_⟩
    refine ⟨_, rfl, a, _, rfl, hp.seq, for_enumT (K := K) (a := a) (xs := p.map V.int)
      (fun i σ H1 => ∃ y2 y3, σ = [some (.ref a), some (.int (bc 0 (p.take i))), y2, y3] ∧ Same H H1)
      ⟨none, none, rfl, Same.refl H⟩ (fun i σ H1 ⟨_, _, _, sm⟩ => (hp.mono sm).seq) ?_ ?_⟩
    · rintro i v T1 σ H1 hi ⟨y2, y3, rfl, sm⟩ hT
      obtain ⟨x, hx, rfl⟩ := map_at hi
      obtain ⟨x0, x1⟩ := rg_at par.rg hx
      refine ⟨T1, _, rfl, .inl (.inl upd_same), rfl, _, _, rfl, _, [], rfl, rfl, ?_⟩
      refine ⟨_, rfl, _, _, _, _, true, rfl, .ty _, .base (.int x), kit_ty (by decide +kernel), true, rfl, iteF ?_⟩
      refine ⟨_, rfl, _, _, _, _, false, rfl, .ty _, .base (.int x), kit_ty (by decide +kernel), false, rfl, iteF ?_⟩
      refine ⟨_, rfl, x, 0, rfl, rfl, _, rfl, ?_⟩
      rw [decide_eq_false (show ¬ x < 0 by omega)]
      refine iteF ⟨_, rfl, _, rfl, x, bc 0 (p.take i), rfl, rfl, _, rfl, ?_⟩
      rw [decide_eq_false (show ¬ x > bc 0 (p.take i) by omega)]
      refine iteF ?_
      · refine ⟨_, rfl, _, rfl, rfl, _, rfl, ite2 (fun e => ?_) (fun e => ?_)⟩
        · have e' : x = bc 0 (p.take i) := V.int.inj (of_decide_eq_true e)
          refine ⟨_, rfl, _, _, rfl, rfl, ?_⟩
          refine ⟨some (.int (i : Nat)), some (.int x), ?_, sm.trans (same_new hT)⟩
          rw [bc_take hx, if_pos e']
          rfl
        · have e' : ¬ x = bc 0 (p.take i) := fun z => e (decide_eq_true (by rw [z]))
          refine ⟨some (.int (i : Nat)), some (.int x), ?_, sm.trans (same_new hT)⟩
          rw [bc_take hx, if_neg e']
          rfl
    · rintro σ H1 ⟨y2, y3, rfl, sm⟩
      exact q H1 sm
def spIsPar : Sp := fun vs H Q _ => ∃ a p, vs = [.ref a] ∧ TI H a p ∧ Par p ∧ ∀ H', Same H H' → Q (.bl true) H'
theorem par_le {p : List Int} (h : Par p) : decide ((1 : Int) ≤ ((p.map V.int).length : Int) ∧ ((p.map V.int).length : Int) ≤ 60) = true := by
  refine decide_eq_true ?_
  rw [List.length_map]
  have h1 := h.le
  have h2 : p.length ≠ 0 := fun e => h.ne (List.eq_nil_of_length_eq_zero e)
  omega
abbrev s_need_parting : Stmt := topS 10
theorem sc_need_parting : FnScope ["parting", "place"] ["parting"] (defScope s_need_parting) := ⟨rfl, rfl, rfl, by decide +kernel, rfl, by decide +kernel, by decide +kernel⟩
def spNeed : Sp := fun vs H Q _ => ∃ a p, vs = [.ref a] ∧ TI H a p ∧ Par p ∧ ∀ H', Same H H' → Q (.ref a) H'
theorem ok_need_parting (D : DefAt K mg "need_parting" s_need_parting) (T : Bt mg) (c_MOST_DOORS : Cst mg "MOST_DOORS" 60) (u_is_tuple_within : Use P w K mg base "is_tuple_within" 1 ["value", "least", "most"] (spTupW K))
    (u_first_wrong_block : Use P w K mg base "first_wrong_block" 3 ["blocks"] spFwb) : Use P w K mg base "need_parting" 4 ["parting"] spNeed := by
  refine use_of D (fun f fd F => F.ok sc_need_parting (fun vs H Q E h => ?_) (fun cdv A outer s H vs Q E hr h => ?_)) (fun _ _ _ _ _ _ us hl => match us, hl with | [_], _ => rfl)
  · obtain ⟨a, p, rfl, _⟩ := h
    rfl
  · obtain ⟨a, p, rfl, hp, par, q⟩ := h
    refine ⟨_, (pss_cons (ps_if (pt_not (pt_val (pe_use u_is_tuple_within (by decide) hr (by rfl) (pa_cons (pv 0) (pa_cons pe_int (pa_cons (pe_cst (by rfl) c_MOST_DOORS) pa_nil)))))) (pss_one ps_never) pss_nil)
      (pss_cons (ps_set (i := 1) sc_need_parting.nd rfl (Or.inl rfl) (pe_use u_first_wrong_block (by decide) hr (by rfl) (pa_cons (pv 0) pa_nil)))
      (pss_cons (ps_if (pt_cmpR op_notN (pv 1) pe_non (nomark _)) (pss_one ps_never) pss_nil)
      (pss_one (ps_ret (pe_callTy (k_tupOf (K := K) rfl) (by rfl) T.tuple (by decide +kernel) (pa_cons (pv 0) pa_nil))))))), ?_⟩
    refine ⟨_, rfl, a, _, _, _, rfl, hp.seq, hp.ty, true, ?_, iteF ?_⟩
    · rw [par_le par]
    · refine ⟨_, rfl, a, p, rfl, hp, par, fun H1 sm => ?_⟩
      refine ⟨_, rfl, rfl, _, rfl, iteF ?_⟩
      exact ⟨_, rfl, a, _, rfl, .inr ⟨(hp.mono sm).seq, q H1 sm⟩⟩
abbrev s_need_parting_of : Stmt := topS 11
theorem sc_need_parting_of : FnScope ["parting", "doors"] ["parting", "doors"] (defScope s_need_parting_of) := ⟨rfl, rfl, rfl, by decide +kernel, rfl, by decide +kernel, by decide +kernel⟩
def spNeedOf : Sp := fun vs H Q _ => ∃ a p, vs = [.ref a, .int (p.length : Int)] ∧ TI H a p ∧ Par p ∧ ∀ H', Same H H' → Q (.ref a) H'
theorem ok_need_parting_of (D : DefAt K mg "need_parting_of" s_need_parting_of) (T : Bt mg) (u_need_parting : Use P w K mg base "need_parting" 4 ["parting"] spNeed) :
    Use P w K mg base "need_parting_of" 5 ["parting", "doors"] spNeedOf := by
  refine use_of D (fun f fd F => F.ok sc_need_parting_of (fun vs H Q E h => ?_) (fun cdv A outer s H vs Q E hr h => ?_)) (fun _ _ _ _ _ _ us hl => match us, hl with | [_, _], _ => rfl)
  · obtain ⟨a, p, rfl, _⟩ := h
    rfl
  · obtain ⟨a, p, rfl, hp, par, q⟩ := h
    refine ⟨_, (pss_cons (ps_expr (pe_use u_need_parting (by decide) hr (by rfl) (pa_cons (pv 0) pa_nil)))
      (pss_cons (ps_if (pt_cmpR op_ne (pe_callB (k_len (K := K) rfl) (by rfl) T.len PySem.boot_len (pa_cons (pv 0) pa_nil)) (pv 1) (nomark _)) (pss_one ps_never) pss_nil)
      (pss_one (ps_ret (pe_callTy (k_tupOf (K := K) rfl) (by rfl) T.tuple (by decide +kernel) (pa_cons (pv 0) pa_nil)))))), ?_⟩
    refine ⟨_, rfl, a, p, rfl, hp, par, fun H1 sm => ?_⟩
    refine ⟨_, rfl, a, _, rfl, .inr (hp.mono sm).seq, _, rfl, rfl, _, rfl, ?_⟩
    rw [List.length_map, decide_eq_true rfl]
    refine iteF ?_
    exact ⟨_, rfl, a, _, rfl, .inr ⟨(hp.mono sm).seq, q H1 sm⟩⟩
abbrev s_need_two_partings : Stmt := topS 12
theorem sc_need_two_partings : FnScope ["parting", "other"] ["parting", "other"] (defScope s_need_two_partings) := ⟨rfl, rfl, rfl, by decide +kernel, rfl, by decide +kernel, by decide +kernel⟩
def spTwo : Sp := fun vs H Q _ => ∃ a b p r, vs = [.ref a, .ref b] ∧ TI H a p ∧ TI H b r ∧ Par p ∧ Par r ∧ p.length = r.length ∧ ∀ H', Same H H' → Q .non H'
theorem ok_need_two_partings (D : DefAt K mg "need_two_partings" s_need_two_partings) (T : Bt mg) (u_need_parting : Use P w K mg base "need_parting" 4 ["parting"] spNeed)
    (u_need_parting_of : Use P w K mg base "need_parting_of" 5 ["parting", "doors"] spNeedOf) : Use P w K mg base "need_two_partings" 6 ["parting", "other"] spTwo := by
  refine use_of D (fun f fd F => F.ok sc_need_two_partings (fun vs H Q E h => ?_) (fun cdv A outer s H vs Q E hr h => ?_)) (fun _ _ _ _ _ _ us hl => match us, hl with | [_, _], _ => rfl)
  · obtain ⟨a, b, p, r, rfl, _⟩ := h
    rfl
  · obtain ⟨a, b, p, r, rfl, hp, hb, par, parb, hl, q⟩ := h
    refine ⟨_, (pss_cons (ps_expr (pe_use u_need_parting (by decide) hr (by rfl) (pa_cons (pv 0) pa_nil)))
      (pss_one (ps_expr (pe_use u_need_parting_of (by decide) hr (by rfl) (pa_cons (pv 1) (pa_cons (pe_callB (k_len (K := K) rfl) (by rfl) T.len PySem.boot_len (pa_cons (pv 0) pa_nil)) pa_nil)))))), ?_⟩
    refine ⟨_, rfl, a, p, rfl, hp, par, fun H1 sm => ?_⟩
    refine ⟨_, rfl, _, rfl, a, _, rfl, .inr (hp.mono sm).seq, b, r, ?_, hb.mono sm, parb, fun H2 sm2 => q H2 (sm.trans sm2)⟩
    rw [List.length_map, hl]
    rfl
def spCount : Sp := fun vs H Q _ => ∃ a p, vs = [.ref a] ∧ TI H a p ∧ Par p ∧ Q (.int (bc 0 p)) H
def spSize : Sp := fun vs H Q _ => ∃ a p, vs = [.ref a] ∧ TI H a p ∧ Par p ∧ ∀ H', Same H H' → Q (.int (bc 0 p)) H'
end
end KQ
namespace KQ
open PySem PySem.Spec PyProof.Rows L2 KR KM
/-! ### a dict of the first ones' places -/
section
variable {α κ : Type} [DecidableEq α] [DecidableEq κ]
def dg (f : α → κ) (ks : List α) : List (κ × V) := ks.zipIdx.map fun p => (f p.1, V.int ((p.2 : Nat) : Int))
theorem dg_len (f : α → κ) (ks : List α) : (dg f ks).length = ks.length := by
  unfold dg
  rw [List.length_map, List.length_zipIdx]
theorem dg_snoc (f : α → κ) (ks : List α) (x : α) : dg f (ks ++ [x]) = dg f ks ++ [(f x, V.int ((ks.length : Nat) : Int))] := by
  unfold dg
  rw [List.zipIdx_append, List.map_append]
  simp
theorem dg_any {f : α → κ} (hf : ∀ a b, f a = f b → a = b) (ks : List α) (x : α) : ((dg f ks).any fun kv => decide (kv.1 = f x)) = decide (x ∈ ks) := by
  refine firsts_rec (P := fun ks => ((dg f ks).any fun kv => decide (kv.1 = f x)) = decide (x ∈ ks)) (by simp [dg]) (fun ks y h => ?_) ks
  rw [dg_snoc, List.any_append, h]
  simp only [List.any_cons, List.any_nil, Bool.or_false, List.mem_append, List.mem_singleton]
  by_cases e : x = y
  · subst e
    simp
  · have e2 : f y ≠ f x := fun q => e (hf _ _ q).symm
    simp [e, e2]
theorem dg_val {f : α → κ} (hf : ∀ a b, f a = f b → a = b) (ks : List α) (x : α) (h : ks.Nodup) :
    valV (dg f ks) (f x) = if x ∈ ks then some (V.int ((ks.idxOf x : Nat) : Int)) else none := by
  refine firsts_rec (P := fun ks => ks.Nodup → valV (dg f ks) (f x) = if x ∈ ks then some (V.int ((ks.idxOf x : Nat) : Int)) else none) (fun _ => rfl) (fun ks y ih hn => ?_) ks h
  rw [List.nodup_append] at hn
  have ih := ih hn.1
  have hy : y ∉ ks := fun hm => hn.2.2 y hm y (List.mem_singleton.mpr rfl) rfl
  unfold valV at ih ⊢
  rw [dg_snoc, List.find?_append, Option.map_or, ih]
  by_cases hx : x ∈ ks
  · rw [if_pos hx, if_pos (List.mem_append_left _ hx), List.idxOf_append, if_pos hx]
    rfl
  · rw [if_neg hx]
    by_cases e : x = y
    · subst e
      rw [if_pos (List.mem_append_right _ (List.mem_singleton.mpr rfl)), List.idxOf_append, if_neg hx]
      simp
    · have e2 : f y ≠ f x := fun q => e (hf _ _ q).symm
      rw [if_neg (by simp [hx, e])]
      simp [e2]
theorem dg_put {f : α → κ} (hf : ∀ a b, f a = f b → a = b) (ks : List α) (x : α) (hx : x ∉ ks) : putK (dg f ks) (f x) (V.int ((ks.length : Nat) : Int)) = dg f (ks ++ [x]) := by
  unfold putK
  rw [if_neg (by rw [dg_any hf]; simp [hx]), dg_snoc]
end
def kI (x : Int) : L2.Key := Sum.inl x
theorem kI_inj : ∀ a b, kI a = kI b → a = b := fun _ _ e => Sum.inl.inj e
def kP (x : Int × Int) : List L2.Key := [Sum.inl x.1, Sum.inl x.2]
theorem kP_inj : ∀ a b, kP a = kP b → a = b := fun a b e => by
  unfold kP at e
  simp only [List.cons.injEq, Sum.inl.injEq, and_true] at e
  exact Prod.ext e.1 e.2
theorem take_snoc {α : Type} {xs : List α} {i : Nat} {x : α} (h : xs[i]? = some x) : xs.take (i + 1) = xs.take i ++ [x] := by
  rw [List.take_add_one, h]
  rfl
theorem small_of {n : Nat} (h : n ≤ 100000) : n < sizeLine := Nat.lt_of_le_of_lt h (by decide)
/-- one more: what comes, where the key is there, where it isn't -/
theorem num_old {α : Type} [DecidableEq α] {xs : List α} {x : α} (h : x ∈ firsts xs) : num (xs ++ [x]) = num xs ++ [(((firsts xs).idxOf x : Nat) : Int)] ∧ firsts (xs ++ [x]) = firsts xs := by
  rw [num_snoc, firsts_snoc, if_pos h]
  exact ⟨rfl, if_pos h⟩
theorem num_new {α : Type} [DecidableEq α] {xs : List α} {x : α} (h : x ∉ firsts xs) : num (xs ++ [x]) = num xs ++ [((firsts xs).length : Int)] ∧ firsts (xs ++ [x]) = firsts xs ++ [x] := by
  rw [num_snoc, firsts_snoc, if_neg h]
  exact ⟨rfl, if_neg h⟩
theorem firsts_le {α : Type} [DecidableEq α] (xs : List α) : (firsts xs).length ≤ xs.length := by
  refine firsts_rec (P := fun xs => (firsts xs).length ≤ xs.length) (Nat.le_refl _) (fun xs x h => ?_) xs
  rw [firsts_snoc]
  unfold ins
  split
  · rw [List.length_append]
    omega
  · rw [List.length_append, List.length_append]
    show _ + 1 ≤ _ + 1
    omega
section
variable {P : Program} {w : World} {K : PySem.W.Frag} {mg : Str → Option Value} {base : Heap}
/-- numbered of whole numbers: a tuple (b = true), a list -/
def spNumT : Sp := fun vs H Q _ => ∃ a xs, vs = [.ref a] ∧ TI H a xs ∧ xs.length ≤ 1000 ∧ ∀ H' p, Same H H' → TI H' p (num xs) → Q (.ref p) H'
def spNumL : Sp := fun vs H Q _ => ∃ (a : Addr) (xs : List Int), vs = [.ref a] ∧ H a = some (.lst (xs.map V.int)) ∧ xs.length ≤ 1000 ∧ ∀ H' p, Same H H' → TI H' p (num xs) → Q (.ref p) H'
/-- of pairs -/
def PairsAt (H : Hp) (ts : List Addr) (xs : List (Int × Int)) : Prop := ts.length = xs.length ∧ ∀ (i : Nat) (t : Addr), ts[i]? = some t → ∃ x, xs[i]? = some x ∧ H t = some (.tup [.int x.1, .int x.2])
def spNumP : Sp := fun vs H Q _ => ∃ (a : Addr) (ts : List Addr) (xs : List (Int × Int)), vs = [.ref a] ∧ H a = some (.lst (ts.map V.ref)) ∧ PairsAt H ts xs ∧ xs.length ≤ 1000 ∧ ∀ H' p, Same H H' → TI H' p (num xs) → Q (.ref p) H'
end
end KQ
namespace KQ
open PySem PySem.Spec PyProof.Rows L2 KR KM
section
variable {P : Program} {w : World} {K : PySem.W.Frag} {mg : Str → Option Value} {base : Heap}
def spPof : Sp := fun vs H Q _ => ∃ a xs, vs = [.ref a] ∧ TI H a xs ∧ xs ≠ [] ∧ xs.length ≤ 60 ∧ ∀ H' p, Same H H' → TI H' p (num xs) → Q (.ref p) H'
/-- unlike doors below many -/
structure Drs (ds : List Int) (many : Int) : Prop where
  ne : ds ≠ []
  le : ds.length ≤ 60
  nd : ds.Nodup
  at_ : ∀ d ∈ ds, 0 ≤ d ∧ d < many
def spDrs : Sp := fun vs H Q _ => ∃ a ds many, vs = [.ref a, .int many] ∧ TI H a ds ∧ Drs ds many ∧ ∀ H', Same H H' → Q .non H'
end
end KQ
namespace KQ
open PySem PySem.Spec PyProof.Rows L2 KR KM StX
section
variable {P : Program} {w : World} {K : PySem.W.Frag} {mg : Str → Option Value} {base : Heap}
/-- a list of tuples of whole numbers; a tuple of such -/
def LT (H : Hp) (a : Addr) (xss : List (List Int)) : Prop := ∃ ts : List Addr, H a = some (.lst (ts.map V.ref)) ∧ ts.length = xss.length ∧ ∀ (i : Nat) (t : Addr), ts[i]? = some t → ∃ xs, xss[i]? = some xs ∧ TI H t xs
def TT (H : Hp) (a : Addr) (xss : List (List Int)) : Prop := ∃ ts : List Addr, H a = some (.tup (ts.map V.ref)) ∧ ts.length = xss.length ∧ ∀ (i : Nat) (t : Addr), ts[i]? = some t → ∃ xs, xss[i]? = some xs ∧ TI H t xs
theorem TT.mono {H H' : Hp} {a : Addr} {xss : List (List Int)} (h : TT H a xss) (e : Same H H') : TT H' a xss := by
  obtain ⟨ts, h1, h2, h3⟩ := h
  exact ⟨ts, e _ _ h1, h2, fun i t ht => let ⟨xs, q1, q2⟩ := h3 i t ht; ⟨xs, q1, q2.mono e⟩⟩
theorem LT.mono {H H' : Hp} {a : Addr} {xss : List (List Int)} (h : LT H a xss) (e : Same H H') : LT H' a xss := by
  obtain ⟨ts, h1, h2, h3⟩ := h
  exact ⟨ts, e _ _ h1, h2, fun i t ht => let ⟨xs, q1, q2⟩ := h3 i t ht; ⟨xs, q1, q2.mono e⟩⟩
def pick (p ds : List Int) : List Int := ds.map fun d => p.getD d.toNat 0
theorem get_of {p : List Int} {d : Int} (h0 : 0 ≤ d) (h1 : d < p.length) : p[d.toNat]? = some (p.getD d.toNat 0) := by
  have h : d.toNat < p.length := by omega
  rw [List.getElem?_eq_getElem h, List.getD_eq_getElem?_getD, List.getElem?_eq_getElem h]
  rfl
def spSome : Sp := fun vs H Q _ => ∃ a b p ds, vs = [.ref a, .ref b] ∧ TI H a p ∧ TI H b ds ∧ Par p ∧ Drs ds p.length ∧ ∀ H' r, Same H H' → TI H' r (num (pick p ds)) → Q (.ref r) H'
/-- the rows: a list of lists -/
def Rows (H : Hp) (a : Addr) (p : List Int) (many : Nat) : Prop := ∃ rs : List Addr, H a = some (.lst (rs.map V.ref)) ∧ rs.length = many ∧ rs.Nodup ∧ ∀ (b : Nat) (t : Addr), rs[b]? = some t → H t = some (.lst ((doorsOf p b).map V.int))
def spRows : Sp := fun vs H Q _ => ∃ a p, vs = [.ref a] ∧ TI H a p ∧ Par p ∧ ∀ H' l, Same H H' → Rows H' l p (bc 0 p).toNat → Q (.ref l) H'
end
end KQ
namespace KQ
open PySem PySem.Spec PyProof.Rows L2 KR KM StX
section
variable {P : Program} {w : World} {K : PySem.W.Frag} {mg : Str → Option Value} {base : Heap}
def blockList (p : List Int) : List (List Int) := (List.range (bc 0 p).toNat).map fun b => doorsOf p ((b : Nat) : Int)
theorem blockList_at {p : List Int} {b : Nat} (h : b < (bc 0 p).toNat) : (blockList p)[b]? = some (doorsOf p b) := by
  unfold blockList
  rw [List.getElem?_map, List.getElem?_range h]
  rfl
def spBlocks : Sp := fun vs H Q _ => ∃ a p, vs = [.ref a] ∧ TI H a p ∧ Par p ∧ ∀ H' r, Same H H' → TT H' r (blockList p) → Q (.ref r) H'
def besideP (p r : List Int) : List Int := p ++ r.map fun b => bc 0 p + b
def spBeside : Sp := fun vs H Q _ => ∃ a b p r, vs = [.ref a, .ref b] ∧ TI H a p ∧ TI H b r ∧ Par p ∧ Par r ∧ p.length + r.length ≤ 60 ∧ ∀ H' t, Same H H' → TI H' t (besideP p r) → Q (.ref t) H'
abbrev s_lies_within : Stmt := topS 14
theorem sc_lies_within : FnScope ["parting", "other", "above", "low", "high"] ["parting", "other"] (defScope s_lies_within) := ⟨rfl, rfl, rfl, by decide +kernel, rfl, by decide +kernel, by decide +kernel⟩
/-- two doors in one block of the one are in one block of the other -/
def Finer (p r : List Int) : Prop := ∀ (i j : Nat) (x y z : Int), p[i]? = some x → p[j]? = some x → r[i]? = some y → r[j]? = some z → y = z
def spLies : Sp := fun vs H Q _ => ∃ a b p r, vs = [.ref a, .ref b] ∧ TI H a p ∧ TI H b r ∧ p.length = r.length ∧ p.length ≤ 60 ∧ ∀ H' c, Same H H' → (c = true ↔ Finer p r) → Q (.bl c) H'
/-- what the dict knows: each block of the one so far with that of the other at its first door -/
def Known (p r : List Int) (i : Nat) (kvs : List (L2.Key × V)) : Prop := kvs.length ≤ i ∧ ∀ x : Int, (∀ v, valV kvs (kI x) = some v → ∃ (j : Nat) (y : Int), j < i ∧ p[j]? = some x ∧ r[j]? = some y ∧ v = .int y) ∧
  (valV kvs (kI x) = none → ∀ j, j < i → p[j]? ≠ some x)
theorem valV_put {κ : Type} [DecidableEq κ] (kvs : List (κ × V)) (k k' : κ) (v : V) (h : valV kvs k = none) : valV (putK kvs k v) k' = if k' = k then some v else valV kvs k' := by
  have hn : (kvs.any fun kv => decide (kv.1 = k)) = false := by
    unfold valV at h
    rw [Option.map_eq_none_iff, List.find?_eq_none] at h
    rw [List.any_eq_false]
    exact h
  unfold putK
  rw [if_neg (by rw [hn]; exact Bool.false_ne_true)]
  unfold valV
  rw [List.find?_append, Option.map_or]
  by_cases e : k' = k
  · subst e
    rw [if_pos rfl]
    unfold valV at h
    rw [h]
    simp
  · rw [if_neg e]
    have e2 : ¬ k = k' := fun q => e q.symm
    simp [e2]
theorem putK_len {κ : Type} [DecidableEq κ] (kvs : List (κ × V)) (k : κ) (v : V) : (putK kvs k v).length ≤ kvs.length + 1 := length_putK kvs k v
theorem ok_lies_within (D : DefAt K mg "lies_within" s_lies_within) (T : Bt mg) : Use P w K mg base "lies_within" 1 ["parting", "other"] spLies := by
  refine use_of D (fun f fd F => F.ok sc_lies_within (fun vs H Q E h => ?_) (fun cdv A outer s H vs Q E hr h => ?_)) (fun _ _ _ _ _ _ us hl => match us, hl with | [_, _], _ => rfl)
  · obtain ⟨a, b, p, r, rfl, _⟩ := h
    rfl
  · obtain ⟨a, b, p, r, rfl, hp, hb, hl, hle, q⟩ := h
    refine ⟨_, (pss_cons (ps_set (i := 2) sc_lies_within.nd rfl (Or.inl rfl) pe_dnewK)
      (pss_cons (ps_for PassesOwn.never rfl (k_zip (K := K) rfl (by rfl) T.zip (pa_cons (pv 0) (pa_cons (pv 1) pa_nil))) (pg_tup rfl (pgs_cons (pg_name (i := 3) sc_lies_within.nd rfl (Or.inl rfl)) (pgs_cons (pg_name (i := 4) sc_lies_within.nd rfl (Or.inl rfl)) pgs_nil)))
      (pss_one (ps_if (pt_cmpR op_ne (pe_dsetd (pv 2) (pv 3) (pv 4) ⟨by rfl, by rfl, by rfl, by rfl⟩) (pv 4) (nomark _)) (pss_one (ps_ret pe_bl)) pss_nil)))
      (pss_one (ps_ret pe_bl)))), ?_⟩
    refine fun d nd => ?_
    have s0 : Same H (upd H d (.dK [])) := same_new nd
    refine ⟨_, rfl, _, rfl, a, b, _, _, rfl, .inr ⟨(hp.mono s0).seq, (hb.mono s0).seq, ?_⟩⟩
    refine RZ.for_zipT (K := K) (a := a) (b := b) (xs := p.map V.int) (ys := r.map V.int) (by rw [List.length_map, List.length_map, hl])
      (fun i σ H1 => ∃ y3 y4, σ = [some (.ref a), some (.ref b), some (.ref d), y3, y4] ∧ Same H H1 ∧ ∃ kvs, H1 d = some (.dK kvs) ∧ Known p r i kvs ∧
        ∀ (j k : Nat) (x y z : Int), j < i → k < i → p[j]? = some x → p[k]? = some x → r[j]? = some y → r[k]? = some z → y = z)
      ⟨none, none, rfl, s0, [], upd_same, ⟨Nat.le_refl _, fun x => ⟨fun v h => (by cases h), fun _ j hj => absurd hj (Nat.not_lt_zero _)⟩⟩, fun j k x y z hj => absurd hj (Nat.not_lt_zero _)⟩
      (fun i σ H1 ⟨_, _, _, sm, _⟩ => ⟨(hp.mono sm).seq, (hb.mono sm).seq⟩) ?_ ?_
    · rintro i v1 v2 T1 σ H1 hi1 hi2 ⟨y3, y4, rfl, sm, kvs, ed, ⟨kl, kn⟩, hfin⟩ hT
      obtain ⟨x, hx, rfl⟩ := map_at hi1
      obtain ⟨y, hy, rfl⟩ := map_at hi2
      have hil := (List.getElem?_eq_some_iff.mp hx).1
      refine ⟨T1, _, rfl, .inl (.inl upd_same), rfl, _, _, rfl, _, [], rfl, rfl, ?_⟩
      have edT : upd H1 T1 (.tup [.int x, .int y]) d = some (.dK kvs) := by rw [upd_ne (ne_of_none ed hT)]; exact ed
      have smT := sm.trans (same_new (o := .tup [.int x, .int y]) hT)
      refine ⟨_, rfl, d, rfl, .inl ⟨_, .inl edT⟩, _, rfl, _, rfl, kvs, kI x, edT, rfl, small_of (by omega), fun v hv => ?_, fun hn => ?_⟩
      · obtain ⟨j, z, hj, pj, rj, rfl⟩ := (kn x).1 v hv
        refine ⟨_, rfl, rfl, _, rfl, ?_⟩
        by_cases e : z = y
        · subst e
          rw [decide_eq_true rfl]
          refine iteF ?_
          refine ⟨some (.int x), some (.int z), rfl, smT, kvs, edT, ⟨by omega, fun x' => ⟨fun v' hv' => ?_, fun hn' j' hj' => ?_⟩⟩, fun j1 j2 x' y' z' l1 l2 p1 p2 r1 r2 => ?_⟩
          · obtain ⟨j', y', a1, a2⟩ := (kn x').1 v' hv'
            exact ⟨j', y', by omega, a2⟩
          · by_cases hj2 : j' < i
            · exact (kn x').2 hn' j' hj2
            · have : j' = i := by omega
              subst this
              intro e'
              rw [hx] at e'
              cases e'
              rw [hn'] at hv
              cases hv
          · by_cases h1 : j1 < i <;> by_cases h2 : j2 < i
            · exact hfin j1 j2 x' y' z' h1 h2 p1 p2 r1 r2
            · have : j2 = i := by omega
              subst this
              rw [hx] at p2
              cases p2
              rw [hy] at r2
              cases r2
              exact hfin j1 j x y' z h1 hj p1 pj r1 rj
            · have : j1 = i := by omega
              subst this
              rw [hx] at p1
              cases p1
              rw [hy] at r1
              cases r1
              exact (hfin j2 j x z' z h2 hj p2 pj r2 rj).symm
            · have e1 : j1 = i := by omega
              have e2 : j2 = i := by omega
              subst e1
              subst e2
              rw [r1] at r2
              cases r2
              rfl
        · rw [decide_eq_false (fun e' => e (V.int.inj e'))]
          refine iteT ?_
          refine q _ false smT ⟨fun h => (by cases h), fun h => ?_⟩
          exact (e (h j i x z y pj hx rj hy)).elim
      · refine ⟨_, rfl, rfl, _, rfl, ?_⟩
        rw [decide_eq_true rfl]
        refine iteF ?_
        refine ⟨some (.int x), some (.int y), rfl, same_mut smT nd, _, upd_same, ⟨?_, fun x' => ⟨fun v' hv' => ?_, fun hn' j' hj' => ?_⟩⟩, fun j1 j2 x' y' z' l1 l2 p1 p2 r1 r2 => ?_⟩
        · have := putK_len kvs (kI x) (V.int y)
          omega
        · rw [valV_put _ _ _ _ hn] at hv'
          by_cases e : kI x' = kI x
          · rw [if_pos e] at hv'
            cases hv'
            have := kI_inj _ _ e
            subst this
            exact ⟨i, y, by omega, hx, hy, rfl⟩
          · rw [if_neg e] at hv'
            obtain ⟨j', y', a1, a2⟩ := (kn x').1 v' hv'
            exact ⟨j', y', by omega, a2⟩
        · rw [valV_put _ _ _ _ hn] at hn'
          by_cases e : kI x' = kI x
          · rw [if_pos e] at hn'
            cases hn'
          · rw [if_neg e] at hn'
            by_cases hj2 : j' < i
            · exact (kn x').2 hn' j' hj2
            · have : j' = i := by omega
              subst this
              intro e'
              rw [hx] at e'
              cases e'
              exact e rfl
        · by_cases h1 : j1 < i <;> by_cases h2 : j2 < i
          · exact hfin j1 j2 x' y' z' h1 h2 p1 p2 r1 r2
          · have : j2 = i := by omega
            subst this
            rw [hx] at p2
            cases p2
            exact ((kn x).2 hn j1 h1 p1).elim
          · have : j1 = i := by omega
            subst this
            rw [hx] at p1
            cases p1
            exact ((kn x).2 hn j2 h2 p2).elim
          · have e1 : j1 = i := by omega
            have e2 : j2 = i := by omega
            subst e1
            subst e2
            rw [r1] at r2
            cases r2
            rfl
    · rintro σ H1 ⟨y3, y4, rfl, sm, kvs, ed, kn, hfin⟩
      refine q H1 true sm ⟨fun _ i j x y z p1 p2 r1 r2 => ?_, fun _ => rfl⟩
      have l1 := (List.getElem?_eq_some_iff.mp p1).1
      have l2 := (List.getElem?_eq_some_iff.mp p2).1
      rw [List.length_map] at hfin
      exact hfin i j x y z l1 l2 p1 p2 r1 r2
end
end KQ
namespace KQ
open PySem PySem.Spec PyProof.Rows L2 KR KM StX
section
variable {P : Program} {w : World} {K : PySem.W.Frag} {mg : Str → Option Value} {base : Heap}
def spFiner : Sp := fun vs H Q _ => ∃ a b p r, vs = [.ref a, .ref b] ∧ TI H a p ∧ TI H b r ∧ Par p ∧ Par r ∧ p.length = r.length ∧ ∀ H' c, Same H H' → (c = true ↔ Finer p r) → Q (.bl c) H'
def spBelow : Sp := fun vs H Q _ => ∃ a b p r, vs = [.ref a, .ref b] ∧ TI H a p ∧ TI H b r ∧ Par p ∧ Par r ∧ p.length = r.length ∧ ∀ H' t, Same H H' → TI H' t (num (p.zip r)) → Q (.ref t) H'
theorem zipped_pairs {p r : List Int} {H H' : Hp} {ts : List Addr} (hl : p.length = r.length) (tl : ts.length = (p.map V.int).length)
    (tt : ∀ (i : Nat) (t : Addr), ts[i]? = some t → H t = none ∧ ∃ x y, (p.map V.int)[i]? = some x ∧ (r.map V.int)[i]? = some y ∧ H' t = some (.tup [x, y])) : PairsAt H' ts (p.zip r) := by
  refine ⟨?_, fun i t ht => ?_⟩
  · rw [tl, List.length_map, List.length_zip]
    omega
  · obtain ⟨_, x, y, h1, h2, h3⟩ := tt i t ht
    obtain ⟨x', hx, rfl⟩ := map_at h1
    obtain ⟨y', hy, rfl⟩ := map_at h2
    refine ⟨(x', y'), ?_, h3⟩
    rw [List.getElem?_zip_eq_some]
    exact ⟨hx, hy⟩
def spPofD : Sp := fun vs H Q _ => ∃ n : Nat, vs = [.int ((n + 1 : Nat) : Int)] ∧ n < 8 ∧ ∀ H' t, Same H H' → TT H' t (allP n) → Q (.ref t) H'
end
end KQ
namespace KQ
open PySem PySem.Spec PyProof.Rows L2 KR KM StX
section
variable {P : Program} {w : World} {K : PySem.W.Frag} {mg : Str → Option Value} {base : Heap}
/-! ### clumps -/
def cf (l : Addr) (m : Int) : List (Str × V) := putF "many" (.int m) (putF "heads" (.ref l) [])
theorem hm_ne : ¬ (("heads" : Str) = "many") := by decide +kernel
theorem cf_heads (l : Addr) (m : Int) : (cf l m).lookup ("heads" : Str) = some (.ref l) := by
  unfold cf
  rw [lookup_putF, if_neg hm_ne, lookup_putF, if_pos rfl]
theorem cf_many (l : Addr) (m : Int) : (cf l m).lookup ("many" : Str) = some (.int m) := by
  unfold cf
  rw [lookup_putF, if_pos rfl]
theorem cf_no (l : Addr) (m : Int) {x : Str} (h1 : ¬ x = "many") (h2 : ¬ x = "heads") : (cf l m).lookup x = none := by
  unfold cf
  rw [lookup_putF, if_neg h1, lookup_putF, if_neg h2]
  rfl
theorem cf_eq (l : Addr) (m : Int) : cf l m = ([("heads", V.ref l), ("many", V.int m)] : List (Str × V)) := by
  show (if ("heads" : Str) = "many" then [(("heads" : Str), V.int m)] else (("heads" : Str), V.ref l) :: putF "many" (V.int m) []) = _
  rw [if_neg hm_ne]
  rfl
theorem cf_put (l : Addr) (m m' : Int) : putF "many" (.int m') (cf l m) = cf l m' := by
  rw [cf_eq, cf_eq]
  show (if ("heads" : Str) = "many" then _ else (("heads" : Str), V.ref l) :: (if ("many" : Str) = "many" then [(("many" : Str), V.int m')] else _)) = _
  rw [if_neg hm_ne, if_pos rfl]
def hv (hs : List Nat) : List V := hs.map fun n => V.int ((n : Nat) : Int)
/-- clumps stand at o, their heads in the list at l -/
def CAt (C : Addr) (H : Hp) (o l : Addr) (hs : List Nat) (m : Int) : Prop := (∃ dx, H o = some (.ins C dx (cf l m))) ∧ H l = some (.lst (hv hs))
def But (l : Addr) (H H' : Hp) : Prop := ∀ b u, H b = some u → b ≠ l → H' b = some u
theorem hv_at {hs : List Nat} {x : Nat} (h : x < hs.length) : (hv hs)[x]? = some (.int ((up hs x : Nat) : Int)) := by
  unfold hv up
  rw [List.getElem?_map, List.getElem?_eq_getElem h, List.getD_eq_getElem?_getD, List.getElem?_eq_getElem h]
  rfl
theorem hv_set (hs : List Nat) (x v : Nat) : (hv hs).set x (.int ((v : Nat) : Int)) = hv (hs.set x v) := by
  unfold hv
  rw [List.map_set]
theorem hv_len (hs : List Nat) : (hv hs).length = hs.length := List.length_map ..
theorem rgV_hv (n : Nat) : rgV 0 ((n : Nat) : Int) = hv (List.range n) := by
  unfold rgV hv
  rw [show (((n : Nat) : Int) - 0).toNat = n by omega]
  refine List.map_congr_left fun x _ => ?_
  show V.int (0 + _) = _
  rw [Int.zero_add]
def spInit (C : Addr) : Sp := fun vs H Q _ => ∃ (o dx : Addr) (n : Nat), vs = [.ref o, .int ((n : Nat) : Int)] ∧ H o = some (.ins C dx []) ∧ n ≤ 1000 ∧
  ∀ H' l, CAt C H' o l (List.range n) n → H l = none → But o H H' → Q .non H'
def spHead (C : Addr) : Sp := fun vs H Q _ => ∃ (o l : Addr) (hs : List Nat) (m : Int) (x : Nat), vs = [.ref o, .int ((x : Nat) : Int)] ∧ CAt C H o l hs m ∧ Dn hs ∧ x < hs.length ∧
  ∀ H' hs', CAt C H' o l hs' m → Dn hs' → hs'.length = hs.length → (∀ y, root hs' y = root hs y) → But l H H' → Q (.int ((root hs x : Nat) : Int)) H'
def spUnite (C : Addr) : Sp := fun vs H Q _ => ∃ (o l : Addr) (hs : List Nat) (m : Int) (a b : Nat), vs = [.ref o, .int ((a : Nat) : Int), .int ((b : Nat) : Int)] ∧ CAt C H o l hs m ∧ Dn hs ∧ a < hs.length ∧ b < hs.length ∧
  ∀ H' hs', CAt C H' o l hs' (if root hs a = root hs b then m else m - 1) → Dn hs' → hs'.length = hs.length →
    (∀ y, root hs' y = if root hs y = max (root hs a) (root hs b) then min (root hs a) (root hs b) else root hs y) → (∀ c u, H c = some u → c ≠ l → c ≠ o → H' c = some u) → Q (.bl (!decide (root hs a = root hs b))) H'
end
end KQ
namespace KQ
open PySem PySem.Spec PyProof.Rows L2 KR KM StX
section
variable {P : Program} {w : World} {K : PySem.W.Frag} {mg : Str → Option Value} {base : Heap}
def tiesOf (p r : List Int) : List (Nat × Nat) := (p.zip r).map fun q => (q.1.toNat, (bc 0 p + q.2).toNat)
theorem ties_at {p r : List Int} {i : Nat} {x y : Int} (hx : p[i]? = some x) (hy : r[i]? = some y) : (tiesOf p r)[i]? = some (x.toNat, (bc 0 p + y).toNat) := by
  unfold tiesOf
  refine at_map (x := (x, y)) ?_
  rw [List.getElem?_zip_eq_some]
  exact ⟨hx, hy⟩
theorem ties_len {p r : List Int} (h : p.length = r.length) : (tiesOf p r).length = p.length := by
  unfold tiesOf
  rw [List.length_map, List.length_zip]
  omega
def spAbove : Sp := fun vs H Q _ => ∃ a b p r, vs = [.ref a, .ref b] ∧ TI H a p ∧ TI H b r ∧ Par p ∧ Par r ∧ p.length = r.length ∧
  ∀ H' t (L : Nat → Int), Same H H' → (∀ x y, L x = L y ↔ glue (tiesOf p r) x y) → TI H' t (num (p.map fun b => L b.toNat)) → Q (.ref t) H'
end
end KQ
namespace KQ
open PySem PySem.Spec PyProof.Rows L2 KR KM StX
section
variable {P : Program} {w : World} {K : PySem.W.Frag} {mg : Str → Option Value} {base : Heap}
theorem nb {i : Int} {b : Nat} (h0 : 0 ≤ i) (h : i < 2 ^ b) : i.natAbs < 2 ^ b := by
  have : ((i.natAbs : Nat) : Int) < ((2 ^ b : Nat) : Int) := by
    rw [Int.natAbs_of_nonneg h0]
    push_cast
    exact h
  omega
theorem fm {i j : Int} (h : 0 < j) : 0 ≤ i.fmod j ∧ i.fmod j < j := ⟨Int.fmod_nonneg_of_pos _ h, Int.fmod_lt_of_pos _ h⟩
abbrev s__law_mixed : Stmt := topS 24
theorem sc__law_mixed : FnScope ["cell", "n", "blend"] ["cell", "n"] (defScope s__law_mixed) := ⟨rfl, rfl, rfl, by decide +kernel, rfl, by decide +kernel, by decide +kernel⟩
def spMixed : Sp := fun vs H Q _ => ∃ c n, vs = [.int c, .int n] ∧ 0 ≤ c ∧ c < 2 ^ 40 ∧ 0 ≤ n ∧ n < 2 ^ 24 ∧ ∀ r, 0 ≤ r → r < 2 ^ 31 → Q (.int r) H
theorem ok_mixed (D : DefAt K mg "_law_mixed" s__law_mixed) (T : Bt mg) : Use P w K mg base "_law_mixed" 1 ["cell", "n"] spMixed := by
  refine use_of D (fun f fd F => F.ok sc__law_mixed (fun vs H Q E h => ?_) (fun cdv A outer s H vs Q E hr h => ?_)) (fun _ _ _ _ _ _ us hl => match us, hl with | [_, _], _ => rfl)
  · obtain ⟨c, n, rfl, _⟩ := h
    rfl
  · obtain ⟨c, n, rfl, c0, c1, n0, n1, q⟩ := h
    refine ⟨_, (pss_cons (ps_set (i := 2) sc__law_mixed.nd rfl (Or.inl rfl) (pe_op op_add (pe_op op_add (pe_op op_modN (pe_callTy call_int1 (by rfl) T.int (by decide +kernel) (pa_cons (pe_op op_mulW (pe_op op_mulW (pv 0) (pe_op op_add pe_int (pe_op op_mulW pe_int (pv 1)))) pe_int) pa_nil)) pe_int) (pe_op op_mulW (pe_op op_mulW pe_int (pv 1)) (pv 1))) (pe_op op_mulW pe_int (pv 1))))
      (pss_one (ps_ret (pe_op op_fdivW (pe_op op_modN (pe_callTy call_int1 (by rfl) T.int (by decide +kernel) (pa_cons (pe_op op_mulW (pv 2) pe_int) pa_nil)) pe_int) pe_int)))), ?_⟩
    have e2 : (2 : Int) ^ 24 = 16777216 := by decide
    have hn : n.natAbs < 2 ^ 24 := nb n0 n1
    have hc : c.natAbs < 2 ^ 40 := nb c0 c1
    have h1 : (2 * n).natAbs < 2 ^ (2 + 24) := wide_lt (by decide) hn
    have h2 : (1 + 2 * n).natAbs < 2 ^ 27 := nb (by omega) (by omega)
    have h3 : (c * (1 + 2 * n)).natAbs < 2 ^ (40 + 27) := wide_lt hc h2
    have h4 : (7919 * n).natAbs < 2 ^ (13 + 24) := wide_lt (by decide) hn
    have h5 : (7919 * n * n).natAbs < 2 ^ (37 + 24) := wide_lt h4 hn
    have h6 : (104729 * n).natAbs < 2 ^ (17 + 24) := wide_lt (by decide) hn
    have f1 := fm (i := c * (1 + 2 * n) * 48271) (j := 2147483647) (by decide)
    generalize hX : (c * (1 + 2 * n) * 48271).fmod 2147483647 = X at f1
    have e3 : (2 : Nat) ^ (37 + 24) = 2305843009213693952 := by decide
    have e4 : (2 : Nat) ^ (17 + 24) = 2199023255552 := by decide
    have e5 : (2 : Nat) ^ 70 = 1180591620717411303424 := by decide
    have h7 : (X + 7919 * n * n + 104729 * n).natAbs < 2 ^ 70 := by
      generalize 7919 * n * n = u at *
      generalize 104729 * n = v at *
      omega
    generalize hY : X + 7919 * n * n + 104729 * n = Y at h7
    have f2 := fm (i := Y * 69621) (j := 2147483629) (by decide)
    generalize hZ : (Y * 69621).fmod 2147483629 = Z at f2
    subst hZ hY hX
    refine ⟨_, rfl, _, rfl, 2, n, rfl, rfl, wide_mul (by decide : (2 : Int).natAbs < 2 ^ 2) hn (by decide) (by decide) (by decide), 1, 2 * n, rfl, rfl, c, 1 + 2 * n, rfl, rfl, wide_mul hc h2 (by decide) (by decide) (by decide), ?_⟩
    refine ⟨c * (1 + 2 * n), 48271, rfl, rfl, wide_mul h3 (by decide : (48271 : Int).natAbs < 2 ^ 16) (by decide) (by decide) (by decide), .inl ⟨_, rfl, ?_⟩⟩
    refine ⟨_, 2147483647, rfl, rfl, (show (2147483647 : Int) ≠ 0 by decide), ?_⟩
    refine ⟨_, rfl, 7919, n, rfl, rfl, wide_mul (by decide : (7919 : Int).natAbs < 2 ^ 13) hn (by decide) (by decide) (by decide), _, rfl, 7919 * n, n, rfl, rfl, wide_mul h4 hn (by decide) (by decide) (by decide), ?_⟩
    refine ⟨_, _, rfl, rfl, _, rfl, 104729, n, rfl, rfl, wide_mul (by decide : (104729 : Int).natAbs < 2 ^ 17) hn (by decide) (by decide) (by decide), _, _, rfl, rfl, ?_⟩
    refine ⟨_, rfl, _, 69621, rfl, rfl, wide_mul h7 (by decide : (69621 : Int).natAbs < 2 ^ 17) (by decide) (by decide) (by decide), .inl ⟨_, rfl, ?_⟩⟩
    refine ⟨_, 2147483629, rfl, rfl, (show (2147483629 : Int) ≠ 0 by decide), _, 7, rfl, rfl, wide_div (by decide) (by decide : (7 : Int).natAbs < 2 ^ 3) (by decide) (by decide), ?_⟩
    exact q _ (by omega) (by omega)
theorem depth0 : ∀ (ns : List Int), PyData.depthAll (ns.map .int) = 0
  | [] => rfl
  | n :: r => by simp only [List.map, PyData.depthAll, PyData.depth, depth0 r]; rfl
theorem lay0 : ∀ (ns : List Int), PyData.canLayAll0 (ns.map .int) = true
  | [] => rfl
  | n :: r => by simp only [List.map, PyData.canLayAll0, PyData.canLay0, lay0 r, Bool.and_self]
theorem shaped_ints (ns : List Int) : SeqAt.shaped (.list (ns.map .int)) = true := by
  unfold SeqAt.shaped
  simp only [PyData.canLay0, lay0, PyData.depth, depth0]
  rfl
theorem eqv_nil (ns : List Int) : (!PyData.eqv (.list (ns.map .int)) (.list [])) = !ns.isEmpty := by
  cases ns <;> rfl
abbrev s__law_draw : Stmt := topS 26
theorem sc__law_draw : FnScope ["m", "limit", "n", "lot", "here", "cell"] ["m", "limit"] (defScope s__law_draw) := ⟨rfl, rfl, rfl, by decide +kernel, rfl, by decide +kernel, by decide +kernel⟩
/-- the state of the draws: the dict, its lists, at most b draws so far -/
structure MS (H : Hp) (m c g : Addr) (b : Int) : Prop where
  ex : ∃ (cs gs : List Int) (n : Int), H m = some (.dK [(.inr "cells", .ref c), (.inr "great", .ref g), (.inr "spot", .int n)]) ∧ H c = some (.lst (cs.map V.int)) ∧ H g = some (.lst (gs.map V.int)) ∧
    cs.length = 64 ∧ (∀ x ∈ cs, 0 ≤ x ∧ x < 2147483647) ∧ c ≠ g ∧ gs.length ≤ 63 ∧ 0 ≤ n ∧ n ≤ b
/-- all but m and g stays -/
def Kept (H H' : Hp) (m g : Addr) : Prop := ∀ a u, H a = some u → a ≠ m → a ≠ g → H' a = some u
def spDraw : Sp := fun vs H Q _ => ∃ m c g b limit, vs = [.ref m, .int limit] ∧ MS H m c g b ∧ b ≤ 1000000 ∧ 1 ≤ limit ∧ limit ≤ 2 ^ 30 ∧ ∀ H' d, Kept H H' m g → MS H' m c g (b + 1) → 0 ≤ d → d < limit → Q (.int d) H'
theorem ok_draw (D : DefAt K mg "_law_draw" s__law_draw) (T : Bt mg) (u__law_mixed : Use P w K mg base "_law_mixed" 1 ["cell", "n"] spMixed) : Use P w K mg base "_law_draw" 2 ["m", "limit"] spDraw := by
  refine use_of D (fun f fd F => F.ok sc__law_draw (fun vs H Q E h => ?_) (fun cdv A outer s H vs Q E hr h => ?_)) (fun _ _ _ _ _ _ us hl => match us, hl with | [_, _], _ => rfl)
  · obtain ⟨m, c, g, b, limit, rfl, _⟩ := h
    rfl
  · obtain ⟨m, c, g, b, limit, rfl, ⟨cs, gs, n, hm, hc, hg, lc, rc, cg, lg, n0, n1⟩, b1, l1, l2, q⟩ := h
    refine ⟨_, (pss_cons (ps_set (i := 2) sc__law_draw.nd rfl (Or.inl rfl) (pe_dget (hu_of hr) (pv 0) pe_str (fun _ _ => rfl)))
      (pss_cons (ps_dput (hu_of hr) (pv 0) pe_str (pe_op op_add (pv 2) pe_int) rfl)
      (pss_cons (ps_if (pt_cmpR (k_neD (K := K) rfl hr.units) (pe_dget (hu_of hr) (pv 0) pe_str (fun _ _ => rfl)) (pe_lst pa_nil) (nomark _)) (pss_cons (ps_set (i := 3) sc__law_draw.nd rfl (Or.inl rfl) (pe_dget (hu_of hr) (pv 0) pe_str (fun _ _ => rfl)))
      (pss_cons (ps_set (i := 4) sc__law_draw.nd rfl (Or.inl rfl) (pe_op op_modN (pe_callTy call_int1 (by rfl) T.int (by decide +kernel) (pa_cons (pv 2) pa_nil)) (pe_callB (k_len (K := K) rfl) (by rfl) T.len PySem.boot_len (pa_cons (pv 3) pa_nil))))
      (pss_cons (ps_set (i := 5) sc__law_draw.nd rfl (Or.inl rfl) (pe_ix (k_ixl (K := K) rfl) (pv 3) (pv 4) (fun _ _ => rfl)))
      (pss_one (ps_if (pt_cmpR op_gt (pv 5) pe_int (nomark _)) (pss_cons (ps_asg (pe_op op_fdivW (pv 5) (pv 1)) (pg_sub (pv 3) (pv 4) set_list))
      (pss_one (ps_ret (pe_op op_modN (pe_callTy call_int1 (by rfl) T.int (by decide +kernel) (pa_cons (pv 5) pa_nil)) (pv 1))))) pss_nil))))) pss_nil)
      (pss_cons (ps_set (i := 3) sc__law_draw.nd rfl (Or.inl rfl) (pe_dget (hu_of hr) (pv 0) pe_str (fun _ _ => rfl)))
      (pss_one (ps_ret (pe_op op_modN (pe_callTy call_int1 (by rfl) T.int (by decide +kernel) (pa_cons (pe_use u__law_mixed (by decide) hr (by rfl) (pa_cons (pe_use u__law_mixed (by decide) hr (by rfl) (pa_cons (pe_op op_add (pe_ix (k_ixl (K := K) rfl) (pv 3) (pe_op op_modN (pe_callTy call_int1 (by rfl) T.int (by decide +kernel) (pa_cons (pv 2) pa_nil)) pe_int) (fun _ _ => rfl)) (pe_op op_mulW pe_int (pe_op op_fdivW (pv 2) pe_int))) (pa_cons (pv 2) pa_nil))) (pa_cons (pe_op op_add (pv 2) pe_int) pa_nil))) pa_nil)) (pv 1)))))))), ?_⟩
    have mc : m ≠ c := fun e => by rw [e, hc] at hm; cases hm
    have mg' : m ≠ g := fun e => by rw [e, hg] at hm; cases hm
    have e2 : (2 : Int) ^ 30 = 1073741824 := by decide
    refine ⟨_, rfl, m, _, rfl, .k (k := .inr "spot") hm, ?_⟩
    refine ⟨_, rfl, _, _, rfl, rfl, _, rfl, m, _, rfl, .k (k := .inr "spot") hm (small_of (Nat.le_of_ble_eq_true rfl)), ?_⟩
    rw [show putK [((.inr "cells" : L2.Key), V.ref c), (.inr "great", .ref g), (.inr "spot", .int n)] (.inr "spot") (V.int (n + 1)) = [(.inr "cells", .ref c), (.inr "great", .ref g), (.inr "spot", .int (n + 1))] from rfl]
    generalize hH1 : upd H m (.dK [((.inr "cells" : L2.Key), V.ref c), (.inr "great", .ref g), (.inr "spot", .int (n + 1))]) = H1
    have hm1 : H1 m = some (.dK [((.inr "cells" : L2.Key), V.ref c), (.inr "great", .ref g), (.inr "spot", .int (n + 1))]) := by rw [← hH1, upd_same]
    have hc1 : H1 c = some (.lst (cs.map V.int)) := by rw [← hH1, upd_ne mc.symm]; exact hc
    have hg1 : H1 g = some (.lst (gs.map V.int)) := by rw [← hH1, upd_ne mg'.symm]; exact hg
    have k1 : Kept H H1 m g := fun a u ha na _ => by rw [← hH1, upd_ne na]; exact ha
    refine ⟨_, rfl, m, _, rfl, .k (k := .inr "great") hm1, Nat.zero_le _, fun p np => ?_⟩
    have npg : p ≠ g := fun e => by rw [e, hg1] at np; cases np
    have npm : p ≠ m := fun e => by rw [e, hm1] at np; cases np
    have npc : p ≠ c := fun e => by rw [e, hc1] at np; cases np
    have hm2 : (upd H1 p (.lst [])) m = some (.dK [((.inr "cells" : L2.Key), V.ref c), (.inr "great", .ref g), (.inr "spot", .int (n + 1))]) := by rw [upd_ne npm.symm]; exact hm1
    have hc2 : (upd H1 p (.lst [])) c = some (.lst (cs.map V.int)) := by rw [upd_ne npc.symm]; exact hc1
    have hg2 : (upd H1 p (.lst [])) g = some (.lst (gs.map V.int)) := by rw [upd_ne npg.symm]; exact hg1
    have k2 : Kept H (upd H1 p (.lst [])) m g := fun a u ha na nb => by rw [upd_ne (ne_of_none (k1 a u ha na nb) np)]; exact k1 a u ha na nb
    refine ⟨.list (gs.map PyData.int), .list [], .lst (sqL hg2) (dpAll_ints gs), .lst (sqL (xs := []) upd_same) .nil, shaped_ints gs, rfl, _, rfl, ?_⟩
    rw [eqv_nil]
    generalize hH2 : upd H1 p (.lst []) = H2 at *
    have fin : ∀ H3, (∀ a u, H2 a = some u → a ≠ g → H3 a = some u) → (∃ gs' : List Int, H3 g = some (.lst (gs'.map V.int)) ∧ gs'.length = gs.length) → Kept H H3 m g ∧ MS H3 m c g (b + 1) := by
      intro H3 h3 ⟨gs', hg3, lg3⟩
      exact ⟨fun a u ha na nb => h3 a u (k2 a u ha na nb) nb, ⟨cs, gs', n + 1, h3 _ _ hm2 mg', h3 _ _ hc2 cg, hg3, lc, rc, cg, by omega, by omega, by omega⟩⟩
    have fin2 := fin H2 (fun a u ha _ => ha) ⟨gs, hg2, rfl⟩
    have f64 := fm (i := n) (j := 64) (by decide)
    have hat : ∃ x, cs[(n.fmod 64).toNat]? = some x ∧ 0 ≤ x ∧ x < 2147483647 := by
      have hl : (n.fmod 64).toNat < cs.length := by omega
      exact ⟨_, List.getElem?_eq_getElem hl, rc _ (List.getElem_mem hl)⟩
    obtain ⟨x, hx, x0, x1⟩ := hat
    have hd : 0 ≤ n / 64 ∧ n / 64 ≤ n := ⟨by omega, by omega⟩
    have e24 : (2 : Int) ^ 24 = 16777216 := by decide
    have e40 : (2 : Int) ^ 40 = 1099511627776 := by decide
    have e31 : (2 : Int) ^ 31 = 2147483648 := by decide
    cases gs with
    | nil =>
      refine ⟨_, rfl, m, _, rfl, .k (k := .inr "cells") hm2, ?_⟩
      refine ⟨_, rfl, _, rfl, .inl ⟨n, rfl, n, 64, rfl, rfl, (show (64 : Int) ≠ 0 by decide), c, _, n.fmod 64, V.int x, rfl, rfl, sqL hc2, atI_of (j := (n.fmod 64).toNat) (by omega) (at_map hx), ?_⟩⟩
      refine ⟨_, rfl, n, 64, rfl, rfl, wide_div (by decide) (by decide : (64 : Int).natAbs < 2 ^ 7) (by decide) (by decide), 31, n / 64, rfl, rfl, wide_mul (by decide : (31 : Int).natAbs < 2 ^ 5) (nb (b := 24) (by omega) (by omega)) (by decide) (by decide) (by decide), x, 31 * (n / 64), rfl, rfl, _, rfl, ?_⟩
      refine ⟨x + 31 * (n / 64), n, rfl, by omega, by omega, by omega, by omega, fun r r0 r1 => ⟨_, rfl, n, 7, rfl, rfl, r, n + 7, rfl, r0, by omega, by omega, by omega, fun r2 r3 r4 => .inl ⟨r2, rfl, _, rfl, r2, limit, rfl, rfl, (show limit ≠ 0 by omega), ?_⟩⟩⟩
      exact q _ _ fin2.1 fin2.2 (fm (by omega)).1 (fm (by omega)).2
    | cons g0 gr =>
      have fG := fm (i := n) (j := (((g0 :: gr).length : Nat) : Int)) (by rw [List.length_cons]; omega)
      have hat2 : ∃ y, (g0 :: gr)[(n.fmod ((g0 :: gr).length : Nat)).toNat]? = some y := ⟨_, List.getElem?_eq_getElem (by omega)⟩
      obtain ⟨y, hy⟩ := hat2
      refine ⟨_, rfl, m, _, rfl, .k (k := .inr "great") hm2, ?_⟩
      refine ⟨_, rfl, .inl ⟨n, rfl, _, rfl, g, _, rfl, .inl (sqL hg2), n, _, rfl, rfl, ?_, ?_⟩⟩
      · rw [List.length_map, List.length_cons]
        omega
      rw [List.length_map]
      refine ⟨_, rfl, _, rfl, g, _, _, V.int y, rfl, rfl, sqL hg2, atI_of (j := (n.fmod ((g0 :: gr).length : Nat)).toNat) (by omega) (at_map hy), ?_⟩
      refine ⟨_, rfl, y, 0, rfl, rfl, _, rfl, ?_⟩
      by_cases hpos : 0 < y
      · rw [decide_eq_true hpos]
        refine ⟨_, rfl, _, rfl, y, limit, rfl, rfl, wide_div (by omega) (nb (b := 31) (by omega) (by omega)) (by decide) (by decide), _, rfl, _, rfl, g, _, _, (n.fmod ((g0 :: gr).length : Nat)).toNat, rfl, rfl, hg2, ?_, ?_⟩
        · unfold ixN
          rw [List.length_map, if_pos fG.1, if_pos fG.2]
        refine ⟨_, rfl, .inl ⟨y, rfl, _, rfl, y, limit, rfl, rfl, (show limit ≠ 0 by omega), ?_⟩⟩
        have fin3 := fin (upd H2 g (.lst (((g0 :: gr).map V.int).set (n.fmod ((g0 :: gr).length : Nat)).toNat (V.int (y / limit))))) (fun a u ha na => by rw [upd_ne na]; exact ha)
          ⟨(g0 :: gr).set (n.fmod ((g0 :: gr).length : Nat)).toNat (y / limit), by rw [upd_same, List.map_set], by rw [List.length_set]⟩
        exact q _ _ fin3.1 fin3.2 (fm (by omega)).1 (fm (by omega)).2
      · rw [decide_eq_false hpos]
        refine ⟨_, rfl, m, _, rfl, .k (k := .inr "cells") hm2, ?_⟩
        refine ⟨_, rfl, _, rfl, .inl ⟨n, rfl, n, 64, rfl, rfl, (show (64 : Int) ≠ 0 by decide), c, _, n.fmod 64, V.int x, rfl, rfl, sqL hc2, atI_of (j := (n.fmod 64).toNat) (by omega) (at_map hx), ?_⟩⟩
        refine ⟨_, rfl, n, 64, rfl, rfl, wide_div (by decide) (by decide : (64 : Int).natAbs < 2 ^ 7) (by decide) (by decide), 31, n / 64, rfl, rfl, wide_mul (by decide : (31 : Int).natAbs < 2 ^ 5) (nb (b := 24) (by omega) (by omega)) (by decide) (by decide) (by decide), x, 31 * (n / 64), rfl, rfl, _, rfl, ?_⟩
        refine ⟨x + 31 * (n / 64), n, rfl, by omega, by omega, by omega, by omega, fun r r0 r1 => ⟨_, rfl, n, 7, rfl, rfl, r, n + 7, rfl, r0, by omega, by omega, by omega, fun r2 r3 r4 => .inl ⟨r2, rfl, _, rfl, r2, limit, rfl, rfl, (show limit ≠ 0 by omega), ?_⟩⟩⟩
        exact q _ _ fin2.1 fin2.2 (fm (by omega)).1 (fm (by omega)).2
end
end KQ
namespace KQ
open PySem PySem.Spec PyProof.Rows L2 KR KM StX
section
variable {P : Program} {w : World} {K : PySem.W.Frag} {mg : Str → Option Value} {base : Heap}
theorem sameSL {K : PySem.W.Frag} {H H' : Hp} {a : Addr} {xs : List V} (e : Same H H') (h : SqL K H a xs) : SqL K H' a xs := by
  rcases h with (h | ⟨o, h⟩) | h
  · exact .inl (.inl (e _ _ h))
  · exact .inl (.inr ⟨o, e _ _ h⟩)
  · exact .inr h
def Cells (cs : List Int) : Prop := cs.length = 64 ∧ ∀ x ∈ cs, 0 ≤ x ∧ x < 2147483647
theorem Cells.set {cs : List Int} (h : Cells cs) (j : Nat) {v : Int} (h0 : 0 ≤ v) (h1 : v < 2147483647) : Cells (cs.set j v) := by
  refine ⟨by rw [List.length_set]; exact h.1, fun x hx => ?_⟩
  rcases List.mem_or_eq_of_mem_set hx with hx | rfl
  · exact h.2 x hx
  · exact ⟨h0, h1⟩
theorem Cells.at_ {cs : List Int} (h : Cells cs) {j : Nat} (hj : j < 64) : ∃ x, cs[j]? = some x ∧ 0 ≤ x ∧ x < 2147483647 :=
  ⟨_, List.getElem?_eq_getElem (by rw [h.1]; exact hj), h.2 _ (List.getElem_mem _)⟩
theorem ixN_of {n : Nat} {i : Int} (h0 : 0 ≤ i) (h1 : i < (n : Int)) : ixN n i = some i.toNat := by
  unfold ixN
  rw [if_pos h0, if_pos h1]
abbrev s__law_folded : Stmt := topS 25
theorem sc__law_folded : FnScope ["script", "found", "n", "cell"] ["script"] (defScope s__law_folded) := ⟨rfl, rfl, rfl, by decide +kernel, rfl, by decide +kernel, by decide +kernel⟩
def spFolded (K : PySem.W.Frag) : Sp := fun vs H Q _ => ∃ (a : Addr) (ns : List Int), vs = [.ref a] ∧ SqL K H a (ns.map V.int) ∧ ns.length ≤ 63 ∧
  ∀ H' l cs, Same H H' → H l = none → H' l = some (.lst (List.map V.int cs)) → Cells cs → Q (.ref l) H'
theorem ok_folded (D : DefAt K mg "_law_folded" s__law_folded) (T : Bt mg) : Use P w K mg base "_law_folded" 1 ["script"] (spFolded K) := by
  refine use_of D (fun f fd F => F.ok sc__law_folded (fun vs H Q E h => ?_) (fun cdv A outer s H vs Q E hr h => ?_)) (fun _ _ _ _ _ _ us hl => match us, hl with | [_], _ => rfl)
  · obtain ⟨a, ns, rfl, _⟩ := h
    rfl
  · obtain ⟨a, ns, rfl, hs, hl, q⟩ := h
    refine ⟨_, (pss_cons (ps_setLc (i := 1) (own := [("n", 2)]) rfl sc__law_folded.nd rfl rfl (sw_true rfl rfl rfl (by decide +kernel)) (pi_range1 (by rfl) T.range (pa_cons pe_int pa_nil)) (blkOk_by (N := ["script", "found", "n", "cell"]) (sc := defScope s__law_folded) (by decide +kernel)) (fun _ _ _ _ _ => (pg_name (i := 2) sc__law_folded.nd rfl (Or.inl rfl))) (fun _ _ _ _ _ => pts_nil) (fun _ _ _ _ _ => (pe_op op_add pe_int (pv 2))))
      (pss_cons (ps_for PassesOwn.never rfl (k_enum (K := K) rfl (by rfl) T.enumerate (pa_cons (pv 0) pa_nil)) (pg_tup rfl (pgs_cons (pg_name (i := 2) sc__law_folded.nd rfl (Or.inl rfl)) (pgs_cons (pg_name (i := 3) sc__law_folded.nd rfl (Or.inl rfl)) pgs_nil)))
      (pss_one (ps_asg (pe_op op_modN (pe_callTy call_int1 (by rfl) T.int (by decide +kernel) (pa_cons (pe_op op_add (pe_op op_mulW (pe_ix (k_ixl (K := K) rfl) (pv 1) (pe_op op_modN (pe_callTy call_int1 (by rfl) T.int (by decide +kernel) (pa_cons (pv 2) pa_nil)) pe_int) (fun _ _ => rfl)) pe_int) (pv 3)) pa_nil)) pe_int) (pg_sub (pv 1) (pe_op op_modN (pe_callTy call_int1 (by rfl) T.int (by decide +kernel) (pa_cons (pv 2) pa_nil)) pe_int) set_list))))
      (pss_cons (ps_for PassesOwn.never rfl (pi_range2 (by rfl) T.range (pa_cons pe_int (pa_cons pe_int pa_nil))) (pg_name (i := 2) sc__law_folded.nd rfl (Or.inl rfl))
      (pss_one (ps_asg (pe_op op_modN (pe_callTy call_int1 (by rfl) T.int (by decide +kernel) (pa_cons (pe_op op_add (pe_ix (k_ixl (K := K) rfl) (pv 1) (pv 2) (fun _ _ => rfl)) (pe_op op_mulW (pe_ix (k_ixl (K := K) rfl) (pv 1) (pe_op op_sub (pv 2) pe_int) (fun _ _ => rfl)) pe_int)) pa_nil)) pe_int) (pg_sub (pv 1) (pv 2) set_list))))
      (pss_one (ps_ret (pv 1)))))), ?_⟩
    refine ⟨_, rfl, by decide, by decide, fun L nL => ?_⟩
    refine lc_range (fun i H1 => Same H H1 ∧ H1 L = some (.lst (((List.range i).map fun k => (17 + (k : Nat) : Int)).map V.int))) ⟨same_new nL, upd_same⟩ ?_ ?_
    · rintro i H1 hi ⟨sm, eL⟩
      refine ⟨rfl, _, rfl, _, _, rfl, rfl, _, eL, ?_, same_mut sm nL, ?_⟩
      · rw [List.length_map, List.length_map, List.length_range]
        exact small_of (by omega)
      · rw [upd_same, List.range_succ, List.map_append, List.map_append, Int.zero_add]
        rfl
    · rintro H1 ⟨sm, eL⟩
      refine ⟨_, rfl, a, _, rfl, sameSL sm hs, for_enumL (K := K) (a := a) (xs := ns.map V.int)
        (fun i σ H2 => ∃ y2 y3, σ = [some (.ref a), some (.ref L), y2, y3] ∧ Same H H2 ∧ ∃ cs, H2 L = some (.lst (List.map V.int cs)) ∧ Cells cs)
        ⟨none, none, rfl, sm, _, eL, ?_⟩ (fun i σ H2 ⟨_, _, _, sm, _⟩ => sameSL sm hs) ?_ ?_⟩
      · refine ⟨by rw [List.length_map, List.length_range]; rfl, fun x hx => ?_⟩
        obtain ⟨k, hk, rfl⟩ := List.mem_map.mp hx
        have := List.mem_range.mp hk
        have e : ((64 : Int)).toNat = 64 := rfl
        omega
      · rintro i v T1 σ H2 hi ⟨y2, y3, rfl, sm, cs, eL, ok⟩ hT
        obtain ⟨x, hx, rfl⟩ := map_at hi
        have nTL : T1 ≠ L := fun e => by rw [e, eL] at hT; cases hT
        have eL2 : (upd H2 T1 (.tup [.int (i : Nat), .int x])) L = some (.lst (cs.map V.int)) := by rw [upd_ne nTL.symm]; exact eL
        have f64 := fm (i := ((i : Nat) : Int)) (j := 64) (by decide)
        obtain ⟨y, hy, y0, y1⟩ := ok.at_ (j := (((i : Nat) : Int).fmod 64).toNat) (by omega)
        refine ⟨T1, _, rfl, .inl (.inl upd_same), rfl, _, _, rfl, _, [], rfl, rfl, ?_⟩
        refine ⟨_, rfl, _, rfl, .inl ⟨_, rfl, _, 64, rfl, rfl, (show (64 : Int) ≠ 0 by decide), L, _, _, V.int y, rfl, rfl, sqL eL2, atI_of (j := (((i : Nat) : Int).fmod 64).toNat) (by omega) (at_map hy), ?_⟩⟩
        refine ⟨y, 48271, rfl, rfl, wide_mul (nb (b := 31) y0 (by omega)) (by decide : (48271 : Int).natAbs < 2 ^ 16) (by decide) (by decide) (by decide), _, rfl, y * 48271, x, rfl, rfl, .inl ⟨_, rfl, ?_⟩⟩
        refine ⟨_, 2147483647, rfl, rfl, (show (2147483647 : Int) ≠ 0 by decide), _, rfl, _, rfl, .inl ⟨_, rfl, _, 64, rfl, rfl, (show (64 : Int) ≠ 0 by decide), L, _, _, (((i : Nat) : Int).fmod 64).toNat, rfl, rfl, eL2, ?_, ?_⟩⟩
        · rw [List.length_map, ok.1]
          exact ixN_of f64.1 f64.2
        have fz := fm (i := y * 48271 + x) (j := 2147483647) (by decide)
        refine ⟨some (.int (i : Nat)), some (.int x), rfl, same_mut (same_new hT |> sm.trans) nL, cs.set (((i : Nat) : Int).fmod 64).toNat _, ?_, ok.set _ fz.1 fz.2⟩
        rw [upd_same, List.map_set]
      · rintro σ H2 ⟨y2, y3, rfl, sm, cs, eL, ok⟩
        refine ⟨1, 64, rfl, by decide, for_range (lo := 1) (n := ((64 : Int) - 1).toNat)
          (fun i σ H3 => ∃ y2, σ = [some (.ref a), some (.ref L), y2, y3] ∧ Same H H3 ∧ ∃ cs, H3 L = some (.lst (List.map V.int cs)) ∧ Cells cs)
          ⟨y2, rfl, sm, cs, eL, ok⟩ ?_ ?_⟩
        · rintro i σ H3 hi ⟨y2, rfl, sm, cs, eL, ok⟩
          have hi63 : i < 63 := hi
          obtain ⟨x, hx, x0, x1⟩ := ok.at_ (j := i + 1) (by omega)
          obtain ⟨y, hy, y0, y1⟩ := ok.at_ (j := i) (by omega)
          refine ⟨_, rfl, _, rfl, L, _, 1 + (i : Nat), V.int x, rfl, rfl, sqL eL, atI_of (j := i + 1) (by omega) (at_map hx), ?_⟩
          refine ⟨_, rfl, _, rfl, _, _, rfl, rfl, L, _, 1 + (i : Nat) - 1, V.int y, rfl, rfl, sqL eL, atI_of (j := i) (by omega) (at_map hy), ?_⟩
          refine ⟨y, 16807, rfl, rfl, wide_mul (nb (b := 31) y0 (by omega)) (by decide : (16807 : Int).natAbs < 2 ^ 15) (by decide) (by decide) (by decide), x, y * 16807, rfl, rfl, .inl ⟨_, rfl, ?_⟩⟩
          refine ⟨_, 2147483647, rfl, rfl, (show (2147483647 : Int) ≠ 0 by decide), _, rfl, _, rfl, L, _, 1 + (i : Nat), i + 1, rfl, rfl, eL, ?_, ?_⟩
          · rw [List.length_map, ok.1]
            exact ixN_nat (by omega) (by omega)
          have fz := fm (i := x + y * 16807) (j := 2147483647) (by decide)
          refine ⟨_, rfl, same_mut sm nL, cs.set (i + 1) _, ?_, ok.set _ fz.1 fz.2⟩
          rw [upd_same, List.map_set]
        · rintro σ H3 ⟨y2, rfl, sm, cs, eL, ok⟩
          exact ⟨_, rfl, q _ _ _ sm nL eL ok⟩
abbrev s__law_begun : Stmt := topS 27
theorem sc__law_begun : FnScope ["script", "m", "cell"] ["script"] (defScope s__law_begun) := ⟨rfl, rfl, rfl, by decide +kernel, rfl, by decide +kernel, by decide +kernel⟩
def spBegun (K : PySem.W.Frag) : Sp := fun vs H Q _ => ∃ (a : Addr) (ns : List Int), vs = [.ref a] ∧ SqL K H a (ns.map V.int) ∧ ns.length ≤ 63 ∧
  ∀ H' m c g, MS H' m c g 0 → Q (.ref m) H'
theorem ok_begun (D : DefAt K mg "_law_begun" s__law_begun) (T : Bt mg) (u__law_folded : Use P w K mg base "_law_folded" 1 ["script"] (spFolded K)) : Use P w K mg base "_law_begun" 2 ["script"] (spBegun K) := by
  refine use_of D (fun f fd F => F.ok sc__law_begun (fun vs H Q E h => ?_) (fun cdv A outer s H vs Q E hr h => ?_)) (fun _ _ _ _ _ _ us hl => match us, hl with | [_], _ => rfl)
  · obtain ⟨a, ns, rfl, _⟩ := h
    rfl
  · obtain ⟨a, ns, rfl, hs, hl, q⟩ := h
    refine ⟨_, (pss_cons (ps_set (i := 1) sc__law_begun.nd rfl (Or.inl rfl) (pe_disp (pps_cons pe_str (pe_use u__law_folded (by decide) hr (by rfl) (pa_cons (pv 0) pa_nil)) (pps_cons pe_str (pe_lst pa_nil) (pps_cons pe_str pe_int pps_nil))) (by rfl) (by rfl) (fun z => by cases z) (by decide)))
      (pss_cons (ps_dput (hu_of hr) (pv 1) pe_str (pe_lc (own := [("cell", 2)]) rfl sc__law_begun.nd (k_list (K := K) rfl (pv 0)) (blkOk_by (N := ["script", "m", "cell"]) (sc := defScope s__law_begun) (by decide +kernel)) (fun _ _ _ _ _ => (pg_name (i := 2) sc__law_begun.nd rfl (Or.inl rfl))) (fun _ _ _ _ _ => pts_nil) (fun _ _ _ _ _ => (pe_ifExp (pt_cmpR op_ge (pv 2) (pe_op op_pow pe_int pe_int) (nomark _)) (pv 2) pe_int))) rfl)
      (pss_one (ps_ret (pv 1))))), ?_⟩
    refine fun m nm => ⟨_, rfl, a, ns, rfl, sameSL (same_new nm) hs, hl, fun H1 c cs s1 nc hc ok => ⟨Nat.zero_le _, fun g ng => ?_⟩⟩
    have mc : m ≠ c := fun e => by rw [← e, upd_same] at nc; cases nc
    have hm1 : H1 m = some (.dK []) := s1 _ _ upd_same
    have mg1 : m ≠ g := fun e => by rw [e, ng] at hm1; cases hm1
    have cg : c ≠ g := fun e => by rw [e, ng] at hc; cases hc
    refine ⟨by rw [upd_ne mg1]; exact hm1, [(.inr "cells", .ref c), (.inr "great", .ref g), (.inr "spot", .int 0)], rfl, Nat.le_of_ble_eq_true rfl, ?_⟩
    rw [show mergeK [] [((.inr "cells" : L2.Key), V.ref c), (.inr "great", .ref g), (.inr "spot", .int 0)] = [(.inr "cells", .ref c), (.inr "great", .ref g), (.inr "spot", .int 0)] from rfl]
    generalize hH2 : upd (upd H1 g (.lst [])) m (.dK [((.inr "cells" : L2.Key), V.ref c), (.inr "great", .ref g), (.inr "spot", .int 0)]) = H2
    have hm2 : H2 m = some (.dK [((.inr "cells" : L2.Key), V.ref c), (.inr "great", .ref g), (.inr "spot", .int 0)]) := by rw [← hH2, upd_same]
    have hc2 : H2 c = some (.lst (cs.map V.int)) := by rw [← hH2, upd_ne mc.symm, upd_ne cg]; exact hc
    have hs2 : SqL K H2 a (ns.map V.int) := by
      refine sameSL (fun b u hb => ?_) hs
      have h1 : H1 b = some u := (Same.trans (same_new nm) s1) b u hb
      rw [← hH2, upd_ne (ne_of_none hb nm), upd_ne (ne_of_none h1 ng)]
      exact h1
    refine ⟨_, rfl, a, rfl, ⟨_, hs2⟩, fun L nL => ?_⟩
    have Lm : L ≠ m := fun e => by rw [e, hm2] at nL; cases nL
    have Lc : L ≠ c := fun e => by rw [e, hc2] at nL; cases nL
    refine lc_list (K := K) (a := a) (xs := ns.map V.int) (fun i H3 => Same H2 H3 ∧ ∃ gs : List Int, H3 L = some (.lst (gs.map V.int)) ∧ gs.length = i) ⟨same_new nL, [], upd_same, rfl⟩
      (fun i H3 _ ⟨sm, _⟩ => sameSL sm hs2) ?_ ?_
    · rintro i v H3 hi ⟨sm, gs, eL, lg⟩
      obtain ⟨x, hx, rfl⟩ := map_at hi
      have hi63 : i < ns.length := (List.getElem?_eq_some_iff.mp hx).1
      have put : ∀ y : Int, ∃ acc, H3 L = some (.lst acc) ∧ acc.length < sizeLine ∧ (Same H2 (upd H3 L (.lst (acc ++ [V.int y]))) ∧ ∃ gs : List Int, upd H3 L (.lst (acc ++ [V.int y])) L = some (.lst (gs.map V.int)) ∧ gs.length = i + 1) := fun y =>
        ⟨_, eL, by rw [List.length_map]; exact small_of (by omega), same_mut sm nL, gs ++ [y], by rw [upd_same, List.map_append]; rfl, by rw [List.length_append, lg]; rfl⟩
      refine ⟨rfl, _, rfl, 10, 18, rfl, rfl, ⟨by decide, by decide, by decide⟩, x, _, rfl, rfl, _, rfl, ?_⟩
      by_cases hx2 : (10 : Int) ^ (18 : Int).toNat ≤ x
      · rw [decide_eq_true hx2]
        exact ⟨_, rfl, put x⟩
      · rw [decide_eq_false hx2]
        exact put 0
    · rintro H3 ⟨sm, gs, eL, lg⟩
      rw [List.length_map] at lg
      have hm3 := sm _ _ hm2
      refine ⟨_, rfl, m, _, rfl, .k (k := .inr "great") hm3 (small_of (Nat.le_of_ble_eq_true rfl)), ?_⟩
      rw [show putK [((.inr "cells" : L2.Key), V.ref c), (.inr "great", .ref g), (.inr "spot", .int 0)] (.inr "great") (V.ref L) = [(.inr "cells", .ref c), (.inr "great", .ref L), (.inr "spot", .int 0)] from rfl]
      refine ⟨_, rfl, q _ m c L ⟨cs, gs, 0, upd_same, ?_, ?_, ok.1, ok.2, Lc.symm, by omega, Int.le_refl _, Int.le_refl _⟩⟩
      · rw [upd_ne mc.symm]
        exact sm _ _ hc2
      · rw [upd_ne Lm]
        exact eL
end
end KQ
namespace KQ
open PySem PySem.Spec PyProof.Rows L2 KR KM StX
/-! ### data that repr shows in short -/
structure Nc (k W : Nat) (d : PyData) : Prop where
  sh : d.showable = true
  nd : d.hasDict = false
  dp : d.depth ≤ k
  lf : d.leavesShort 13 = true
  wt : d.weight ≤ W
structure NcA (k W : Nat) (ds : List PyData) : Prop where
  sh : PyData.showableAll ds = true
  nd : PyData.hasDictAll ds = false
  dp : PyData.depthAll ds ≤ k
  lf : PyData.leavesShortAll 13 ds = true
  wt : PyData.weightAll ds ≤ W
theorem Nc.le {k W k' W' : Nat} {d : PyData} (h : Nc k W d) (h1 : k ≤ k') (h2 : W ≤ W') : Nc k' W' d := ⟨h.sh, h.nd, Nat.le_trans h.dp h1, h.lf, Nat.le_trans h.wt h2⟩
theorem NcA.le {k W k' W' : Nat} {d : List PyData} (h : NcA k W d) (h1 : k ≤ k') (h2 : W ≤ W') : NcA k' W' d := ⟨h.sh, h.nd, Nat.le_trans h.dp h1, h.lf, Nat.le_trans h.wt h2⟩
theorem nc_nat : ∀ i : Fin 1024, Nc 0 10 (.int ((i.val : Nat) : Int)) := fun i => by
  have e : ((i.val : Int)).natAbs = i.val := rfl
  have hlog : i.val.log2 < 10 := by
    by_cases h0 : i.val = 0
    · rw [h0]
      decide
    · exact (Nat.log2_lt h0).2 (by have := i.isLt; omega)
  refine ⟨?_, rfl, Nat.le_refl _, ?_, ?_⟩
  · simp only [PyData.showable, e]
    exact decide_eq_true (by omega)
  · simp only [PyData.leavesShort]
    exact decide_eq_true (PyData.shown_int_le (by have := i.isLt; rw [e]; omega))
  · simp only [PyData.weight, e]
    split <;> omega
theorem nc_int {i : Int} (h0 : 0 ≤ i) (h1 : i < 1024) : Nc 0 10 (.int i) := by
  have h := nc_nat ⟨i.toNat, by omega⟩
  have e : ((i.toNat : Nat) : Int) = i := by omega
  rw [show (((⟨i.toNat, by omega⟩ : Fin 1024).val : Nat) : Int) = i from e] at h
  exact h
theorem nc_bool (b : Bool) : Nc 0 0 (.bool b) := ⟨rfl, rfl, Nat.le_refl _, rfl, Nat.le_refl _⟩
theorem nc_nil (k : Nat) : NcA k 0 [] := ⟨rfl, rfl, Nat.zero_le _, rfl, Nat.le_refl _⟩
theorem nc_cons {k W1 W2 : Nat} {d : PyData} {ds : List PyData} (h : Nc k W1 d) (hs : NcA k W2 ds) : NcA k (W1 + 1 + W2) (d :: ds) := by
  refine ⟨?_, ?_, ?_, ?_, ?_⟩
  · simp only [PyData.showableAll, h.sh, hs.sh]; rfl
  · simp only [PyData.hasDictAll, h.nd, hs.nd]; rfl
  · have a := h.dp
    have b := hs.dp
    simp only [PyData.depthAll]
    exact Nat.max_le.mpr ⟨a, b⟩
  · simp only [PyData.leavesShortAll, h.lf, hs.lf]; rfl
  · have a := h.wt
    have b := hs.wt
    simp only [PyData.weightAll]
    omega
theorem nc_all {k W : Nat} : ∀ {ds : List PyData}, (∀ d ∈ ds, Nc k W d) → NcA k ((W + 1) * ds.length) ds
  | [], _ => (nc_nil k).le (Nat.le_refl _) (Nat.zero_le _)
  | d :: ds, h => by
    refine (nc_cons (h d List.mem_cons_self) (nc_all fun x hx => h x (List.mem_cons_of_mem _ hx))).le (Nat.le_refl _) ?_
    rw [List.length_cons, Nat.mul_add]
    omega
theorem nc_tup {k W : Nat} {ds : List PyData} (h : NcA k W ds) : Nc (k + 1) W (.tuple ds) := by
  refine ⟨by simp only [PyData.showable, h.sh], by simp only [PyData.hasDict, h.nd], ?_, by simp only [PyData.leavesShort, h.lf], by simp only [PyData.weight]; exact h.wt⟩
  have := h.dp
  simp only [PyData.depth]
  omega
theorem nc_lst {k W : Nat} {ds : List PyData} (h : NcA k W ds) : Nc (k + 1) W (.list ds) := by
  refine ⟨by simp only [PyData.showable, h.sh], by simp only [PyData.hasDict, h.nd], ?_, by simp only [PyData.leavesShort, h.lf], by simp only [PyData.weight]; exact h.wt⟩
  have := h.dp
  simp only [PyData.depth]
  omega
theorem nc_ints {p : List Int} (h : ∀ x ∈ p, 0 ≤ x ∧ x < 1024) : NcA 0 (11 * p.length) (p.map PyData.int) := by
  have := nc_all (k := 0) (W := 10) (ds := p.map PyData.int) (fun d hd => by
    obtain ⟨x, hx, rfl⟩ := List.mem_map.mp hd
    exact nc_int (h x hx).1 (h x hx).2)
  rw [List.length_map] at this
  exact this
section
variable {P : Program} {w : World} {K : PySem.W.Frag} {mg : Str → Option Value} {base : Heap}
theorem dp_ti {H : Hp} {a : Addr} {p : List Int} (h : TI H a p) : Dp K H (.ref a) (.tuple (p.map PyData.int)) := .tup (h.seq) (dpAll_ints p)
abbrev s__law_like : Stmt := topS 28
theorem sc__law_like : FnScope ["got", "due"] ["got", "due"] (defScope s__law_like) := ⟨rfl, rfl, rfl, by decide +kernel, rfl, by decide +kernel, by decide +kernel⟩
def spLike (K : PySem.W.Frag) : Sp := fun vs H Q _ => ∃ x y d, vs = [x, y] ∧ Dp K H x d ∧ Dp K H y d ∧ isDisplay d = true ∧ Nc 20 (2 ^ 20) d ∧ Q (.bl true) H
theorem ok_like (D : DefAt K mg "_law_like" s__law_like) (T : Bt mg) : UseG P w K mg base "_law_like" 1 ["got", "due"] (spLike K) := by
  refine use_ofG D (fun f fd F => Fun.okG F sc__law_like (fun vs H Q E h => ?_) (fun cdv A outer s H vs Q E gd hr h => ?_)) (fun _ _ _ _ _ _ us hl => match us, hl with | [_, _], _ => rfl)
  · obtain ⟨x, y, d, rfl, _⟩ := h
    rfl
  · obtain ⟨x, y, d, rfl, hx, hy, dis, nc, q⟩ := h
    refine ⟨_, (pss_one (ps_ret (pe_cmpR op_eq (pe_callB (k_repr (K := K) rfl gd hr.units) (by rfl) T.repr (by decide +kernel) (pa_cons (pv 0) pa_nil)) (pe_callB (k_repr (K := K) rfl gd hr.units) (by rfl) T.repr (by decide +kernel) (pa_cons (pv 1) pa_nil)) (nomark _)))), ?_⟩
    have hl := PyData.shown_fits (B := 13) (by decide) (by decide) nc.lf nc.wt
    have dp : d.depth ≤ 30 := Nat.le_trans nc.dp (by decide)
    refine ⟨_, rfl, x, d, rfl, hx, dis, nc.sh, nc.nd, dp, hl, _, rfl, y, d, rfl, hy, dis, nc.sh, nc.nd, dp, hl, ?_⟩
    refine ⟨rfl, ?_⟩
    rw [decide_eq_true rfl]
    exact q
theorem Kept.trans {H H1 H2 : Hp} {m g : Addr} (h : Kept H H1 m g) (h2 : Kept H1 H2 m g) : Kept H H2 m g := fun a u ha na nb => h2 a u (h a u ha na nb) na nb
theorem Kept.of {H H' : Hp} {m g : Addr} (h : Same H H') : Kept H H' m g := fun a u ha _ _ => h a u ha
theorem MS.mono {H H' : Hp} {m c g : Addr} {b : Int} (h : MS H m c g b) (s : Same H H') : MS H' m c g b := by
  obtain ⟨cs, gs, n, h1, h2, h3, r⟩ := h
  exact ⟨cs, gs, n, s _ _ h1, s _ _ h2, s _ _ h3, r⟩
theorem MS.le {H : Hp} {m c g : Addr} {b b' : Int} (h : MS H m c g b) (l : b ≤ b') : MS H m c g b' := by
  obtain ⟨cs, gs, n, h1, h2, h3, h4, h5, h6, h7, h8, h9⟩ := h
  exact ⟨cs, gs, n, h1, h2, h3, h4, h5, h6, h7, h8, by omega⟩
/-- the state stays where another object is changed -/
theorem MS.put {H : Hp} {m c g : Addr} {b : Int} (h : MS H m c g b) {a : Addr} {o : HO} (n1 : a ≠ m) (n2 : a ≠ c) (n3 : a ≠ g) : MS (L2.upd H a o) m c g b := by
  obtain ⟨cs, gs, n, h1, h2, h3, r⟩ := h
  exact ⟨cs, gs, n, by rw [upd_ne n1.symm]; exact h1, by rw [upd_ne n2.symm]; exact h2, by rw [upd_ne n3.symm]; exact h3, r⟩
theorem MS.ne {H : Hp} {m c g : Addr} {b : Int} (h : MS H m c g b) {a : Addr} (n : H a = none) : a ≠ m ∧ a ≠ c ∧ a ≠ g := by
  obtain ⟨cs, gs, k, h1, h2, h3, r⟩ := h
  exact ⟨ne_of_none h1 n |>.symm, ne_of_none h2 n |>.symm, ne_of_none h3 n |>.symm⟩
theorem kept_mut {H H' : Hp} {m g p : Addr} {o : HO} (e : Kept H H' m g) (h : H p = none) : Kept H (L2.upd H' p o) m g := fun a u ha na nb => by
  rw [upd_ne (ne_of_none ha h)]
  exact e a u ha na nb
theorem Kept.ti {H H' : Hp} {m c g a : Addr} {b : Int} {p : List Int} (h : Kept H H' m g) (s : MS H m c g b) (t : TI H a p) : TI H' a p := by
  obtain ⟨cs, gs, k, h1, h2, h3, r⟩ := s
  refine h a _ t (fun e => ?_) (fun e => ?_)
  · have t' : H a = _ := t
    rw [e, h1] at t'
    cases t'
  · have t' : H a = _ := t
    rw [e, h3] at t'
    cases t'
theorem erase_perm {α : Type} : ∀ {ls : List α} {k : Nat} {x : α}, ls[k]? = some x → ([x] ++ ls.eraseIdx k).Perm ls
  | [], k, x, h => by simp at h
  | a :: r, 0, x, h => by
    obtain rfl : a = x := Option.some.inj h
    exact List.Perm.refl _
  | a :: r, k + 1, x, h => by
    have h' : r[k]? = some x := h
    exact (List.Perm.swap a x _).trans (List.Perm.cons a (erase_perm h'))
theorem erase_map {α β : Type} (f : α → β) : ∀ (ls : List α) (k : Nat), (ls.map f).eraseIdx k = (ls.eraseIdx k).map f
  | [], k => by simp
  | a :: r, 0 => rfl
  | a :: r, k + 1 => by
    show f a :: (r.map f).eraseIdx k = f a :: (r.eraseIdx k).map f
    rw [erase_map f r k]
def spOrder : Sp := fun vs H Q _ => ∃ m c g b many, vs = [.ref m, .int many] ∧ MS H m c g b ∧ b ≤ 100000 ∧ 1 ≤ many ∧ many ≤ 64 ∧
  ∀ H' l (ds : List Int), Kept H H' m g → MS H' m c g (b + many) → H' l = some (.lst (ds.map V.int)) → H l = none → ds.length = many.toNat → ds.Nodup → (∀ d ∈ ds, 0 ≤ d ∧ d < many) → Q (.ref l) H'
end
end KQ
namespace KQ
open PySem PySem.Spec PyProof.Rows L2 KR KM StX
theorem dg_new {α κ : Type} [DecidableEq α] [DecidableEq κ] {f : α → κ} (hf : ∀ a b, f a = f b → a = b) {ks : List α} {x : α} (h : ks.Nodup) (hx : x ∉ ks) : valV (dg f (ks ++ [x])) (f x) = some (V.int ((ks.length : Nat) : Int)) := by
  have hn : (ks ++ [x]).Nodup := by
    rw [List.nodup_append]
    refine ⟨h, by simp, fun a ha b hb e => ?_⟩
    rw [List.mem_singleton.mp hb] at e
    exact hx (e ▸ ha)
  rw [dg_val hf _ _ hn, if_pos (by simp), List.idxOf_append, if_neg hx]
  simp
section
variable {P : Program} {w : World} {K : PySem.W.Frag} {mg : Str → Option Value} {base : Heap}
abbrev s__law_numbered : Stmt := topS 30
theorem sc__law_numbered : FnScope ["labels", "spots", "found", "label"] ["labels"] (defScope s__law_numbered) := ⟨rfl, rfl, rfl, by decide +kernel, rfl, by decide +kernel, by decide +kernel⟩
theorem ok_lnumL (D : DefAt K mg "_law_numbered" s__law_numbered) (T : Bt mg) : Use P w K mg base "_law_numbered" 1 ["labels"] spNumL := by
  refine use_of D (fun f fd F => F.ok sc__law_numbered (fun vs H Q E h => ?_) (fun cdv A outer s H vs Q E hr h => ?_)) (fun _ _ _ _ _ _ us hl => match us, hl with | [_], _ => rfl)
  · obtain ⟨a, p, rfl, _⟩ := h
    rfl
  · obtain ⟨a, xs, rfl, hp, hl, q⟩ := h
    refine ⟨_, (pss_cons (ps_par (i := 1) (j := 2) rfl sc__law_numbered.nd rfl rfl (by decide) rfl rfl (pa_cons pe_dnewK (pa_cons (pe_lst pa_nil) pa_nil)) (by rfl))
      (pss_cons (ps_for PassesOwn.never rfl (k_list (K := K) rfl (pv 0)) (pg_name (i := 3) sc__law_numbered.nd rfl (Or.inl rfl))
      (pss_cons (ps_if (pt_cmp (pc_dnotin (hu_of hr) (pv 3) (pv 1))) (pss_one (ps_dput (hu_of hr) (pv 1) (pv 3) (pe_callB call_lenD (by rfl) T.len PySem.boot_len (pa_cons (pv 1) pa_nil)) rfl)) pss_nil)
      (pss_one (ps_expr (k_bm (K := K) rfl PySem.F.plainAttrs_list PySem.F.slot_list_append PySem.F.type_list_append mt_append (pv 2) (pa_cons (pe_dget (hu_of hr) (pv 1) (pv 3) (fun _ _ => rfl)) pa_nil))))))
      (pss_one (ps_ret (pe_callTy (k_tupOf (K := K) rfl) (by rfl) T.tuple (by decide +kernel) (pa_cons (pv 2) pa_nil)))))), ?_⟩
    refine fun d nd => ⟨Nat.zero_le _, fun L nL => ?_⟩
    have s0 : Same H (upd H d (.dK [])) := same_new nd
    have s1 : Same H (upd (upd H d (.dK [])) L (.lst [])) := s0.trans (same_new nL)
    have nL0 : H L = none := s0.free nL
    have ndL : d ≠ L := fun e => by rw [e, upd_same] at nL; cases nL
    refine ⟨_, _, rfl, ?_⟩
    refine ⟨_, rfl, a, rfl, ⟨_, sqL (s1 _ _ hp)⟩, for_list (K := K) (a := a) (xs := xs.map V.int)
      (fun i σ H1 => ∃ y3, σ = [some (.ref a), some (.ref d), some (.ref L), y3] ∧ Same H H1 ∧ H1 d = some (.dK (dg kI (firsts (xs.take i)))) ∧ H1 L = some (.lst ((num (xs.take i)).map V.int)))
      ⟨none, rfl, s1, ?_, ?_⟩ (fun i σ H1 _ ⟨_, _, sm, _⟩ => sqL (sm _ _ hp)) ?_ ?_⟩
    · rw [upd_ne ndL, upd_same]
      rfl
    · rw [upd_same]
      rfl
    · rintro i v σ H1 hi ⟨y3, rfl, sm, ed, eL⟩
      obtain ⟨x, hx, rfl⟩ := map_at hi
      have small : ((num (xs.take i)).map V.int).length < sizeLine := by
        rw [List.length_map, num_len, List.length_take]
        exact small_of (by omega)
      have small2 : (dg kI (firsts (xs.take i))).length < sizeLine := by
        rw [dg_len]
        have := firsts_le (xs.take i)
        rw [List.length_take] at this
        exact small_of (by omega)
      by_cases hm : x ∈ firsts (xs.take i)
      · obtain ⟨e1, e2⟩ := num_old hm
        have gv : DGet H1 d (V.int x) (some (V.int (((firsts (xs.take i)).idxOf x : Nat) : Int))) := by
          have := DGet.k (k := kI x) ed
          rw [dg_val kI_inj _ _ (firsts_nodup _), if_pos hm] at this
          exact this
        refine ⟨_, rfl, _, rfl, d, _, rfl, gv, _, rfl, _, rfl, .inl ⟨rfl, _, .inl (.inl eL)⟩, _, rfl, _, rfl, d, _, rfl, gv, L, _, _, rfl, rfl, eL, small, some (.int x), rfl, same_mut sm nL0, ?_, ?_⟩
        · rw [upd_ne ndL, take_snoc hx, e2]
          exact ed
        · rw [upd_same, take_snoc hx, e1, List.map_append]
          rfl
      · obtain ⟨e1, e2⟩ := num_new hm
        have gv : DGet H1 d (V.int x) none := by
          have := DGet.k (k := kI x) ed
          rw [dg_val kI_inj _ _ (firsts_nodup _), if_neg hm] at this
          exact this
        have ed2 : (upd H1 d (.dK (putK (dg kI (firsts (xs.take i))) (kI x) (.int (((firsts (xs.take i)).length : Nat) : Int))))) d = some (.dK (dg kI (firsts (xs.take i) ++ [x]))) := by
          rw [upd_same, dg_put kI_inj _ _ hm]
        have gv2 : DGet (upd H1 d (.dK (putK (dg kI (firsts (xs.take i))) (kI x) (.int (((firsts (xs.take i)).length : Nat) : Int))))) d (V.int x) (some (V.int (((firsts (xs.take i)).length : Nat) : Int))) := by
          have := DGet.k (k := kI x) ed2
          rw [dg_new kI_inj (firsts_nodup _) hm] at this
          exact this
        have eL2 : (upd H1 d (.dK (putK (dg kI (firsts (xs.take i))) (kI x) (.int (((firsts (xs.take i)).length : Nat) : Int))))) L = some (.lst ((num (xs.take i)).map V.int)) := by
          rw [upd_ne ndL.symm]
          exact eL
        refine ⟨_, rfl, _, rfl, d, _, rfl, gv, _, rfl, _, rfl, d, _, rfl, ed, ?_⟩
        rw [dg_len]
        refine ⟨_, rfl, _, rfl, d, _, rfl, DPut.k (k := kI x) ed small2, ?_⟩
        refine ⟨_, rfl, .inl ⟨rfl, _, .inl (.inl eL2)⟩, _, rfl, _, rfl, d, _, rfl, gv2, L, _, _, rfl, rfl, eL2, small, some (.int x), rfl, same_mut (same_mut sm nd) nL0, ?_, ?_⟩
        · rw [upd_ne ndL, ed2, take_snoc hx, e2]
        · rw [upd_same, take_snoc hx, e1, List.map_append]
          rfl
    · rintro σ H1 ⟨y3, rfl, sm, ed, eL⟩
      refine ⟨_, rfl, L, _, rfl, .inl ⟨.inl (.inl eL), fun l hl => ?_⟩⟩
      refine q _ l (sm.trans (same_new hl)) ?_
      show upd H1 l _ l = _
      rw [upd_same, List.length_map, List.take_length]
theorem ok_lnumP (D : DefAt K mg "_law_numbered" s__law_numbered) (T : Bt mg) : Use P w K mg base "_law_numbered" 1 ["labels"] spNumP := by
  refine use_of D (fun f fd F => F.ok sc__law_numbered (fun vs H Q E h => ?_) (fun cdv A outer s H vs Q E hr h => ?_)) (fun _ _ _ _ _ _ us hl => match us, hl with | [_], _ => rfl)
  · obtain ⟨a, ts, xs, rfl, _⟩ := h
    rfl
  · obtain ⟨a, ts, xs, rfl, hp, pa, hl, q⟩ := h
    refine ⟨_, (pss_cons (ps_par (i := 1) (j := 2) rfl sc__law_numbered.nd rfl rfl (by decide) rfl rfl (pa_cons pe_dnewT (pa_cons (pe_lst pa_nil) pa_nil)) (by rfl))
      (pss_cons (ps_for PassesOwn.never rfl (k_list (K := K) rfl (pv 0)) (pg_name (i := 3) sc__law_numbered.nd rfl (Or.inl rfl))
      (pss_cons (ps_if (pt_cmp (pc_dnotin (hu_of hr) (pv 3) (pv 1))) (pss_one (ps_dput (hu_of hr) (pv 1) (pv 3) (pe_callB call_len_dT (by rfl) T.len PySem.boot_len (pa_cons (pv 1) pa_nil)) rfl)) pss_nil)
      (pss_one (ps_expr (k_bm (K := K) rfl PySem.F.plainAttrs_list PySem.F.slot_list_append PySem.F.type_list_append mt_append (pv 2) (pa_cons (pe_dget (hu_of hr) (pv 1) (pv 3) (fun _ _ => rfl)) pa_nil))))))
      (pss_one (ps_ret (pe_callTy (k_tupOf (K := K) rfl) (by rfl) T.tuple (by decide +kernel) (pa_cons (pv 2) pa_nil)))))), ?_⟩
    refine fun d nd => ⟨Nat.zero_le _, fun L nL => ?_⟩
    have s0 : Same H (upd H d (.dT [])) := same_new nd
    have s1 : Same H (upd (upd H d (.dT [])) L (.lst [])) := s0.trans (same_new nL)
    have nL0 : H L = none := s0.free nL
    have ndL : d ≠ L := fun e => by rw [e, upd_same] at nL; cases nL
    refine ⟨_, _, rfl, ?_⟩
    refine ⟨_, rfl, a, rfl, ⟨_, sqL (s1 _ _ hp)⟩, for_list (K := K) (a := a) (xs := ts.map V.ref)
      (fun i σ H1 => ∃ y3, σ = [some (.ref a), some (.ref d), some (.ref L), y3] ∧ Same H H1 ∧ H1 d = some (.dT (dg kP (firsts (xs.take i)))) ∧ H1 L = some (.lst ((num (xs.take i)).map V.int)))
      ⟨none, rfl, s1, ?_, ?_⟩ (fun i σ H1 _ ⟨_, _, sm, _⟩ => sqL (sm _ _ hp)) ?_ ?_⟩
    · rw [upd_ne ndL, upd_same]
      rfl
    · rw [upd_same]
      rfl
    · rintro i v σ H1 hi ⟨y3, rfl, sm, ed, eL⟩
      obtain ⟨t, ht, rfl⟩ := map_at hi
      obtain ⟨x, hx, et0⟩ := pa.2 i t ht
      have et : H1 t = some (.tup ((kP x).map kV)) := sm _ _ et0
      have etd : ∀ o : HO, (upd H1 d o) t = some (.tup ((kP x).map kV)) := fun o => by rw [upd_ne (fun e => by rw [e, nd] at et0; cases et0)]; exact et
      have small : ((num (xs.take i)).map V.int).length < sizeLine := by
        rw [List.length_map, num_len, List.length_take]
        exact small_of (by omega)
      have small2 : (dg kP (firsts (xs.take i))).length < sizeLine := by
        rw [dg_len]
        have := firsts_le (xs.take i)
        rw [List.length_take] at this
        exact small_of (by omega)
      by_cases hm : x ∈ firsts (xs.take i)
      · obtain ⟨e1, e2⟩ := num_old hm
        have gv : DGet H1 d (V.ref t) (some (V.int ((@List.idxOf (Int × Int) instBEqOfDecidableEq x (firsts (xs.take i)) : Nat) : Int))) := by
          have := DGet.t (k := kP x) ed et
          rw [dg_val kP_inj _ _ (firsts_nodup _), if_pos hm] at this
          exact this
        refine ⟨_, rfl, _, rfl, d, _, rfl, gv, _, rfl, _, rfl, .inl ⟨rfl, _, .inl (.inl eL)⟩, _, rfl, _, rfl, d, _, rfl, gv, L, _, _, rfl, rfl, eL, small, some (.ref t), rfl, same_mut sm nL0, ?_, ?_⟩
        · rw [upd_ne ndL, take_snoc hx, e2]
          exact ed
        · rw [upd_same, take_snoc hx, e1, List.map_append]
          rfl
      · obtain ⟨e1, e2⟩ := num_new hm
        have gv : DGet H1 d (V.ref t) none := by
          have := DGet.t (k := kP x) ed et
          rw [dg_val kP_inj _ _ (firsts_nodup _), if_neg hm] at this
          exact this
        have ed2 : (upd H1 d (.dT (putK (dg kP (firsts (xs.take i))) (kP x) (.int (((firsts (xs.take i)).length : Nat) : Int))))) d = some (.dT (dg kP (firsts (xs.take i) ++ [x]))) := by
          rw [upd_same, dg_put kP_inj _ _ hm]
        have gv2 : DGet (upd H1 d (.dT (putK (dg kP (firsts (xs.take i))) (kP x) (.int (((firsts (xs.take i)).length : Nat) : Int))))) d (V.ref t) (some (V.int (((firsts (xs.take i)).length : Nat) : Int))) := by
          have := DGet.t (k := kP x) ed2 (etd _)
          rw [dg_new kP_inj (firsts_nodup _) hm] at this
          exact this
        have eL2 : (upd H1 d (.dT (putK (dg kP (firsts (xs.take i))) (kP x) (.int (((firsts (xs.take i)).length : Nat) : Int))))) L = some (.lst ((num (xs.take i)).map V.int)) := by
          rw [upd_ne ndL.symm]
          exact eL
        refine ⟨_, rfl, _, rfl, d, _, rfl, gv, _, rfl, _, rfl, d, _, rfl, ed, ?_⟩
        rw [dg_len]
        refine ⟨_, rfl, _, rfl, d, _, rfl, DPut.t (k := kP x) ed et small2, ?_⟩
        refine ⟨_, rfl, .inl ⟨rfl, _, .inl (.inl eL2)⟩, _, rfl, _, rfl, d, _, rfl, gv2, L, _, _, rfl, rfl, eL2, small, some (.ref t), rfl, same_mut (same_mut sm nd) nL0, ?_, ?_⟩
        · rw [upd_ne ndL, ed2, take_snoc hx, e2]
        · rw [upd_same, take_snoc hx, e1, List.map_append]
          rfl
    · rintro σ H1 ⟨y3, rfl, sm, ed, eL⟩
      refine ⟨_, rfl, L, _, rfl, .inl ⟨.inl (.inl eL), fun l hl => ?_⟩⟩
      refine q _ l (sm.trans (same_new hl)) ?_
      show upd H1 l _ l = _
      rw [upd_same, List.length_map, pa.1, List.take_length]
end
end KQ
namespace KQ
open PySem PySem.Spec PyProof.Rows L2 KR KM StX
section
variable {P : Program} {w : World} {K : PySem.W.Frag} {mg : Str → Option Value} {base : Heap}
theorem Kept.free {H H1 : Hp} {m g L : Addr} (h : Kept H H1 m g) (n : H1 L = none) (n1 : L ≠ m) (n2 : L ≠ g) : H L = none := by
  cases e : H L with
  | none => rfl
  | some u =>
    rw [h L u e n1 n2] at n
    cases n
abbrev s__law_any_parting : Stmt := topS 32
theorem sc__law_any_parting : FnScope ["m", "many", "cap", "turn"] ["m", "many"] (defScope s__law_any_parting) := ⟨rfl, rfl, rfl, by decide +kernel, rfl, by decide +kernel, by decide +kernel⟩
def spAny : Sp := fun vs H Q _ => ∃ m c g b many, vs = [.ref m, .int many] ∧ MS H m c g b ∧ b ≤ 100000 ∧ 1 ≤ many ∧ many ≤ 60 ∧
  ∀ H' t p, Kept H H' m g → MS H' m c g (b + 1 + many) → TI H' t p → Par p → p.length = many.toNat → Q (.ref t) H'
theorem ok_any (D : DefAt K mg "_law_any_parting" s__law_any_parting) (T : Bt mg) (u__law_draw : Use P w K mg base "_law_draw" 2 ["m", "limit"] spDraw)
    (u__law_numbered : Use P w K mg base "_law_numbered" 1 ["labels"] spNumL) : Use P w K mg base "_law_any_parting" 3 ["m", "many"] spAny := by
  refine use_of D (fun f fd F => F.ok sc__law_any_parting (fun vs H Q E h => ?_) (fun cdv A outer s H vs Q E hr h => ?_)) (fun _ _ _ _ _ _ us hl => match us, hl with | [_, _], _ => rfl)
  · obtain ⟨m, c, g, b, many, rfl, _⟩ := h
    rfl
  · obtain ⟨m, c, g, b, many, rfl, ms, hb, m1, m2, q⟩ := h
    refine ⟨_, (pss_cons (ps_set (i := 2) sc__law_any_parting.nd rfl (Or.inr rfl) (pe_op op_add pe_int (pe_use u__law_draw (by decide) hr (by rfl) (pa_cons (pv 0) (pa_cons (pv 1) pa_nil)))))
      (pss_one (ps_ret (pe_use u__law_numbered (by decide) hr (by rfl) (pa_cons (pe_lc (own := [("turn", 3)]) rfl sc__law_any_parting.nd (pi_range1 (by rfl) T.range (pa_cons (pv 1) pa_nil)) (blkOk_by (N := ["m", "many", "cap", "turn"]) (sc := defScope s__law_any_parting) (by decide +kernel)) (fun _ _ _ _ _ => (pg_name (i := 3) sc__law_any_parting.nd rfl (Or.inl rfl))) (fun _ _ _ _ _ => pts_nil) (fun _ _ _ _ _ => (pe_use u__law_draw (by decide) hr (by rfl) (pa_cons (pv 0) (pa_cons (pv 2) pa_nil))))) pa_nil))))), ?_⟩
    refine ⟨_, rfl, _, rfl, m, c, g, b, many, rfl, ms, by omega, by omega, by omega, fun H1 d k1 ms1 d0 d1 => ⟨1, d, rfl, rfl, ?_⟩⟩
    refine ⟨_, rfl, _, rfl, by omega, by omega, fun L nL => ?_⟩
    have Ln := ms1.ne nL
    have nLH := k1.free nL Ln.1 Ln.2.2
    refine lc_range (fun i H2 => (∃ xs : List Int, H2 L = some (.lst (xs.map V.int)) ∧ xs.length = i) ∧ Kept H H2 m g ∧ MS H2 m c g (b + 1 + (i : Nat)))
      ⟨⟨[], upd_same, rfl⟩, kept_mut k1 nLH, by simpa using ms1.put Ln.1 Ln.2.1 Ln.2.2⟩ ?_ ?_
    · rintro i H2 hi ⟨⟨xs, eL, lx⟩, k2, ms2⟩
      refine ⟨rfl, _, rfl, _, rfl, m, c, g, _, _, rfl, ms2, by omega, by omega, by omega, fun H3 e k3 ms3 e0 e1 => ?_⟩
      have eL3 := k3 L _ eL Ln.1 Ln.2.2
      refine ⟨_, eL3, ?_, ⟨xs ++ [e], ?_, ?_⟩, ?_, ?_⟩
      · rw [List.length_map, lx]
        exact small_of (by omega)
      · rw [upd_same, List.map_append]
        rfl
      · rw [List.length_append, lx]
        rfl
      · exact kept_mut (k2.trans k3) nLH
      · rw [show b + 1 + ((i + 1 : Nat) : Int) = b + 1 + (i : Nat) + 1 by omega]
        exact ms3.put Ln.1 Ln.2.1 Ln.2.2
    · rintro H2 ⟨⟨xs, eL, lx⟩, k2, ms2⟩
      refine ⟨L, xs, rfl, eL, by omega, fun H3 t s3 ht => ?_⟩
      refine q H3 t (num xs) (k2.trans (Kept.of s3)) ?_ ht (num_par ?_ (by omega)) (by rw [num_len, lx])
      · have := ms2.mono s3
        rw [show (((many.toNat : Nat)) : Int) = many by omega] at this
        exact this
      · intro e
        rw [e] at lx
        simp at lx
        omega
abbrev s__law_coarser : Stmt := topS 35
theorem sc__law_coarser : FnScope ["m", "parting", "cap", "into", "block"] ["m", "parting"] (defScope s__law_coarser) := ⟨rfl, rfl, rfl, by decide +kernel, rfl, by decide +kernel, by decide +kernel⟩
def spCoarser : Sp := fun vs H Q _ => ∃ m c g b a p, vs = [.ref m, .ref a] ∧ MS H m c g b ∧ b ≤ 100000 ∧ TI H a p ∧ Par p ∧
  ∀ H' t r, Kept H H' m g → MS H' m c g (b + 61) → TI H' t r → Par r → r.length = p.length → Q (.ref t) H'
theorem ok_coarser (D : DefAt K mg "_law_coarser" s__law_coarser) (T : Bt mg) (u__law_draw : Use P w K mg base "_law_draw" 2 ["m", "limit"] spDraw)
    (u__law_numbered : Use P w K mg base "_law_numbered" 1 ["labels"] spNumL) : Use P w K mg base "_law_coarser" 3 ["m", "parting"] spCoarser := by
  refine use_of D (fun f fd F => F.ok sc__law_coarser (fun vs H Q E h => ?_) (fun cdv A outer s H vs Q E hr h => ?_)) (fun _ _ _ _ _ _ us hl => match us, hl with | [_, _], _ => rfl)
  · obtain ⟨m, c, g, b, a, p, rfl, _⟩ := h
    rfl
  · obtain ⟨m, c, g, b, a, p, rfl, ms, hb, hp, par, q⟩ := h
    refine ⟨_, (pss_cons (ps_set (i := 2) sc__law_coarser.nd rfl (Or.inr rfl) (pe_op op_add pe_int (pe_use u__law_draw (by decide) hr (by rfl) (pa_cons (pv 0) (pa_cons (pe_op op_add (pe_callB (k_maxT (K := K) rfl rfl hr.units) (by rfl) T.max (by decide +kernel) (pa_cons (pv 1) pa_nil)) pe_int) pa_nil)))))
      (pss_cons (ps_set (i := 3) sc__law_coarser.nd rfl (Or.inr rfl) (pe_lc (own := [("block", 4)]) rfl sc__law_coarser.nd (pi_range1 (by rfl) T.range (pa_cons (pe_op op_add (pe_callB (k_maxT (K := K) rfl rfl hr.units) (by rfl) T.max (by decide +kernel) (pa_cons (pv 1) pa_nil)) pe_int) pa_nil)) (blkOk_by (N := ["m", "parting", "cap", "into", "block"]) (sc := defScope s__law_coarser) (by decide +kernel)) (fun _ _ _ _ _ => (pg_name (i := 4) sc__law_coarser.nd rfl (Or.inl rfl))) (fun _ _ _ _ _ => pts_nil) (fun _ _ _ _ _ => (pe_use u__law_draw (by decide) hr (by rfl) (pa_cons (pv 0) (pa_cons (pv 2) pa_nil))))))
      (pss_one (ps_ret (pe_use u__law_numbered (by decide) hr (by rfl) (pa_cons (pe_lc (own := [("block", 4)]) rfl sc__law_coarser.nd (k_tup (K := K) rfl (pv 1)) (blkOk_by (N := ["m", "parting", "cap", "into", "block"]) (sc := defScope s__law_coarser) (by decide +kernel)) (fun _ _ _ _ _ => (pg_name (i := 4) sc__law_coarser.nd rfl (Or.inl rfl))) (fun _ _ _ _ _ => pts_nil) (fun _ _ _ _ _ => (pe_ix (k_ixl (K := K) rfl) (pv 3) (pv 4) (fun _ _ => rfl)))) pa_nil)))))), ?_⟩
    have g0 := bc_ge 0 p
    have g1 := bc_le 0 p
    have g2 := par.le
    have mem := (rg_mem 0 p (Int.le_refl _) par.rg).1
    refine ⟨_, rfl, _, rfl, a, p, rfl, hp.seq, par.ne, fun mx hm hle => ⟨mx, 1, rfl, rfl, m, c, g, b, mx + 1, rfl, ms, by omega, ?_, ?_, fun H1 d k1 ms1 d0 d1 => ⟨1, d, rfl, rfl, ?_⟩⟩⟩
    · have := mem mx hm
      omega
    · have := mem mx hm
      omega
    have em := par_max par hm hle
    have mem1 := mem mx hm
    have hp1 := k1.ti ms hp
    refine ⟨_, rfl, a, p, rfl, hp1.seq, par.ne, fun mx2 hm2 hle2 => ⟨mx2, 1, rfl, rfl, _, rfl, ?_, ?_, fun L nL => ?_⟩⟩
    · have := mem mx2 hm2
      omega
    · have := mem mx2 hm2
      omega
    have em2 := par_max par hm2 hle2
    have Ln := ms1.ne nL
    have nLH := k1.free nL Ln.1 Ln.2.2
    refine lc_range (fun i H2 => (∃ xs : List Int, H2 L = some (.lst (xs.map V.int)) ∧ xs.length = i) ∧ Kept H H2 m g ∧ MS H2 m c g (b + 1 + (i : Nat)))
      ⟨⟨[], upd_same, rfl⟩, kept_mut k1 nLH, by simpa using ms1.put Ln.1 Ln.2.1 Ln.2.2⟩ ?_ ?_
    · rintro i H2 hi ⟨⟨xs, eL, lx⟩, k2, ms2⟩
      refine ⟨rfl, _, rfl, _, rfl, m, c, g, _, _, rfl, ms2, by omega, by omega, by omega, fun H3 e k3 ms3 e0 e1 => ?_⟩
      have eL3 := k3 L _ eL Ln.1 Ln.2.2
      refine ⟨_, eL3, ?_, ⟨xs ++ [e], ?_, ?_⟩, ?_, ?_⟩
      · rw [List.length_map, lx]
        exact small_of (by omega)
      · rw [upd_same, List.map_append]
        rfl
      · rw [List.length_append, lx]
        rfl
      · exact kept_mut (k2.trans k3) nLH
      · rw [show b + 1 + ((i + 1 : Nat) : Int) = b + 1 + (i : Nat) + 1 by omega]
        exact ms3.put Ln.1 Ln.2.1 Ln.2.2
    · rintro H2 ⟨⟨xs, eL, lx⟩, k2, ms2⟩
      have hp2 := k2.ti ms hp
      refine ⟨_, rfl, a, rfl, ⟨_, hp2.seq⟩, fun M nM => ?_⟩
      have nML : M ≠ L := fun e => by rw [e, eL] at nM; cases nM
      refine lc_tup (K := K) (a := a) (xs := p.map V.int) (fun i H3 => Same H2 H3 ∧ ∃ ys : List Int, H3 M = some (.lst (ys.map V.int)) ∧ ys.length = i)
        ⟨same_new nM, [], upd_same, rfl⟩ (fun i H3 _ ⟨sm, _⟩ => (hp2.mono sm).seq) ?_ ?_
      · rintro i v H3 hi ⟨sm, ys, eM, ly⟩
        obtain ⟨x, hx, rfl⟩ := map_at hi
        have hxm := mem x (List.mem_of_getElem? hx)
        have hip := (List.getElem?_eq_some_iff.mp hx).1
        obtain ⟨y, hy⟩ : ∃ y, xs[x.toNat]? = some y := ⟨_, List.getElem?_eq_getElem (by omega)⟩
        refine ⟨rfl, _, rfl, _, rfl, L, _, x, .int y, rfl, rfl, sqL (sm _ _ eL), atI_of (j := x.toNat) (by omega) (at_map hy), _, eM, ?_, same_mut sm nM, ys ++ [y], ?_, ?_⟩
        · rw [List.length_map, ly]
          exact small_of (by omega)
        · rw [upd_same, List.map_append]
          rfl
        · rw [List.length_append, ly]
          rfl
      · rintro H3 ⟨sm, ys, eM, ly⟩
        rw [List.length_map] at ly
        refine ⟨M, ys, rfl, eM, by omega, fun H4 t s4 ht => ?_⟩
        refine q H4 t (num ys) ((k2.trans (Kept.of sm)).trans (Kept.of s4)) (((ms2.mono sm).mono s4).le (by omega)) ht (num_par ?_ (by omega)) (by rw [num_len, ly])
        intro e
        rw [e] at ly
        exact par.ne (List.length_eq_zero_iff.mp ly.symm)
def Gd (p r : List Int) (s t : Nat) : Prop := p[s]? = p[t]? → r[s]? = r[t]?
theorem finer_gd {p r : List Int} (hl : p.length = r.length) : Finer p r ↔ ∀ t, t < p.length → ∀ s, s < t → Gd p r s t := by
  constructor
  · intro h t ht s hs e
    have hp := List.getElem?_eq_getElem ht
    have hr : r[t]? = some _ := List.getElem?_eq_getElem (by omega)
    have hr2 : r[s]? = some _ := List.getElem?_eq_getElem (by omega)
    rw [hp] at e
    rw [hr, hr2, h s t _ _ _ e hp hr2 hr]
  · intro h i j x y z hi hj yi zj
    have li := (List.getElem?_eq_some_iff.mp hi).1
    have lj := (List.getElem?_eq_some_iff.mp hj).1
    rcases Nat.lt_trichotomy i j with c | c | c
    · have := h j lj i c (by rw [hi, hj])
      rw [yi, zj] at this
      exact Option.some.inj this
    · subst c
      rw [yi] at zj
      exact Option.some.inj zj
    · have := h i li j c (by rw [hi, hj])
      rw [yi, zj] at this
      exact (Option.some.inj this).symm
abbrev s__law_is_finer : Stmt := topS 36
theorem sc__law_is_finer : FnScope ["one", "two", "at", "spot"] ["one", "two"] (defScope s__law_is_finer) := ⟨rfl, rfl, rfl, by decide +kernel, rfl, by decide +kernel, by decide +kernel⟩
def spLFiner : Sp := fun vs H Q _ => ∃ a b p r, vs = [.ref a, .ref b] ∧ TI H a p ∧ TI H b r ∧ p.length ≤ 60 ∧ p.length = r.length ∧ ∀ H' c, Same H H' → (c = true ↔ Finer p r) → Q (.bl c) H'
theorem ok_lfiner (D : DefAt K mg "_law_is_finer" s__law_is_finer) (T : Bt mg) : Use P w K mg base "_law_is_finer" 1 ["one", "two"] spLFiner := by
  refine use_of D (fun f fd F => F.ok sc__law_is_finer (fun vs H Q E h => ?_) (fun cdv A outer s H vs Q E hr h => ?_)) (fun _ _ _ _ _ _ us hl => match us, hl with | [_, _], _ => rfl)
  · obtain ⟨a, b, p, r, rfl, _⟩ := h
    rfl
  · obtain ⟨a, b, p, r, rfl, hp, hb, p60, hl, q⟩ := h
    refine ⟨_, (pss_cons (ps_for PassesOwn.never rfl (pi_range1 (by rfl) T.range (pa_cons (pe_callB (k_len (K := K) rfl) (by rfl) T.len PySem.boot_len (pa_cons (pv 0) pa_nil)) pa_nil)) (pg_name (i := 2) sc__law_is_finer.nd rfl (Or.inr rfl))
      (pss_one (ps_if (pt_cmpR (k_neD (K := K) rfl hr.units) (pe_lc (own := [("spot", 3)]) rfl sc__law_is_finer.nd (pi_range1 (by rfl) T.range (pa_cons (pv 2) pa_nil)) (blkOk_by (N := ["one", "two", "at", "spot"]) (sc := defScope s__law_is_finer) (by decide +kernel)) (fun _ _ _ _ _ => (pg_name (i := 3) sc__law_is_finer.nd rfl (Or.inl rfl))) (fun _ _ _ _ _ => (pts_one (PW.pt (pw_and (pt_cmpR op_eq (pe_ix (k_ixt (K := K) rfl) (pv 0) (pv 3) (fun _ _ => rfl)) (pe_ix (k_ixt (K := K) rfl) (pv 0) (pv 2) (fun _ _ => rfl)) (nomark _)) (pw_and1 (pt_cmpR op_ne (pe_ix (k_ixt (K := K) rfl) (pv 1) (pv 3) (fun _ _ => rfl)) (pe_ix (k_ixt (K := K) rfl) (pv 1) (pv 2) (fun _ _ => rfl)) (nomark _))))))) (fun _ _ _ _ _ => pe_int)) (pe_lst pa_nil) (nomark _)) (pss_one (ps_ret pe_bl)) pss_nil)))
      (pss_one (ps_ret pe_bl))), ?_⟩
    refine ⟨_, rfl, a, _, rfl, .inr hp.seq, _, rfl, ?_⟩
    rw [List.length_map]
    refine ⟨by omega, by omega, for_range (lo := 0) (n := (((p.length : Nat) : Int)).toNat)
      (fun i σ H1 => ∃ y2, σ = [some (.ref a), some (.ref b), y2, none] ∧ Same H H1 ∧ ∀ t, t < i → ∀ s, s < t → Gd p r s t) ⟨none, rfl, fun _ _ e => e, fun t ht => absurd ht (Nat.not_lt_zero _)⟩ ?_ ?_⟩
    · rintro i σ H1 hi ⟨y2, rfl, sm, hG⟩
      have hip : i < p.length := by omega
      obtain ⟨x, hx⟩ : ∃ x, p[i]? = some x := ⟨_, List.getElem?_eq_getElem hip⟩
      obtain ⟨y, hy⟩ : ∃ y, r[i]? = some y := ⟨_, List.getElem?_eq_getElem (by omega)⟩
      refine ⟨_, rfl, _, rfl, by omega, by omega, fun L nL => ?_⟩
      refine lc_range (fun j H2 => Same H1 H2 ∧ ∃ k, H2 L = some (.lst ((List.replicate k (1 : Int)).map V.int)) ∧ k ≤ j ∧ (k = 0 ↔ ∀ s, s < j → Gd p r s i)) ⟨same_new nL, 0, upd_same, Nat.le_refl _, ?_⟩ ?_ ?_
      · exact ⟨fun _ s hs => absurd hs (Nat.not_lt_zero _), fun _ => rfl⟩
      · rintro j H2 hj ⟨s2, k, eL, kj, hk⟩
        have hji : j < i := by omega
        obtain ⟨u, hu⟩ : ∃ u, p[j]? = some u := ⟨_, List.getElem?_eq_getElem (by omega)⟩
        obtain ⟨v, hv⟩ : ∃ v, r[j]? = some v := ⟨_, List.getElem?_eq_getElem (by omega)⟩
        refine ⟨rfl, _, rfl, _, rfl, a, _, _, .int u, rfl, rfl, (hp.mono (sm.trans s2)).seq, atI_of (j := j) (by omega) (at_map hu), ?_⟩
        refine ⟨_, rfl, _, rfl, a, _, _, .int x, rfl, rfl, (hp.mono (sm.trans s2)).seq, atI_of (j := i) (by omega) (at_map hx), rfl, ?_⟩
        refine ⟨_, rfl, ?_⟩
        have keep : (Gd p r j i) → ∃ k, H2 L = some (.lst ((List.replicate k (1 : Int)).map V.int)) ∧ k ≤ j + 1 ∧ (k = 0 ↔ ∀ s, s < j + 1 → Gd p r s i) := by
          intro hg
          refine ⟨k, eL, by omega, hk.trans ⟨fun q s hs => ?_, fun q s hs => q s (by omega)⟩⟩
          by_cases e : s = j
          · rw [e]
            exact hg
          · exact q s (by omega)
        by_cases e : u = x
        · subst e
          rw [decide_eq_true rfl]
          refine ⟨_, rfl, _, rfl, b, _, _, .int v, rfl, rfl, (hb.mono (sm.trans s2)).seq, atI_of (j := j) (by omega) (at_map hv), _, rfl, _, rfl, b, _, _, .int y, rfl, rfl, (hb.mono (sm.trans s2)).seq, atI_of (j := i) (by omega) (at_map hy), rfl, _, rfl, ?_⟩
          by_cases e2 : v = y
          · subst e2
            rw [decide_eq_true rfl]
            exact ⟨s2, keep fun _ => by rw [hv, hy]⟩
          · rw [decide_eq_false (fun q => e2 (V.int.inj q))]
            refine ⟨_, eL, ?_, same_mut s2 nL, k + 1, ?_, by omega, fun q => by omega, fun q => ?_⟩
            · rw [List.length_map, List.length_replicate]
              exact small_of (by omega)
            · rw [upd_same, List.replicate_succ', List.map_append]
              rfl
            · have := q j (by omega) (by rw [hu, hx])
              rw [hv, hy] at this
              exact absurd (Option.some.inj this) e2
        · rw [decide_eq_false (fun q => e (V.int.inj q))]
          refine ⟨s2, keep fun q => ?_⟩
          rw [hu, hx] at q
          exact absurd (Option.some.inj q) e
      · rintro H2 ⟨s2, k, eL, kj, hk⟩
        refine ⟨Nat.zero_le _, fun M nM => ?_⟩
        have nML : M ≠ L := fun e => by rw [e, eL] at nM; cases nM
        refine ⟨.list ((List.replicate k (1 : Int)).map PyData.int), .list [], .lst (sqL (by rw [upd_ne nML.symm]; exact eL)) (dpAll_ints _), .lst (sqL (xs := []) upd_same) .nil, shaped_ints _, rfl, _, rfl, ?_⟩
        rw [eqv_nil]
        have s5 : Same H (upd H2 M (.lst [])) := (sm.trans s2).trans (same_new nM)
        cases k with
        | zero =>
          refine ⟨some (.int (0 + (i : Nat))), rfl, s5, fun t ht s hs => ?_⟩
          by_cases e : t = i
          · rw [e]
            exact (hk.mp rfl) s (by omega)
          · exact hG t (by omega) s hs
        | succ k =>
          refine q _ false s5 ⟨fun e => absurd e (by decide), fun hf => ?_⟩
          have h2 := (finer_gd hl).mp hf
          have := hk.mpr fun s hs => h2 i hip s (by omega)
          omega
    · rintro σ H1 ⟨y2, rfl, sm, hG⟩
      refine q _ true sm ⟨fun _ => (finer_gd hl).mpr hG, fun _ => rfl⟩
end
end KQ
namespace KQ
open PySem PySem.Spec PyProof.Rows L2 KR KM StX
section
variable {P : Program} {w : World} {K : PySem.W.Frag} {mg : Str → Option Value} {base : Heap}
/-- tuples of whole numbers, in their order -/
def Its (H : Hp) (ts : List Addr) (xss : List (List Int)) : Prop := ts.length = xss.length ∧ ∀ (i : Nat) (t : Addr), ts[i]? = some t → ∃ xs, xss[i]? = some xs ∧ TI H t xs
theorem Its.mono {H H' : Hp} {ts : List Addr} {xss : List (List Int)} (h : Its H ts xss) (s : Same H H') : Its H' ts xss := ⟨h.1, fun i t ht => let ⟨xs, a, b⟩ := h.2 i t ht; ⟨xs, a, b.mono s⟩⟩
theorem Its.put {H : Hp} {ts : List Addr} {xss : List (List Int)} {L : Addr} {xs : List V} {o : HO} (h : Its H ts xss) (e : H L = some (.lst xs)) : Its (upd H L o) ts xss := ⟨h.1, fun i t ht => by
  obtain ⟨ys, a, b⟩ := h.2 i t ht
  refine ⟨ys, a, ?_⟩
  have b' : H t = some (.tup (ys.map V.int)) := b
  show upd H L o t = _
  rw [upd_ne (fun q => by rw [q, e] at b'; cases b')]
  exact b'⟩
theorem Its.app {H : Hp} {ts us : List Addr} {xss yss : List (List Int)} (h : Its H ts xss) (g : Its H us yss) : Its H (ts ++ us) (xss ++ yss) := by
  refine ⟨by rw [List.length_append, List.length_append, h.1, g.1], fun i t ht => ?_⟩
  by_cases hi : i < ts.length
  · rw [List.getElem?_append_left hi] at ht
    obtain ⟨xs, a, b⟩ := h.2 i t ht
    exact ⟨xs, by rw [List.getElem?_append_left (by rw [← h.1]; exact hi)]; exact a, b⟩
  · rw [List.getElem?_append_right (by omega)] at ht
    obtain ⟨xs, a, b⟩ := g.2 _ t ht
    refine ⟨xs, ?_, b⟩
    rw [List.getElem?_append_right (by rw [← h.1]; omega), ← h.1]
    exact a
theorem Its.nil {H : Hp} : Its H [] [] := ⟨rfl, fun i t ht => by simp at ht⟩
theorem Its.one {H : Hp} {t : Addr} {xs : List Int} (h : TI H t xs) : Its H [t] [xs] := ⟨rfl, fun i u hu => by
  match i, hu with
  | 0, hu =>
    obtain rfl : t = u := Option.some.inj hu
    exact ⟨xs, rfl, h⟩
  | i + 1, hu => simp at hu⟩
theorem Its.lt {H : Hp} {l : Addr} {ts : List Addr} {xss : List (List Int)} (h : Its H ts xss) (e : H l = some (.lst (ts.map V.ref))) : LT H l xss := ⟨ts, e, h.1, h.2⟩
abbrev s__law_partings : Stmt := topS 31
theorem sc__law_partings : FnScope ["many", "rows", "turn", "longer", "row", "block"] ["many"] (defScope s__law_partings) := ⟨rfl, rfl, rfl, by decide +kernel, rfl, by decide +kernel, by decide +kernel⟩
def spLParts : Sp := fun vs H Q _ => ∃ n : Nat, vs = [.int ((n + 1 : Nat) : Int)] ∧ n < 8 ∧ ∀ H' l, Same H H' → LT H' l (allP n) → Q (.ref l) H'
theorem ok_lparts (D : DefAt K mg "_law_partings" s__law_partings) (T : Bt mg) : Use P w K mg base "_law_partings" 1 ["many"] spLParts := by
  refine use_of D (fun f fd F => F.ok sc__law_partings (fun vs H Q E h => ?_) (fun cdv A outer s H vs Q E hr h => ?_)) (fun _ _ _ _ _ _ us hl => match us, hl with | [_], _ => rfl)
  · obtain ⟨n, rfl, _⟩ := h
    rfl
  · obtain ⟨n, rfl, hn, q⟩ := h
    refine ⟨_, (pss_cons (ps_set (i := 1) sc__law_partings.nd rfl (Or.inl rfl) (pe_lst (pa_cons (pe_tup (pa_cons pe_int pa_nil)) pa_nil)))
      (pss_cons (ps_for PassesOwn.never rfl (pi_range1 (by rfl) T.range (pa_cons (pe_op op_sub (pv 0) pe_int) pa_nil)) (pg_name (i := 2) sc__law_partings.nd rfl (Or.inl rfl))
      (pss_cons (ps_set (i := 3) sc__law_partings.nd rfl (Or.inl rfl) (pe_lst pa_nil))
      (pss_cons (ps_for PassesOwn.never rfl (k_list (K := K) rfl (pv 1)) (pg_name (i := 4) sc__law_partings.nd rfl (Or.inr rfl))
      (pss_one (ps_expr (k_bm (K := K) rfl PySem.F.plainAttrs_list PySem.F.slot_list_extend PySem.F.type_list_extend mt_extend (pv 3) (pa_cons (pe_lc (own := [("block", 5)]) rfl sc__law_partings.nd (pi_range1 (by rfl) T.range (pa_cons (pe_op op_add (pe_callB (k_maxT (K := K) rfl rfl hr.units) (by rfl) T.max (by decide +kernel) (pa_cons (pv 4) pa_nil)) pe_int) pa_nil)) (blkOk_by (N := ["many", "rows", "turn", "longer", "row", "block"]) (sc := defScope s__law_partings) (by decide +kernel)) (fun _ _ _ _ _ => (pg_name (i := 5) sc__law_partings.nd rfl (Or.inl rfl))) (fun _ _ _ _ _ => pts_nil) (fun _ _ _ _ _ => (pe_op (k_catT (K := K) rfl) (pv 4) (pe_tup (pa_cons (pv 5) pa_nil))))) pa_nil)))))
      (pss_one (ps_set (i := 1) sc__law_partings.nd rfl (Or.inl rfl) (pv 3))))))
      (pss_one (ps_ret (pv 1))))), ?_⟩
    refine ⟨by show 1 ≤ sizeLine; decide, fun t0 n0 => ⟨by show 1 ≤ sizeLine; decide, fun l0 nl0 => ?_⟩⟩
    have nt0 : t0 ≠ l0 := fun e => by rw [← e, upd_same] at nl0; cases nl0
    have s0 : Same H (upd (upd H t0 (.tup [.int 0])) l0 (.lst [.ref t0])) := (same_new n0).trans (same_new nl0)
    refine ⟨_, rfl, _, _, rfl, rfl, _, rfl, by omega, by omega, for_range (lo := 0) (n := (((n + 1 : Nat) : Int) - 1).toNat)
      (fun i σ H1 => ∃ l y2 y3 y4, σ = [some (.int ((n + 1 : Nat) : Int)), some (.ref l), y2, y3, y4, none] ∧ Same H H1 ∧ ∃ ts, H1 l = some (.lst (ts.map V.ref)) ∧ Its H1 ts (allP i))
      ⟨l0, none, none, none, rfl, s0, [t0], upd_same, Its.one ?_⟩ ?_ ?_⟩
    · show upd _ l0 _ t0 = _
      rw [upd_ne nt0, upd_same]
      rfl
    · rintro i σ H1 hi ⟨l, y2, y3, y4, rfl, sm, ts, el, it⟩
      have hi8 : i + 1 < 8 := by omega
      have cnt := allP_count ⟨i + 1, hi8⟩
      have e9 : ((allP i).flatMap ext).length ≤ 4140 := cnt
      refine ⟨Nat.zero_le _, fun L nL => ⟨_, rfl, l, rfl, ⟨_, sqL (same_new nL _ _ el)⟩, for_list (K := K) (a := l) (xs := ts.map V.ref)
        (fun k σ H2 => ∃ y4, σ = [some (.int ((n + 1 : Nat) : Int)), some (.ref l), some (.int (0 + (i : Nat))), some (.ref L), y4, none] ∧ Same H1 H2 ∧ ∃ us, H2 L = some (.lst (us.map V.ref)) ∧ Its H2 us (((allP i).take k).flatMap ext))
        ⟨y4, rfl, same_new nL, [], upd_same, Its.nil⟩ (fun k σ H2 _ ⟨_, _, s2, _⟩ => sqL (s2 _ _ el)) ?_ ?_⟩⟩
      · rintro k v σ H2 hk ⟨y4, rfl, s2, us, eL, iu⟩
        obtain ⟨t, ht, rfl⟩ := map_at hk
        obtain ⟨row, hrow, et⟩ := it.2 k t ht
        obtain ⟨rg, rl⟩ := allP_ok i row (List.mem_of_getElem? hrow)
        have et2 : TI H2 t row := et.mono s2
        have rne : row ≠ [] := fun e => by rw [e] at rl; cases rl
        have rpar : Par row := ⟨rne, by omega, rg⟩
        have b0 := bc_ge 0 row
        have b1 := bc_le 0 row
        refine ⟨_, rfl, .inl ⟨rfl, _, .inl (.inl eL)⟩, ?_⟩
        refine ⟨_, rfl, t, row, rfl, et2.seq, rne, fun m hm hle => ?_⟩
        have em := par_max rpar hm hle
        refine ⟨_, _, rfl, rfl, (m + 2 : Int), rfl, by omega, by omega, fun C nC => ?_⟩
        have en : (m + 2).toNat = (bc 0 row + 1).toNat := by omega
        have fl := flat_le ext hrow
        rw [ext_len] at fl
        refine lc_range (fun j H3 => Same H2 H3 ∧ ∃ cs, H3 C = some (.lst (cs.map V.ref)) ∧ Its H3 cs ((ext row).take j)) ⟨same_new nC, [], upd_same, Its.nil⟩ ?_ ?_
        · rintro j H3 hj ⟨s3, cs, eC, ic⟩
          have hj2 : j < (bc 0 row + 1).toNat := by omega
          have et3 : TI H3 t row := et2.mono s3
          refine ⟨rfl, _, rfl, _, rfl, by show 1 ≤ sizeLine; decide, fun c nc => ?_⟩
          have et4 : TI (upd H3 c (.tup [.int (0 + (j : Nat))])) t row := et3.mono (same_new nc)
          refine ⟨t, c, _, _, rfl, rfl, et4.seq, .inl (.inl upd_same), ?_, ?_, fun e => (by cases e), fun _ d nd => ?_⟩
          · intro e
            exact rne (List.map_eq_nil_iff.mp e)
          · rw [List.length_map]
            exact Nat.le_of_lt (small_of (by show row.length + 1 ≤ _; omega))
          · have ncC : c ≠ C := fun e => by rw [e, eC] at nc; cases nc
            have eC4 : upd H3 c (.tup [.int (0 + (j : Nat))]) C = some (.lst (cs.map V.ref)) := by rw [upd_ne ncC.symm]; exact eC
            have ndC : d ≠ C := fun e => by rw [e, eC4] at nd; cases nd
            have s34 : Same H3 (upd (upd H3 c (.tup [.int (0 + (j : Nat))])) d (.tup (row.map V.int ++ [.int (0 + (j : Nat))]))) := (same_new nc).trans (same_new nd)
            have lc' := ic.1
            rw [List.length_take, ext_len] at lc'
            refine ⟨_, s34 _ _ eC, ?_, same_mut (s3.trans s34) nC, cs ++ [d], ?_, ?_⟩
            · rw [List.length_map]
              exact small_of (by omega)
            · rw [upd_same, List.map_append]
              rfl
            · rw [ext_take hj2]
              refine Its.app ((ic.mono s34).put (s34 _ _ eC)) (Its.one ?_)
              show upd _ C _ d = _
              rw [upd_ne ndC, upd_same, List.map_append, show (0 : Int) + (j : Nat) = (j : Nat) by omega]
              rfl
        · rintro H3 ⟨s3, cs, eC, ic⟩
          rw [show (ext row).take (m + 2).toNat = ext row from List.take_of_length_le (by rw [ext_len]; omega)] at ic
          have l1 := ic.1
          have l2 := iu.1
          rw [ext_len] at l1
          have eL3 := s3 _ _ eL
          have nCL : C ≠ L := fun e => by rw [e, eL] at nC; cases nC
          refine ⟨L, C, _, _, rfl, rfl, eL3, eC, ?_, some (.ref t), rfl, same_mut (s2.trans s3) nL, us ++ cs, ?_, ?_⟩
          · rw [List.length_map, List.length_map]
            exact Nat.le_of_lt (small_of (by omega))
          · rw [upd_same, List.map_append]
          · rw [flat_take ext hrow]
            exact ((iu.mono s3).put eL3).app (ic.put eL3)
      · rintro σ H2 ⟨y4, rfl, s2, us, eL, iu⟩
        refine ⟨_, rfl, L, some (.int (0 + (i : Nat))), some (.ref L), y4, rfl, sm.trans s2, us, eL, ?_⟩
        rw [List.length_map, it.1, List.take_length] at iu
        exact iu
    · rintro σ H1 ⟨l, y2, y3, y4, rfl, sm, ts, el, it⟩
      have e : (((n + 1 : Nat) : Int) - 1).toNat = n := by omega
      rw [e] at it
      exact ⟨_, rfl, q H1 l sm (it.lt el)⟩
end
end KQ
namespace KQ
open PySem PySem.Spec PyProof.Rows L2 KR KM StX
section
variable {P : Program} {w : World} {K : PySem.W.Frag} {mg : Str → Option Value} {base : Heap}
def LabOf (L : List Int) (x : Nat) : Int := L.getD x 0
def spHung : Sp := fun vs H Q _ => ∃ a b p r, vs = [.ref a, .ref b] ∧ TI H a p ∧ TI H b r ∧ Par p ∧ Par r ∧ p.length = r.length ∧
  ∀ H' t l cl (ls : List Int), Same H H' → H' t = some (.tup [.ref l, cl]) → H' l = some (.lst (ls.map V.int)) → ls.length = (bc 0 p + bc 0 r).toNat →
    (∀ x y, x < ls.length → y < ls.length → (LabOf ls x = LabOf ls y ↔ glue (tiesOf p r) x y)) → Q (.ref t) H'
end
end KQ
namespace KQ
open PySem PySem.Spec PyProof.Rows L2 KR KM
/-- lists of one kernel number alike -/
theorem num_congr {α β : Type} [DecidableEq α] [DecidableEq β] {xs : List α} {ys : List β} (hl : ys.length = xs.length)
    (h : ∀ (i j : Nat) (x y : α) (u v : β), xs[i]? = some x → xs[j]? = some y → ys[i]? = some u → ys[j]? = some v → (x = y ↔ u = v)) : num xs = num ys := by
  refine num_is (by rw [num_len, hl]) (num_rg ys) fun i j x y u v hi hj ui vj => ?_
  have li := (List.getElem?_eq_some_iff.mp hi).1
  have lj := (List.getElem?_eq_some_iff.mp hj).1
  have yi : ys[i]? = some _ := List.getElem?_eq_getElem (by omega)
  have yj : ys[j]? = some _ := List.getElem?_eq_getElem (by omega)
  rw [num_ker yi yj ui vj]
  exact h i j x y _ _ hi hj yi yj
/-- ties and glue -/
theorem glue_mem {t : Nat × Nat} : ∀ {ts : List (Nat × Nat)}, t ∈ ts → glue ts t.1 t.2 := by
  intro ts
  have : ∀ n (ts : List (Nat × Nat)), ts.length = n → t ∈ ts → glue ts t.1 t.2 := by
    intro n
    induction n with
    | zero => intro ts hl ht; rw [List.eq_nil_of_length_eq_zero hl] at ht; cases ht
    | succ n ih =>
      intro ts hl ht
      have hne : ts ≠ [] := fun e => by rw [e] at hl; cases hl
      rw [← List.dropLast_concat_getLast hne] at ht ⊢
      rw [glue_snoc]
      rcases List.mem_append.mp ht with ht | ht
      · exact .inl (ih _ (by rw [List.length_dropLast, hl]; rfl) ht)
      · rw [List.mem_singleton.mp ht]
        exact .inr (.inl ⟨(glue_eqv _).refl _, (glue_eqv _).refl _⟩)
  exact this _ ts rfl
theorem glue_map {φ : Nat → Nat} : ∀ (ts : List (Nat × Nat)) (R R' : Nat → Nat → Prop), (∀ x y, R' (φ x) (φ y) ↔ R x y) →
    ∀ x y, (ts.map fun t => (φ t.2, φ t.1)).foldl (fun R t => J R t.1 t.2) R' (φ x) (φ y) ↔ ts.foldl (fun R t => J R t.1 t.2) R x y
  | [], R, R', h, x, y => h x y
  | t :: ts, R, R', h, x, y => by
    refine glue_map ts (J R t.1 t.2) (J R' (φ t.2) (φ t.1)) (fun a b => ?_) x y
    unfold J
    rw [h, h, h, h, h]
    constructor
    · rintro (q | q | q)
      · exact .inl q
      · exact .inr (.inr q)
      · exact .inr (.inl q)
    · rintro (q | q | q)
      · exact .inl q
      · exact .inr (.inr q)
      · exact .inr (.inl q)
theorem zip_swap : ∀ (p r : List Int), r.zip p = (p.zip r).map fun q => (q.2, q.1)
  | [], [] => rfl
  | [], _ :: _ => rfl
  | _ :: _, [] => rfl
  | a :: p, b :: r => by
    rw [List.zip_cons_cons, List.zip_cons_cons, List.map_cons, zip_swap p r]
section
variable {p r : List Int}
theorem zip_at {i : Nat} {x y : Int} (hx : p[i]? = some x) (hy : r[i]? = some y) : (p.zip r)[i]? = some (x, y) := by
  rw [List.getElem?_zip_eq_some]
  exact ⟨hx, hy⟩
theorem tie_at {i : Nat} {x y : Int} (hx : p[i]? = some x) (hy : r[i]? = some y) : glue (tiesOf p r) x.toNat (bc 0 p + y).toNat :=
  glue_mem (t := (x.toNat, (bc 0 p + y).toNat)) (List.mem_of_getElem? (ties_at hx hy))
/-- the blocks of the one and of the other, named the other way about -/
def flip (P R x : Nat) : Nat := if x < P then R + x else if x < P + R then x - P else x
theorem flip_inj {P R x y : Nat} : flip P R x = flip P R y ↔ x = y := by
  unfold flip
  split <;> split <;> (try split) <;> (try split) <;> omega
theorem glue_flip (hp : Rg 0 p) (hr : Rg 0 r) (x y : Nat) :
    glue (tiesOf r p) (flip (bc 0 p).toNat (bc 0 r).toNat x) (flip (bc 0 p).toNat (bc 0 r).toNat y) ↔ glue (tiesOf p r) x y := by
  have e : tiesOf r p = (tiesOf p r).map fun t => (flip (bc 0 p).toNat (bc 0 r).toNat t.2, flip (bc 0 p).toNat (bc 0 r).toNat t.1) := by
    unfold tiesOf
    rw [List.map_map, zip_swap p r, List.map_map]
    refine List.map_congr_left fun q hq => ?_
    have h1 := (rg_mem 0 p (Int.le_refl _) hp).1 q.1 (List.of_mem_zip hq).1
    have h2 := (rg_mem 0 r (Int.le_refl _) hr).1 q.2 (List.of_mem_zip hq).2
    have e1 : flip (bc 0 p).toNat (bc 0 r).toNat (bc 0 p + q.2).toNat = q.2.toNat := by
      unfold flip
      rw [if_neg (by omega), if_pos (by omega)]
      omega
    have e2 : flip (bc 0 p).toNat (bc 0 r).toNat q.1.toNat = (bc 0 r + q.1).toNat := by
      unfold flip
      rw [if_pos (by omega)]
      omega
    show (q.2.toNat, (bc 0 r + q.1).toNat) = (_, _)
    rw [e1, e2]
  rw [e]
  exact glue_map (tiesOf p r) Eq Eq (fun _ _ => flip_inj) x y
/-- above of the one and the other, either way -/
theorem above_flip (hp : Rg 0 p) (hr : Rg 0 r) (hl : p.length = r.length) {L L' : Nat → Int} (h : ∀ x y, L x = L y ↔ glue (tiesOf p r) x y) (h' : ∀ x y, L' x = L' y ↔ glue (tiesOf r p) x y) :
    num (r.map fun b => L' b.toNat) = num (p.map fun b => L b.toNat) := by
  refine num_congr (by rw [List.length_map, List.length_map, hl]) fun i j x y u v hx hy hu hv => ?_
  obtain ⟨x, hx', rfl⟩ := map_at hx
  obtain ⟨y, hy', rfl⟩ := map_at hy
  obtain ⟨u, hu', rfl⟩ := map_at hu
  obtain ⟨v, hv', rfl⟩ := map_at hv
  rw [h, h']
  have a1 := (rg_mem 0 r (Int.le_refl _) hr).1 x (List.mem_of_getElem? hx')
  have a2 := (rg_mem 0 r (Int.le_refl _) hr).1 y (List.mem_of_getElem? hy')
  have f : ∀ z : Int, 0 ≤ z → z < bc 0 r → flip (bc 0 p).toNat (bc 0 r).toNat (bc 0 p + z).toNat = z.toNat := by
    intro z z0 z1
    have := bc_ge 0 p
    unfold flip
    rw [if_neg (by omega), if_pos (by omega)]
    omega
  rw [← f x a1.1 a1.2, ← f y a2.1 a2.2, glue_flip hp hr]
  have E := glue_eqv (tiesOf p r)
  have t1 := tie_at hu' hx'
  have t2 := tie_at hv' hy'
  constructor
  · intro q
    exact E.trans _ _ _ t1 (E.trans _ _ _ q (E.symm _ _ t2))
  · intro q
    exact E.trans _ _ _ (E.symm _ _ t1) (E.trans _ _ _ q t2)
/-- above by labels -/
theorem above_labels (hp : Rg 0 p) {L : Nat → Int} {ls : List Int} (hlen : bc 0 p ≤ ls.length) (h : ∀ x y, L x = L y ↔ glue (tiesOf p r) x y)
    (hg : ∀ x y, x < ls.length → y < ls.length → (LabOf ls x = LabOf ls y ↔ glue (tiesOf p r) x y)) : num (p.map fun b => LabOf ls b.toNat) = num (p.map fun b => L b.toNat) := by
  refine num_congr (by rw [List.length_map, List.length_map]) fun i j x y u v hx hy hu hv => ?_
  obtain ⟨x, hx', rfl⟩ := map_at hx
  obtain ⟨y, hy', rfl⟩ := map_at hy
  obtain ⟨u, hu', rfl⟩ := map_at hu
  obtain ⟨v, hv', rfl⟩ := map_at hv
  rw [hx'] at hu'
  rw [hy'] at hv'
  obtain rfl := Option.some.inj hu'
  obtain rfl := Option.some.inj hv'
  have a1 := (rg_mem 0 p (Int.le_refl _) hp).1 x (List.mem_of_getElem? hx')
  have a2 := (rg_mem 0 p (Int.le_refl _) hp).1 y (List.mem_of_getElem? hy')
  rw [hg x.toNat y.toNat (by omega) (by omega), h]
theorem num_at {α : Type} [DecidableEq α] {xs : List α} {i j : Nat} {x y : α} {u v : Int} (hi : xs[i]? = some x) (hj : xs[j]? = some y) (ui : (num xs)[i]? = some u) (vj : (num xs)[j]? = some v) (e : x = y) : u = v :=
  (num_ker hi hj ui vj).mpr e
theorem at_some {α : Type} {xs : List α} {i : Nat} (h : i < xs.length) : ∃ x, xs[i]? = some x := ⟨_, List.getElem?_eq_getElem h⟩
theorem finer_above1 {L : Nat → Int} : Finer p (num (p.map fun b => L b.toNat)) := by
  intro i j x y z hi hj yi zj
  exact num_at (at_map (f := fun b : Int => L b.toNat) hi) (at_map hj) yi zj rfl
theorem finer_above2 (hl : p.length = r.length) {L : Nat → Int} (h : ∀ x y, L x = L y ↔ glue (tiesOf p r) x y) : Finer r (num (p.map fun b => L b.toNat)) := by
  intro i j x y z hi hj yi zj
  have li := (List.getElem?_eq_some_iff.mp hi).1
  have lj := (List.getElem?_eq_some_iff.mp hj).1
  obtain ⟨u, hu⟩ := at_some (xs := p) (i := i) (by omega)
  obtain ⟨v, hv⟩ := at_some (xs := p) (i := j) (by omega)
  refine num_at (at_map (f := fun b : Int => L b.toNat) hu) (at_map hv) yi zj ((h _ _).mpr ?_)
  have E := glue_eqv (tiesOf p r)
  exact E.trans _ _ _ (tie_at hu hi) (E.symm _ _ (tie_at hv hj))
theorem finer_below1 (hl : p.length = r.length) : Finer (num (p.zip r)) p := by
  intro i j x y z hi hj yi zj
  have li := (List.getElem?_eq_some_iff.mp yi).1
  have lj := (List.getElem?_eq_some_iff.mp zj).1
  obtain ⟨u, hu⟩ := at_some (xs := r) (i := i) (by omega)
  obtain ⟨v, hv⟩ := at_some (xs := r) (i := j) (by omega)
  have := (num_ker (zip_at yi hu) (zip_at zj hv) hi hj).mp rfl
  exact (Prod.mk.inj this).1
theorem finer_below2 (hl : p.length = r.length) : Finer (num (p.zip r)) r := by
  intro i j x y z hi hj yi zj
  have li := (List.getElem?_eq_some_iff.mp yi).1
  have lj := (List.getElem?_eq_some_iff.mp zj).1
  obtain ⟨u, hu⟩ := at_some (xs := p) (i := i) (by omega)
  obtain ⟨v, hv⟩ := at_some (xs := p) (i := j) (by omega)
  have := (num_ker (zip_at hu yi) (zip_at hv zj) hi hj).mp rfl
  exact (Prod.mk.inj this).2
end
/-- codes of blocks -/
def Code (b v : Int) : Prop := ∃ d s : Int, 0 ≤ d ∧ (s = 1 ∨ s = -1) ∧ v = (d * 61 + b) * s
theorem code_inj {b b' v : Int} (h : Code b v) (h' : Code b' v) (b0 : 0 ≤ b) (b1 : b < 61) (c0 : 0 ≤ b') (c1 : b' < 61) : b = b' := by
  obtain ⟨d, s, d0, hs, e⟩ := h
  obtain ⟨d', s', d0', hs', e'⟩ := h'
  rcases hs with rfl | rfl <;> rcases hs' with rfl | rfl <;> omega
theorem num_codes {p xs : List Int} (hp : Rg 0 p) (p60 : p.length ≤ 60) (hl : xs.length = p.length) (h : ∀ (i : Nat) (x v : Int), p[i]? = some x → xs[i]? = some v → Code x v)
    (hf : ∀ (i j : Nat) (x u v : Int), p[i]? = some x → p[j]? = some x → xs[i]? = some u → xs[j]? = some v → u = v) : num xs = p := by
  refine num_is hl.symm hp fun i j x y u v hx hy hu hv => ⟨fun e => ?_, fun e => ?_⟩
  · have a1 := (rg_mem 0 p (Int.le_refl _) hp).1 u (List.mem_of_getElem? hu)
    have a2 := (rg_mem 0 p (Int.le_refl _) hp).1 v (List.mem_of_getElem? hv)
    have g := bc_le 0 p
    subst e
    exact code_inj (h i u x hu hx) (h j v x hv hy) a1.1 (by omega) a2.1 (by omega)
  · subst e
    exact hf i j u x y hu hv hx hy
end KQ
namespace KM
/-! ### heads that lead to roots, in any order -/
structure Wood (hs : List Nat) (ρ d : Nat → Nat) : Prop where
  root : ∀ x, up hs (ρ x) = ρ x
  self : ∀ x, up hs x = x → ρ x = x
  step : ∀ x, ρ (up hs x) = ρ x
  down : ∀ x, up hs x ≠ x → d (up hs x) < d x
  lt : ∀ x, x < hs.length → up hs x < hs.length
  rlt : ∀ x, x < hs.length → ρ x < hs.length
theorem wood_range (n : Nat) : Wood (List.range n) id (fun _ => 0) :=
  ⟨fun x => up_range n x, fun _ _ => rfl, fun x => up_range n x, fun x h => absurd (up_range n x) h, fun x h => by rw [up_range]; exact h, fun _ h => h⟩
theorem wood_unite {hs : List Nat} {ρ d : Nat → Nat} (w : Wood hs ρ d) {a b : Nat} (ha : a < hs.length) (hb : b < hs.length) (ea : up hs a = a) (eb : up hs b = b) (ne : a ≠ b) :
    Wood (hs.set b a) (fun y => if ρ y = b then a else ρ y) (fun y => d y + if ρ y = b then d a + 1 else 0) := by
  have ra := w.self a ea
  have rb := w.self b eb
  refine ⟨fun x => ?_, fun x => ?_, fun x => ?_, fun x => ?_, fun x hx => ?_, fun x hx => ?_⟩
  · show up (hs.set b a) (if ρ x = b then a else ρ x) = if ρ x = b then a else ρ x
    rw [up_set hb]
    by_cases e : ρ x = b
    · rw [if_pos e, if_neg ne, ea]
    · rw [if_neg e, if_neg e, w.root]
  · rw [up_set hb]
    show _ → (if ρ x = b then a else ρ x) = x
    by_cases e : x = b
    · rw [if_pos e]
      intro z
      exact absurd (z.trans e) ne
    · rw [if_neg e]
      intro z
      rw [w.self x z, if_neg e]
  · show (if ρ (up (hs.set b a) x) = b then a else ρ (up (hs.set b a) x)) = if ρ x = b then a else ρ x
    rw [up_set hb]
    by_cases e : x = b
    · subst e
      rw [if_pos rfl, ra, if_neg ne, rb, if_pos rfl]
    · rw [if_neg e, w.step]
  · show _ → d (up (hs.set b a) x) + (if ρ (up (hs.set b a) x) = b then d a + 1 else 0) < d x + (if ρ x = b then d a + 1 else 0)
    rw [up_set hb]
    by_cases e : x = b
    · subst e
      rw [if_pos rfl, ra, if_neg ne, rb, if_pos rfl]
      intro _
      omega
    · rw [if_neg e, w.step]
      intro z
      have := w.down x z
      omega
  · rw [List.length_set] at hx ⊢
    rw [up_set hb]
    split
    · exact ha
    · exact w.lt x hx
  · rw [List.length_set] at hx ⊢
    show (if ρ x = b then a else ρ x) < hs.length
    split
    · exact ha
    · exact w.rlt x hx
theorem wood_tie {ρ : Nat → Nat} {R : Nat → Nat → Prop} {a b : Nat} (h : ∀ x y, ρ x = ρ y ↔ R x y) (x y : Nat) :
    ((if ρ x = ρ b then ρ a else ρ x) = if ρ y = ρ b then ρ a else ρ y) ↔ J R a b x y := by
  unfold J
  rw [← h x y, ← h x a, ← h b y, ← h x b, ← h a y]
  generalize ρ x = rx
  generalize ρ y = ry
  generalize ρ a = ra
  generalize ρ b = rb
  split <;> split <;> omega
end KM
namespace KQ
open PySem PySem.Spec PyProof.Rows L2 KR KM StX
section
variable {P : Program} {w : World} {K : PySem.W.Frag} {mg : Str → Option Value} {base : Heap}
/-- no door closes a ring with doors ahead of it -/
def RingAt (p r : List Int) (i : Nat) : Prop := ∃ x y, p[i]? = some x ∧ r[i]? = some y ∧ glue ((tiesOf p r).take i) x.toNat (bc 0 p + y).toNat
def NoRing (p r : List Int) : Prop := ∀ i, ¬ RingAt p r i
theorem ring_lt {p r : List Int} {i : Nat} (h : RingAt p r i) : i < p.length := by
  obtain ⟨x, y, hx, _⟩ := h
  exact (List.getElem?_eq_some_iff.mp hx).1
def spNoRing : Sp := fun vs H Q _ => ∃ a b p r, vs = [.ref a, .ref b] ∧ TI H a p ∧ TI H b r ∧ Par p ∧ Par r ∧ p.length = r.length ∧
  ∀ H' c, Same H H' → (c = true ↔ NoRing p r) → Q (.bl c) H'
def Tree (p r : List Int) : Prop := bc 0 p + bc 0 r = p.length + 1 ∧ NoRing p r
def spMeets : Sp := fun vs H Q _ => ∃ a b p r, vs = [.ref a, .ref b] ∧ TI H a p ∧ TI H b r ∧ Par p ∧ Par r ∧ p.length = r.length ∧ ∀ H' c, Same H H' → (c = true ↔ Tree p r) → Q (.bl c) H'
end
end KQ
namespace KM
/-- how many unlike items -/
def dcount (xs : List Int) : Nat := (firsts xs).length
theorem sub_len {α : Type} [DecidableEq α] : ∀ {xs ys : List α}, xs.Nodup → (∀ x ∈ xs, x ∈ ys) → xs.length ≤ ys.length
  | [], _, _, _ => Nat.zero_le _
  | x :: xs, ys, h, s => by
    have hx := s x List.mem_cons_self
    rw [List.nodup_cons] at h
    have e := List.length_erase_of_mem hx
    have l := List.length_pos_of_mem hx
    have := sub_len (xs := xs) (ys := ys.erase x) h.2 fun y hy => (List.mem_erase_of_ne (fun q : y = x => h.1 (by rw [← q]; exact hy))).mpr (s y (List.mem_cons_of_mem _ hy))
    rw [List.length_cons]
    omega
theorem same_len {α : Type} [DecidableEq α] {xs ys : List α} (h : xs.Nodup) (g : ys.Nodup) (e : ∀ x, x ∈ xs ↔ x ∈ ys) : xs.length = ys.length :=
  Nat.le_antisymm (sub_len h fun x hx => (e x).mp hx) (sub_len g fun x hx => (e x).mpr hx)
/-- one of two unlike items put for the other -/
theorem dcount_merge {xs : List Int} {u v : Int} (hu : u ∈ xs) (hv : v ∈ xs) (n : u ≠ v) : dcount (xs.map fun z => if z = v then u else z) + 1 = dcount xs := by
  unfold dcount
  have hv' : v ∈ firsts xs := (mem_firsts xs).mpr hv
  have l := List.length_pos_of_mem hv'
  have e := List.length_erase_of_mem hv'
  have := same_len (firsts_nodup (xs.map fun z => if z = v then u else z)) ((firsts_nodup xs).erase v) (fun x => by
    rw [mem_firsts, (firsts_nodup xs).mem_erase_iff, mem_firsts, List.mem_map]
    constructor
    · rintro ⟨z, hz, rfl⟩
      by_cases q : z = v
      · rw [if_pos q]
        exact ⟨n, hu⟩
      · rw [if_neg q]
        exact ⟨q, hz⟩
    · rintro ⟨q, hx⟩
      exact ⟨x, hx, by rw [if_neg q]⟩)
  omega
theorem dcount_range (n : Nat) : dcount ((List.range n).map fun k => ((k : Nat) : Int)) = n := by
  unfold dcount
  have nd : ((List.range n).map fun k => ((k : Nat) : Int)).Nodup := List.pairwise_map.mpr (List.nodup_range.imp fun h e => h (by omega))
  rw [same_len (firsts_nodup _) nd fun x => mem_firsts _, List.length_map, List.length_range]
/-- lists of the same items -/
theorem dcount_same {xs ys : List Int} (h : ∀ x, x ∈ xs ↔ x ∈ ys) : dcount xs = dcount ys :=
  same_len (firsts_nodup _) (firsts_nodup _) fun x => by rw [mem_firsts, mem_firsts, h]
theorem dcount_num (xs : List Int) : ((dcount xs : Nat) : Int) = bc 0 (num xs) := (firsts_len xs).1
end KM
namespace KQ
open PySem PySem.Spec PyProof.Rows L2 KR KM StX
section
variable {P : Program} {w : World} {K : PySem.W.Frag} {mg : Str → Option Value} {base : Heap}
/-- what the door says that closes the first ring, with the doors ahead of i -/
def ClosedBy (p r : List Int) (i : Nat) (cl : V) : Prop := (cl = .non ∧ ∀ j, j < i → ¬ RingAt p r j) ∨ ∃ n : Nat, cl = .int ((n : Nat) : Int) ∧ n < i ∧ RingAt p r n ∧ ∀ j, j < n → ¬ RingAt p r j
theorem closed_next {p r : List Int} {i : Nat} {cl : V} (h : ClosedBy p r i cl) (n : ¬ RingAt p r i) : ClosedBy p r (i + 1) cl := by
  rcases h with ⟨e, h⟩ | ⟨k, e, hk, h1, h2⟩
  · refine .inl ⟨e, fun j hj => ?_⟩
    by_cases q : j = i
    · rw [q]
      exact n
    · exact h j (by omega)
  · exact .inr ⟨k, e, by omega, h1, h2⟩
def spHung2 : Sp := fun vs H Q _ => ∃ a b p r, vs = [.ref a, .ref b] ∧ TI H a p ∧ TI H b r ∧ Par p ∧ Par r ∧ p.length = r.length ∧
  ∀ H' t l cl (ls : List Int), Same H H' → H' t = some (.tup [.ref l, cl]) → H' l = some (.lst (ls.map V.int)) → ls.length = (bc 0 p + bc 0 r).toNat →
    (∀ x y, x < ls.length → y < ls.length → (LabOf ls x = LabOf ls y ↔ glue (tiesOf p r) x y)) → ClosedBy p r p.length cl → (cl = .non → dcount ls + p.length = ls.length) → (∀ x ∈ ls, 0 ≤ x ∧ x < ls.length) → Q (.ref t) H'
end
end KQ
namespace KQ
open PySem PySem.Spec PyProof.Rows L2 KR KM StX
/-- labels of blocks of the one (the first sh) and of those put on so far, i doors of the order ds being done -/
structure Met (p ds ls : List Int) (sh i q : Nat) : Prop where
  len : ls.length = sh + q
  c1 : ∀ j d x, j < i → ds[j]? = some d → p[d.toNat]? = some x → ∃ k, k < q ∧ ls[sh + k]? = ls[x.toNat]?
  c2 : ∀ b b', b < sh → b' < sh → b ≠ b' → ls[b]? = ls[b']? → ∃ k, k < q ∧ ls[sh + k]? = ls[b]?
/-- an order of all doors -/
structure Ord (ds : List Int) (n : Nat) : Prop where
  len : ds.length = n
  nd : ds.Nodup
  at_ : ∀ d ∈ ds, 0 ≤ d ∧ d < n
theorem Ord.all {ds : List Int} {n : Nat} (h : Ord ds n) {d : Int} (d0 : 0 ≤ d) (d1 : d < n) : d ∈ ds := by
  apply Classical.byContradiction
  intro hn
  have nd : (d :: ds).Nodup := List.nodup_cons.mpr ⟨hn, h.nd⟩
  have := sub_len (ys := (List.range n).map fun k => ((k : Nat) : Int)) nd fun x hx => by
    have hb : 0 ≤ x ∧ x < n := by
      rcases List.mem_cons.mp hx with rfl | hx
      · exact ⟨d0, d1⟩
      · exact h.at_ x hx
    exact List.mem_map.mpr ⟨x.toNat, List.mem_range.mpr (by omega), by omega⟩
  rw [List.length_cons, h.len, List.length_map, List.length_range] at this
  omega
theorem met_some {p ds ls : List Int} {sh i q : Nat} (par : Par p) (hsh : (sh : Int) = bc 0 p) (o : Ord ds p.length) (M : Met p ds ls sh i q) {d x own : Int} (hd : ds[i]? = some d) (hx : p[d.toNat]? = some x)
    (ho : ls[x.toNat]? = some own) (hq : ∀ k, k < q → ls[sh + k]? = some own) : dcount ls + (i + 1) ≤ p.length + 1 := by
  have him := (List.getElem?_eq_some_iff.mp hd).1
  rw [o.len] at him
  have own_in : own ∈ firsts ls := (mem_firsts ls).mpr (List.mem_of_getElem? ho)
  have e1 := List.length_erase_of_mem own_in
  have l1 := List.length_pos_of_mem own_in
  have := sub_len (xs := (firsts ls).erase own) (ys := (ds.drop (i + 1)).map fun d => ls.getD (p.getD d.toNat 0).toNat 0) ((firsts_nodup ls).erase own) fun z hz => by
    obtain ⟨zn, hz⟩ := ((firsts_nodup ls).mem_erase_iff).mp hz
    obtain ⟨b, hb⟩ := List.mem_iff_getElem?.mp ((mem_firsts ls).mp hz)
    have hbl := (List.getElem?_eq_some_iff.mp hb).1
    rw [M.len] at hbl
    have hbs : b < sh := by
      apply Classical.byContradiction
      intro hn
      have := hq (b - sh) (by omega)
      rw [show sh + (b - sh) = b by omega, hb] at this
      exact zn (Option.some.inj this)
    have hbp := (rg_mem 0 p (Int.le_refl _) par.rg).2 ((b : Nat) : Int) (by omega) (by omega)
    obtain ⟨j, hj⟩ := List.mem_iff_getElem?.mp hbp
    have hjl := (List.getElem?_eq_some_iff.mp hj).1
    obtain ⟨t, ht⟩ := List.mem_iff_getElem?.mp (o.all (d := ((j : Nat) : Int)) (by omega) (by omega))
    have htp : p[(((j : Nat) : Int)).toNat]? = some ((b : Nat) : Int) := by rw [Int.toNat_natCast]; exact hj
    have hti : i < t := by
      rcases Nat.lt_trichotomy t i with c | c | c
      · obtain ⟨k, hk, e⟩ := M.c1 t _ _ c ht htp
        rw [hq k hk, Int.toNat_natCast, hb] at e
        exact absurd (Option.some.inj e).symm zn
      · subst c
        rw [hd] at ht
        obtain rfl := Option.some.inj ht
        rw [hx] at htp
        obtain rfl := Option.some.inj htp
        rw [Int.toNat_natCast, hb] at ho
        exact absurd (Option.some.inj ho) zn
      · exact c
    refine List.mem_map.mpr ⟨((j : Nat) : Int), List.mem_iff_getElem?.mpr ⟨t - (i + 1), ?_⟩, ?_⟩
    · rw [List.getElem?_drop, show i + 1 + (t - (i + 1)) = t by omega]
      exact ht
    · rw [List.getD_eq_getElem?_getD, List.getD_eq_getElem?_getD, htp]
      show (ls[(((b : Nat) : Int)).toNat]?).getD 0 = z
      rw [Int.toNat_natCast, hb]
      rfl
  rw [List.length_map, List.length_drop, o.len] at this
  unfold dcount
  omega
theorem met_new {p ds ls : List Int} {sh i q : Nat} (hsh : ∀ x ∈ p, 0 ≤ x ∧ x < (sh : Int)) (M : Met p ds ls sh i q) {d x own : Int} (hd : ds[i]? = some d) (hx : p[d.toNat]? = some x)
    (ho : ls[x.toNat]? = some own) : Met p ds (ls ++ [own]) sh (i + 1) (q + 1) := by
  have low : ∀ k, k < sh + q → (ls ++ [own])[k]? = ls[k]? := fun k hk => List.getElem?_append_left (by rw [M.len]; exact hk)
  have top : (ls ++ [own])[sh + q]? = some own := by
    rw [List.getElem?_append_right (by rw [M.len]; exact Nat.le_refl _), M.len, Nat.sub_self]
    rfl
  refine ⟨by rw [List.length_append, M.len]; rfl, fun j e y hj he hy => ?_, fun b b' hb hb' n e => ?_⟩
  · have hys := hsh y (List.mem_of_getElem? hy)
    rw [low y.toNat (by omega)]
    by_cases c : j = i
    · subst c
      rw [hd] at he
      obtain rfl := Option.some.inj he
      rw [hx] at hy
      obtain rfl := Option.some.inj hy
      exact ⟨q, by omega, by rw [top, ho]⟩
    · obtain ⟨k, hk, e⟩ := M.c1 j e y (by omega) he hy
      exact ⟨k, by omega, by rw [low _ (by omega)]; exact e⟩
  · rw [low _ (by omega), low _ (by omega)] at e
    obtain ⟨k, hk, e⟩ := M.c2 b b' hb hb' n e
    exact ⟨k, by omega, by rw [low _ (by omega), low _ (by omega)]; exact e⟩
theorem met_glue {p ds ls : List Int} {sh i q : Nat} (hsh : ∀ x ∈ p, 0 ≤ x ∧ x < (sh : Int)) (M : Met p ds ls sh i q) {d x own two : Int} {k : Nat} (hd : ds[i]? = some d) (hx : p[d.toNat]? = some x)
    (ho : ls[x.toNat]? = some own) (hk : k < q) (ht : ls[sh + k]? = some two) (n : own ≠ two) : Met p ds (ls.map fun z => if z = two then own else z) sh (i + 1) q := by
  have mp : ∀ a, (ls.map fun z => if z = two then own else z)[a]? = (ls[a]?).map fun z => if z = two then own else z := fun a => List.getElem?_map
  have keep : ∀ a b : Nat, ls[a]? = ls[b]? → (ls.map fun z => if z = two then own else z)[a]? = (ls.map fun z => if z = two then own else z)[b]? := fun a b e => by rw [mp, mp, e]
  have tw : ∀ a : Nat, ls[a]? = some own ∨ ls[a]? = some two → (ls.map fun z => if z = two then own else z)[a]? = some own := fun a e => by
    rw [mp]
    rcases e with e | e
    · rw [e]
      show some (if own = two then own else own) = _
      rw [if_neg n]
    · rw [e]
      show some (if two = two then own else two) = _
      rw [if_pos rfl]
  refine ⟨by rw [List.length_map, M.len], fun j e y hj he hy => ?_, fun b b' hb hb' nb e => ?_⟩
  · by_cases c : j = i
    · subst c
      rw [hd] at he
      obtain rfl := Option.some.inj he
      rw [hx] at hy
      obtain rfl := Option.some.inj hy
      exact ⟨k, hk, by rw [tw _ (.inr ht), tw _ (.inl ho)]⟩
    · obtain ⟨k2, hk2, e⟩ := M.c1 j e y (by omega) he hy
      exact ⟨k2, hk2, keep _ _ e⟩
  · by_cases c : ls[b]? = ls[b']?
    · obtain ⟨k2, hk2, e2⟩ := M.c2 b b' hb hb' nb c
      exact ⟨k2, hk2, keep _ _ e2⟩
    · obtain ⟨u, hu⟩ := at_some (xs := ls) (i := b) (by rw [M.len]; omega)
      obtain ⟨v, hv⟩ := at_some (xs := ls) (i := b') (by rw [M.len]; omega)
      rw [mp, mp, hu, hv] at e
      have e : (if u = two then own else u) = (if v = two then own else v) := Option.some.inj e
      refine ⟨k, hk, ?_⟩
      rw [tw _ (.inr ht)]
      by_cases c1 : u = two
      · rw [tw b (.inr (by rw [hu, c1]))]
      · rw [if_neg c1] at e
        by_cases c2 : v = two
        · rw [if_pos c2] at e
          rw [tw b (.inl (by rw [hu, e]))]
        · rw [if_neg c2] at e
          exact absurd (by rw [hu, hv, e]) c
end KQ
namespace KQ
open PySem PySem.Spec PyProof.Rows L2 KR KM StX
theorem ints_of {vs : List V} (h : ∀ j, j < vs.length → ∃ v, vs[j]? = some (.int v)) : ∃ rs : List Int, vs = rs.map V.int := by
  induction vs with
  | nil => exact ⟨[], rfl⟩
  | cons v vs ih =>
    obtain ⟨x, hx⟩ := h 0 (by rw [List.length_cons]; omega)
    obtain rfl : v = .int x := Option.some.inj hx
    obtain ⟨rs, rfl⟩ := ih fun j hj => h (j + 1) (by rw [List.length_cons]; omega)
    exact ⟨x :: rs, rfl⟩
theorem ifs_fact {b : Bool} {t u : TS} {D : Ends} {σ : L2.St} {H : Hp} (Fact : Hp → Prop) (h1 : b = true → ∀ D : Ends, (∀ H', Fact H' → D.nx σ H') → t D σ H) (h2 : b = false → ∀ D : Ends, (∀ H', Fact H' → D.nx σ H') → u D σ H)
    (k : ∀ H', Fact H' → D.nx σ H') : if b = true then t D σ H else u D σ H := by
  cases b
  · exact h2 rfl D k
  · exact h1 rfl D k
section
variable {P : Program} {w : World} {K : PySem.W.Frag} {mg : Str → Option Value} {base : Heap}
def spOf : Sp := fun vs H Q _ => ∃ m c g b l xs, vs = [.ref m, .ref l] ∧ MS H m c g b ∧ b ≤ 1000000 ∧ H l = some (.lst (xs.map V.int)) ∧ l ≠ g ∧ xs ≠ [] ∧ xs.length ≤ 1000000 ∧
  ∀ H' x, Kept H H' m g → MS H' m c g (b + 1) → x ∈ xs → Q (.int x) H'
def spMetL : Sp := fun vs H Q _ => ∃ m c g b a p, vs = [.ref m, .ref a] ∧ MS H m c g b ∧ b ≤ 100000 ∧ TI H a p ∧ Par p ∧
  ∀ H' t r, Kept H H' m g → MS H' m c g (b + 120) → TI H' t r → Par r → r.length = p.length → Q (.ref t) H'
end
end KQ
namespace KQ
open PySem PySem.Spec PyProof.Rows L2 KR KM StX
theorem ifs_fact2 {b : Bool} {t u : TS} {D : Ends} {σ : L2.St} {H : Hp} (Fact : L2.St → Hp → Prop) (h1 : b = true → ∀ D : Ends, (∀ σ' H', Fact σ' H' → D.nx σ' H') → t D σ H) (h2 : b = false → ∀ D : Ends, (∀ σ' H', Fact σ' H' → D.nx σ' H') → u D σ H)
    (k : ∀ σ' H', Fact σ' H' → D.nx σ' H') : if b = true then t D σ H else u D σ H := by
  cases b
  · exact h2 rfl D k
  · exact h1 rfl D k
section
variable {P : Program} {w : World} {K : PySem.W.Frag} {mg : Str → Option Value} {base : Heap}
def spSecond : Sp := fun vs H Q _ => ∃ m c g b a p, vs = [.ref m, .ref a] ∧ MS H m c g b ∧ b ≤ 90000 ∧ TI H a p ∧ Par p ∧
  ∀ H' t r, Kept H H' m g → MS H' m c g (b + 130) → TI H' t r → Par r → r.length = p.length → Q (.ref t) H'
/-- the second one as it is being made -/
def Sec (m c g a : Addr) (b kd : Int) (n : Nat) (H : Hp) (B : Int) (σ : L2.St) (H' : Hp) : Prop := ∃ (l : Addr) (xs : List Int) (y5 y6 : Option V),
  σ = [some (.ref m), some (.ref a), some (.int kd), some (.int ((n : Nat) : Int)), some (.ref l), y5, y6, none] ∧ Kept H H' m g ∧ MS H' m c g (b + B) ∧ H' l = some (.lst (xs.map V.int)) ∧ xs.length = n ∧ H l = none
end
end KQ
/-! len(set(xs)) of whole numbers -/
namespace KR
open PySem PySem.Spec PyProof.Rows L2 KM
section
variable {X : Cx}
def tLenSetI (K : PySem.W.Frag) (ta : TE) : TE := fun σ H Q => ta σ H fun x H1 => ∃ (l : Addr) (xs : List Int), x = .ref l ∧ SqT K H1 l (xs.map V.int) ∧ xs.length ≤ 1000 ∧ Q (.int ((dcount xs : Nat) : Int)) H1
theorem pe_lenSetI {a : Expr} {ta : TE} {p p2 q pos : Pos} (hc : X.calm = true) (hg : Gl X "len") (hm : X.mg "len" = none) (hg2 : Gl X "set") (hm2 : X.mg "set" = none) (ha : PE X a ta)
    (na : starEach [a] X.env = (false, eval a X.env) :: starEach [] X.env := by rfl) : PE X (.Call (.Name "len" p) [.Call (.Name "set" p2) [a] [] q] [] pos) (tLenSetI X.K ta) := by
  refine ⟨fun pins s σ H Q I h => ?_⟩
  refine Call_ (ld_blt I hg hm boot_len ?_)
  refine PyProof.Rows.callWith_builtin1 (PyProof.Rows.args_cons ?_ rfl) rfl rfl
  refine Call_ (ld_blt I hg2 hm2 boot_set ?_)
  refine PyProof.Rows.callWith_type1 (PyProof.Rows.args_cons (thn (ha.run pins s σ H _ I h) fun v s1 ⟨x, H1, I1, r1, q1⟩ => PyProof.Rows.args_nil ?_) na) na rfl
  obtain ⟨l, xs, rfl, hq, hle, q1⟩ := q1
  cases r1
  obtain ⟨its, r, pl, hz⟩ := I1.tuple hq
  refine call_set_tupI xs (I1.ok.hd hc) pl (by simpa using r.ints) ?_ fun h' tk c R hcl hk => ?_
  · exact Nat.lt_of_le_of_lt (Nat.succ_le_succ hle) (by decide)
  refine PyProof.Rows.args_nil ?_
  obtain ⟨o, es, ep, t, ho, hex, hd, hg1, hnd, hS, hlt, hf, hn, _⟩ := R
  have I2 : Inv X pins σ H1 { s1 with heap := h', toks := tk } := I1.kept hk
  have ec : es.size = dcount xs := by
    have := same_len hnd (firsts_nodup xs) fun k => by rw [← hS k, mem_firsts, decide_eq_true_iff]
    rw [List.length_map, Array.length_toList] at this
    exact this
  refine call_len_set ho hex hd hf (by omega) ⟨.int ((dcount xs : Nat) : Int), H1, I2.tok _, ⟨_, by rw [ec]⟩, q1⟩
theorem met_nodup (val : Nat → Int) : ∀ i, (firstMet val i).Nodup
  | 0 => List.nodup_nil
  | i + 1 => by
    rw [firstMet_succ]
    unfold step_dedup
    split
    · exact met_nodup val i
    · rename_i h
      have hn : val i ∉ firstMet val i := fun hm => h (List.any_eq_true.mpr ⟨val i, hm, beq_self_eq_true _⟩)
      first
      | exact List.nodup_cons.mpr ⟨hn, met_nodup val i⟩
      | (rw [List.nodup_append]
         refine ⟨met_nodup val i, by simp, fun a ha b hb e => ?_⟩
         rw [List.mem_singleton.mp hb] at e
         exact hn (e ▸ ha))
theorem met_count (xs : List Int) : (firstMet (fun i => xs.getD i 0) xs.length).length = dcount xs := by
  refine same_len (met_nodup _ _) (firsts_nodup xs) fun k => ?_
  rw [mem_firsts]
  have h := firstMet_any (fun i => xs.getD i 0) xs.length k
  rw [show (List.range xs.length).map (fun i => xs.getD i 0) = xs from by
    refine List.ext_getElem? fun i => ?_
    by_cases hi : i < xs.length
    · rw [at_map (List.getElem?_range hi), List.getD_eq_getElem?_getD, List.getElem?_eq_getElem hi]
      rfl
    · rw [List.getElem?_eq_none (by rw [List.length_map, List.length_range]; omega), List.getElem?_eq_none (by omega)]] at h
  have e : ∀ ys : List Int, ys.any (· == k) = true ↔ k ∈ ys := fun ys => by
    rw [List.any_eq_true]
    exact ⟨fun ⟨a, ha, q⟩ => (eq_of_beq q) ▸ ha, fun hk => ⟨k, hk, beq_self_eq_true _⟩⟩
  rw [← e, h, e]
def tLenSetL (K : PySem.W.Frag) (ta : TE) : TE := fun σ H Q => ta σ H fun x H1 => ∃ (l : Addr) (xs : List Int), x = .ref l ∧ SqL K H1 l (xs.map V.int) ∧ xs.length ≤ 1000 ∧ Q (.int ((dcount xs : Nat) : Int)) H1
theorem pe_lenSetL {a : Expr} {ta : TE} {p p2 q pos : Pos} (hc : X.calm = true) (hg : Gl X "len") (hm : X.mg "len" = none) (hg2 : Gl X "set") (hm2 : X.mg "set" = none) (ha : PE X a ta)
    (na : starEach [a] X.env = (false, eval a X.env) :: starEach [] X.env := by rfl) : PE X (.Call (.Name "len" p) [.Call (.Name "set" p2) [a] [] q] [] pos) (tLenSetL X.K ta) := by
  refine ⟨fun pins s σ H Q I h => ?_⟩
  refine Call_ (ld_blt I hg hm boot_len ?_)
  refine PyProof.Rows.callWith_builtin1 (PyProof.Rows.args_cons ?_ rfl) rfl rfl
  refine Call_ (ld_blt I hg2 hm2 boot_set ?_)
  refine PyProof.Rows.callWith_type1 (PyProof.Rows.args_cons (thn (ha.run pins s σ H _ I h) fun v s1 ⟨x, H1, I1, r1, q1⟩ => PyProof.Rows.args_nil ?_) na) na rfl
  obtain ⟨l, xs, rfl, hq, hle, q1⟩ := q1
  cases r1
  obtain ⟨its, r, pl, hz⟩ := I1.list hq
  have hlen : its.toArray.size = xs.length := by
    rw [List.size_toArray, ← r.length, List.length_map]
  refine PySem.call_set_list (I1.ok.hd hc) pl.isList (by simpa using r.ints) (by rw [hlen]; exact Nat.lt_of_le_of_lt (Nat.succ_le_succ hle) (by decide)) fun h' tk R hk => ?_
  refine PyProof.Rows.args_nil ?_
  rw [hlen, met_count] at R
  obtain ⟨o, es, ep, t, ho, hex, hd, _, _, hlt, hf, hn⟩ := R
  have I2 : Inv X pins σ H1 { s1 with heap := h', toks := tk } := I1.kept fun b o e => hk b o (Heap.lt_size e) e
  have hdl : dcount xs ≤ xs.length := KQ.firsts_le xs
  refine call_len_set ho hex hd hf (by rw [hn]; omega) ⟨.int ((dcount xs : Nat) : Int), H1, I2.tok _, ⟨_, by rw [hn]⟩, q1⟩
end
end KR
namespace KQ
open PySem PySem.Spec PyProof.Rows L2 KR KM StX
section
variable {P : Program} {w : World} {K : PySem.W.Frag} {mg : Str → Option Value} {base : Heap}
theorem dcount_nodup (xs : List Int) : dcount xs = xs.length ↔ xs.Nodup := by
  constructor
  · intro h
    refine firsts_rec (P := fun xs => dcount xs = xs.length → xs.Nodup) (fun _ => List.nodup_nil) (fun xs x ih h => ?_) xs h
    have l := firsts_le xs
    unfold dcount at h ih
    rw [firsts_snoc] at h
    unfold ins at h
    rw [List.length_append] at h
    have l1 : [x].length = 1 := rfl
    split at h
    · omega
    · rename_i hx
      rw [List.length_append] at h
      rw [List.nodup_append]
      refine ⟨ih (by omega), by simp, fun a ha b hb e => ?_⟩
      rw [List.mem_singleton.mp hb] at e
      exact hx ((mem_firsts xs).mpr (e ▸ ha))
  · intro h
    exact same_len (firsts_nodup xs) h fun x => mem_firsts xs
def spLikeT (K : PySem.W.Frag) : Sp := fun vs H Q _ => ∃ (a : Addr) (xs : List Int), vs = [.ref a] ∧ SqT K H a (xs.map V.int) ∧ xs.length ≤ 1000 ∧ ∀ c, (c = true ↔ ¬ xs.Nodup) → Q (.bl c) H
def spLikeL (K : PySem.W.Frag) : Sp := fun vs H Q _ => ∃ (a : Addr) (xs : List Int), vs = [.ref a] ∧ SqL K H a (xs.map V.int) ∧ xs.length ≤ 1000 ∧ ∀ c, (c = true ↔ ¬ xs.Nodup) → Q (.bl c) H
end
end KQ
namespace KQ
open PySem PySem.Spec PyProof.Rows L2 KR KM StX
section
variable {P : Program} {w : World} {K : PySem.W.Frag} {mg : Str → Option Value} {base : Heap}
/-- the doors from the first one of ps back to where the dict says none -/
def Back (kvs : List (L2.Key × V)) : List Int → Prop
  | [] => False
  | [d] => valV kvs (kI d) = some .non
  | d :: e :: r => valV kvs (kI d) = some (.int e) ∧ Back kvs (e :: r)
def headV : List Int → V
  | [] => .non
  | d :: _ => .int d
def spBack : Sp := fun vs H Q _ => ∃ (a : Addr) (kvs : List (L2.Key × V)) (d : Int) (r : List Int), vs = [.ref a, .int d] ∧ Rd H a (.dK kvs) ∧ Back kvs (d :: r) ∧ r.length ≤ 1000 ∧
  ∀ H' l, Same H H' → H l = none → H' l = some (.lst ((d :: r).map V.int)) → Q (.ref l) H'
end
end KQ
namespace KQ
open PySem PySem.Spec PyProof.Rows L2 KR KM
/-! ### every second one -/
def ev {α : Type} : List α → List α
  | [] => []
  | [a] => [a]
  | a :: _ :: r => a :: ev r
theorem ev_cons {α : Type} (a : α) (r : List α) : ev (a :: r) = a :: ev r.tail := by
  cases r <;> rfl
theorem ev_at {α : Type} : ∀ (f : List α) (i : Nat), (ev f)[i]? = f[2 * i]?
  | [], i => by simp [ev]
  | [a], 0 => rfl
  | [a], i + 1 => by
    show ([a] : List α)[i + 1]? = [a][2 * (i + 1)]?
    rw [List.getElem?_eq_none (by simp), List.getElem?_eq_none (by simp; omega)]
  | a :: b :: r, 0 => rfl
  | a :: b :: r, i + 1 => by
    show (ev r)[i]? = _
    rw [ev_at r i, show 2 * (i + 1) = 2 * i + 1 + 1 by omega]
    rfl
theorem ev_map {α β : Type} (f : α → β) : ∀ xs : List α, ev (xs.map f) = (ev xs).map f
  | [] => rfl
  | [a] => rfl
  | a :: b :: r => by
    show f a :: ev (r.map f) = f a :: (ev r).map f
    rw [ev_map f r]
theorem ev_len {α : Type} : ∀ xs : List α, (ev xs).length ≤ xs.length
  | [] => Nat.le_refl _
  | [a] => Nat.le_refl _
  | a :: b :: r => by
    have := ev_len r
    show (ev r).length + 1 ≤ r.length + 1 + 1
    omega
/-- by twos alike -/
def Twos (f : List Int) : Prop := ev f = ev f.tail
theorem twos_at (f : List Int) : Twos f ↔ ∀ i, f[2 * i]? = f[2 * i + 1]? := by
  unfold Twos
  constructor
  · intro h i
    have := congrArg (fun l : List Int => l[i]?) h
    simp only [ev_at, List.getElem?_tail] at this
    exact this
  · intro h
    refine List.ext_getElem? fun i => ?_
    rw [ev_at, ev_at, List.getElem?_tail]
    exact h i
theorem twos_count : ∀ (f : List Int), f.length % 2 = 0 → Twos f → ∀ x, f.count x = 2 * (ev f).count x
  | [], _, _, x => rfl
  | [a], h, _, x => by simp at h
  | a :: b :: r, h, t, x => by
    have t' : (a :: ev r : List Int) = ev (b :: r) := t
    rw [ev_cons] at t'
    obtain ⟨rfl, t2⟩ := List.cons.inj t'
    have hl : r.length % 2 = 0 := by
      rw [List.length_cons, List.length_cons] at h
      omega
    have ih := twos_count r hl t2 x
    show (a :: a :: r).count x = 2 * (a :: ev r).count x
    rw [List.count_cons, List.count_cons, List.count_cons, ih]
    split <;> omega
theorem nodup_count : ∀ l : List Int, l.Nodup ↔ ∀ x ∈ l, l.count x = 1
  | [] => by simp
  | a :: l => by
    rw [List.nodup_cons, nodup_count l]
    constructor
    · rintro ⟨h1, h2⟩ x hx
      rw [List.count_cons]
      by_cases e : a = x
      · subst e
        rw [List.count_eq_zero_of_not_mem h1]
        simp
      · rcases List.mem_cons.mp hx with q | q
        · exact absurd q.symm e
        · rw [h2 x q]
          simp [e]
    · intro h
      have h1 : a ∉ l := fun hm => by
        have := h a List.mem_cons_self
        rw [List.count_cons] at this
        have p := List.count_pos_iff.mpr hm
        simp at this
        omega
      refine ⟨h1, fun x hx => ?_⟩
      have := h x (List.mem_cons_of_mem _ hx)
      rw [List.count_cons] at this
      have e : a ≠ x := fun e => h1 (e ▸ hx)
      simpa [e] using this
theorem twos_nodup {f : List Int} (hl : f.length % 2 = 0) (t : Twos f) : (∀ x ∈ f, f.count x = 2) ↔ (ev f).Nodup := by
  rw [nodup_count]
  have hm : ∀ x, x ∈ f ↔ x ∈ ev f := fun x => by
    rw [← List.count_pos_iff, ← List.count_pos_iff, twos_count f hl t x]
    omega
  constructor
  · intro h x hx
    have := h x ((hm x).mpr hx)
    rw [twos_count f hl t x] at this
    omega
  · intro h x hx
    rw [twos_count f hl t x, h x ((hm x).mp hx)]
/-! ### rings -/
def bk (p : List Int) (d : Int) : Int := p.getD d.toNat (-1)
def rot (ds : List Int) : List Int := ds.tail ++ ds.take 1
theorem rot_at {ds : List Int} (ne : ds ≠ []) (j : Nat) : (rot ds)[j]? = if j + 1 < ds.length then ds[j + 1]? else if j + 1 = ds.length then ds[0]? else none := by
  cases ds with
  | nil => exact absurd rfl ne
  | cons d t =>
    show (t ++ [d])[j]? = if j + 1 < t.length + 1 then (d :: t)[j + 1]? else if j + 1 = t.length + 1 then (d :: t)[0]? else none
    rw [List.getElem?_append]
    by_cases h : j < t.length
    · rw [if_pos h, if_pos (by omega), List.getElem?_cons_succ]
    · rw [if_neg h, if_neg (by omega)]
      by_cases e : j = t.length
      · subst e
        rw [Nat.sub_self, if_pos rfl]
        rfl
      · rw [if_neg (by omega), List.getElem?_eq_none (by simp; omega)]
theorem rot_count (ds : List Int) (f : Int → Int) (x : Int) : ((rot ds).map f).count x = (ds.map f).count x := by
  cases ds with
  | nil => rfl
  | cons d t =>
    show ((t ++ [d]).map f).count x = (f d :: t.map f).count x
    rw [List.map_append, List.count_append, List.count_cons]
    show _ + [f d].count x = _
    rw [List.count_cons]
    simp
theorem rot_len (ds : List Int) : (rot ds).length = ds.length := by
  cases ds with
  | nil => rfl
  | cons d t => simp [rot]
/-- rings as the program looks at them -/
structure IsRing (p r ds : List Int) : Prop where
  ne : ds ≠ []
  even : ds.length % 2 = 0
  rng : ∀ d ∈ ds, 0 ≤ d ∧ d < p.length
  nodup : ds.Nodup
  low : (ev (ds.map (bk p))).Nodup
  high : (ev ((rot ds).map (bk r))).Nodup
  lows : Twos (ds.map (bk p))
  highs : Twos ((rot ds).map (bk r))
/-- the next one's place -/
def nx (ds : List Int) (n : Nat) : Nat := if n + 1 < ds.length then n + 1 else 0
/-- .. and as the law does -/
structure RingR (p r ds : List Int) : Prop where
  len : 2 ≤ ds.length
  even : ds.length % 2 = 0
  rng : ∀ d ∈ ds, 0 ≤ d ∧ d < p.length
  nodup : ds.Nodup
  step : ∀ n x y, ds[n]? = some x → ds[nx ds n]? = some y → bk (if n % 2 = 0 then p else r) x = bk (if n % 2 = 0 then p else r) y
  low : ∀ d ∈ ds, (ds.map (bk p)).count (bk p d) = 2
  high : ∀ d ∈ ds, (ds.map (bk r)).count (bk r d) = 2
theorem map_all {ds : List Int} {f : Int → Int} (P : Int → Prop) : (∀ x ∈ ds.map f, P x) ↔ ∀ d ∈ ds, P (f d) :=
  ⟨fun h d hd => h _ (List.mem_map_of_mem hd), fun h x hx => by
    obtain ⟨d, hd, rfl⟩ := List.mem_map.mp hx
    exact h d hd⟩
theorem ring_iff {p r ds : List Int} : IsRing p r ds ↔ RingR p r ds := by
  have twos : ds ≠ [] → ds.length % 2 = 0 → (Twos (ds.map (bk p)) ∧ Twos ((rot ds).map (bk r)) ↔ ∀ n x y, ds[n]? = some x → ds[nx ds n]? = some y → bk (if n % 2 = 0 then p else r) x = bk (if n % 2 = 0 then p else r) y) := by
    intro ne ev2
    rw [twos_at, twos_at]
    have hpos := List.length_pos_iff.mpr ne
    constructor
    · rintro ⟨h1, h2⟩ n x y hx hy
      have ln := (List.getElem?_eq_some_iff.mp hx).1
      unfold nx at hy
      by_cases e : n % 2 = 0
      · rw [if_pos e]
        rw [if_pos (by omega)] at hy
        have := h1 (n / 2)
        rw [show 2 * (n / 2) = n by omega, at_map hx, at_map hy] at this
        exact Option.some.inj this
      · rw [if_neg e]
        have := h2 (n / 2)
        have ea : (rot ds)[2 * (n / 2)]? = some x := by
          rw [rot_at ne, show 2 * (n / 2) + 1 = n by omega, if_pos ln, hx]
        have eb : (rot ds)[2 * (n / 2) + 1]? = some y := by
          rw [rot_at ne, show 2 * (n / 2) + 1 + 1 = n + 1 by omega]
          by_cases e2 : n + 1 < ds.length
          · rw [if_pos e2] at hy ⊢
            exact hy
          · rw [if_neg e2] at hy ⊢
            rw [if_pos (by omega)]
            exact hy
        rw [at_map ea, at_map eb] at this
        exact Option.some.inj this
    · intro h
      refine ⟨fun i => ?_, fun i => ?_⟩
      · by_cases hi : 2 * i < ds.length
        · obtain ⟨x, hx⟩ := at_some (xs := ds) hi
          obtain ⟨y, hy⟩ := at_some (xs := ds) (i := 2 * i + 1) (by omega)
          rw [at_map hx, at_map hy]
          have := h (2 * i) x y hx (by unfold nx; rw [if_pos (by omega)]; exact hy)
          rw [if_pos (by omega)] at this
          rw [this]
        · rw [List.getElem?_eq_none (by rw [List.length_map]; omega), List.getElem?_eq_none (by rw [List.length_map]; omega)]
      · by_cases hi : 2 * i < ds.length
        · obtain ⟨x, hx⟩ := at_some (xs := ds) (i := 2 * i + 1) (by omega)
          have ea : (rot ds)[2 * i]? = some x := by
            rw [rot_at ne, if_pos (by omega), hx]
          obtain ⟨y, hy⟩ := at_some (xs := rot ds) (i := 2 * i + 1) (by rw [rot_len]; omega)
          have hy' := hy
          rw [rot_at ne] at hy'
          have hn : ds[nx ds (2 * i + 1)]? = some y := by
            unfold nx
            by_cases e2 : 2 * i + 1 + 1 < ds.length
            · rw [if_pos e2] at hy' ⊢
              exact hy'
            · rw [if_neg e2] at hy' ⊢
              rw [if_pos (by omega)] at hy'
              exact hy'
          have := h (2 * i + 1) x y hx hn
          rw [if_neg (by omega)] at this
          rw [at_map ea, at_map hy, this]
        · rw [List.getElem?_eq_none (by rw [List.length_map, rot_len]; omega), List.getElem?_eq_none (by rw [List.length_map, rot_len]; omega)]
  have counts : ∀ x, ((rot ds).map (bk r)).count x = (ds.map (bk r)).count x := rot_count ds (bk r)
  have rmem : ∀ x, x ∈ (rot ds).map (bk r) ↔ x ∈ ds.map (bk r) := fun x => by
    rw [← List.count_pos_iff, ← List.count_pos_iff, counts]
  have rl : ds.length % 2 = 0 → ((rot ds).map (bk r)).length % 2 = 0 := fun h => by
    rw [List.length_map, rot_len]
    exact h
  constructor
  · rintro ⟨ne, e, rng, nd, l, h, ls, hs⟩
    have hpos := List.length_pos_iff.mpr ne
    refine ⟨by omega, e, rng, nd, (twos ne e).mp ⟨ls, hs⟩, ?_, ?_⟩
    · exact (map_all fun x => (ds.map (bk p)).count x = 2).mp ((twos_nodup (by rw [List.length_map]; exact e) ls).mpr l)
    · have := (twos_nodup (rl e) hs).mpr h
      refine (map_all fun x => (ds.map (bk r)).count x = 2).mp fun x hx => ?_
      rw [← counts]
      exact this x ((rmem x).mpr hx)
  · rintro ⟨ln, e, rng, nd, st, l, h⟩
    have ne : ds ≠ [] := fun e => by
      rw [e] at ln
      simp at ln
    obtain ⟨ls, hs⟩ := (twos ne e).mpr st
    refine ⟨ne, e, rng, nd, (twos_nodup (by rw [List.length_map]; exact e) ls).mp ((map_all fun x => (ds.map (bk p)).count x = 2).mpr l), (twos_nodup (rl e) hs).mp fun x hx => ?_, ls, hs⟩
    rw [counts]
    exact (map_all fun x => (ds.map (bk r)).count x = 2).mpr h x ((rmem x).mp hx)
end KQ
namespace KQ
open PySem PySem.Spec PyProof.Rows L2 KR KM
/-! ### doors found ahead of one another -/
structure Ent where
  d : Int
  s : Int
  par : Int
  q : Nat
def kvsOf (st : Int) (E : List Ent) : List (L2.Key × V) := (kI st, V.non) :: E.map fun e => (kI e.d, V.int e.par)
def Qu (B : List Int) (st : Int) (E : List Ent) : List (Int × Int) := B.map (fun b => (b, st)) ++ E.map fun e => (1 - e.s, e.d)
def prt (p r : List Int) (s : Int) : List Int := if s = 0 then p else r
structure Bfs (p r B : List Int) (st : Int) (N : Nat) (E : List Ent) : Prop where
  keys : (st :: E.map Ent.d).Nodup
  rng : ∀ e ∈ E, 0 ≤ e.d ∧ e.d < N
  par : ∀ k e, E[k]? = some e → e.q < B.length + k ∧ (Qu B st E)[e.q]? = some (e.s, e.par) ∧ bk (prt p r e.s) e.d = bk (prt p r e.s) e.par
  apart : ∀ e ∈ E, ∀ j w x, j < e.q → (Qu B st E)[j]? = some (w, x) → bk (prt p r w) e.d ≠ bk (prt p r w) x
/-- all doors up to n in the block of what stands at j in the row are found -/
def FullTo (p r B : List Int) (st : Int) (E : List Ent) (j n : Nat) : Prop := ∀ w x, (Qu B st E)[j]? = some (w, x) → ∀ d : Int, 0 ≤ d → d < n → bk (prt p r w) d = bk (prt p r w) x → d ∈ st :: E.map Ent.d
theorem qu_len (B : List Int) (st : Int) (E : List Ent) : (Qu B st E).length = B.length + E.length := by
  unfold Qu
  rw [List.length_append, List.length_map, List.length_map]
theorem qu_snoc (B : List Int) (st : Int) (E : List Ent) (e : Ent) : Qu B st (E ++ [e]) = Qu B st E ++ [(1 - e.s, e.d)] := by
  unfold Qu
  rw [List.map_append, ← List.append_assoc]
  rfl
theorem qu_keep {B : List Int} {st : Int} {E : List Ent} {j : Nat} (e : Ent) (h : j < (Qu B st E).length) : (Qu B st (E ++ [e]))[j]? = (Qu B st E)[j]? := by
  rw [qu_snoc, List.getElem?_append_left h]
theorem full_keep {p r B : List Int} {st : Int} {E : List Ent} {j n : Nat} (e : Ent) (h : j < (Qu B st E).length) (f : FullTo p r B st E j n) : FullTo p r B st (E ++ [e]) j n := by
  intro w x hq d d0 d1 hb
  rw [qu_keep e h] at hq
  have := f w x hq d d0 d1 hb
  rw [List.map_append, ← List.cons_append]
  exact List.mem_append_left _ this
theorem bfs_add {p r B : List Int} {st : Int} {N : Nat} {E : List Ent} (h : Bfs p r B st N E) {a : Nat} {w x d : Int} (full : ∀ j, j < a → FullTo p r B st E j N)
    (hq : (Qu B st E)[a]? = some (w, x)) (d0 : 0 ≤ d) (d1 : d < N) (nd : d ∉ st :: E.map Ent.d) (hb : bk (prt p r w) d = bk (prt p r w) x) : Bfs p r B st N (E ++ [⟨d, w, x, a⟩]) := by
  have ha := (List.getElem?_eq_some_iff.mp hq).1
  have hal := ha
  rw [qu_len] at hal
  refine ⟨?_, fun e he => ?_, fun k e hk => ?_, fun e he j w' x' hj hq' => ?_⟩
  · rw [List.map_append, ← List.cons_append, List.nodup_append]
    exact ⟨h.keys, by simp, fun u hu v hv e => nd (by rw [List.map_cons, List.map_nil, List.mem_singleton] at hv; exact (e.trans hv : u = d) ▸ hu)⟩
  · rcases List.mem_append.mp he with he | he
    · exact h.rng e he
    · rw [List.mem_singleton.mp he]
      exact ⟨d0, d1⟩
  · by_cases hkl : k < E.length
    · rw [List.getElem?_append_left hkl] at hk
      obtain ⟨h1, h2, h3⟩ := h.par k e hk
      refine ⟨h1, ?_, h3⟩
      rw [qu_keep _ (List.getElem?_eq_some_iff.mp h2).1]
      exact h2
    · have hk2 := (List.getElem?_eq_some_iff.mp hk).1
      rw [List.length_append, List.length_singleton] at hk2
      have : k = E.length := by omega
      subst this
      rw [List.getElem?_append_right (Nat.le_refl _), Nat.sub_self] at hk
      obtain rfl := Option.some.inj hk
      exact ⟨hal, by rw [qu_keep _ ha]; exact hq, hb⟩
  · rcases List.mem_append.mp he with he | he
    · obtain ⟨k, hk⟩ := List.mem_iff_getElem?.mp he
      have := (h.par k e hk).1
      have hk2 := (List.getElem?_eq_some_iff.mp hk).1
      have hjl : j < (Qu B st E).length := by
        rw [qu_len]
        omega
      rw [qu_keep _ hjl] at hq'
      exact h.apart e he j w' x' hj hq'
    · rw [List.mem_singleton.mp he] at hj ⊢
      have hj' : j < a := hj
      rw [qu_keep _ (by omega)] at hq'
      exact fun e => nd (full j hj' w' x' hq' d d0 d1 e)
theorem full_next {p r B : List Int} {st : Int} {E : List Ent} {a n : Nat} (f : FullTo p r B st E a n) (hn : ∀ w x, (Qu B st E)[a]? = some (w, x) → bk (prt p r w) (n : Int) = bk (prt p r w) x → ((n : Nat) : Int) ∈ st :: E.map Ent.d) :
    FullTo p r B st E a (n + 1) := by
  intro w x hq d d0 d1 hb
  by_cases e : d = n
  · subst e
    exact hn w x hq hb
  · exact f w x hq d d0 (by omega) hb
theorem bfs_len {p r B : List Int} {st : Int} {N : Nat} {E : List Ent} (h : Bfs p r B st N E) : E.length ≤ N := by
  have := sub_len (xs := E.map Ent.d) (ys := (List.range N).map fun n => ((n : Nat) : Int)) (List.nodup_cons.mp h.keys).2 fun x hx => by
    obtain ⟨e, he, rfl⟩ := List.mem_map.mp hx
    obtain ⟨h0, h1⟩ := h.rng e he
    exact List.mem_map.mpr ⟨e.d.toNat, List.mem_range.mpr (by omega), by omega⟩
  rw [List.length_map, List.length_map, List.length_range] at this
  exact this
/-- the row's places, from the first one on, each found by the one before it -/
inductive Path (b : Nat) (E : List Ent) : List Nat → Prop
  | base {j : Nat} : j < b → Path b E [j]
  | step {k : Nat} {e : Ent} {ks : List Nat} : E[k]? = some e → Path b E ks → ks.getLast? = some e.q → Path b E (ks ++ [b + k])
theorem path_ex {p r B : List Int} {st : Int} {N : Nat} {E : List Ent} (h : Bfs p r B st N E) : ∀ n j : Nat, j < n → j < (Qu B st E).length → ∃ ks, Path B.length E ks ∧ ks.getLast? = some j := by
  intro n
  induction n with
  | zero => exact fun j hj => absurd hj (Nat.not_lt_zero _)
  | succ n ih =>
    intro j hj hl
    by_cases hb : j < B.length
    · exact ⟨[j], .base hb, rfl⟩
    · rw [qu_len] at hl
      obtain ⟨e, he⟩ := at_some (xs := E) (i := j - B.length) (by omega)
      obtain ⟨h1, h2, _⟩ := h.par _ e he
      obtain ⟨ks, hks, hlast⟩ := ih e.q (by omega) (List.getElem?_eq_some_iff.mp h2).1
      refine ⟨ks ++ [B.length + (j - B.length)], .step he hks hlast, ?_⟩
      rw [List.getLast?_concat]
      congr 1
      omega
def dr (B : List Int) (st : Int) (E : List Ent) (j : Nat) : Int := ((Qu B st E)[j]?.getD (0, 0)).2
def fl (B : List Int) (st : Int) (E : List Ent) (j : Nat) : Int := ((Qu B st E)[j]?.getD (0, 0)).1
section
variable {p r B : List Int} {st : Int} {N : Nat} {E : List Ent}
theorem qu_at {j : Nat} {w x : Int} (h : (Qu B st E)[j]? = some (w, x)) : dr B st E j = x ∧ fl B st E j = w := by
  unfold dr fl
  rw [h]
  exact ⟨rfl, rfl⟩
theorem qu_ent {k : Nat} {e : Ent} (h : E[k]? = some e) : (Qu B st E)[B.length + k]? = some (1 - e.s, e.d) := by
  unfold Qu
  rw [List.getElem?_append_right (by rw [List.length_map]; omega), List.length_map, Nat.add_sub_cancel_left, at_map (f := fun e : Ent => (1 - e.s, e.d)) h]
theorem qu_base {j : Nat} (h : j < B.length) : ∃ b, B[j]? = some b ∧ (Qu B st E)[j]? = some (b, st) := by
  obtain ⟨b, hb⟩ := at_some h
  refine ⟨b, hb, ?_⟩
  unfold Qu
  rw [List.getElem?_append_left (by rw [List.length_map]; exact h), at_map (f := fun b : Int => (b, st)) hb]
theorem path_ne {b : Nat} {ks : List Nat} (h : Path b E ks) : ks ≠ [] := by
  cases h with
  | base => simp
  | step => simp
theorem last_at {α : Type} {ks : List α} {x : α} (h : ks.getLast? = some x) : ks ≠ [] ∧ ks[ks.length - 1]? = some x := by
  rw [List.getLast?_eq_getElem?] at h
  refine ⟨fun e => by rw [e] at h; simp at h, h⟩
/-- what holds of two that stand one behind the other -/
structure Next (p r B : List Int) (st : Int) (E : List Ent) (ks : List Nat) (i x y : Nat) : Prop where
  lt : x < y
  turn : fl B st E y = 1 - fl B st E x
  blk : bk (prt p r (fl B st E x)) (dr B st E y) = bk (prt p r (fl B st E x)) (dr B st E x)
  far : ∀ j z, j < i → ks[j]? = some z → bk (prt p r (fl B st E z)) (dr B st E y) ≠ bk (prt p r (fl B st E z)) (dr B st E z)
theorem path_next (h : Bfs p r B st N E) : ∀ {ks : List Nat}, Path B.length E ks → (∀ (i j x y : Nat), i < j → ks[i]? = some x → ks[j]? = some y → x < y) ∧ (∀ x ∈ ks, x < (Qu B st E).length) ∧ ∀ i x y, ks[i]? = some x → ks[i + 1]? = some y → Next p r B st E ks i x y := by
  intro ks hp
  induction hp with
  | base hj =>
    refine ⟨fun i j x y hij hi hj' => ?_, fun x hx => ?_, fun i x y hi hi1 => ?_⟩
    · have := (List.getElem?_eq_some_iff.mp hj').1
      rw [List.length_singleton] at this
      omega
    · rw [List.mem_singleton.mp hx, qu_len]
      omega
    · have := (List.getElem?_eq_some_iff.mp hi1).1
      rw [List.length_singleton] at this
      omega
  | @step k e ks he hks hlast ih =>
    obtain ⟨up, bd, nxt⟩ := ih
    obtain ⟨ne, hl⟩ := last_at hlast
    have hpos := List.length_pos_iff.mpr ne
    obtain ⟨h1, h2, h3⟩ := h.par k e he
    have hk := (List.getElem?_eq_some_iff.mp he).1
    obtain ⟨q1, q2⟩ := qu_at h2
    obtain ⟨q3, q4⟩ := qu_at (qu_ent (B := B) (st := st) he)
    have old : ∀ i x, (ks ++ [B.length + k])[i]? = some x → (i < ks.length ∧ ks[i]? = some x) ∨ (i = ks.length ∧ x = B.length + k) := by
      intro i x hi
      by_cases hil : i < ks.length
      · rw [List.getElem?_append_left hil] at hi
        exact .inl ⟨hil, hi⟩
      · have := (List.getElem?_eq_some_iff.mp hi).1
        rw [List.length_append, List.length_singleton] at this
        have e2 : i = ks.length := by omega
        subst e2
        rw [List.getElem?_append_right (Nat.le_refl _), Nat.sub_self] at hi
        exact .inr ⟨rfl, (Option.some.inj hi).symm⟩
    have lt_last : ∀ i x, ks[i]? = some x → x ≤ e.q := fun i x hi => by
      have := (List.getElem?_eq_some_iff.mp hi).1
      by_cases e2 : i = ks.length - 1
      · rw [e2, hl] at hi
        obtain rfl := Option.some.inj hi
        exact Nat.le_refl _
      · exact Nat.le_of_lt (up i (ks.length - 1) x e.q (by omega) hi hl)
    refine ⟨fun i j x y hij hi hj => ?_, fun x hx => ?_, fun i x y hi hi1 => ?_⟩
    · rcases old j y hj with ⟨jl, hj⟩ | ⟨rfl, rfl⟩
      · rcases old i x hi with ⟨il, hi⟩ | ⟨rfl, rfl⟩
        · exact up i j x y hij hi hj
        · omega
      · rcases old i x hi with ⟨il, hi⟩ | ⟨rfl, rfl⟩
        · have := lt_last i x hi
          omega
        · omega
    · rcases List.mem_append.mp hx with hx | hx
      · exact bd x hx
      · rw [List.mem_singleton.mp hx, qu_len]
        omega
    · rcases old (i + 1) y hi1 with ⟨jl, hj⟩ | ⟨e2, rfl⟩
      · rcases old i x hi with ⟨il, hi'⟩ | ⟨rfl, rfl⟩
        · obtain ⟨a, b, c, d⟩ := nxt i x y hi' hj
          exact ⟨a, b, c, fun j z hji hz => by
            rcases old j z hz with ⟨zl, hz⟩ | ⟨rfl, rfl⟩
            · exact d j z hji hz
            · omega⟩
        · omega
      · rcases old i x hi with ⟨il, hi'⟩ | ⟨rfl, rfl⟩
        · have ei : i = ks.length - 1 := by omega
          rw [ei, hl] at hi'
          obtain rfl := Option.some.inj hi'
          refine ⟨h1, ?_, ?_, fun j z hji hz => ?_⟩
          · rw [q4, q2]
          · rw [q2, q3, q1]
            exact h3
          · rcases old j z hz with ⟨zl, hz⟩ | ⟨rfl, rfl⟩
            · have zlt : z < e.q := up j (ks.length - 1) z e.q (by omega) hz hl
              rw [q3]
              have hzl : z < (Qu B st E).length := bd z (List.mem_of_getElem? hz)
              obtain ⟨⟨w', x'⟩, hz2⟩ := at_some hzl
              obtain ⟨r1, r2⟩ := qu_at hz2
              rw [r1, r2]
              exact h.apart e (List.mem_of_getElem? he) z w' x' zlt hz2
            · omega
        · omega
theorem val_start : valV (kvsOf st E) (kI st) = some .non := by
  unfold kvsOf valV
  simp
theorem val_ent (h : (st :: E.map Ent.d).Nodup) {k : Nat} {e : Ent} (he : E[k]? = some e) : valV (kvsOf st E) (kI e.d) = some (.int e.par) := by
  have hm := List.mem_of_getElem? he
  unfold kvsOf valV
  have hs : st ≠ e.d := fun q => (List.nodup_cons.mp h).1 (q ▸ List.mem_map_of_mem hm)
  have hn := (List.nodup_cons.mp h).2
  have go : ∀ E : List Ent, (E.map Ent.d).Nodup → e ∈ E → ((E.map fun e => (kI e.d, V.int e.par)).find? fun kv => decide (kv.1 = kI e.d)) = some (kI e.d, V.int e.par) := by
    intro E
    induction E with
    | nil => exact fun _ hm => absurd hm (by simp)
    | cons f E ih =>
      intro hn hm
      rw [List.map_cons, List.nodup_cons] at hn
      rw [List.map_cons, List.find?_cons]
      rcases List.mem_cons.mp hm with q | q
      · subst q
        simp
      · have hne : f.d ≠ e.d := fun z => hn.1 (z ▸ List.mem_map_of_mem q)
        have : decide ((kI f.d, V.int f.par).1 = kI e.d) = false := decide_eq_false fun z => hne (kI_inj _ _ z)
        rw [this]
        exact ih hn.2 q
  rw [List.find?_cons]
  have : decide ((kI st, V.non).1 = kI e.d) = false := decide_eq_false fun z => hs (kI_inj _ _ z)
  rw [this]
  rw [go E hn hm]
  rfl
theorem path_back (h : Bfs p r B st N E) {ks : List Nat} (hp : Path B.length E ks) : Back (kvsOf st E) (ks.map (dr B st E)).reverse := by
  induction hp with
  | base hj =>
    obtain ⟨b, _, hq⟩ := qu_base (st := st) (E := E) hj
    show valV (kvsOf st E) (kI (dr B st E _)) = some .non
    rw [(qu_at hq).1]
    exact val_start
  | @step k e ks he hks hlast ih =>
    obtain ⟨ne, hl⟩ := last_at hlast
    obtain ⟨h1, h2, h3⟩ := h.par k e he
    rw [List.map_append, List.reverse_append]
    show Back (kvsOf st E) (dr B st E (B.length + k) :: (ks.map (dr B st E)).reverse)
    have hc : (ks.map (dr B st E)).reverse = e.par :: (ks.map (dr B st E)).reverse.tail := by
      have : (ks.map (dr B st E)).reverse.head? = some e.par := by
        rw [List.head?_reverse, List.getLast?_map, hlast]
        show some (dr B st E e.q) = _
        rw [(qu_at h2).1]
      cases hh : (ks.map (dr B st E)).reverse with
      | nil => rw [hh] at this; cases this
      | cons a t =>
        rw [hh] at this
        obtain rfl := Option.some.inj this
        rfl
    rw [hc] at ih ⊢
    rw [(qu_at (qu_ent he)).1]
    exact ⟨val_ent h.keys he, ih⟩
end
end KQ
namespace KQ
open PySem PySem.Spec PyProof.Rows L2 KR KM
theorem glue_fold {S : Nat → Prop} : ∀ (ts : List (Nat × Nat)) (R : Nat → Nat → Prop), (∀ x y, R x y → (S x ↔ S y)) → (∀ t ∈ ts, S t.1 ↔ S t.2) → ∀ x y, ts.foldl (fun R t => J R t.1 t.2) R x y → (S x ↔ S y)
  | [], R, h, _, x, y, q => h x y q
  | t :: ts, R, h, ht, x, y, q => by
    refine glue_fold ts (J R t.1 t.2) (fun a b hab => ?_) (fun u hu => ht u (List.mem_cons_of_mem _ hu)) x y q
    have t0 := ht t List.mem_cons_self
    rcases hab with q | ⟨q1, q2⟩ | ⟨q1, q2⟩
    · exact h _ _ q
    · exact (h _ _ q1).trans (t0.trans (h _ _ q2))
    · exact (h _ _ q1).trans (t0.symm.trans (h _ _ q2))
theorem glue_keep {S : Nat → Prop} {ts : List (Nat × Nat)} (h : ∀ t ∈ ts, S t.1 ↔ S t.2) {x y : Nat} (g : glue ts x y) : S x ↔ S y :=
  glue_fold ts Eq (fun _ _ e => by rw [e]) h x y g
section
variable {p r : List Int} {st : Int} {N : Nat} {E : List Ent}
theorem bk_at {p : List Int} {d : Int} {x : Int} (h : p[d.toNat]? = some x) : bk p d = x := by
  unfold bk
  rw [List.getD_eq_getElem?_getD, h]
  rfl
theorem bk_some {p : List Int} {d : Int} (d0 : 0 ≤ d) (d1 : d < p.length) : p[d.toNat]? = some (bk p d) := by
  obtain ⟨x, hx⟩ := at_some (xs := p) (i := d.toNat) (by omega)
  rw [hx, bk_at hx]
theorem bk_rng (par : Par p) {d : Int} (d0 : 0 ≤ d) (d1 : d < p.length) : 0 ≤ bk p d ∧ bk p d < bc 0 p :=
  (rg_mem 0 p (Int.le_refl _) par.rg).1 _ (List.mem_of_getElem? (bk_some d0 d1))
theorem mem_keys {d : Int} : d ∈ st :: E.map Ent.d ↔ d = st ∨ ∃ e ∈ E, e.d = d := by
  rw [List.mem_cons, List.mem_map]
/-- where nothing found has the first door's block of the other one, it closes no ring -/
theorem no_ring_at (par : Par p) (parr : Par r) (hl : p.length = r.length) (s0 : 0 ≤ st) (s1 : st < p.length) (hN : (N : Int) = st) (h : Bfs p r [0] st N E) (full : ∀ j, j < (Qu [0] st E).length → FullTo p r [0] st E j N)
    (no : ∀ e ∈ E, bk r e.d ≠ bk r st) : ¬ RingAt p r st.toNat := by
  rintro ⟨x, y, hx, hy, hg⟩
  have ex := bk_at hx
  have ey := bk_at hy
  have px := bk_rng par s0 s1
  have py := bk_rng parr s0 (by omega)
  have g := glue_keep (S := fun u => (∃ d, d ∈ st :: E.map Ent.d ∧ u = (bk p d).toNat) ∨ ∃ e ∈ E, u = (bc 0 p + bk r e.d).toNat) ?_ hg
  · rcases g.mp (.inl ⟨st, List.mem_cons_self, by rw [ex]⟩) with ⟨d, hd, ed⟩ | ⟨e, he, eq⟩
    · have dr : 0 ≤ d ∧ d < p.length := by
        rcases mem_keys.mp hd with rfl | ⟨e, he, rfl⟩
        · exact ⟨s0, s1⟩
        · have := h.rng e he
          omega
      have := bk_rng par dr.1 dr.2
      omega
    · have := h.rng e he
      have := bk_rng parr (d := e.d) (by omega) (by omega)
      exact no e he (by omega)
  intro t ht
  obtain ⟨i, hi⟩ := List.mem_iff_getElem?.mp ht
  have il := (List.getElem?_eq_some_iff.mp hi).1
  rw [List.length_take, ties_len hl] at il
  rw [List.getElem?_take_of_lt (by omega)] at hi
  obtain ⟨u, hu⟩ := at_some (xs := p) (i := i) (by omega)
  obtain ⟨v, hv⟩ := at_some (xs := r) (i := i) (by omega)
  rw [ties_at hu hv] at hi
  obtain rfl := Option.some.inj hi
  have bu : bk p (i : Int) = u := bk_at (by rw [Int.toNat_natCast]; exact hu)
  have bv : bk r (i : Int) = v := bk_at (by rw [Int.toNat_natCast]; exact hv)
  have ru := bk_rng par (d := (i : Int)) (by omega) (by omega)
  have rv := bk_rng parr (d := (i : Int)) (by omega) (by omega)
  rw [bu] at ru
  rw [bv] at rv
  have iN : (i : Int) < N := by omega
  have all : ∀ (j : Nat) (w x : Int), (Qu [0] st E)[j]? = some (w, x) → bk (prt p r w) (i : Int) = bk (prt p r w) x → (i : Int) ∈ st :: E.map Ent.d := fun j w x hq hb =>
    full j (List.getElem?_eq_some_iff.mp hq).1 w x hq i (by omega) iN hb
  have ne_st : (i : Int) ≠ st := by omega
  have ent : (i : Int) ∈ st :: E.map Ent.d → ∃ e ∈ E, e.d = (i : Int) := fun hm => (mem_keys.mp hm).resolve_left ne_st
  have viaE : ∀ (k : Nat) (e : Ent), E[k]? = some e → ∀ w, w = 0 ∨ w = 1 → bk (prt p r w) (i : Int) = bk (prt p r w) e.d → e.s = 0 ∨ e.s = 1 → (i : Int) ∈ st :: E.map Ent.d := by
    intro k e he w hw hb hs
    obtain ⟨_, h2, h3⟩ := h.par k e he
    by_cases e1 : w = e.s
    · subst e1
      exact all _ _ _ h2 (hb.trans h3)
    · have e2 : w = 1 - e.s := by omega
      subst e2
      exact all _ _ _ (qu_ent he) hb
  have sides : ∀ (n k : Nat) (e : Ent), k < n → E[k]? = some e → e.s = 0 ∨ e.s = 1 := by
    intro n
    induction n with
    | zero => exact fun k e hk => absurd hk (Nat.not_lt_zero _)
    | succ n ih =>
      intro k e hk he
      obtain ⟨h1, h2, _⟩ := h.par k e he
      by_cases e0 : e.q < ([0] : List Int).length
      · obtain ⟨b, hb, hq⟩ := qu_base (st := st) (E := E) e0
        rw [hq] at h2
        have : b = e.s := (Prod.mk.inj (Option.some.inj h2)).1
        have q0 : e.q = 0 := by simpa using e0
        rw [q0] at hb
        exact .inl (this ▸ (Option.some.inj hb).symm)
      · have hql : e.q < (Qu [0] st E).length := (List.getElem?_eq_some_iff.mp h2).1
        rw [qu_len] at hql
        obtain ⟨e', he'⟩ := at_some (xs := E) (i := e.q - 1) (by simp at hql e0; omega)
        have := qu_ent (B := [0]) (st := st) he'
        rw [show ([0] : List Int).length + (e.q - 1) = e.q by simp at e0 ⊢; omega, h2] at this
        have hs : e.s = 1 - e'.s := (Prod.mk.inj (Option.some.inj this)).1
        have := ih (e.q - 1) e' (by simp at h1 e0; omega) he'
        omega
  show ((∃ d, d ∈ st :: E.map Ent.d ∧ u.toNat = (bk p d).toNat) ∨ ∃ e ∈ E, u.toNat = (bc 0 p + bk r e.d).toNat) ↔ ((∃ d, d ∈ st :: E.map Ent.d ∧ (bc 0 p + v).toNat = (bk p d).toNat) ∨ ∃ e ∈ E, (bc 0 p + v).toNat = (bc 0 p + bk r e.d).toNat)
  have drng : ∀ d, d ∈ st :: E.map Ent.d → 0 ≤ d ∧ d < p.length := fun d hd => by
    rcases mem_keys.mp hd with rfl | ⟨e, he, rfl⟩
    · exact ⟨s0, s1⟩
    · have := h.rng e he
      omega
  constructor
  · rintro (⟨d, hd, ed⟩ | ⟨e, he, eq⟩)
    · have := drng d hd
      have := bk_rng par this.1 this.2
      have eb : bk p (i : Int) = bk p d := by omega
      have im : (i : Int) ∈ st :: E.map Ent.d := by
        rcases mem_keys.mp hd with rfl | ⟨e, he, rfl⟩
        · refine all 0 0 d (by rfl) ?_
          exact eb
        · obtain ⟨k, hk⟩ := List.mem_iff_getElem?.mp he
          exact viaE k e hk 0 (.inl rfl) eb (sides (k + 1) k e (Nat.lt_succ_self _) hk)
      obtain ⟨e, he, ed⟩ := ent im
      exact .inr ⟨e, he, by rw [ed, bv]⟩
    · have := h.rng e he
      have := bk_rng parr (d := e.d) (by omega) (by omega)
      omega
  · rintro (⟨d, hd, ed⟩ | ⟨e, he, eq⟩)
    · have := drng d hd
      have := bk_rng par this.1 this.2
      omega
    · have := h.rng e he
      have := bk_rng parr (d := e.d) (by omega) (by omega)
      have eb : bk r (i : Int) = bk r e.d := by omega
      obtain ⟨k, hk⟩ := List.mem_iff_getElem?.mp he
      have im := viaE k e hk 1 (.inr rfl) eb (sides (k + 1) k e (Nat.lt_succ_self _) hk)
      exact .inl ⟨i, im, by rw [bu]⟩
theorem side01 (h : Bfs p r [0] st N E) : ∀ (n k : Nat) (e : Ent), k < n → E[k]? = some e → e.s = 0 ∨ e.s = 1 := by
  intro n
  induction n with
  | zero => exact fun k e hk => absurd hk (Nat.not_lt_zero _)
  | succ n ih =>
    intro k e hk he
    obtain ⟨h1, h2, _⟩ := h.par k e he
    by_cases e0 : e.q < ([0] : List Int).length
    · obtain ⟨b, hb, hq⟩ := qu_base (st := st) (E := E) e0
      rw [hq] at h2
      have : b = e.s := (Prod.mk.inj (Option.some.inj h2)).1
      have q0 : e.q = 0 := by simpa using e0
      rw [q0] at hb
      exact .inl (this ▸ (Option.some.inj hb).symm)
    · have hql : e.q < (Qu [0] st E).length := (List.getElem?_eq_some_iff.mp h2).1
      rw [qu_len] at hql
      obtain ⟨e', he'⟩ := at_some (xs := E) (i := e.q - 1) (by simp at hql e0; omega)
      have := qu_ent (B := [0]) (st := st) he'
      rw [show ([0] : List Int).length + (e.q - 1) = e.q by simp at e0 ⊢; omega, h2] at this
      have hs : e.s = 1 - e'.s := (Prod.mk.inj (Option.some.inj this)).1
      have := ih (e.q - 1) e' (by simp at h1 e0; omega) he'
      omega
/-- what is found hangs together with the first door's block -/
theorem found_glue (hl : p.length = r.length) (s0 : 0 ≤ st) (s1 : st < p.length) (hN : (N : Int) = st) (h : Bfs p r [0] st N E) : ∀ (n k : Nat) (e : Ent), k < n → E[k]? = some e → glue ((tiesOf p r).take N) (bk p st).toNat (bk p e.d).toNat := by
  have tie : ∀ d : Int, 0 ≤ d → d < N → glue ((tiesOf p r).take N) (bk p d).toNat (bc 0 p + bk r d).toNat := fun d d0 d1 => by
    refine glue_mem (t := ((bk p d).toNat, (bc 0 p + bk r d).toNat)) (List.mem_of_getElem? (i := d.toNat) ?_)
    rw [List.getElem?_take_of_lt (by omega)]
    exact ties_at (bk_some d0 (by omega)) (bk_some d0 (by omega))
  have G := glue_eqv ((tiesOf p r).take N)
  intro n
  induction n with
  | zero => exact fun k e hk => absurd hk (Nat.not_lt_zero _)
  | succ n ih =>
    intro k e hk he
    obtain ⟨h1, h2, h3⟩ := h.par k e he
    have er := h.rng e (List.mem_of_getElem? he)
    have pr : e.par = st ∧ e.s = 0 ∨ ∃ e', E[e.q - 1]? = some e' ∧ e.q - 1 < n ∧ e.par = e'.d := by
      by_cases e0 : e.q < ([0] : List Int).length
      · obtain ⟨b, hb, hq⟩ := qu_base (st := st) (E := E) e0
        rw [hq] at h2
        have q0 : e.q = 0 := by simpa using e0
        rw [q0] at hb
        have q1 : b = 0 := (Option.some.inj hb).symm
        exact .inl ⟨(Prod.mk.inj (Option.some.inj h2)).2.symm, (Prod.mk.inj (Option.some.inj h2)).1 ▸ q1⟩
      · have hql : e.q < (Qu [0] st E).length := (List.getElem?_eq_some_iff.mp h2).1
        rw [qu_len] at hql
        obtain ⟨e', he'⟩ := at_some (xs := E) (i := e.q - 1) (by simp at hql e0; omega)
        have := qu_ent (B := [0]) (st := st) he'
        rw [show ([0] : List Int).length + (e.q - 1) = e.q by simp at e0 ⊢; omega, h2] at this
        exact .inr ⟨e', he', by simp at h1 e0; omega, (Prod.mk.inj (Option.some.inj this)).2⟩
    rcases pr with ⟨e1, e2⟩ | ⟨e', he', hn, e1⟩
    · rw [e1, e2] at h3
      have h3' : bk p e.d = bk p st := h3
      rw [h3']
      exact G.refl _
    · have g := ih _ e' hn he'
      have er' := h.rng e' (List.mem_of_getElem? he')
      rw [e1] at h3
      rcases side01 h (k + 1) k e (Nat.lt_succ_self _) he with e2 | e2
      · rw [e2] at h3
        have h3' : bk p e.d = bk p e'.d := h3
        rw [h3']
        exact g
      · rw [e2] at h3
        have h3' : bk r e.d = bk r e'.d := h3
        refine G.trans _ _ _ g (G.trans _ _ _ (tie e'.d er'.1 er'.2) ?_)
        rw [← h3']
        exact G.symm _ _ (tie e.d er.1 er.2)
theorem ring_at (hl : p.length = r.length) (s0 : 0 ≤ st) (s1 : st < p.length) (hN : (N : Int) = st) (h : Bfs p r [0] st N E) {e : Ent} (he : e ∈ E) (hb : bk r e.d = bk r st) : RingAt p r st.toNat := by
  obtain ⟨k, hk⟩ := List.mem_iff_getElem?.mp he
  have er := h.rng e he
  refine ⟨bk p st, bk r st, bk_some s0 s1, bk_some s0 (by omega), ?_⟩
  have g := found_glue hl s0 s1 hN h (k + 1) k e (Nat.lt_succ_self _) hk
  have G := glue_eqv ((tiesOf p r).take N)
  rw [show st.toNat = N by omega]
  refine G.trans _ _ _ g ?_
  rw [← hb]
  refine glue_mem (t := ((bk p e.d).toNat, (bc 0 p + bk r e.d).toNat)) (List.mem_of_getElem? (i := e.d.toNat) ?_)
  rw [List.getElem?_take_of_lt (by omega)]
  exact ties_at (bk_some er.1 (by omega)) (bk_some er.1 (by omega))
/-- the way to the first one found with the first door's block of the other one is a ring -/
theorem ring_of (hl : p.length = r.length) (s0 : 0 ≤ st) (s1 : st < p.length) (hN : (N : Int) = st) (h : Bfs p r [0] st N E) {k : Nat} {e : Ent} (he : E[k]? = some e) (hb : bk r e.d = bk r st)
    (first : ∀ k' e', k' < k → E[k']? = some e' → bk r e'.d ≠ bk r st) {ks : List Nat} (hp : Path 1 E ks) (hlast : ks.getLast? = some (1 + k)) :
    IsRing p r (ks.map (dr [0] st E)) ∧ (ks.map (dr [0] st E))[0]? = some st ∧ ∀ d ∈ ks.map (dr [0] st E), d ≤ st := by
  obtain ⟨up, bd, nxt⟩ := path_next (B := [0]) h hp
  obtain ⟨ne, hl1⟩ := last_at hlast
  have hpos := List.length_pos_iff.mpr ne
  have z0 : ∀ j : Nat, j < 1 → j = 0 := fun j hj => by omega
  have q0 : (Qu [0] st E)[0]? = some (0, st) := rfl
  -- the first place
  have h0 : ks[0]? = some 0 := by
    clear hlast hl1 first
    induction hp with
    | base hj => rw [z0 _ hj]; rfl
    | @step k e ks he hks hl2 ih =>
      obtain ⟨ne2, _⟩ := last_at hl2
      obtain ⟨a, b, c⟩ := path_next (B := [0]) h hks
      rw [List.getElem?_append_left (List.length_pos_iff.mpr ne2)]
      exact ih a b c ne2 (List.length_pos_iff.mpr ne2)
  have flag : ∀ (i x : Nat), ks[i]? = some x → fl [0] st E x = ((i % 2 : Nat) : Int) := by
    intro i
    induction i with
    | zero =>
      intro x hx
      rw [h0] at hx
      obtain rfl := Option.some.inj hx
      rfl
    | succ i ih =>
      intro y hy
      obtain ⟨x, hx⟩ := at_some (xs := ks) (i := i) (by have := (List.getElem?_eq_some_iff.mp hy).1; omega)
      have := ih x hx
      rw [(nxt i x y hx hy).turn, this]
      omega
  have place : ∀ (i x : Nat), ks[i]? = some x → (x = 0 ∧ dr [0] st E x = st) ∨ ∃ k' e', x = 1 + k' ∧ E[k']? = some e' ∧ dr [0] st E x = e'.d ∧ k' ≤ k ∧ (i + 1 < ks.length → k' < k) := by
    intro i x hx
    by_cases e0 : x = 0
    · exact .inl ⟨e0, by rw [e0]; rfl⟩
    · have hxl := bd x (List.mem_of_getElem? hx)
      rw [qu_len] at hxl
      obtain ⟨e', he'⟩ := at_some (xs := E) (i := x - 1) (by simp at hxl; omega)
      have hq := qu_ent (B := [0]) (st := st) he'
      rw [show ([0] : List Int).length + (x - 1) = x by simp; omega] at hq
      have ilt := (List.getElem?_eq_some_iff.mp hx).1
      have : x ≤ 1 + k ∧ (i + 1 < ks.length → x < 1 + k) := by
        by_cases e2 : i = ks.length - 1
        · rw [e2, hl1] at hx
          have := Option.some.inj hx
          omega
        · have := up i (ks.length - 1) x (1 + k) (by omega) hx hl1
          omega
      exact .inr ⟨x - 1, e', by omega, he', (qu_at hq).1, by omega, by omega⟩
  have qk := qu_ent (B := [0]) (st := st) he
  have dk : dr [0] st E (1 + k) = e.d := (qu_at (j := 1 + k) qk).1
  -- its number of doors is even
  have even : ks.length % 2 = 0 := by
    apply Classical.byContradiction
    intro ho
    have l2 : 2 ≤ ks.length - 1 := by
      have : ks.length ≠ 1 := fun e1 => by
        rw [e1] at hl1
        rw [show (1 - 1 : Nat) = 0 from rfl, h0] at hl1
        have := Option.some.inj hl1
        omega
      omega
    obtain ⟨x, hx⟩ := at_some (xs := ks) (i := ks.length - 2) (by omega)
    have hn := (nxt (ks.length - 2) x (1 + k) hx (by rw [show ks.length - 2 + 1 = ks.length - 1 by omega]; exact hl1)).blk
    have fx := flag _ x hx
    rw [show ((ks.length - 2) % 2) = 1 by omega] at fx
    rw [fx, dk] at hn
    have hn' : bk r e.d = bk r (dr [0] st E x) := hn
    rcases place _ x hx with ⟨rfl, _⟩ | ⟨k', e', rfl, he', d', _, lt⟩
    · have : fl [0] st E 0 = 0 := rfl
      omega
    · rw [d'] at hn'
      exact first k' e' (lt (by omega)) he' (hn'.symm.trans hb)
  have drr : ∀ d ∈ ks.map (dr [0] st E), 0 ≤ d ∧ d ≤ st := by
    intro d hd
    obtain ⟨x, hx, rfl⟩ := List.mem_map.mp hd
    obtain ⟨i, hi⟩ := List.mem_iff_getElem?.mp hx
    rcases place i x hi with ⟨_, e1⟩ | ⟨k', e', _, he', e1, _⟩
    · rw [e1]
      omega
    · rw [e1]
      have := h.rng e' (List.mem_of_getElem? he')
      omega
  have low : ∀ (i x y : Nat), i % 2 = 0 → ks[i]? = some x → ks[i + 1]? = some y → bk p (dr [0] st E y) = bk p (dr [0] st E x) := fun i x y hi hx hy => by
    have := (nxt i x y hx hy).blk
    rw [flag i x hx, hi] at this
    exact this
  have high : ∀ (i x y : Nat), i % 2 = 1 → ks[i]? = some x → ks[i + 1]? = some y → bk r (dr [0] st E y) = bk r (dr [0] st E x) := fun i x y hi hx hy => by
    have := (nxt i x y hx hy).blk
    rw [flag i x hx, hi] at this
    exact this
  have mapd : ∀ {i x : Nat}, ks[i]? = some x → (ks.map (dr [0] st E))[i]? = some (dr [0] st E x) := fun hx => at_map hx
  have ml : (ks.map (dr [0] st E)).length = ks.length := List.length_map ..
  have mne : ks.map (dr [0] st E) ≠ [] := by
    intro e1
    rw [e1] at ml
    simp at ml
    omega
  have pw : ∀ {l : List Int}, (∀ (i j : Nat) (u v : Int), i < j → l[i]? = some u → l[j]? = some v → u ≠ v) → l.Nodup := by
    intro l hh
    refine List.pairwise_iff_getElem.mpr fun i j hi hj hij => ?_
    exact hh i j _ _ hij (List.getElem?_eq_getElem hi) (List.getElem?_eq_getElem hj)
  refine ⟨⟨mne, by rw [ml]; exact even, fun d hd => ?_, ?_, ?_, ?_, ?_, ?_⟩, ?_, fun d hd => (drr d hd).2⟩
  · have := drr d hd
    omega
  · refine pw fun i j u v hij hu hv => ?_
    obtain ⟨x, hx, rfl⟩ := map_at hu
    obtain ⟨y, hy, rfl⟩ := map_at hv
    have lt := up i j x y hij hx hy
    intro e1
    have mem : ∀ (z x' : Nat), ks[x']? = some z → (st :: E.map Ent.d)[z]? = some (dr [0] st E z) := by
      intro z x' hz
      rcases place x' z hz with ⟨rfl, e2⟩ | ⟨k', e', rfl, he', e2, _⟩
      · rfl
      · rw [Nat.add_comm, List.getElem?_cons_succ, Nat.add_comm, e2]
        exact at_map (f := Ent.d) he'
    have h1 := mem x i hx
    have h2 := mem y j hy
    have l1 := (List.getElem?_eq_some_iff.mp h1)
    have l2 := (List.getElem?_eq_some_iff.mp h2)
    have := List.pairwise_iff_getElem.mp h.keys x y l1.1 l2.1 lt
    rw [l1.2, l2.2] at this
    exact this e1
  · refine pw fun i j u v hij hu hv => ?_
    rw [ev_at, List.map_map] at hu hv
    obtain ⟨x, hx, rfl⟩ := map_at hu
    obtain ⟨y, hy, rfl⟩ := map_at hv
    have jl := (List.getElem?_eq_some_iff.mp hy).1
    obtain ⟨z, hz⟩ := at_some (xs := ks) (i := 2 * j + 1) (by omega)
    have n1 := nxt (2 * j) y z hy hz
    have b1 := low (2 * j) y z (by omega) hy hz
    have f1 := n1.far (2 * i) x (by omega) hx
    rw [flag _ x hx, show 2 * i % 2 = 0 by omega] at f1
    have f1' : bk p (dr [0] st E z) ≠ bk p (dr [0] st E x) := f1
    exact fun e1 => f1' (b1.trans (Eq.symm e1))
  · refine pw fun i j u v hij hu hv => ?_
    rw [ev_at] at hu hv
    obtain ⟨x, hx, rfl⟩ := map_at hu
    obtain ⟨y, hy, rfl⟩ := map_at hv
    have jl := (List.getElem?_eq_some_iff.mp hy).1
    rw [rot_len, ml] at jl
    rw [rot_at mne, ml, if_pos (by omega)] at hx hy
    obtain ⟨x, hx', rfl⟩ := map_at hx
    obtain ⟨y, hy', rfl⟩ := map_at hy
    clear hx hy
    have hx := hx'
    have hy := hy'
    clear hx' hy'
    by_cases e1 : 2 * j + 1 + 1 < ks.length
    · obtain ⟨z, hz⟩ := at_some e1
      have n1 := nxt (2 * j + 1) y z hy hz
      have b1 := high (2 * j + 1) y z (by omega) hy hz
      have f1 := n1.far (2 * i + 1) x (by omega) hx
      rw [flag _ x hx, show (2 * i + 1) % 2 = 1 by omega] at f1
      have f1' : bk r (dr [0] st E z) ≠ bk r (dr [0] st E x) := f1
      exact fun e1 => f1' (b1.trans (Eq.symm e1))
    · have : 2 * j + 1 = ks.length - 1 := by omega
      rw [this, hl1] at hy
      obtain rfl := Option.some.inj hy
      rw [dk, hb]
      rcases place _ x hx with ⟨rfl, _⟩ | ⟨k', e', rfl, he', d', _, lt⟩
      · have := flag _ 0 hx
        rw [show (2 * i + 1) % 2 = 1 by omega] at this
        have : fl [0] st E 0 = 0 := rfl
        omega
      · rw [d']
        exact first k' e' (lt (by omega)) he'
  · rw [twos_at]
    intro i
    rw [List.map_map]
    by_cases hi : 2 * i < ks.length
    · obtain ⟨x, hx⟩ := at_some hi
      obtain ⟨y, hy⟩ := at_some (xs := ks) (i := 2 * i + 1) (by omega)
      rw [at_map hx, at_map hy]
      exact congrArg some (low (2 * i) x y (by omega) hx hy).symm
    · rw [List.getElem?_eq_none (by rw [List.length_map]; omega), List.getElem?_eq_none (by rw [List.length_map]; omega)]
  · rw [twos_at]
    intro i
    by_cases hi : 2 * i < ks.length
    · obtain ⟨x, hx⟩ := at_some (xs := ks) (i := 2 * i + 1) (by omega)
      have ea : (rot (ks.map (dr [0] st E)))[2 * i]? = some (dr [0] st E x) := by
        rw [rot_at mne, ml, if_pos (by omega), mapd hx]
      rw [at_map ea]
      by_cases e1 : 2 * i + 1 + 1 < ks.length
      · obtain ⟨y, hy⟩ := at_some e1
        have eb : (rot (ks.map (dr [0] st E)))[2 * i + 1]? = some (dr [0] st E y) := by
          rw [rot_at mne, ml, if_pos (by omega), mapd hy]
        rw [at_map eb, high (2 * i + 1) x y (by omega) hx hy]
      · have : 2 * i + 1 = ks.length - 1 := by omega
        have eb : (rot (ks.map (dr [0] st E)))[2 * i + 1]? = some st := by
          rw [rot_at mne, ml, if_neg (by omega), if_pos (by omega), mapd h0]
          rfl
        rw [this, hl1] at hx
        obtain rfl := Option.some.inj hx
        rw [at_map eb, dk, hb]
    · rw [List.getElem?_eq_none (by rw [List.length_map, rot_len, ml]; omega), List.getElem?_eq_none (by rw [List.length_map, rot_len, ml]; omega)]
  · rw [mapd h0]
    rfl
end
end KQ
namespace KQ
open PySem PySem.Spec PyProof.Rows L2 KR KM StX
theorem flag01 {p r B : List Int} {st : Int} {N : Nat} {E : List Ent} (hB : ∀ b ∈ B, b = 0 ∨ b = 1) (h : Bfs p r B st N E) : ∀ (n j : Nat) (w x : Int), j < n → (Qu B st E)[j]? = some (w, x) → (w = 0 ∨ w = 1) ∧ (x = st ∨ (0 ≤ x ∧ x < N)) := by
  intro n
  induction n with
  | zero => exact fun j w x hj => absurd hj (Nat.not_lt_zero _)
  | succ n ih =>
    intro j w x hj hq
    by_cases e0 : j < B.length
    · obtain ⟨b, hb, hq2⟩ := qu_base (st := st) (E := E) e0
      rw [hq2] at hq
      obtain ⟨rfl, rfl⟩ := Prod.mk.inj (Option.some.inj hq)
      exact ⟨hB _ (List.mem_of_getElem? hb), .inl rfl⟩
    · have hl := (List.getElem?_eq_some_iff.mp hq).1
      rw [qu_len] at hl
      obtain ⟨e, he⟩ := at_some (xs := E) (i := j - B.length) (by omega)
      have hq2 := qu_ent (B := B) (st := st) he
      rw [show B.length + (j - B.length) = j by omega, hq] at hq2
      obtain ⟨rfl, rfl⟩ := Prod.mk.inj (Option.some.inj hq2)
      obtain ⟨h1, h2, _⟩ := h.par _ e he
      have := ih e.q _ _ (by omega) h2
      have r := h.rng e (List.mem_of_getElem? he)
      exact ⟨by omega, .inr r⟩
theorem kvs_val {p r B : List Int} {st : Int} {N : Nat} {E : List Ent} (h : Bfs p r B st N E) (d : Int) : (d ∈ st :: E.map Ent.d → ∃ v, valV (kvsOf st E) (kI d) = some v) ∧ (d ∉ st :: E.map Ent.d → valV (kvsOf st E) (kI d) = none) := by
  constructor
  · intro hd
    rcases mem_keys.mp hd with rfl | ⟨e, he, rfl⟩
    · exact ⟨_, val_start⟩
    · obtain ⟨k, hk⟩ := List.mem_iff_getElem?.mp he
      exact ⟨_, val_ent h.keys hk⟩
  · intro hd
    unfold valV kvsOf
    rw [List.find?_eq_none.mpr]
    · rfl
    · intro kv hkv
      rw [decide_eq_true_eq]
      intro e
      rcases List.mem_cons.mp hkv with rfl | hm
      · exact hd (mem_keys.mpr (.inl (kI_inj _ _ e).symm))
      · obtain ⟨f, hf, rfl⟩ := List.mem_map.mp hm
        exact hd (mem_keys.mpr (.inr ⟨f, hf, kI_inj _ _ e⟩))
theorem kvs_put {st : Int} {E : List Ent} {d w x : Int} {a : Nat} (hd : d ∉ st :: E.map Ent.d) : putK (kvsOf st E) (kI d) (V.int x) = kvsOf st (E ++ [⟨d, w, x, a⟩]) := by
  have hn : ((kvsOf st E).any fun kv => decide (kv.1 = kI d)) = false := by
    rw [List.any_eq_false]
    intro kv hkv
    rw [decide_eq_true_eq]
    intro e
    rcases List.mem_cons.mp hkv with rfl | hm
    · exact hd (mem_keys.mpr (.inl (kI_inj _ _ e).symm))
    · obtain ⟨f, hf, rfl⟩ := List.mem_map.mp hm
      exact hd (mem_keys.mpr (.inr ⟨f, hf, kI_inj _ _ e⟩))
  unfold putK
  rw [hn]
  simp [kvsOf]
theorem pairs_mono {H H' : Hp} {ts : List Addr} {xs : List (Int × Int)} (h : PairsAt H ts xs) (k : ∀ c vs, H c = some (.tup vs) → H' c = some (.tup vs)) : PairsAt H' ts xs :=
  ⟨h.1, fun i t ht => by
    obtain ⟨x, hx, e⟩ := h.2 i t ht
    exact ⟨x, hx, k _ _ e⟩⟩
theorem pairs_snoc {H : Hp} {ts : List Addr} {xs : List (Int × Int)} (h : PairsAt H ts xs) {t : Addr} {x : Int × Int} (e : H t = some (.tup [.int x.1, .int x.2])) : PairsAt H (ts ++ [t]) (xs ++ [x]) := by
  refine ⟨by rw [List.length_append, List.length_append, h.1]; rfl, fun i u hu => ?_⟩
  by_cases hi : i < ts.length
  · rw [List.getElem?_append_left hi] at hu
    obtain ⟨y, hy, e2⟩ := h.2 i u hu
    exact ⟨y, by rw [List.getElem?_append_left (by rw [← h.1]; exact hi)]; exact hy, e2⟩
  · have := (List.getElem?_eq_some_iff.mp hu).1
    rw [List.length_append, List.length_singleton] at this
    have ei : i = ts.length := by omega
    subst ei
    rw [List.getElem?_append_right (Nat.le_refl _), Nat.sub_self] at hu
    obtain rfl := Option.some.inj hu
    refine ⟨x, ?_, e⟩
    rw [h.1, List.getElem?_append_right (Nat.le_refl _), Nat.sub_self]
    rfl
theorem pairs_at {H : Hp} {ts : List Addr} {xs : List (Int × Int)} (h : PairsAt H ts xs) {i : Nat} (hi : i < xs.length) : ∃ t w x, ts[i]? = some t ∧ xs[i]? = some (w, x) ∧ H t = some (.tup [.int w, .int x]) := by
  obtain ⟨t, ht⟩ := at_some (xs := ts) (i := i) (by rw [h.1]; exact hi)
  obtain ⟨⟨w, x⟩, hx, e⟩ := h.2 i t ht
  exact ⟨t, w, x, ht, hx, e⟩
section
variable {P : Program} {w : World} {K : PySem.W.Frag} {mg : Str → Option Value} {base : Heap}
def spAhead : Sp := fun vs H Q _ => ∃ (pa a b da ba : Addr) (p r B : List Int) (st : Int) (N : Nat), vs = [.ref pa, .int st, .ref da, .ref ba] ∧ H pa = some (.tup [.ref a, .ref b]) ∧ TI H a p ∧ TI H b r ∧ p.length = r.length ∧ N ≤ p.length ∧
  p.length ≤ 60 ∧ 0 ≤ st ∧ st < p.length ∧ H da = some (.lst (hv (List.range N))) ∧ TI H ba B ∧ (∀ b ∈ B, b = 0 ∨ b = 1) ∧ B.length ≤ 2 ∧
  ∀ H' t E, Same H H' → H t = none → H' t = some (.dK (kvsOf st E)) → Bfs p r B st N E → (∀ j, j < (Qu B st E).length → FullTo p r B st E j N) → Q (.ref t) H'
end
end KQ
/-! slices with steps; a walk over a locked dict's keys; a tuple turned about -/
namespace KR
open PySem PySem.Spec PyProof.Rows L2 KM KQ
/-! ### xs[lo:hi:step] of a list -/
def pickV (xs : List V) (lo hi st : Option Int) : List V := (sliceRange (sliceBounds lo hi st xs.length).1 (sliceBounds lo hi st xs.length).2.1 (sliceBounds lo hi st xs.length).2.2).filterMap (xs[·]?)
theorem vals_pick {xs : List V} {us : List Value} (r : Vals xs us) : ∀ is : List Nat, Vals (is.filterMap (xs[·]?)) (is.filterMap (us[·]?))
  | [] => .nil
  | i :: is => by
    rw [List.filterMap_cons, List.filterMap_cons]
    have ih := vals_pick r is
    cases hx : xs[i]? with
    | none =>
      have : us[i]? = none := by
        rw [List.getElem?_eq_none_iff] at hx ⊢
        rw [← r.length]
        exact hx
      rw [this]
      exact ih
    | some x =>
      obtain ⟨u, hu, ru⟩ := r.get hx
      rw [hu]
      exact .cons ru ih
section
variable {X : Cx} {K : PySem.W.Frag}
def tStep (K : PySem.W.Frag) (te : TE) (tl th tst : TO) : TE := fun σ H Q => te σ H fun x H1 => tl σ H1 fun l H2 => th σ H2 fun u H3 => tst σ H3 fun o H4 => ∃ a xs, x = .ref a ∧ SqL K H4 a xs ∧ o ≠ some 0 ∧ ∀ p, H4 p = none → Q (.ref p) (upd H4 p (.lst (pickV xs l u o)))
theorem pe_stepL {e : Expr} {te : TE} {lo hi st : Option Expr} {tl th tst : TO} {p3 pos : Pos} (hK : X.K = K) (he : PE X e te) (hl : PO X lo tl) (hu : PO X hi th) (hst : PO X st tst)
    (hop : ∀ a b : Addr, ∃ ops, subscripted (.Slice lo hi st p3) false (.ref a) (.ref b) = operate ops (getItem (.ref a) (.ref b))) : PE X (.Subscript e (.Slice lo hi st p3) pos) (tStep K te tl th tst) := by
  subst hK
  refine ⟨fun pins s σ H Q I h => ?_⟩
  refine Subscript_ (thn (he.run pins s σ H _ I h) fun v s1 ⟨x, H1, I1, r1, q1⟩ => ?_)
  refine wpAny_Slice (thn (hl.run pins s1 σ H1 _ I1 q1) fun vl s2 ⟨l, H2, I2, pl, q2⟩ => ?_)
  refine thn (hu.run pins s2 σ H2 _ I2 q2) fun vu s3 ⟨u, H3, I3, pu, q3⟩ => ?_
  refine thn (hst.run pins s3 σ H3 _ I3 q3) fun vs s4 ⟨o, H4, I4, ps, q4⟩ => ?_
  obtain ⟨a, xs, ex, hx, h0, q⟩ := q4
  subst ex
  cases r1
  have I5 : Inv X pins σ H4 { s4 with heap := s4.heap.push { cls := .type "slice", data := .fields #[vl, vu, vs] } } := I4.kept (t' := s4.toks) fun b ob q => Heap.get?_push_of_some _ q
  obtain ⟨its, r, ht, hz⟩ := I5.list hx
  have hlen := r.length
  show wpAny (model X.prog X.w) X.A (subscriptTail e (.Slice lo hi st p3) (.ref a) (.ref s4.heap.objs.size)) (EP X pins σ Q) X.xe { s4 with heap := s4.heap.push { cls := .type "slice", data := .fields #[vl, vu, vs] } }
  obtain ⟨ops, hops⟩ := hop a s4.heap.objs.size
  refine tail_any (ops := ops) ht.isList.typeIs (PySem.slot_list_getitem.lookup) ?_ hops
  have sz : (slicePick its.toArray l u o).size ≤ its.toArray.size := slicePick_size_le _ _ _ _
  refine wpAny_getItem_list_slice ht.isList (Heap.IsSliceOf.new _ vl vu vs) pl pu ps h0 ?_ (by rw [List.size_toArray]; omega)
  have e : slicePick its.toArray l u o = ((sliceRange (sliceBounds l u o xs.length).1 (sliceBounds l u o xs.length).2.1 (sliceBounds l u o xs.length).2.2).filterMap (its[·]?)).toArray := by
    unfold slicePick
    rw [List.size_toArray, ← hlen]
    congr 1
    refine congrArg (fun f => List.filterMap f _) (funext fun i => ?_)
    simp
  have vp := vals_pick r (sliceRange (sliceBounds l u o xs.length).1 (sliceBounds l u o xs.length).2.1 (sliceBounds l u o xs.length).2.2)
  rw [e] at sz ⊢
  refine ⟨.ref _, _, I5.laid (t' := s4.toks) (o := .lst (pickV xs l u o)) (fun b ob q => Heap.get?_push_of_some _ q) (Nat.le_refl _) ?_, rfl, q _ (I5.hok.fresh (Nat.le_refl _))⟩
  refine ⟨?_, _, 0, vp, Heap.get?_push_size _ rfl⟩
  have := vp.length
  rw [List.size_toArray, List.size_toArray] at sz
  unfold pickV
  omega
/-! ### t[::-1] of a tuple -/
theorem fm_congr {α β : Type} {f g : α → Option β} : ∀ {l : List α}, (∀ x ∈ l, f x = g x) → l.filterMap f = l.filterMap g
  | [], _ => rfl
  | a :: l, h => by
    rw [List.filterMap_cons, List.filterMap_cons, h a List.mem_cons_self, fm_congr fun x hx => h x (List.mem_cons_of_mem _ hx)]
theorem getItem_tuple_rev {prog : Program} {w : World} {A : Around} {E : Value → Shared → Prop} {s : Shared} {t sl : Addr} {items : Array Value} {tk : Tok} {Q : Value → Shared → Prop} (ht : IsTup s.heap t items) (hs : s.heap.IsSliceOf sl .none .none (.int (-1) tk))
    (h : Q (.ref s.heap.objs.size) { s with heap := s.heap.push { cls := .type "tuple", data := .seq items.toList.reverse.toArray } })
    (hsz : items.size ≤ sizeLine) : wpAny (model prog w) A (getItem (.ref t) (.ref sl)) Q E s := by
  have htake : sizeOk (.seq items.toList.reverse.toArray) := by
    show items.toList.reverse.toArray.size ≤ sizeLine
    rw [List.size_toArray, List.length_reverse, Array.length_toList]
    exact hsz
  obtain ⟨os, hos, hcs, hds⟩ := id hs
  have hTs : s.TypeIs (.ref sl) "slice" := ⟨os, hos, hcs⟩
  unfold getItem
  try with_reducible refine wpAny_holding ?_
  first | refine wpAny_bind (wpAny_pure ?_) | skip
  refine wpAny_bind (wpAny_sequenceKey ht.typeIs (by decide) ?_)
  refine wpAny_bind (wpAny_callSpecial?_slot (name := Str.ofString "__getitem__") ht.typeIs PyProof.Rows.slot_tuple_getitem
    (wpAny_call_entry PyProof.Rows.slot_tuple_getitem ht.typeIs entry_tuple_getitem ?_ (args_tuple_getitem _ _)))
  show wpAny _ _ (Builtin.Tuple.tupleItemsOf (.ref t) >>= _) _ _ s
  refine wpAny_bind (tupleItemsOf_ ht ?_)
  refine wpAny_bind (wpAny_typeOf hTs ?_)
  rw [if_pos (by decide)]
  have ap : ∀ {A : Around} {E : Value → Shared → Prop} {Q2 : Int × Int × Nat → Shared → Prop}, Q2 ((items.size : Int) - 1, -1, items.size) s → wpAny (model prog w) A (Builtin.Slice.sliceApplied (.ref sl) (pure (items.size : Int))) Q2 E s := by
    intro A E Q2 h2
    unfold Builtin.Slice.sliceApplied Builtin.Slice.sliceFields
    refine wpAny_bind (wpAny_bind (wpAny_field hos hds (x := .none) rfl (wpAny_bind (wpAny_field hos hds (x := .none) rfl (wpAny_bind (wpAny_field hos hds (x := .int (-1) tk) rfl (wpAny_pure ?_)))))))
    refine wpAny_bind (slicePart_int ?_)
    show wpAny _ _ (if ((-1 : Int) == 0) = true then _ else _) _ _ s
    rw [if_neg (by decide)]
    refine wpAny_bind (slicePart_none (wpAny_bind (slicePart_none (wpAny_bind (wpAny_pure ?_)))))
    show wpAny _ _ (pure ((items.size : Int) - 1, (-1 : Int), Builtin.Slice.slicePlaces ((items.size : Int) - 1) (-1) (-1))) _ _ s
    have e : Builtin.Slice.slicePlaces ((items.size : Int) - 1) (-1) (-1) = items.size := by
      unfold Builtin.Slice.slicePlaces
      rw [if_neg (by decide)]
      by_cases hp : (items.size : Int) - 1 > -1
      · rw [if_pos hp, show (- -1 : Int) = 1 by decide, Int.ediv_one]
        omega
      · rw [if_neg hp]
        omega
    rw [e]
    exact wpAny_pure h2
  refine wpAny_bind (ap ?_)
  have hno : ¬ ((((items.size : Int) - 1) == 0 && (-1 : Int) == 1 && items.size == items.size) = true) := by
    rw [show ((-1 : Int) == 1) = false from rfl, Bool.and_false, Bool.false_and]
    exact Bool.false_ne_true
  show wpAny _ _ (if (((items.size : Int) - 1) == 0 && (-1 : Int) == 1 && items.size == items.size) = true then _ else _) _ _ s
  rw [if_neg hno]
  have ep : ((List.range items.size).filterMap fun (k : Nat) => items[((items.size : Int) - 1 + (k : Int) * -1).toNat]?).toArray = items.toList.reverse.toArray := by
    have h1 := PySem.W.krv_all items
    have h2 := PySem.W.krv_range items.size
    rw [← h1, ← List.filterMap_reverse, ← h2, List.filterMap_map]
    congr 1
    refine fm_congr fun k hk => ?_
    have := List.mem_range.mp hk
    show items[((items.size : Int) - 1 + (k : Int) * -1).toNat]? = items[items.size - 1 - k]?
    rw [show ((items.size : Int) - 1 + (k : Int) * -1).toNat = items.size - 1 - k by omega]
  rw [ep]
  first
    | exact wpAny_bind (m := Builtin.Tuple.tupleExact _) (wpAny_newObj_type (wpAny_pure ⟨_, rfl, wpAny_pure h⟩) htake)
    | exact wpAny_bind (m := Builtin.Tuple.tupleExact _) (wpAny_newObj_type (wpAny_bind (wpAny_pure (wpAny_pure ⟨_, rfl, wpAny_pure h⟩))) htake)
    | exact wpAny_bind (wpAny_bind (m := Builtin.Tuple.tupleExact _) (wpAny_newObj_type (wpAny_pure (wpAny_pure ⟨_, rfl, wpAny_pure h⟩)) htake))
    | exact wpAny_bind (wpAny_bind (m := Builtin.Tuple.tupleExact _) (wpAny_newObj_type (wpAny_pure ⟨_, rfl, wpAny_pure h⟩) htake))
def tRevT (K : PySem.W.Frag) (te : TE) : TE := fun σ H Q => te σ H fun x H1 => ∃ a xs, x = .ref a ∧ SqT K H1 a xs ∧ ∀ p, H1 p = none → Q (.ref p) (upd H1 p (.tup xs.reverse))
theorem pe_revT {e : Expr} {te : TE} {k : Nat} {p1 p2 p3 pos : Pos} (hK : X.K = K) (he : PE X e te) : PE X (.Subscript e (.Slice none none (some (.UnaryOp .USub (.Constant (.int 1) k p1) p2)) p3) pos) (tRevT K te) := by
  subst hK
  refine ⟨fun pins s σ H Q I h => ?_⟩
  refine Subscript_ (thn (he.run pins s σ H _ I h) fun v s1 ⟨x, H1, I1, r1, q1⟩ => ?_)
  obtain ⟨a, xs, ex, hx, q⟩ := q1
  subst ex
  cases r1
  have hst : PO X (some (.UnaryOp .USub (.Constant (.int 1) k p1) p2)) (tPart (tUn (rU fun i => .int (-i)) (tC (.int 1)))) := po_some (pe_un un_neg pe_int)
  refine wpAny_Slice ?_
  rw [evalPart_none]
  refine wpAny_pure (wpAny_pure ?_)
  refine thn (hst.run pins s1 σ H1 (fun o H4 => o = some (-1) ∧ H4 = H1) I1 ⟨1, rfl, -1, rfl, rfl, rfl⟩) fun vs s4 ⟨o, H4, I4, ps, eo, e4⟩ => ?_
  subst eo e4
  obtain ⟨tk, rfl⟩ : ∃ tk, vs = .int (-1) tk := by
    cases ps
    exact ⟨_, rfl⟩
  have I5 : Inv X pins σ H4 { s4 with heap := s4.heap.push { cls := .type "slice", data := .fields #[.none, .none, .int (-1) tk] } } := I4.kept (t' := s4.toks) fun b ob q => Heap.get?_push_of_some _ q
  obtain ⟨its, r, ht, hz⟩ := I5.tuple hx
  have hlen := r.length
  show wpAny (model X.prog X.w) X.A (subscriptTail e (.Slice none none (some (.UnaryOp .USub (.Constant (.int 1) k p1) p2)) p3) (.ref a) (.ref s4.heap.objs.size)) (EP X pins σ Q) X.xe { s4 with heap := s4.heap.push { cls := .type "slice", data := .fields #[.none, .none, .int (-1) tk] } }
  refine tail_any (ops := [.ref a, .ref s4.heap.objs.size]) ht.typeIs (PyProof.Rows.slot_tuple_getitem.lookup) ?_ (by with_unfolding_all rfl)
  refine getItem_tuple_rev ht (Heap.IsSliceOf.new _ _ _ _) ?_ (by rw [List.size_toArray]; omega)
  refine ⟨.ref _, _, I5.laid (t' := s4.toks) (o := .tup xs.reverse) (fun b ob q => Heap.get?_push_of_some _ q) (Nat.le_refl _) ?_, rfl, q _ (I5.hok.fresh (Nat.le_refl _))⟩
  exact ⟨by rw [List.length_reverse]; exact hz, _, r.reverse, IsTup.new _ _⟩
end
/-! ### a walk over a locked dict's keys -/
theorem for_keys {d : Addr} {o : Obj} {kvs : List (L2.Key × V)} {g : TG} {tb : TS} {D : Ends} {σ : L2.St} {H : Hp} (Pv : Nat → L2.St → Hp → Prop) (h0 : Pv 0 σ H) (hl : ∀ i σ H, i ≤ kvs.length → Pv i σ H → H d = some (.frz o (.dK kvs)))
    (hs : ∀ i k v σ H, kvs[i]? = some (k, v) → Pv i σ H → g (kV k) σ H fun σ2 H2 => tb { D with nx := Pv (i + 1), ct := Pv (i + 1), bk := D.nx } σ2 H2) (hd : ∀ σ H, Pv kvs.length σ H → D.nx σ H) :
    ∃ W : Nat → Nat → L2.St → Hp → Prop, (∃ m, W 0 m σ H) ∧ ∀ i m σ H, W i m σ H →
      ((Itk d o kvs).stop i H ∧ D.nx σ H) ∨ ((Itk d o kvs).go i H ∧ ∃ N : L2.St → Hp → Prop, (∀ σ' H', N σ' H' → ∃ m', m' < m ∧ W (i + 1) m' σ' H') ∧ ∀ x H', (Itk d o kvs).yld i H x H' → g x σ H' fun σ2 H2 => tb { D with nx := N, ct := N, bk := D.nx } σ2 H2) := by
  refine ⟨fun i m σ H => m = kvs.length - i ∧ i ≤ kvs.length ∧ Pv i σ H, ⟨kvs.length, by simp, Nat.zero_le _, h0⟩, ?_⟩
  rintro i m σ H ⟨rfl, hi, p⟩
  have q := hl i σ H hi p
  by_cases hlt : i < kvs.length
  · refine .inr ⟨⟨q, hlt⟩, Pv (i + 1), fun σ' H' p' => ⟨kvs.length - (i + 1), by omega, rfl, hlt, p'⟩, fun x H' y => ?_⟩
    obtain ⟨e, k, v, hk, rfl⟩ := y
    subst e
    exact hs i k v σ _ hk p
  · have e : i = kvs.length := by omega
    subst e
    exact .inl ⟨⟨q, Nat.le_refl _⟩, hd σ H p⟩
/-! ### every second one -/
theorem pick_ev : ∀ xs : List V, (List.range ((xs.length + 1) / 2)).filterMap (fun k => xs[2 * k]?) = ev xs
  | [] => rfl
  | [a] => by
    rw [show ([a].length + 1) / 2 = 1 by rw [List.length_singleton]]
    rfl
  | a :: b :: r => by
    rw [show ((a :: b :: r).length + 1) / 2 = (r.length + 1) / 2 + 1 by rw [List.length_cons, List.length_cons]; omega, List.range_succ_eq_map, List.filterMap_cons, List.filterMap_map]
    show a :: _ = a :: ev r
    rw [← pick_ev r]
    refine congrArg (a :: ·) (congrArg (fun f => List.filterMap f _) (funext fun k => ?_))
    show (a :: b :: r)[2 * (k + 1)]? = r[2 * k]?
    rw [show 2 * (k + 1) = 2 * k + 1 + 1 by omega]
    rfl
theorem pick_two (xs : List V) : pickV xs none none (some 2) = ev xs := by
  rw [← pick_ev]
  unfold pickV
  have e : sliceBounds none none (some 2) xs.length = (0, (xs.length : Int), 2) := by
    simp [sliceBounds]
  rw [e]
  unfold sliceRange
  show List.filterMap _ (List.map _ (List.range _)) = _
  rw [List.filterMap_map]
  have c : (if (2 : Int) > 0 then (if (0 : Int) < (xs.length : Int) then ((xs.length : Int) - 0 + 2 - 1) / 2 else 0) else (if (0 : Int) > (xs.length : Int) then (0 - (xs.length : Int) - 2 - 1) / (-2) else 0)).toNat = (xs.length + 1) / 2 := by
    rw [if_pos (by decide)]
    split <;> omega
  rw [c]
  refine congrArg (fun f => List.filterMap f _) (funext fun k => ?_)
  show xs[((0 : Int) + 2 * (k : Int)).toNat]? = xs[2 * k]?
  rw [show ((0 : Int) + 2 * (k : Int)).toNat = 2 * k by omega]
theorem pick_one (xs : List V) : pickV xs (some 1) none (some 2) = ev xs.tail := by
  cases xs with
  | nil =>
    unfold pickV
    have e : sliceBounds (some 1) none (some 2) ([] : List V).length = (0, 0, 2) := by decide
    rw [e]
    rfl
  | cons a t =>
    show _ = ev t
    rw [← pick_ev]
    unfold pickV
    have e : sliceBounds (some 1) none (some 2) (a :: t).length = (1, (t.length : Int) + 1, 2) := by
      simp [sliceBounds] <;> omega
    rw [e]
    unfold sliceRange
    show List.filterMap _ (List.map _ (List.range _)) = _
    rw [List.filterMap_map]
    have c : (if (2 : Int) > 0 then (if (1 : Int) < (t.length : Int) + 1 then ((t.length : Int) + 1 - 1 + 2 - 1) / 2 else 0) else (if (1 : Int) > (t.length : Int) + 1 then (1 - ((t.length : Int) + 1) - 2 - 1) / (-2) else 0)).toNat = (t.length + 1) / 2 := by
      rw [if_pos (by decide)]
      split <;> omega
    rw [c]
    refine congrArg (fun f => List.filterMap f _) (funext fun k => ?_)
    show (a :: t)[((1 : Int) + 2 * (k : Int)).toNat]? = t[2 * k]?
    rw [show ((1 : Int) + 2 * (k : Int)).toNat = 2 * k + 1 by omega, List.getElem?_cons_succ]
end KR
namespace KQ
open PySem PySem.Spec PyProof.Rows L2 KR KM StX
section
variable {P : Program} {w : World} {K : PySem.W.Frag} {mg : Str → Option Value} {base : Heap}
/-- what is told of the first ring up to a door -/
def RingTo (p r : List Int) (n : Int) (H : Hp) (v : V) : Prop := (v = .non ∧ ¬ RingAt p r n.toNat) ∨
  ∃ (t : Addr) (ds : List Int), v = .ref t ∧ TI H t ds ∧ RingAt p r n.toNat ∧ IsRing p r ds ∧ ds[0]? = some n ∧ ∀ d ∈ ds, d ≤ n
def spUpTo : Sp := fun vs H Q _ => ∃ (a b : Addr) (p r : List Int) (n : Int), vs = [.ref a, .ref b, .int n] ∧ TI H a p ∧ TI H b r ∧ Par p ∧ Par r ∧ p.length = r.length ∧ 0 ≤ n ∧ n < p.length ∧
  ∀ H' v, Same H H' → RingTo p r n H' v → Q v H'
def spRing : Sp := fun vs H Q _ => ∃ (a b : Addr) (p r : List Int), vs = [.ref a, .ref b] ∧ TI H a p ∧ TI H b r ∧ Par p ∧ Par r ∧ p.length = r.length ∧
  ∀ H' v, Same H H' → ((v = .non ∧ NoRing p r) ∨ ∃ (n : Nat) (t : Addr) (ds : List Int), v = .ref t ∧ TI H' t ds ∧ RingAt p r n ∧ (∀ j, j < n → ¬ RingAt p r j) ∧ IsRing p r ds ∧ ds[0]? = some (n : Int) ∧ ∀ d ∈ ds, d ≤ (n : Int)) → Q v H'
end
end KQ
namespace KQ
open PySem PySem.Spec PyProof.Rows L2 KR KM StX
/-- things of the kinds that the law makes -/
inductive OddV (H : Hp) : V → Prop where
  | int (i : Int) : OddV H (.int i)
  | bl (b : Bool) : OddV H (.bl b)
  | non : OddV H .non
  | str (x : Str) : OddV H (.str x)
  | lst {a : Addr} {xs : List V} (h : H a = some (.lst xs)) : OddV H (.ref a)
  | dK {a : Addr} {kvs : List (L2.Key × V)} (h : H a = some (.dK kvs)) : OddV H (.ref a)
  | tup {a : Addr} {xs : List V} (h : H a = some (.tup xs)) : OddV H (.ref a)
theorem OddV.mono {H H' : Hp} {v : V} (o : OddV H v) (s : Same H H') : OddV H' v := by
  cases o with
  | int i => exact .int i
  | bl b => exact .bl b
  | non => exact .non
  | str x => exact .str x
  | lst h => exact .lst (s _ _ h)
  | dK h => exact .dK (s _ _ h)
  | tup h => exact .tup (s _ _ h)
def isI : V → Bool
  | .int _ => true
  | _ => false
def inV (v : V) (lo hi : Int) : Bool :=
  match v with
  | .int i => decide (lo ≤ i ∧ i ≤ hi)
  | _ => false
theorem inV_true {v : V} {lo hi : Int} (h : inV v lo hi = true) : ∃ i, v = .int i ∧ lo ≤ i ∧ i ≤ hi := by
  cases v with
  | int i =>
    have := of_decide_eq_true h
    exact ⟨i, rfl, this.1, this.2⟩
  | _ => cases h
inductive Thing (H : Hp) : V → Option (List V) → Prop where
  | tup {a : Addr} {vs : List V} (h : H a = some (.tup vs)) (o : ∀ v ∈ vs, OddV H v) (l : vs.length ≤ 1000) : Thing H (.ref a) (some vs)
  | non : Thing H .non none
  | int (i : Int) : Thing H (.int i) none
  | lst {a : Addr} {xs : List V} (h : H a = some (.lst xs)) : Thing H (.ref a) none
theorem Thing.mono {H H' : Hp} {v : V} {o : Option (List V)} (t : Thing H v o) (s : Same H H') : Thing H' v o := by
  cases t with
  | tup h o l => exact .tup (s _ _ h) (fun v hv => (o v hv).mono s) l
  | non => exact .non
  | int i => exact .int i
  | lst h => exact .lst (s _ _ h)
def RightT (p r : List Int) (o : Option (List V)) : Prop := ∃ ds : List Int, o = some (ds.map V.int) ∧ IsRing p r ds
theorem map_int_inj : ∀ {xs ys : List Int}, xs.map V.int = ys.map V.int → xs = ys
  | [], [], _ => rfl
  | [], _ :: _, h => by cases h
  | _ :: _, [], h => by cases h
  | x :: xs, y :: ys, h => by
    obtain ⟨h1, h2⟩ := List.cons.inj h
    rw [V.int.inj h1, map_int_inj h2]
theorem right_ints {p r ds : List Int} : RightT p r (some (ds.map V.int)) ↔ IsRing p r ds :=
  ⟨fun ⟨ds', e, h⟩ => by rw [map_int_inj (Option.some.inj e)]; exact h, fun h => ⟨ds, rfl, h⟩⟩
theorem eqv_ints : ∀ (xs ys : List Int), PyData.eqvAll (xs.map PyData.int) (ys.map PyData.int) = decide (xs = ys)
  | [], [] => rfl
  | [], _ :: _ => rfl
  | _ :: _, [] => rfl
  | x :: xs, y :: ys => by
    show (PyData.eqv (.int x) (.int y) && PyData.eqvAll (xs.map PyData.int) (ys.map PyData.int)) = _
    rw [eqv_ints xs ys]
    show ((x == y) && decide (xs = ys)) = _
    by_cases e : x = y
    · subst e
      simp
    · simp [e]
section
variable {P : Program} {w : World} {K : PySem.W.Frag} {mg : Str → Option Value} {base : Heap}
theorem OddV.ty {H : Hp} {v : V} (o : OddV H v) (hi : ∀ i, v ≠ .int i) : ∃ T : String, TyX K H v (.type T) ∧ ((T = "bool" ∧ ∃ b, v = .bl b) ∨ (kitB T "int" = some false)) := by
  cases o with
  | int i => exact absurd rfl (hi i)
  | bl b => exact ⟨_, .base (.bl b), .inl ⟨rfl, b, rfl⟩⟩
  | non => exact ⟨_, .base .non, .inr (by decide +kernel)⟩
  | str x => exact ⟨_, .base (.str x), .inr (by decide +kernel)⟩
  | lst h => exact ⟨_, .base (.lst h), .inr (by decide +kernel)⟩
  | dK h => exact ⟨_, .base (.dK h), .inr (by decide +kernel)⟩
  | tup h => exact ⟨_, .base (.tup h), .inr (by decide +kernel)⟩
def spIsIntegerA : Sp := fun vs H Q _ => ∃ v : V, vs = [v] ∧ OddV H v ∧ Q (.bl (isI v)) H
theorem ok_is_integerA (D : DefAt K mg "is_integer" s_is_integer) (T : Bt mg) : Use P w K mg base "is_integer" 1 ["value"] spIsIntegerA := by
  refine use_of D (fun f fd F => F.ok sc_is_integer (fun vs H Q E h => ?_) (fun cdv A outer s H vs Q E hr h => ?_)) (fun _ _ _ _ _ _ us hl => match us, hl with | [_], _ => rfl)
  · obtain ⟨i, rfl, _⟩ := h
    rfl
  · obtain ⟨v, rfl, o, q⟩ := h
    refine ⟨_, (pss_one (ps_ret (pe_and (pe_callB (k_isi (K := K) rfl) (by rfl) T.isinstance (by decide +kernel) (pa_cons (pv 0) (pa_cons (pe_bltn (v := .ty "int") (by rfl) T.int (by decide +kernel) rfl) pa_nil))) (pe_one (pe_not (pe_callB (k_isi (K := K) rfl) (by rfl) T.isinstance (by decide +kernel) (pa_cons (pv 0) (pa_cons (pe_bltn (v := .ty "bool") (by rfl) T.bool (by decide +kernel) rfl) pa_nil)))))))), ?_⟩
    by_cases hi : ∃ i, v = .int i
    · obtain ⟨i, rfl⟩ := hi
      refine ⟨_, rfl, _, _, _, _, true, rfl, .ty _, .base (.int i), kit_ty (by decide +kernel), true, rfl, iteT ?_⟩
      exact ⟨_, rfl, _, _, _, _, false, rfl, .ty _, .base (.int i), kit_ty (by decide +kernel), _, rfl, q⟩
    · have e : isI v = false := by
        cases v with
        | int i => exact absurd ⟨i, rfl⟩ hi
        | _ => rfl
      rw [e] at q
      obtain ⟨t, ty, h⟩ := o.ty (K := K) fun i e => hi ⟨i, e⟩
      rcases h with ⟨rfl, b, rfl⟩ | kt
      · refine ⟨_, rfl, _, _, _, _, true, rfl, .ty _, ty, kit_ty (by decide +kernel), true, rfl, iteT ?_⟩
        exact ⟨_, rfl, _, _, _, _, true, rfl, .ty _, ty, kit_ty (by decide +kernel), _, rfl, q⟩
      · exact ⟨_, rfl, _, _, _, _, false, rfl, .ty _, ty, kit_ty kt, false, rfl, iteF q⟩
def spIntWA : Sp := fun vs H Q _ => ∃ (v : V) (lo hi : Int), vs = [v, .int lo, .int hi] ∧ OddV H v ∧ Q (.bl (inV v lo hi)) H
theorem ev_ints (xs : List Int) : ev (xs.map V.int) = (ev xs).map V.int := ev_map _ _
def spIsRing : Sp := fun vs H Q _ => ∃ (a b : Addr) (t : V) (p r : List Int) (o : Option (List V)), vs = [.ref a, .ref b, t] ∧ TI H a p ∧ TI H b r ∧ Par p ∧ Par r ∧ p.length = r.length ∧ Thing H t o ∧
  ∀ H' c, Same H H' → (c = true ↔ RightT p r o) → Q (.bl c) H'
end
end KQ
namespace KR
open PySem PySem.Spec PyProof.Rows L2 KM KQ
theorem lc_enumT {K : PySem.W.Frag} {a : Addr} {xs : List V} {g : TG} {tt : TT} {te : TE} {vs : List Nat} {σ : L2.St} {H1 : Hp} {D : Addr} {Qd : Hp → Prop} (Pv : Nat → Hp → Prop) (h0 : Pv 0 (upd H1 D (.lst []))) (hl : ∀ i H, i ≤ xs.length → Pv i H → SqT K H a xs)
    (hs : ∀ (i : Nat) (x : V) (T : Addr) (H : Hp), xs[i]? = some x → Pv i H → H T = none → g (.ref T) (wipe σ vs) (upd H T (.tup [.int (i : Nat), x])) fun σ2 H2 => wipe σ2 vs = wipe σ vs ∧ tt σ2 H2 fun b H3 =>
      if b = true then te σ2 H3 fun y H4 => ∃ acc, H4 D = some (.lst acc) ∧ acc.length < sizeLine ∧ Pv (i + 1) (upd H4 D (.lst (acc ++ [y]))) else Pv (i + 1) H3) (hd : ∀ H, Pv xs.length H → Qd H) :
    ∃ W : Nat → Nat → Hp → Prop, (∃ m, W 0 m (upd H1 D (.lst []))) ∧ ∀ i m H, W i m H →
      ((IteT K a).stop i H ∧ Qd H) ∨ ((IteT K a).go i H ∧ ∃ Nx : Hp → Prop, (∀ H', Nx H' → ∃ m', m' < m ∧ W (i + 1) m' H') ∧ ∀ x H', (IteT K a).yld i H x H' → g x (wipe σ vs) H' fun σ2 H2 => wipe σ2 vs = wipe σ vs ∧ tt σ2 H2 fun b H3 =>
        if b = true then te σ2 H3 fun y H4 => ∃ acc, H4 D = some (.lst acc) ∧ acc.length < sizeLine ∧ Nx (upd H4 D (.lst (acc ++ [y]))) else Nx H3) := by
  refine ⟨fun i m H => m = xs.length - i ∧ i ≤ xs.length ∧ Pv i H, ⟨xs.length, by simp, Nat.zero_le _, h0⟩, ?_⟩
  rintro i m H ⟨rfl, hi, p⟩
  have q := hl i H hi p
  by_cases hlt : i < xs.length
  · have hx : xs[i]? = some xs[i] := List.getElem?_eq_getElem hlt
    refine .inr ⟨⟨xs, _, q, hx⟩, Pv (i + 1), fun H' p' => ⟨xs.length - (i + 1), by omega, rfl, hlt, p'⟩, fun x H' y => ?_⟩
    obtain ⟨T, x', rfl, hT, rfl, f1⟩ := y
    exact hs i x' T H (f1 xs q) p hT
  · have e : i = xs.length := by omega
    subst e
    exact .inl ⟨⟨xs, q, Nat.le_refl _⟩, hd H p⟩
theorem lc_enumL {K : PySem.W.Frag} {a : Addr} {xs : List V} {g : TG} {tt : TT} {te : TE} {vs : List Nat} {σ : L2.St} {H1 : Hp} {D : Addr} {Qd : Hp → Prop} (Pv : Nat → Hp → Prop) (h0 : Pv 0 (upd H1 D (.lst []))) (hl : ∀ i H, i ≤ xs.length → Pv i H → SqL K H a xs)
    (hs : ∀ (i : Nat) (x : V) (T : Addr) (H : Hp), xs[i]? = some x → Pv i H → H T = none → g (.ref T) (wipe σ vs) (upd H T (.tup [.int (i : Nat), x])) fun σ2 H2 => wipe σ2 vs = wipe σ vs ∧ tt σ2 H2 fun b H3 =>
      if b = true then te σ2 H3 fun y H4 => ∃ acc, H4 D = some (.lst acc) ∧ acc.length < sizeLine ∧ Pv (i + 1) (upd H4 D (.lst (acc ++ [y]))) else Pv (i + 1) H3) (hd : ∀ H, Pv xs.length H → Qd H) :
    ∃ W : Nat → Nat → Hp → Prop, (∃ m, W 0 m (upd H1 D (.lst []))) ∧ ∀ i m H, W i m H →
      ((Ite K a).stop i H ∧ Qd H) ∨ ((Ite K a).go i H ∧ ∃ Nx : Hp → Prop, (∀ H', Nx H' → ∃ m', m' < m ∧ W (i + 1) m' H') ∧ ∀ x H', (Ite K a).yld i H x H' → g x (wipe σ vs) H' fun σ2 H2 => wipe σ2 vs = wipe σ vs ∧ tt σ2 H2 fun b H3 =>
        if b = true then te σ2 H3 fun y H4 => ∃ acc, H4 D = some (.lst acc) ∧ acc.length < sizeLine ∧ Nx (upd H4 D (.lst (acc ++ [y]))) else Nx H3) := by
  refine ⟨fun i m H => m = xs.length - i ∧ i ≤ xs.length ∧ Pv i H, ⟨xs.length, by simp, Nat.zero_le _, h0⟩, ?_⟩
  rintro i m H ⟨rfl, hi, p⟩
  have q := hl i H hi p
  by_cases hlt : i < xs.length
  · have hx : xs[i]? = some xs[i] := List.getElem?_eq_getElem hlt
    refine .inr ⟨⟨xs, _, q, hx⟩, Pv (i + 1), fun H' p' => ⟨xs.length - (i + 1), by omega, rfl, hlt, p'⟩, fun x H' y => ?_⟩
    obtain ⟨T, x', rfl, hT, rfl, f1⟩ := y
    exact hs i x' T H (f1 xs q) p hT
  · have e : i = xs.length := by omega
    subst e
    exact .inl ⟨⟨xs, q, Nat.le_refl _⟩, hd H p⟩
theorem k_gtup {X : Cx} {K : PySem.W.Frag} {es : List Expr} {k : Nat} {t : TGs} {n : Nat} {pos : Pos} (hK : X.K = K) (hc : X.calm = true) (h : PGs X es t)
    (hn : (assignEach es X.env).length = n := by rfl) (hst : (assignEach es X.env).findIdx? (·.1) = none := by rfl) : PG X (.Tuple es k pos) (gTup K n t) := by
  subst hK
  exact pg_tup hc h hn hst
def rReprB : List V → Hp → VK → Prop := fun xs H Q => ∃ b : Bool, xs = [.bl b] ∧ Q (.str (if b then "True" else "False")) H
theorem call_reprB {X : Cx} : CallR X (.builtin "repr") rReprB := by
  intro pins s σ H xs us Q I r h
  obtain ⟨b, rfl, q⟩ := h
  cases r with
  | cons r1 rr =>
    cases rr
    cases r1
    exact PySem.P.repr_of_bool ⟨.str _, H, I.tok _, ⟨_, rfl⟩, q⟩
/-- a whole number among whole numbers -/
theorem inV_ints (d : Int) (ds : List Int) : L2.inV (.int d) (ds.map V.int) = decide (d ∈ ds) := by
  unfold L2.inV
  rw [List.any_map]
  by_cases h : d ∈ ds
  · rw [decide_eq_true h, List.any_eq_true]
    exact ⟨d, h, by show (d == d) = true; simp⟩
  · rw [decide_eq_false h, List.any_eq_false]
    intro x hx
    show ¬ (x == d) = true
    rw [beq_iff_eq]
    exact fun e => h (e ▸ hx)
theorem flat_ints (ds : List Int) : (ds.map V.int).all flatV = true := by
  rw [List.all_map, List.all_eq_true]
  exact fun _ _ => rfl
end KR
namespace KQ
open PySem PySem.Spec PyProof.Rows L2 KR KM StX
theorem fmod2 (n : Nat) : Int.fmod (n : Int) 2 = ((n % 2 : Nat) : Int) := by
  rw [Int.fmod_eq_emod_of_nonneg _ (by decide)]
  omega
theorem nodup_take (ds : List Int) : ds.Nodup ↔ ∀ (i : Nat) (d : Int), ds[i]? = some d → d ∉ ds.take i := by
  constructor
  · intro h i d hd hm
    obtain ⟨j, hj⟩ := List.mem_iff_getElem?.mp hm
    have jl := (List.getElem?_eq_some_iff.mp hj).1
    rw [List.length_take] at jl
    rw [List.getElem?_take_of_lt (by omega)] at hj
    have l1 := List.getElem?_eq_some_iff.mp hj
    have l2 := List.getElem?_eq_some_iff.mp hd
    exact List.pairwise_iff_getElem.mp h j i l1.1 l2.1 (by omega) (l1.2.trans l2.2.symm)
  · intro h
    refine List.pairwise_iff_getElem.mpr fun i j hi hj hij e => ?_
    refine h j _ (List.getElem?_eq_getElem hj) ?_
    rw [← e]
    exact List.mem_iff_getElem?.mpr ⟨i, by rw [List.getElem?_take_of_lt hij]; exact List.getElem?_eq_getElem hi⟩
section
variable {P : Program} {w : World} {K : PySem.W.Frag} {mg : Str → Option Value} {base : Heap}
abbrev s__law_is_int : Stmt := topS 29
theorem sc__law_is_int : FnScope ["thing", "low", "high"] ["thing", "low", "high"] (defScope s__law_is_int) := ⟨rfl, rfl, rfl, by decide +kernel, rfl, by decide +kernel, by decide +kernel⟩
theorem ok_law_is_int (D : DefAt K mg "_law_is_int" s__law_is_int) (T : Bt mg) : Use P w K mg base "_law_is_int" 1 ["thing", "low", "high"] spIntWA := by
  refine use_of D (fun f fd F => F.ok sc__law_is_int (fun vs H Q E h => ?_) (fun cdv A outer s H vs Q E hr h => ?_)) (fun _ _ _ _ _ _ us hl => match us, hl with | [_, _, _], _ => rfl)
  · obtain ⟨i, lo, hi, rfl, _⟩ := h
    rfl
  · obtain ⟨v, lo, hi, rfl, o, q⟩ := h
    refine ⟨_, (pss_one (ps_ret (pe_and (pe_callB (k_isi (K := K) rfl) (by rfl) T.isinstance (by decide +kernel) (pa_cons (pv 0) (pa_cons (pe_bltn (v := .ty "int") (by rfl) T.int (by decide +kernel) rfl) pa_nil))) (pe_and (pe_not (pe_callB (k_isi (K := K) rfl) (by rfl) T.isinstance (by decide +kernel) (pa_cons (pv 0) (pa_cons (pe_bltn (v := .ty "bool") (by rfl) T.bool (by decide +kernel) rfl) pa_nil)))) (pe_one (pe_chain op_le op_le (pv 1) (pv 0) (pv 2))))))), ?_⟩
    by_cases hv : ∃ i, v = .int i
    · obtain ⟨i, rfl⟩ := hv
      have q' : Q (.bl (decide (lo ≤ i ∧ i ≤ hi))) H := q
      refine ⟨_, rfl, _, _, _, _, true, rfl, .ty _, .base (.int i), kit_ty (by decide +kernel), true, rfl, iteT ?_⟩
      refine ⟨_, rfl, _, _, _, _, false, rfl, .ty _, .base (.int i), kit_ty (by decide +kernel), _, rfl, _, rfl, iteT ?_⟩
      refine ⟨_, rfl, _, rfl, lo, i, rfl, rfl, _, rfl, ?_⟩
      by_cases h1 : lo ≤ i
      · rw [decide_eq_true h1]
        refine iteT ⟨_, rfl, i, hi, rfl, rfl, ?_⟩
        have e : decide (lo ≤ i ∧ i ≤ hi) = decide (i ≤ hi) := by simp [h1]
        rw [e] at q'
        exact q'
      · rw [decide_eq_false h1]
        refine iteF ?_
        have e : decide (lo ≤ i ∧ i ≤ hi) = false := by simp [h1]
        rw [e] at q'
        exact q'
    · have e : inV v lo hi = false := by
        cases v with
        | int i => exact absurd ⟨i, rfl⟩ hv
        | _ => rfl
      rw [e] at q
      obtain ⟨t, ty, h⟩ := o.ty (K := K) fun i e => hv ⟨i, e⟩
      rcases h with ⟨rfl, b, rfl⟩ | kt
      · refine ⟨_, rfl, _, _, _, _, true, rfl, .ty _, ty, kit_ty (by decide +kernel), true, rfl, iteT ?_⟩
        exact ⟨_, rfl, _, _, _, _, true, rfl, .ty _, ty, kit_ty (by decide +kernel), _, rfl, _, rfl, iteF q⟩
      · exact ⟨_, rfl, _, _, _, _, false, rfl, .ty _, ty, kit_ty kt, false, rfl, iteF q⟩
end
end KQ
namespace KR
open PySem PySem.Spec PyProof.Rows L2 KM KQ
section
variable {X : Cx} {K : PySem.W.Frag}
/-- t[lo:hi], t + u, empty ones and whole ones too: a tuple with these items -/
def rSlF : V → Option Int → Option Int → Hp → VK → Prop := fun x lo hi H Q => ∃ a xs, x = .ref a ∧ H a = some (.tup xs) ∧ ∀ H' p, Same H H' → H' p = some (.tup (cutV xs lo hi)) → Q (.ref p) H'
def rCatF : R2 := fun x y H Q => ∃ a b xs ys, x = .ref a ∧ y = .ref b ∧ H a = some (.tup xs) ∧ H b = some (.tup ys) ∧ xs.length + ys.length ≤ 100000 ∧ ∀ H' p, Same H H' → H' p = some (.tup (xs ++ ys)) → Q (.ref p) H'
theorem k_slA (_hK : X.K = K) : SlR X rSlF := by
  intro pins s σ H x v vl vu lo hi sl Q I rx hs pl pu h
  obtain ⟨a, xs, rfl, hx, k⟩ := h
  refine sl_tupA pins s σ H _ v vl vu lo hi sl Q I rx hs pl pu ⟨a, xs, rfl, sqT hx, fun hw => k H a (Same.refl H) ?_, fun _ p np => k _ p (same_new np) upd_same⟩
  unfold cutV
  rw [hw.1, hw.2, List.drop_zero, Nat.sub_zero, List.take_length]
  exact hx
theorem k_catA (_hK : X.K = K) : OpR X (binaryOp .Add) rCatF := by
  intro pins s σ H x y v u Q I rx ry h
  obtain ⟨a, b, xs, ys, rfl, rfl, hx, hy, hl, k⟩ := h
  refine op_catA pins s σ H _ _ v u Q I rx ry ⟨a, b, xs, ys, rfl, rfl, sqT hx, sqT hy, Nat.le_of_lt (small_of hl), fun e => ?_, fun _ e => ?_, fun _ _ p np => k _ p (same_new np) upd_same⟩
  · subst e
    exact k H b (Same.refl H) (by rw [List.nil_append]; exact hy)
  · subst e
    exact k H a (Same.refl H) (by rw [List.append_nil]; exact hx)
end
theorem cut_sub {xs : List V} {lo hi : Option Int} {v : V} (h : v ∈ cutV xs lo hi) : v ∈ xs := by
  unfold cutV at h
  exact List.mem_of_mem_drop (List.mem_of_mem_take h)
/-! ### things that stay where S is changed -/
def refsOut (S : List Addr) (v : V) : Prop := ∀ x, v = .ref x → x ∉ S
def KeptS (H H' : Hp) (S : List Addr) : Prop := ∀ a u, H a = some u → a ∉ S → H' a = some u
def Good (H : Hp) (S : List Addr) (v : V) : Prop := ∃ o, Thing H v o ∧ refsOut S v ∧ ∀ vs, o = some vs → ∀ u ∈ vs, refsOut S u
theorem odd_kept {H H' : Hp} {S : List Addr} {v : V} (k : KeptS H H' S) (r : refsOut S v) (o : OddV H v) : OddV H' v := by
  cases o with
  | int i => exact .int i
  | bl b => exact .bl b
  | non => exact .non
  | str x => exact .str x
  | lst h => exact .lst (k _ _ h (r _ rfl))
  | dK h => exact .dK (k _ _ h (r _ rfl))
  | tup h => exact .tup (k _ _ h (r _ rfl))
theorem Good.kept {H H' : Hp} {S : List Addr} {v : V} (g : Good H S v) (k : KeptS H H' S) : Good H' S v := by
  obtain ⟨o, t, r, ri⟩ := g
  refine ⟨o, ?_, r, ri⟩
  cases t with
  | tup h oo l => exact .tup (k _ _ h (r _ rfl)) (fun v hv => odd_kept k (ri _ rfl v hv) (oo v hv)) l
  | non => exact .non
  | int i => exact .int i
  | lst h => exact .lst (k _ _ h (r _ rfl))
theorem Good.same {H H' : Hp} {S : List Addr} {v : V} (g : Good H S v) (k : Same H H') : Good H' S v := g.kept fun a u h _ => k a u h
theorem Good.sub {H : Hp} {S S' : List Addr} {v : V} (g : Good H S v) (h : ∀ x ∈ S', x ∈ S) : Good H S' v := by
  obtain ⟨o, t, r, ri⟩ := g
  exact ⟨o, t, fun x e hx => r x e (h x hx), fun vs e u hu x e' hx => ri vs e u hu x e' (h x hx)⟩
theorem odd_live {H : Hp} {x : Addr} (o : OddV H (.ref x)) : H x ≠ none := by
  cases o with
  | lst h => rw [h]; exact fun e => by cases e
  | dK h => rw [h]; exact fun e => by cases e
  | tup h => rw [h]; exact fun e => by cases e
theorem Good.new {H : Hp} {S : List Addr} {v : V} {l : Addr} (g : Good H S v) (n : H l = none) : Good H (l :: S) v := by
  obtain ⟨o, t, r, ri⟩ := g
  refine ⟨o, t, fun x e hx => ?_, fun vs e u hu x e' hx => ?_⟩
  · rcases List.mem_cons.mp hx with q | q
    · subst e q
      cases t with
      | tup h _ _ => rw [n] at h; cases h
      | lst h => rw [n] at h; cases h
    · exact r x e q
  · rcases List.mem_cons.mp hx with q | q
    · subst e' q e
      cases t with
      | tup h oo _ => exact odd_live (oo _ hu) n
    · exact ri vs e u hu x e' q
theorem good_tup {H : Hp} {S : List Addr} {a : Addr} {vs : List V} (h : H a = some (.tup vs)) (ns : a ∉ S) (o : ∀ v ∈ vs, OddV H v ∧ refsOut S v) (l : vs.length ≤ 1000) : Good H S (.ref a) :=
  ⟨some vs, .tup h (fun v hv => (o v hv).1) l, fun x e => by cases e; exact ns, fun ws e u hu => by cases e; exact (o u hu).2⟩
theorem good_lst {H : Hp} {S : List Addr} {a : Addr} {xs : List V} (h : H a = some (.lst xs)) (ns : a ∉ S) : Good H S (.ref a) :=
  ⟨none, .lst h, fun x e => by cases e; exact ns, fun ws e => by cases e⟩
theorem good_non {H : Hp} {S : List Addr} : Good H S .non := ⟨none, .non, fun x e => (by cases e), fun ws e => by cases e⟩
theorem good_int {H : Hp} {S : List Addr} {i : Int} : Good H S (.int i) := ⟨none, .int i, fun x e => (by cases e), fun ws e => by cases e⟩
theorem odd_ints {H : Hp} {S : List Addr} {vs : List V} {xs : List Int} (h : ∀ v ∈ vs, v ∈ xs.map V.int) : ∀ v ∈ vs, OddV H v ∧ refsOut S v := fun v hv => by
  obtain ⟨i, _, rfl⟩ := List.mem_map.mp (h v hv)
  exact ⟨.int i, fun x e => by cases e⟩
end KR
/-! sorted(rows), rows tuples of whole numbers, any number of them -/
namespace KR
open PySem PySem.Spec PyProof.Rows L2 KM KQ
theorem lex_asym : ∀ x y : List Int, HT.lexLt x y = true → HT.lexLt y x = false
  | [], [], h => by cases h
  | [], _ :: _, _ => rfl
  | _ :: _, [], h => by cases h
  | x :: xs, y :: ys, h => by
    rw [HT.lexLt_cons] at h ⊢
    by_cases e : x = y
    · rw [if_pos e] at h
      rw [if_pos e.symm]
      exact lex_asym xs ys h
    · rw [if_neg e] at h
      rw [if_neg (fun z => e z.symm)]
      have := of_decide_eq_true h
      exact decide_eq_false (by omega)
theorem lex_tr : ∀ x y z : List Int, HT.lexLt y x = false → HT.lexLt z y = false → HT.lexLt z x = false
  | [], [], z, _, h => h
  | [], _ :: _, [], _, h => by cases h
  | [], _ :: _, _ :: _, _, _ => rfl
  | _ :: _, [], _, h, _ => by cases h
  | _ :: _, _ :: _, [], _, h => by cases h
  | x :: xs, y :: ys, z :: zs, h, g => by
    rw [HT.lexLt_cons] at h g ⊢
    by_cases e1 : y = x
    · rw [if_pos e1] at h
      by_cases e2 : z = y
      · rw [if_pos e2] at g
        rw [if_pos (e2.trans e1)]
        exact lex_tr xs ys zs h g
      · rw [if_neg e2] at g
        have := of_decide_eq_false g
        rw [if_neg (by omega)]
        exact decide_eq_false (by omega)
    · rw [if_neg e1] at h
      have a := of_decide_eq_false h
      by_cases e2 : z = y
      · rw [if_neg (by omega)]
        exact decide_eq_false (by omega)
      · rw [if_neg e2] at g
        have b := of_decide_eq_false g
        rw [if_neg (by omega)]
        exact decide_eq_false (by omega)
theorem lex_eq : ∀ x y : List Int, HT.lexLt x y = false → HT.lexLt y x = false → x = y
  | [], [], _, _ => rfl
  | [], _ :: _, h, _ => by cases h
  | _ :: _, [], _, h => by cases h
  | x :: xs, y :: ys, h, g => by
    rw [HT.lexLt_cons] at h g
    by_cases e : x = y
    · rw [if_pos e] at h
      rw [if_pos e.symm] at g
      rw [e, lex_eq xs ys h g]
    · rw [if_neg e] at h
      rw [if_neg (fun z => e z.symm)] at g
      have := of_decide_eq_false h
      have := of_decide_eq_false g
      omega
theorem swo_row (k : Value → List Int) : SrtO.Swo fun v u => HT.lexLt (k v) (k u) := ⟨fun _ _ h => lex_asym _ _ h, fun _ _ _ h g => lex_tr _ _ _ h g⟩
/-- a tuple of whole numbers, at least one -/
def IsRow (h : Heap) (v : Value) (ns : List Int) : Prop := ∃ a o its n, v = .ref a ∧ h.get? a = some o ∧ o.cls = .type "tuple" ∧ o.data = .seq (List.toArray its) n ∧ IntsAre its ns ∧ ns ≠ []
theorem IsRow.keeps {h h' : Heap} {v : Value} {ns : List Int} (p : IsRow h v ns) (k : ∀ b o, h.get? b = some o → o.cls = .type "tuple" → h'.get? b = some o) : IsRow h' v ns := by
  obtain ⟨a, o, its, n, e, ho, hc, hd, hi, ne⟩ := p
  exact ⟨a, o, its, n, e, k _ _ ho hc, hc, hd, hi, ne⟩
section
variable {prog : Program} {w : World} {A : Around} {s : Shared}
theorem kat_ints {fin : Bool} : ∀ {xs ys : List Value} {ns ms : List Int} {i : Nat} {R : Bool}, IntsAre xs ns → IntsAre ys ms →
    (ns.length - ms.length = 0 → ms.length - ns.length = 0 → fin = false) → (ns.length < ms.length → fin = true) → (ms.length < ns.length → fin = false) → R = HT.lexLt ns ms →
    PySem.W.KatLex prog w A true fin (fun r s' => s' = s ∧ r = R) (xs.zip ys) i s
  | [], [], _, _, i, R, .nil, .nil, h0, _, _, e => PySem.W.kat_nil ⟨rfl, by rw [e, h0 rfl rfl]; rfl⟩
  | [], _ :: _, _, _, i, R, .nil, .cons _ _ _, _, h1, _, e => PySem.W.kat_nil ⟨rfl, by rw [e, h1 (by simp)]; rfl⟩
  | _ :: _, [], _, _, i, R, .cons _ _ _, .nil, _, _, h2, e => PySem.W.kat_nil ⟨rfl, by rw [e, h2 (by simp)]; rfl⟩
  | _ :: xs, _ :: ys, _, _, i, R, .cons x t hi, .cons y u hj, h0, h1, h2, e => by
    rw [HT.lexLt_cons] at e
    rw [List.zip_cons_cons]
    refine PySem.W.kat_cons (SeqAt.EqAt.int_int x t y u prog w _ _ ?_)
    refine PySem.W.kat_go (fun e1 => ?_) (fun e1 => ?_)
    · have ex : x = y := by simpa using e1
      rw [if_pos ex] at e
      refine PySem.W.kat_yes (kat_ints hi hj (fun a b => h0 ?_ ?_) (fun a => h1 ?_) (fun a => h2 ?_) e)
      · rw [List.length_cons, List.length_cons]; omega
      · rw [List.length_cons, List.length_cons]; omega
      · rw [List.length_cons, List.length_cons]; omega
      · rw [List.length_cons, List.length_cons]; omega
    · have ex : ¬ x = y := by simpa using e1
      rw [if_neg ex] at e
      by_cases hz : i = 0
      · subst hz
        exact PySem.W.kat_no (oneLt_int ⟨rfl, e.symm⟩)
      · refine PySem.W.kat_no ?_
        rw [show (true && i == 0) = false by simp [hz]]
        exact PySem.W.kat_one _ _ (PyProof.Rows.lt_int (show s = s ∧ decide (x < y) = R from ⟨rfl, e.symm⟩))
theorem row_cmp {vs : List Value} {k : Value → List Int} (hp : ∀ v ∈ vs, IsRow s.heap v (k v)) : SrtO.Cmp prog w A s (tuples' true) (fun p => p.1 ∈ vs) (SrtO.lt2 fun v u => HT.lexLt (k v) (k u)) := by
  intro p q hm hm'
  show wpAny (model prog w) A (keyLt' (tuples' true) p.1 q.1) (fun r s' => s' = s ∧ r = HT.lexLt (k p.1) (k q.1)) (fun _ _ => False) s
  obtain ⟨a, o, its, n, e, ho, hc, hd, hi, ne⟩ := hp _ hm
  obtain ⟨a', o', its', n', e', ho', hc', hd', hi', ne'⟩ := hp _ hm'
  rw [e, e'] at *
  have l1 := hi.length
  have l2 := hi'.length
  refine PySem.W.kat_lt ho hd ho' hd' ?_
  show PySem.W.KatLex prog w A true _ _ (its.zip its') 0 s
  refine kat_ints hi hi' (fun a b => ?_) (fun a => ?_) (fun a => ?_) rfl
  · exact decide_eq_false (by rw [List.size_toArray, List.size_toArray]; omega)
  · exact decide_eq_true (by rw [List.size_toArray, List.size_toArray]; omega)
  · exact decide_eq_false (by rw [List.size_toArray, List.size_toArray]; omega)
theorem row_firsts {h : Heap} {k : Value → List Int} : ∀ {vs : List Value}, (∀ v ∈ vs, IsRow h v (k v)) → ∃ fs : List Value, PySem.W.KatTups h vs fs ∧ fs.length = vs.length ∧ ∀ f ∈ fs, ∃ x t, f = Value.int x t
  | [], _ => ⟨[], PySem.W.KatTups.nil, rfl, fun _ hm => by simp at hm⟩
  | v :: vs, hp => by
    obtain ⟨fs, h1, h2, h3⟩ := row_firsts (vs := vs) fun v' hm => hp v' (List.mem_cons_of_mem _ hm)
    obtain ⟨a, o, its, n, e, ho, hc, hd, hi, ne⟩ := hp v List.mem_cons_self
    subst e
    cases hk : k (.ref a) with
    | nil => exact absurd hk ne
    | cons x r =>
      rw [hk] at hi
      cases hi with
      | cons _ t hr =>
        refine ⟨.int x t :: fs, PySem.W.KatTups.cons ho hc hd rfl h1, by rw [List.length_cons, List.length_cons, h2], fun f hm => ?_⟩
        rcases List.mem_cons.mp hm with rfl | hm
        · exact ⟨x, t, rfl⟩
        · exact h3 f hm
theorem rows_sortable {a : Addr} {vs : List Value} {k : Value → List Int} (h0 : 0 < vs.length) (hp : ∀ v ∈ vs, IsRow s.heap v (k v)) (ha : ∀ o, s.heap.get? a = some o → o.cls ≠ .type "tuple") :
    SrtO.SortableO prog w A s a vs fun v u => HT.lexLt (k v) (k u) := by
  intro h' keep
  have hp' : ∀ v ∈ vs, IsRow h' v (k v) := fun v hm => (hp v hm).keeps fun b o e c => keep b o (fun z => by subst z; exact ha o e c) e
  obtain ⟨fs, h1, h2, h3⟩ := row_firsts hp'
  refine ⟨tuples' true, fun Q E hq => ?_, row_cmp hp'⟩
  refine PySem.W.kat_kind (T := .type "int") h1 (by omega) (fun f hm => ?_) (by rfl) ?_
  · obtain ⟨x, t, rfl⟩ := h3 f hm
    exact PySem.W.Looks.now
  · have e : (Value.type "int" != Value.type "tuple") = true := by first | decide +kernel | rfl | decide
    rw [e]
    exact hq
theorem sorted_rows {l : Addr} {vs : List Value} {k : Value → List Int} {E : Value → Shared → Prop} {Q : Value → Shared → Prop} (hl : s.heap.IsList l vs.toArray) (hz : vs.length ≤ sizeLine) (hp : ∀ v ∈ vs, IsRow s.heap v (k v))
    (h : ∀ (h' : Heap) (d : Addr) (out : List Value), SrtO.Srtd (fun v u => HT.lexLt (k v) (k u)) out → SrtO.Stb (fun v u => HT.lexLt (k v) (k u)) out vs → (∀ b o, s.heap.get? b = some o → h'.get? b = some o) → s.heap.objs.size ≤ d → (∃ n, h'.get? d = some (seqObj "list" out.toArray n)) → Q (.ref d) { s with heap := h' }) :
    wpAny (model prog w) A (call (.builtin "sorted") [.ref l]) Q E s := by
  refine SrtO.sorted_ord (swo_row k) hl hz (fun h2 h₁ a ha kk => ?_) fun out hs hb => ?_
  · refine rows_sortable (s := { s with heap := h₁ }) (by omega) (fun v hm => (hp v hm).keeps fun b o e _ => (kk b o e).2) fun o e => ?_
    have e' : some o = some (seqObj "list" vs.toArray 0) := e.symm.trans ha
    cases e'
    intro c
    exact absurd (Value.type.inj c) (by decide)
  · exact h _ _ out hs hb (fun b o e => PyProof.Rows.sortedAll_old e) (Nat.le_succ _) (PyProof.Rows.sortedAll_at s.heap vs out.toArray)
end
def intsV : List V → List Int
  | [] => []
  | .int i :: r => i :: intsV r
  | _ :: r => intsV r
theorem intsV_map : ∀ xs : List Int, intsV (xs.map V.int) = xs
  | [] => rfl
  | x :: xs => by
    show x :: intsV (xs.map V.int) = x :: xs
    rw [intsV_map xs]
def tupV : Option HO → List Int
  | some (.tup vs) => intsV vs
  | _ => []
/-- the row at a tracked tuple -/
def rowOf (H : Hp) : V → List Int
  | .ref t => tupV (H t)
  | _ => []
theorem rowOf_ti {H : Hp} {t : Addr} {xs : List Int} (h : TI H t xs) : rowOf H (.ref t) = xs := by
  show tupV (H t) = xs
  rw [show H t = some (.tup (xs.map V.int)) from h]
  exact intsV_map xs
def rSortedR (K : PySem.W.Frag) : List V → Hp → VK → Prop := fun vs H Q => ∃ (a : Addr) (ts : List Addr) (rows : List (List Int)), vs = [V.ref a] ∧ SqL K H a (ts.map V.ref) ∧ Its H ts rows ∧ (∀ r ∈ rows, r ≠ []) ∧
  ∀ ts' rows' p, rows'.Perm rows → rows'.Pairwise (fun x y => HT.lexLt y x = false) → Its H ts' rows' → H p = none → Q (.ref p) (upd H p (.lst (ts'.map V.ref)))
theorem its_rows {H : Hp} : ∀ {ts : List Addr} {rows : List (List Int)}, Its H ts rows → rows = ts.map fun t => rowOf H (.ref t)
  | [], [], _ => rfl
  | [], _ :: _, h => by cases h.1
  | _ :: _, [], h => by cases h.1
  | t :: ts, r :: rows, h => by
    obtain ⟨ys, e, ht⟩ := h.2 0 t rfl
    obtain rfl : r = ys := Option.some.inj e
    rw [List.map_cons, rowOf_ti ht, ← its_rows (ts := ts) (rows := rows) ⟨Nat.succ.inj h.1, fun i u hu => h.2 (i + 1) u hu⟩]
theorem its_of {H : Hp} {ts : List Addr} (h : ∀ t ∈ ts, ∃ xs, TI H t xs) : Its H ts (ts.map fun t => rowOf H (.ref t)) := by
  refine ⟨by rw [List.length_map], fun i t ht => ?_⟩
  obtain ⟨xs, hx⟩ := h t (List.mem_of_getElem? ht)
  exact ⟨xs, by rw [at_map (f := fun t => rowOf H (.ref t)) ht, rowOf_ti hx], hx⟩
theorem intsAre_vals {xs : List Int} : ∀ {us : List Value}, Vals (xs.map V.int) us → IntsAre us xs := fun r => intsAre_of r
section
variable {X : Cx}
theorem cr_sortedR : CallR X (.builtin "sorted") (rSortedR X.K) := by
  intro pins s σ H vs us Q I r h
  obtain ⟨a, ts, rows, rfl, hs, its0, ne, q⟩ := h
  obtain ⟨its, rv, hl, hz⟩ := I.list hs
  obtain ⟨u, rfl, ru⟩ := vals1 r
  obtain rfl : u = Value.ref a := ru
  obtain ⟨e1, e2⟩ := refs_back rv fun x m => by
    obtain ⟨t, _, rfl⟩ := List.mem_map.mp m
    exact ⟨t, rfl⟩
  have hx : ∀ t ∈ ts, ∃ xs, TI H t xs ∧ xs ≠ [] := fun t ht => by
    obtain ⟨i, hi⟩ := List.mem_iff_getElem?.mp ht
    obtain ⟨xs, e, hti⟩ := its0.2 i t hi
    exact ⟨xs, hti, ne xs (List.mem_of_getElem? e)⟩
  have mem : ∀ v ∈ its, ∃ t, v = .ref t ∧ t ∈ ts := fun v hv => by
    obtain ⟨t, rfl⟩ := e2 v hv
    have hm : V.ref t ∈ ts.map V.ref := by rw [e1]; exact List.mem_map.mpr ⟨_, hv, rfl⟩
    obtain ⟨t', ht', e⟩ := List.mem_map.mp hm
    cases e
    exact ⟨t, rfl, ht'⟩
  refine sorted_rows (k := fun u => rowOf H (backV u)) hl.isList (by rw [← rv.length]; exact hz) (fun v hv => ?_) fun h' d out h1 h2 kp hd hn => ?_
  · obtain ⟨t, rfl, ht⟩ := mem v hv
    obtain ⟨xs, hti, nx⟩ := hx t ht
    obtain ⟨_, its2, r2, o, ho, hc, n, hdt⟩ := I.hok _ _ (show H t = some (.tup (xs.map V.int)) from hti)
    refine ⟨t, o, its2, n, rfl, ho, hc, hdt, ?_, ?_⟩
    · show IntsAre its2 (rowOf H (.ref t))
      rw [rowOf_ti hti]
      exact intsAre_of r2
    · show rowOf H (.ref t) ≠ []
      rw [rowOf_ti hti]
      exact nx
  · have h3 : ∀ u ∈ out, ∃ t, u = Value.ref t ∧ t ∈ ts := fun u hu => mem u (h2.perm.mem_iff.mp hu)
    obtain ⟨n, hn⟩ := hn
    obtain ⟨ts', hts'⟩ : ∃ ts' : List Addr, out = ts'.map Value.ref := by
      clear hn h2 h1
      induction out with
      | nil => exact ⟨[], rfl⟩
      | cons u out ih =>
        obtain ⟨t, rfl, _⟩ := h3 u List.mem_cons_self
        obtain ⟨ts', e⟩ := ih fun v hv => h3 v (List.mem_cons_of_mem _ hv)
        exact ⟨t :: ts', by rw [e]; rfl⟩
    subst hts'
    have eb : (ts'.map Value.ref).map backV = ts'.map V.ref := by
      rw [List.map_map]
      rfl
    have mts : ∀ t ∈ ts', t ∈ ts := fun t ht => by
      obtain ⟨t', e, hm⟩ := h3 _ (List.mem_map.mpr ⟨t, ht, rfl⟩)
      cases e
      exact hm
    refine ⟨.ref d, upd H d (.lst (ts'.map V.ref)), I.laid (t' := s.toks) kp hd ⟨?_, ts'.map Value.ref, n, by rw [← eb]; exact vals_back fun u hu => (h3 u hu).imp fun _ h => h.1, hn⟩, rfl, ?_⟩
    · have := h2.len
      rw [List.length_map] at this ⊢
      have l2 := rv.length
      omega
    refine q ts' (ts'.map fun t => rowOf H (.ref t)) d ?_ ?_ (its_of fun t ht => (hx t (mts t ht)).imp fun _ h => h.1) (I.hok.fresh hd)
    · have := h2.perm.map fun u => rowOf H (backV u)
      rw [List.map_map] at this
      rw [its_rows its0]
      have e3 : its.map (fun u => rowOf H (backV u)) = ts.map fun t => rowOf H (.ref t) := by
        have := congrArg (List.map (rowOf H)) e1
        rw [List.map_map, List.map_map] at this
        exact this.symm
      rw [e3] at this
      exact this
    · have := List.pairwise_map.mp h1
      exact List.pairwise_map.mpr this
end
/-- two orders of the same unlike rows are one -/
theorem rows_uniq : ∀ {xs ys : List (List Int)}, xs.Perm ys → xs.Pairwise (fun x y => HT.lexLt y x = false) → ys.Pairwise (fun x y => HT.lexLt y x = false) → xs = ys := by
  intro xs ys h hx hy
  exact h.eq_of_pairwise (fun a b _ _ h1 h2 => (lex_eq b a h1 h2).symm) hx hy
end KR
/-! sorted(set(xs)) of a list of whole numbers; a comprehension over a locked dict's keys -/
namespace KR
open PySem PySem.Spec PyProof.Rows L2 KM KQ
section
variable {P : Program} {w : World} {A : Around} {E : Value → Shared → Prop} {s : Shared}
/-- a set without members -/
abbrev bare (w : World) : Obj := { cls := .type "set", dict := none, data := .set #[] 0 (.fresh 0 0 (!w.params.followText "set-order")) }
abbrev bareS (w : World) (s : Shared) : Shared := { s with heap := s.heap.push (bare w) }
set_option maxHeartbeats 8000000 in
theorem set_of_list {l : Addr} {items : Array Value} (ns : List Int) {Q : Value → Shared → Prop} (free : A.handled = none) (lst : s.heap.IsList l items) (hit : IntsAre items.toList ns) (small : ns.length + 1 < scanBound)
    (out : ∀ (h' : Heap) (tk c : Nat), SetR w h' s.heap.objs.size (fun j => decide (j ∈ ns)) c → c ≤ ns.length → (∀ b o, s.heap.get? b = some o → h'.get? b = some o) → Q (.ref s.heap.objs.size) { s with heap := h', toks := tk }) :
    wpAny (model P w) A (call (.type "set") [.ref l]) Q E s := by
  have size : items.size = ns.length := by rw [← hit.length, Array.length_toList]
  obtain ⟨c0, tl0, m0⟩ := F.called_set.mro
  have m1 := F.called_set.made; have m2 := F.called_set.sub; have m3 := F.called_set.notType; have m4 := F.called_set.canCreate; have m5 := F.typeCall_set_1 (.ref l)
  refine wpAny_call (codeAny_of_tree (show wpAny _ _ (callAny (.type "set") _) _ _ _ from wpAny_pure ⟨Code.quiet_builtin _ (by decide +kernel), codeAny_builtin F.entry_type_call ?_⟩))
  rw [Around.under_plain (weight_type_call_type "set" [.ref l] []) rfl]; repeat (any_goals (first | assumption | wp_step))
  refine codeAny_mono (code_set_led1 (.ref l) (E := E) (Q₁ := fun u s1 => u = .ref s.heap.objs.size ∧ s1 = bareS w s) ⟨rfl, rfl⟩) fun z s1 hz => ?_
  cases z with
  | error e => exact hz
  | ok fl =>
    cases fl with
    | ret u =>
      obtain ⟨rfl, rfl⟩ := hz
      have at0 : (s.heap.push (bare w)).get? s.heap.objs.size = some (bare w) := Heap.get?_push_size _ rfl
      have ty0 : Shared.TypeIs (bareS w s) (.ref s.heap.objs.size) "set" := ⟨_, at0, rfl⟩
      have n1 := F.called_set.init.lookup; have n2 := F.called_set.init.bind (.ref s.heap.objs.size); repeat (any_goals (first | assumption | wp_step))
      refine codeAny_mono (codeAny_call_builtin (R := wants (fun r s2 => r = .none ∧ ∃ h' tk c, s2 = { s with heap := h', toks := tk } ∧ SetR w h' s.heap.objs.size (fun j => decide (j ∈ ns)) c ∧ c ≤ ns.length ∧ ∀ b o, s.heap.get? b = some o → h'.get? b = some o) E)
        F.called_set.init.plain F.entry_set_init (check_set_init_1 ty0 ?_)) fun r2 s2 hz2 => ?_
      · obtain ⟨⟨oc, od, oda, osl⟩, at1, c1, n1', d1⟩ := lst
        simp only at c1 d1; subst c1; subst d1
        have at2 : (s.heap.push (bare w)).get? l = some { cls := .type "list", dict := od, data := .seq items n1', slots := osl } := Heap.get?_push_of_some _ at1
        have u1 := F.sub_list_set; have u2 := F.sub_list_frozenset; have u3 : (Value.type "list" == Value.type "dict") = false := by decide
        have lst2 : (s.heap.push (bare w)).IsList l items := ⟨_, at2, rfl, n1', rfl⟩
        unfold Builtin.«set.__init__» noKeywords Builtin.Frozenset.updateFrom; generalize hq : pyIter = qi; wp_walk; subst hq
        refine wpAny_pyIter_list lst2 (wpAny_bind (wpAny_runValue ?_))
        have below : l < s.heap.objs.size := Heap.lt_size at1
        have free3 : A.in1.in1.in1.handled = none := by simp [free]
        have ne1 : l ≠ (s.heap.push (bare w)).objs.size := by rw [Heap.size_push]; exact Nat.ne_of_lt (Nat.lt_succ_of_lt below)
        have out1 : s.heap.objs.size ∉ [(s.heap.push (bare w)).objs.size, l] := by
          rw [Heap.size_push]
          simp only [List.mem_cons, List.not_mem_nil, or_false, not_or]
          exact ⟨Nat.ne_of_lt (Nat.lt_succ_self _), Nat.ne_of_gt below⟩
        have vals : ∀ (i : Nat) (v : Value), items[i]? = some v → ∃ k t, ns[i]? = some k ∧ v = .int k t := fun i v hv => by
          have hi : i < ns.length := by rw [← size]; exact (Array.getElem?_eq_some_iff.mp hv).1
          obtain ⟨t, e⟩ := PyProof.Rows.IntsAre.int_at hit i v (by rw [Array.getElem?_toList]; exact hv)
          exact ⟨ns[i], t, List.getElem?_eq_getElem hi, by rw [e, List.getD_eq_getElem?_getD, List.getElem?_eq_getElem hi]; rfl⟩
        refine set_update_ints ((Walks.list free3 _ l ne1 items).toS) s.heap.objs.size out1 ns size small vals (items.size - 0) 0 _ (by omega) (Nat.zero_le _) ⟨⟨_, Heap.get?_push_size _ rfl, rfl, rfl⟩, lst2.push _⟩ ⟨0, Nat.le_refl 0, setR_new_at (Heap.get?_push_of_some _ at0)⟩ ?_
        rintro ⟨h', g2, d', tk', os'⟩ c' mv hc' R'
        obtain rfl : g2 = s.gens := mv.gens
        obtain rfl : d' = s.drawn := mv.drawn
        obtain rfl : os' = s.os := mv.os
        refine (show wpAny _ _ _ _ _ _ from wpAny_pure (show wpAny _ _ (ret Value.none) _ _ _ from wpAny_pure ⟨rfl, h', tk', c', rfl, R', by rw [← size]; exact hc', fun b o e => ?_⟩))
        have b0 : b < s.heap.objs.size := Heap.lt_size e
        refine mv.heap b o ?_ (Heap.get?_push_of_some _ (Heap.get?_push_of_some _ e))
        rw [Heap.size_push]
        simp only [List.mem_cons, List.not_mem_nil, or_false, not_or]
        exact ⟨Nat.ne_of_lt b0, Nat.ne_of_lt (Nat.lt_succ_of_lt b0)⟩
      · cases r2 with
        | error e => exact hz2
        | ok f2 =>
          cases f2 with
          | ret r =>
            obtain ⟨rfl, h', tk, c', rfl, R', hc', kp⟩ := hz2
            repeat (any_goals (first | assumption | wp_step))
            exact out _ _ _ R' hc' kp
          | _ => exact hz2.elim
    | _ => exact hz.elim
end
section
variable {X : Cx}
theorem srt_set {pins : List (Addr × Obj)} {σ : L2.St} {H : Hp} {Q : VK} {s : Shared} {a : Addr} {S : Int → Bool} {n : Nat} (hc : X.calm = true) (I : Inv X pins σ H s) (R : SetR X.w s.heap a S n) (h64 : n < 64)
    (q : ∀ (ns : List Int) (p : Addr), ns.Pairwise (· < ·) → (∀ k : Int, k ∈ ns ↔ S k = true) → H p = none → Q (.ref p) (upd H p (.lst (ns.map V.int)))) :
    wpAny (model X.prog X.w) X.A (call (.builtin "sorted") [.ref a]) (EP X pins σ Q) X.xe s := by
  refine sorted_set R (I.ok.hd hc) h64 fun s' p out c ns k g o hp hg hi hs hm hl => ?_
  have hz : (ns.map V.int).length ≤ sizeLine := by
    rw [List.length_map, hl, sizeLine_eq]
    omega
  have new : H p = none := I.hok.fresh hp
  have J : Inv X pins σ (upd H p (.lst (ns.map V.int))) { s with heap := s'.heap, gens := s'.gens, drawn := s'.drawn, toks := s'.toks } :=
    I.call (ch := []) (Un.laid k hp new) (I.hok.laid k hp ⟨hz, out.toList, c, vals_of_ints hi, hg⟩) (by rw [g]; exact I.bare) (fun _ z => nomatch z)
  rw [show s' = { s with heap := s'.heap, gens := s'.gens, drawn := s'.drawn, toks := s'.toks } by cases s'; cases s; cases o; rfl]
  exact ⟨.ref p, _, J, rfl, q ns p hs hm new⟩
def tSrtSet (K : PySem.W.Frag) (ta : TE) : TE := fun σ H Q => ta σ H fun x H1 => ∃ (l : Addr) (xs : List Int), x = .ref l ∧ SqL K H1 l (xs.map V.int) ∧ xs.length < 64 ∧
  ∀ (ns : List Int) (p : Addr), ns.Pairwise (· < ·) → (∀ k : Int, k ∈ ns ↔ k ∈ xs) → H1 p = none → Q (.ref p) (upd H1 p (.lst (ns.map V.int)))
theorem pe_srtSet {a : Expr} {ta : TE} {p p2 q pos : Pos} (hc : X.calm = true) (hg : Gl X "sorted") (hm : X.mg "sorted" = none) (hg2 : Gl X "set") (hm2 : X.mg "set" = none) (ha : PE X a ta)
    (na : starEach [a] X.env = (false, eval a X.env) :: starEach [] X.env := by rfl) : PE X (.Call (.Name "sorted" p) [.Call (.Name "set" p2) [a] [] q] [] pos) (tSrtSet X.K ta) := by
  refine ⟨fun pins s σ H Q I h => ?_⟩
  refine Call_ (ld_blt I hg hm (show bootBuiltins (Str.ofString "sorted") = some (.builtin "sorted") by decide +kernel) ?_)
  refine PyProof.Rows.callWith_builtin1 (PyProof.Rows.args_cons ?_ rfl) rfl rfl
  refine Call_ (ld_blt I hg2 hm2 boot_set ?_)
  refine PyProof.Rows.callWith_type1 (PyProof.Rows.args_cons (thn (ha.run pins s σ H _ I h) fun v s1 ⟨x, H1, I1, r1, q1⟩ => PyProof.Rows.args_nil ?_) na) na rfl
  obtain ⟨l, xs, rfl, hq, hle, q1⟩ := q1
  cases r1
  obtain ⟨its, r, pl, hz⟩ := I1.list hq
  refine set_of_list xs (I1.ok.hd hc) pl.isList (by simpa using r.ints) (Nat.lt_of_le_of_lt hle (by decide)) fun h' tk c R hcl kp => ?_
  refine PyProof.Rows.args_nil ?_
  have I2 : Inv X pins σ H1 { s1 with heap := h', toks := tk } := I1.kept kp
  exact srt_set hc I2 R (by omega) fun ns p hs hm hn => q1 ns p hs (fun z => by rw [hm z, decide_eq_true_iff]) hn
end
/-! a comprehension over a locked dict's keys -/
theorem lc_keys {d : Addr} {o : Obj} {kvs : List (L2.Key × V)} {g : TG} {tt : TT} {te : TE} {vs : List Nat} {σ : L2.St} {H1 : Hp} {D : Addr} {Qd : Hp → Prop} (Pv : Nat → Hp → Prop) (h0 : Pv 0 (upd H1 D (.lst []))) (hl : ∀ i H, i ≤ kvs.length → Pv i H → H d = some (.frz o (.dK kvs)))
    (hs : ∀ i k v H, kvs[i]? = some (k, v) → Pv i H → g (kV k) (wipe σ vs) H fun σ2 H2 => wipe σ2 vs = wipe σ vs ∧ tt σ2 H2 fun b H3 =>
      if b = true then te σ2 H3 fun y H4 => ∃ acc, H4 D = some (.lst acc) ∧ acc.length < sizeLine ∧ Pv (i + 1) (upd H4 D (.lst (acc ++ [y]))) else Pv (i + 1) H3) (hd : ∀ H, Pv kvs.length H → Qd H) :
    ∃ W : Nat → Nat → Hp → Prop, (∃ m, W 0 m (upd H1 D (.lst []))) ∧ ∀ i m H, W i m H →
      ((Itk d o kvs).stop i H ∧ Qd H) ∨ ((Itk d o kvs).go i H ∧ ∃ Nx : Hp → Prop, (∀ H', Nx H' → ∃ m', m' < m ∧ W (i + 1) m' H') ∧ ∀ x H', (Itk d o kvs).yld i H x H' → g x (wipe σ vs) H' fun σ2 H2 => wipe σ2 vs = wipe σ vs ∧ tt σ2 H2 fun b H3 =>
        if b = true then te σ2 H3 fun y H4 => ∃ acc, H4 D = some (.lst acc) ∧ acc.length < sizeLine ∧ Nx (upd H4 D (.lst (acc ++ [y]))) else Nx H3) := by
  refine ⟨fun i m H => m = kvs.length - i ∧ i ≤ kvs.length ∧ Pv i H, ⟨kvs.length, by simp, Nat.zero_le _, h0⟩, ?_⟩
  rintro i m H ⟨rfl, hi, p⟩
  have q := hl i H hi p
  by_cases hlt : i < kvs.length
  · refine .inr ⟨⟨q, hlt⟩, Pv (i + 1), fun H' p' => ⟨kvs.length - (i + 1), by omega, rfl, hlt, p'⟩, fun x H' y => ?_⟩
    obtain ⟨e, k, v, hk, rfl⟩ := y
    subst e
    exact hs i k v _ hk p
  · obtain rfl : i = kvs.length := by omega
    exact .inl ⟨⟨q, Nat.le_refl _⟩, hd H p⟩
end KR
/-! an own error whose __init__ says super().__init__(text), then self.f = x -/
namespace KR
open PySem PySem.Spec PyProof.Rows L2
def spIni (C : Addr) (fld : Str) : Sp := fun vs H Q _ => ∃ a v, vs = [.ref a, v] ∧ H a = some (exo a C none) ∧ ∀ dx, H dx = none → dx ≠ a → Q .non (upd (upd H dx (exd dx [(fld, v)])) a (exo a C (some dx)))
def cxI (P : Program) (w : World) (K : PySem.W.Frag) (mg : Str → Option Value) (base : Heap) (N : List Str) (qual : Str) (scope : Scope) (f cc : Addr) (cd : Value) (A : Around) (outer : List Env) (s : Shared) (H : Hp) (E' : Value → Shared → Prop) : Cx where
  prog := P
  w := w
  K := K
  mg := mg
  base := base
  A := A.deeper (PySem.W.ksEnv qual scope s.heap.objs.size f cd cc)
  N := N
  s_0 := s
  H_0 := H
  env := PySem.W.ksEnv qual scope s.heap.objs.size f cd cc
  outer := outer
  stack := PySem.W.ksEnv qual scope s.heap.objs.size f cd cc :: outer
  ex := []
  calm := true
  fn := fun _ => false
  pn := []
  xe := E'
theorem lkp {β : Type} (f g : Str) (y : β) (fs : List (Str × β)) : ((f, y) :: fs).lookup g = if g = f then some y else fs.lookup g := by
  by_cases h : g = f
  · subst h
    simp [List.lookup]
  · have e : (g == f) = false := by simpa using h
    rw [if_neg h]
    simp [List.lookup, e]
theorem lookup_cc {cc c : Addr} {y : Str} (e : ([(("__class__" : Str), cc)] : List (Str × Addr)).lookup y = some c) : y = "__class__" ∧ c = cc := by
  rw [lkp] at e
  by_cases h : y = "__class__"
  · rw [if_pos h] at e
    exact ⟨h, (Option.some.inj e).symm⟩
  · rw [if_neg h] at e
    cases e
theorem cc_lookup {cc : Addr} : ([(("__class__" : Str), cc)] : List (Str × Addr)).lookup ("__class__" : Str) = some cc := by
  rw [lkp, if_pos rfl]
section
variable {P : Program} {w : World} {K : PySem.W.Frag} {mg : Str → Option Value} {base : Heap} {CX : CXT} {f cc cda C : Addr} {name qual fld x msg : Str} {params : Arguments} {scope : Scope} {dV kV doc pm ct oc ccl cl : Value} {an od cdd cld : Option Addr} {osl ccs csl : Array (Option Value)} {vs0 : Array Value} {file : Str} {tf : Tok} {ar : Arg}
  {j : Nat} {p0 p1 p2 p3 p4 p5 q1 q2 q3 q4 : Pos}
abbrev iniBody (msg fld x : Str) (j : Nat) (p0 p1 p2 p3 p4 p5 q1 q2 q3 q4 : Pos) : List Stmt :=
  [.Expr (.Call (.Attribute (.Call (.Name "super" p0) [] [] p1) "__init__" p2) [.Constant (.str msg) j p3] [] p4) p5, .Assign [.Attribute (.Name "self" q1) fld q2] (.Name x q3) q4]
theorem fn_ini (T : OexC K C)
    (lk : K.lookup f = some ⟨oc, od, .func (PySem.W.ksFn name qual params (iniBody msg fld x j p0 p1 p2 p3 p4 p5 q1 q2 q3 q4) scope dV kV doc pm an (.ref cda) ct cc), osl⟩)
    (hcd : PySem.W.codeIn K (.ref cda) qual = true) (hcode : K.lookup cda = some ⟨ccl, cdd, .fields vs0, ccs⟩) (hvs : vs0[2]? = some (.str file tf)) (hfile : ((P.main.file : Str) == file) = true)
    (htop : (P.main.scope.names.lookup ("super" : Str)).isSome = false) (hcell : K.lookup cc = some ⟨cl, cld, .cell (some (.ref C)), csl⟩)
    (hsup : PySem.W.ks_superIn K C C "__init__" = some (some (.builtin "ValueError.__init__"))) (hV : PySem.W.subIn K (.ref C) (.type "ValueError") = some true) (hmro : PySem.W.mroIn K C (.ref C) = some true)
    (hop : PySem.W.nsIn K cStatics "thirdparty.any" = some none) (hsm : mg "super" = none) (hfa : PySem.W.findIn K (.ref C) fld = some none)
    (hp : (params.posonlyargs ++ params.args).head? = some ar) (har : ar.arg = "self") (hx : ¬ (x = "self")) (hxd : (x == ("__debug__" : Str)) = false) (hxc : (x == ("__classdict__" : Str)) = false)
    (hk : scope.kind = .function) (hco : scope.isCoroutine = false) (hgen : scope.isGenerator = false)
    (l1 : scope.names.lookup ("self" : Str) = some .local) (l2 : scope.names.lookup x = some .local) (l3 : scope.names.lookup ("__class__" : Str) = some .free) (l4 : scope.names.lookup ("super" : Str) = some .globalImplicit)
    {pl : Sem Bool} (hev : ∀ L, eval (.Call (.Attribute (.Call (.Name "super" p0) [] [] p1) "__init__" p2) [.Constant (.str msg) j p3] [] p4) (PySem.W.ksEnv qual scope L f (.ref cda) cc) = (do
      let ov ← attributeBase (.Call (.Name "super" p0) [] [] p1) "__init__" (PySem.W.ksEnv qual scope L f (.ref cda) cc) (eval (.Call (.Name "super" p0) [] [] p1) (PySem.W.ksEnv qual scope L f (.ref cda) cc))
      standAt p2.atName
      let (fn, first) ← holding [ov] (getMethod ov "__init__" pl)
      callWith p4 fn first (backTo p4 (starEach [.Constant (.str msg) j p3] (PySem.W.ksEnv qual scope L f (.ref cda) cc))) []))
    (l5 : ∀ y ∈ scope.names, y.2 ≠ .cell) (l6 : ∀ y ∈ scope.names, y.2 = .free → y.1 = "__class__") :
    FnOk P w K mg base CX 1 f (PySem.W.ksFn name qual params (iniBody msg fld x j p0 p1 p2 p3 p4 p5 q1 q2 q3 q4) scope dV kV doc pm an (.ref cda) ct cc) ["self", x] (spIni C fld) := by
  refine ⟨fun vs H Q E h => ?_, fun A outer s H args us vs Q E hr e0 hb r hsp => ?_⟩
  · obtain ⟨a, v, rfl, _⟩ := h
    rfl
  obtain ⟨a, v, rfl, ha, q⟩ := hsp
  cases r with
  | cons ra r1 =>
  rename_i u0 us1
  cases r1 with
  | cons rv r2 =>
  rename_i u1 us2
  cases r2
  obtain rfl : u0 = Value.ref a := ra
  have KX : K.In s.heap := e0.mod.kin.keeps fun b o e => (e0.bs b o e).1
  have lim : s.heap.NoLimit := e0.mod.nolimit.keeps fun b o e => (e0.bs b o e).1
  refine PySem.ks_codeAny_call_defAt (fd := PySem.W.ksFn name qual params (iniBody msg fld x j p0 p1 p2 p3 p4 p5 q1 q2 q3 q4) scope dV kV doc pm an (.ref cda) ct cc) (body := iniBody msg fld x j p0 p1 p2 p3 p4 p5 q1 q2 q3 q4)
    (binds := [("self", .ref a), (x, u1)]) hr.depth (KX _ _ lk) rfl lim (PySem.W.codeRec_of KX hcd) rfl hb l5 (fun y hy => ?_) (fun h0 hns hkp => ?_) hco hgen hk
  · simp only [List.mem_cons, List.not_mem_nil, or_false] at hy
    rcases hy with rfl | rfl
    · exact l1
    · exact l2
  show PySem.wpAt (model P w) (A.deeper (PySem.W.ksEnv qual scope s.heap.objs.size f (.ref cda) cc)) (.func (iniBody msg fld x j p0 p1 p2 p3 p4 p5 q1 q2 q3 q4) (PySem.W.ksEnv qual scope s.heap.objs.size f (.ref cda) cc)) (execs (iniBody msg fld x j p0 p1 p2 p3 p4 p5 q1 q2 q3 q4) (PySem.W.ksEnv qual scope s.heap.objs.size f (.ref cda) cc)) _ _ _
  generalize hE : (fun (e : Value) (s' : Shared) => wpAny (model P w) (A.deeper (callEnv (PySem.W.ksFn name qual params (iniBody msg fld x j p0 p1 p2 p3 p4 p5 q1 q2 q3 q4) scope dV kV doc pm an (.ref cda) ct cc) s.heap.objs.size f)) (leaving (callEnv (PySem.W.ksFn name qual params (iniBody msg fld x j p0 p1 p2 p3 p4 p5 q1 q2 q3 q4) scope dV kV doc pm an (.ref cda) ct cc) s.heap.objs.size f) e)
    (fun _ s'' => CR CX outer P w H s Q E (.error e) s'') (fun e' s'' => CR CX outer P w H s Q E (.error e') s'') s') = E'
  have I0 : Inv (cxI P w K mg base ["self", x] qual scope f cc (.ref cda) A outer s H E') [] [some (.ref a), some v] H { s with heap := h0, toks := s.toks + 2 } := by
    have hcc : base.get? cc = some ⟨cl, cld, .cell (some (.ref C)), csl⟩ := e0.mod.kin _ _ hcell
    have hccs := e0.bs _ _ hcc
    have noA : ∀ b : Addr, b ∉ (cxI P w K mg base ["self", x] qual scope f cc (.ref cda) A outer s H E').ex := fun b z => absurd (show b ∈ ([] : List Addr) from z) (by simp)
    refine ⟨⟨e0.mod, hk, rfl, rfl, Nat.le_refl _, fun y z c h1 h2 => ?_, fun y hy => ?_, fun y c h => ?_, fun _ => hr.hd, Around.frames_deeper e0.frames, .inr ⟨rfl, rfl⟩, fun b z => absurd z (noA b), e0.bs, e0.bsz, fun b _ _ => noA b, fun b z => absurd z (noA b), e0.funs, e0.frf⟩,
      rfl, e0.bare, Un.kept hkp, ⟨_, hns, fun i y v' h1 h2 h3 => ?_⟩, fun y c h => ?_, e0.hok.fresh (Nat.le_refl _), fun y c h => ?_, fun p hp => absurd (show p ∈ ([] : List (Addr × Obj)) from hp) (by simp), e0.hok.kept hkp, rfl⟩
    · exact (lookup_cc h1).1.trans (lookup_cc h2).1.symm
    · have hy : scope.names.lookup y = some .cell ∨ scope.names.lookup y = some .free := hy
      rcases hy with hy | hy
      · exact absurd rfl (l5 _ (PySem.mem_of_lookup hy))
      · rw [show y = ("__class__" : Str) from l6 _ (PySem.mem_of_lookup hy) rfl]
        exact ⟨cc, cc_lookup⟩
    · cases h
    · match i, h1, h2 with
      | 0, h1, h2 =>
        cases h1
        cases h2
        refine ⟨.ref a, rfl, .inl ⟨l1, ?_⟩⟩
        show ([(x, u1), ("self", Value.ref a)] : List (Str × Value)).lookup ("self" : Str) = _
        rw [lkp, if_neg (fun z => hx z.symm), lkp, if_pos rfl]
      | 1, h1, h2 =>
        cases h1
        cases h2
        refine ⟨u1, rv, .inl ⟨l2, ?_⟩⟩
        show ([(x, u1), ("self", Value.ref a)] : List (Str × Value)).lookup x = _
        rw [lkp, if_pos rfl]
      | n + 2, h1, h2 => exact absurd h1 (by simp [cxI])
    · rw [(lookup_cc h).2]
      exact ⟨_, _, hkp _ _ hccs.1, rfl⟩
    · rw [(lookup_cc h).2]
      exact hccs.2
  have KX0 := I0.kIn
  have heg : H a = some (exo a C none) := ha
  obtain ⟨t1, hoe⟩ := exo_at I0.hok heg
  obtain ⟨nm, qn, N, bs, bm, sn, sub, ab, col, dd, k0, k1, k2, k3, k5, hC, hbm⟩ := T.cls
  have hcl : PySem.W.clsIn K C = some { name := nm, bases := bs, mro := .ref C :: bm, ns := N, qualname := qn, hasDict := true, slotNames := sn, subclasses := sub, abstract := ab, collection := col, hasDel := false } := by unfold PySem.W.clsIn; rw [hC] <;> rfl
  have inst : PySem.W.InstAt h0 a { cls := .ref C, dict := none, data := .fields #[.ref t1, .none, .none, .none, .bool false, .none] } C none := ⟨hoe, rfl, rfl, trivial⟩
  have hac : a ≠ C := PySem.W.ks_ne KX0 inst hcl
  refine PySem.ks_wpAt_execs_cons (PySem.ks_wpAt_Expr_any (hi := I0.quiet) (PySem.ks_wpAt_MethodCall (he := hev _) ?_))
  obtain ⟨mb, hmb1, hmb2⟩ := I0.mod.blt
  have hCo := KX0 _ _ hC
  refine PySem.ks_wpAt_super_base (env := PySem.W.ksEnv qual scope s.heap.objs.size f (.ref cda) cc) l4 l3 (by decide +kernel) rfl (KX0 _ _ lk) rfl hp rfl (KX0 _ _ hcode) rfl hvs hfile htop ?_
  refine PySem.W.ks_loadName_global hk l4 (PySem.Calls.loadGlobal_builtin (env := PySem.W.ksEnv qual scope s.heap.objs.size f (.ref cda) cc) (I0.mod.glob.keeps I0.bk) hsm (hmb1.keeps I0.bk) ((hmb2 "super" (by decide)).trans PyProof.Rows.Boot.«super») ⟨rfl, ?_⟩)
  refine wpAny_loadName_free hk l3 cc_lookup ⟨_, KX0 _ _ hcell, rfl⟩ ?_
  refine wpAny_loadName_local hk (by rw [har]; exact l1) hns (v := .ref a) (by rw [har]; show ([(x, u1), ("self", Value.ref a)] : List (Str × Value)).lookup ("self" : Str) = _; rw [lkp, if_neg (fun z => hx z.symm), lkp, if_pos rfl]) ?_
  refine PySem.ks_wpAny_isType_cls hCo rfl ⟨rfl, ?_⟩
  refine PySem.ks_wpAny_call_super hCo rfl inst.at_ inst.cls (fun c e => by cases e) (PySem.W.looks_mroIn KX0 hmro) (fun h1 e1 kk1 => ?_)
  have KX1 := KX0.keeps kk1
  have hI : PySem.W.Looks (model P w) h1 (isInstance (.ref a) (.type "ValueError")) true := (show PySem.W.InstAt h1 a { cls := .ref C, dict := none, data := .fields #[.ref t1, .none, .none, .none, .bool false, .none] } C none from ⟨kk1 _ _ hoe, rfl, rfl, trivial⟩).type.andThen (PySem.W.looks_subIn KX1 hV)
  have hsup2 : PySem.W.alongIn K "__init__" bm = some (some (.builtin "ValueError.__init__")) := by
    unfold PySem.W.ks_superIn at hsup
    rw [hcl] at hsup
    have e2 : ((Value.ref C :: bm).dropWhile (· != Value.ref C)).drop 1 = bm := by simp [List.dropWhile_cons]
    rw [← e2]
    exact hsup
  refine PySem.W.kxs_getMethod PySem.W.kxs_ValueError e1 (PySem.W.looks_opaque KX1 hop) (l₀ := .ref C :: bm) (fun A Q E s k q => wpAny_bind ((PySem.W.looks_clsIn KX1 hcl) A _ E s k (wpAny_pure q))) (l := bm) (by simp [List.dropWhile_cons]) KX1 hsup2 hI hac (by decide +kernel) ?_
  have I1 := I0.kept (t' := s.toks + 2) kk1
  have kk2 : ∀ b o, h0.get? b = some o → (h1.push (PySem.W.kxs_mw "ValueError.__init__" a)).get? b = some o := fun b o e => Heap.get?_push_of_some _ (kk1 _ _ e)
  have hmw : (h1.push (PySem.W.kxs_mw "ValueError.__init__" a)).get? h1.objs.size = some (PySem.W.kxs_mw "ValueError.__init__" a) := Heap.get?_push_at rfl rfl
  have I2 : Inv (cxI P w K mg base ["self", x] qual scope f cc (.ref cda) A outer s H E') [(h1.objs.size, PySem.W.kxs_mw "ValueError.__init__" a)] [some (.ref a), some v] H
      { s with heap := h1.push (PySem.W.kxs_mw "ValueError.__init__" a), toks := s.toks + 2 + 1 } := (I0.kept (t' := s.toks + 2 + 1) kk2).pins_of fun p hp => by
    rcases List.mem_append.mp (show p ∈ [] ++ [(h1.objs.size, PySem.W.kxs_mw "ValueError.__init__" a)] from hp) with hp | hp
    · cases hp
    · rw [List.mem_singleton] at hp
      subst hp
      exact ⟨hmw, I1.hok.fresh (Nat.le_refl _), Nat.ne_of_gt I1.lt, I1.nofs (Nat.le_refl _), fun v z => by cases z⟩
  have hargs : PA (cxI P w K mg base ["self", x] qual scope f cc (.ref cda) A outer s H E') [.Constant (.str msg) j p3] (tCons (tC (.str msg)) tNil) := pa_cons pe_str pa_nil
  have hspl := hargs.run p4 _ _ _ H (fun vs H1 => vs = [V.str msg] ∧ H1 = H) I2 ⟨rfl, rfl⟩
  refine PySem.W.kxs_callWith (i := "ValueError.__init__") (x := a) rfl (PySem.Calls.evalArgs_plain (wpAny_mono hspl (fun us s3 h3 => ?_) (fun _ _ z => z)))
  obtain ⟨vs, H1, I3, r3, rfl, rfl⟩ := h3
  cases r3 with
  | cons ru rn =>
  rename_i uz usz
  cases rn
  have hmw3 := (I3.pin (h1.objs.size, PySem.W.kxs_mw "ValueError.__init__" a) (by simp [cxI])).1
  refine ⟨hmw3, ?_⟩
  obtain ⟨t3, ho3⟩ := exo_at I3.hok heg
  have hC3 := I3.kIn _ _ hC
  obtain ⟨h3, g3, d3, tk3, os3⟩ := s3
  refine wpAny_call (codeAny_of_tree ?_)
  show wpAny _ _ (callAny (.ref h1.objs.size) ⟨[uz], []⟩) _ _ _
  simp only [callAny]
  refine wpAny_bind (wpAny_load hmw3 ?_)
  simp only [PySem.W.kxs_mw, show (Value.type "method-wrapper" == Value.type "method" || Value.type "method-wrapper" == Value.type "builtin_function_or_method" || Value.type "method-wrapper" == Value.type "method-wrapper") = true by decide, if_true]
  refine PySem.W.KFB.if_so (by decide) ?_
  refine wpAny_bind (PySem.W.check_bound_init PySem.F.excBase_ValueError.toExcCallFacts hC3 ho3 rfl ?_)
  refine wpAny_bind (wpAny_pure (wpAny_pure ?_))
  refine ⟨PySem.plainId_quiet PySem.F.excBase_ValueError.init.plain _, codeAny_builtin PySem.F.excBase_ValueError.initEntry ?_⟩
  refine PySem.W.exc_init_tree (cls := .ref C) (t0 := t3) (dv := none) (c2 := .none) (c3 := .none) (b4 := .bool false) ho3 (by show 1 ≤ sizeLine; rw [sizeLine_eq]; omega) (fun h4 k4 hx4 _ => ?_)
  have J := I3.write (t' := tk3) (x := a) (e := a) (o := exo a C none) (by rw [heg]; exact True.intro) (.inl rfl) k4 ⟨_, hx4⟩ (exo_ok hx4)
  have eu : upd H1 a (exo a C none) = H1 := by
    funext b
    by_cases hb : b = a
    · rw [hb, upd_same, heg]
    · rw [upd_ne hb]
  rw [eu] at J
  refine wpAt_of_wpAny ?_
  have hps : PSs (cxI P w K mg base ["self", x] qual scope f cc (.ref cda) A outer s H1 E') [.Assign [.Attribute (.Name "self" q1) fld q2] (.Name x q3) q4] _ :=
    pss_one (ps_ost (pe_var (i := 0) rfl (.inl l1)) (pe_var (i := 1) rfl (.inl l2) hxd hxc))
  refine wpAny_mono (hps.run _ _ _ H1 { nx := fun _ H' => Q .non H', rt := Q } J ⟨v, rfl, .ref a, rfl, a, C, rfl, T, hfa, .inl ⟨heg, fun dx n ne => q dx n ne⟩⟩) (fun fl s' hs => ?_) (fun _ _ z => z)
  cases fl with
  | ret u =>
    obtain ⟨v', σ', H', J', rv', q'⟩ := hs
    exact ⟨v', H', J'.os, J'.bare, J'.base, J'.hok, rv', q'⟩
  | next =>
    obtain ⟨σ', H', J', q'⟩ := hs
    exact ⟨V.non, H', J'.os, J'.bare, J'.base, J'.hok, rfl, q'⟩
  | brk =>
    obtain ⟨_, _, _, q'⟩ := hs
    exact False.elim q'
  | cont =>
    obtain ⟨_, _, _, q'⟩ := hs
    exact False.elim q'
end
end KR
/-! defs that raise; several clauses `except C as e` -/
namespace KR
open PySem PySem.Spec PyProof.Rows L2
def UseX (P : Program) (w : World) (K : PySem.W.Frag) (mg : Str → Option Value) (base : Heap) (x : Str) (k : Nat) (ps : List Str) (sp : Sp) : Prop :=
  ∃ f fd, FnOk P w K mg base (L2.CX P w) k f fd ps sp ∧ mg x = some (.ref f) ∧ PySem.W.keepIn K (.ref f) = true ∧ Binds K fd ps []
section
variable {P : Program} {w : World} {K : PySem.W.Frag} {mg : Str → Option Value} {base : Heap} {x qual : Str} {st : Stmt} {k : Nat} {N ps : List Str} {sp : Sp} {f : Addr} {fd : FuncData}
theorem lift0 {CX : CXT} (F : FnOk P w K mg base CX0 k f fd ps sp) : FnOk P w K mg base CX k f fd ps sp :=
  ⟨F.len, fun A outer s H args us vs Q E hr he hb hv hs => codeAny_mono (F.run A outer s H args us vs Q E hr he hb hv hs) fun r s' hq => by
    cases r with
    | error e => exact (show False from hq).elim
    | ok fl => cases fl <;> exact hq⟩
theorem Use.up (u : Use P w K mg base x k ps sp) : UseX P w K mg base x k ps sp := by
  obtain ⟨f, fd, F, a, b, c⟩ := u
  exact ⟨f, fd, lift0 F, a, b, c⟩
theorem usex_of (D : DefAt K mg x st) (ok : ∀ f fd, Fun K x x st f fd → FnOk P w K mg base (L2.CX P w) k f fd ps sp)
    (h : ∀ (kV doc pm : Value) (an : Option Addr) (cdv ct : Value) (us : List Value), us.length = ps.length → bindArgs (PySem.W.fnOf x x (defArgs st) (defBody st) (defScope st) .none kV doc pm an cdv ct) ⟨us, []⟩ = pure (ps.zip us)) :
    UseX P w K mg base x k ps sp := by
  obtain ⟨f, fd, F, hm⟩ := D
  exact ⟨f, fd, ok f fd F, hm, F.kp, F.binds h⟩
/-- a def of the text that may raise, by its body -/
theorem okX (F : Fun K x qual st f fd) (S : FnScope N ps (defScope st)) (len : ∀ vs H Q E, sp vs H Q E → vs.length = ps.length)
    (body : ∀ (cdv : Value) (A : Around) (outer : List Env) (s : Shared) (H : Hp) (vs : List V) (Q : VK) (E : XK), Takes (cxOf (L2.CX P w) P w K mg base N qual (defScope st) f cdv A outer s H E) (fun cls d _ H' => E cls d H') →
      PassesOwn (model P w) (A.deeper (envOfC qual (defScope st) s.heap.objs.size f cdv)) (envOfC qual (defScope st) s.heap.objs.size f cdv) (cxOf (L2.CX P w) P w K mg base N qual (defScope st) f cdv A outer s H E).xe →
      Room k (A.deeper (envOfC qual (defScope st) s.heap.objs.size f cdv)) → sp vs H Q E →
      ∃ t, PSs (cxOf (L2.CX P w) P w K mg base N qual (defScope st) f cdv A outer s H E) (defBody st) t ∧ t { nx := fun _ H' => Q .non H', rt := Q } (start N vs) H) : FnOk P w K mg base (L2.CX P w) (k + 1) f fd ps sp := by
  obtain ⟨oc, od, kV, doc, pm, an, cdv, ct, osl, rfl, lk, hcd⟩ := F.ex
  exact fn_of lk hcd S len fun A outer s H vs Q E hr hsp => body cdv A outer s H vs Q E (takes_of rfl rfl rfl rfl) (passes_of rfl) hr hsp
end
section
variable {X : Cx} {x : Str} {j k : Nat} {ps : List Str} {sp : Sp} {e : Expr} {es : List Expr} {t : TA} {p pos : Pos} {E : XK}
/-- a call that may raise what is wished -/
theorem pe_usex (u : UseX X.prog X.w X.K X.mg X.base x j ps sp) (tk : Takes X (fun cls d _ H => E cls d H)) (le : j ≤ k) (hr : Room k X.A) (hg : Gl X x) (ha : PA X (e :: es) t)
    (hdb : (x == ("__debug__" : Str)) = false := by decide) (he : starEach (e :: es) X.env = (false, eval e X.env) :: starEach es X.env := by rfl)
    (hpl : (backTo pos (starEach es X.env)).any (·.1) = false := by rfl) : PE X (.Call (.Name x p) (e :: es) [] pos) (tCall sp [] E t) := by
  obtain ⟨f, fd, F, hm, kp, b⟩ := u
  exact pe_call F (hr.mono le) hg hm kp b .nil (passes_call tk fun _ _ _ _ h => h) ha hdb he hpl
end
/-! ### own errors made -/
structure ErrC (P : Program) (w : World) (K : PySem.W.Frag) (mg : Str → Option Value) (base : Heap) (x : Str) (C : Addr) (fld : Str) : Prop where
  T : OexC K C
  ini : ∃ fI fd p, FnOk P w K mg base CX0 1 fI fd ["self", p] (spIni C fld) ∧ PySem.W.findIn K (.ref C) "__init__" = some (some (.ref fI)) ∧ PySem.W.typeIn K (.ref fI) = some (.type "function") ∧ Binds K fd ["self", p] []
  hm : mg x = some (.ref C)
  xf : XfC K C
  nf : PySem.W.findIn K (.ref C) fld = some none
def tUp (ta : TA) : TA := fun σ H Q => ∃ Q' : List V → Hp → Prop, ta σ H Q' ∧ ∀ vs H1, Q' vs H1 → Q vs H1
def tErr (C : Addr) (fld : Str) (ta : TA) : L2.St → Hp → XK → Prop := fun σ H Q => ta σ H fun vs H1 => ∃ v, vs = [v] ∧ ∀ H' d, Same H1 H' → H' d = some (.xd [(fld, v)]) → Q (.ref C) (some d) H'
section
variable {X : Cx} {x fld : Str} {C : Addr} {e : Expr} {es : List Expr} {ta : TA} {p pos : Pos}
theorem pa_up (ha : PA X es ta) : PA X es (tUp ta) := ⟨fun pos pins s σ H Q I h => by
  obtain ⟨Q', h1, h2⟩ := h
  exact wpAny_mono (ha.run pos pins s σ H Q' I h1) (fun us s1 ⟨vs, H1, I1, r1, q1⟩ => ⟨vs, H1, I1, r1, h2 _ _ q1⟩) fun _ _ z => z⟩
theorem pmk_err (er : ErrC X.prog X.w X.K X.mg X.base x C fld) (hr : Room 2 X.A) (hg : Gl X x) (ha : PA X (e :: es) ta)
    (hdb : (x == ("__debug__" : Str)) = false := by decide) (he : starEach (e :: es) X.env = (false, eval e X.env) :: starEach es X.env := by rfl) (hpl : (backTo pos (starEach es X.env)).any (·.1) = false := by rfl) :
    PMk X (.Call (.Name x p) (e :: es) [] pos) (tErr C fld ta) := fun pins s σ H Q I h => by
  obtain ⟨fI, fd, pn, F, iC, tI, hb⟩ := er.ini
  refine pmk_oex (CX := CX0) er.T iC tI F hr hb .nil (fun _ _ _ _ _ _ _ z => z.elim) hg er.hm (pa_up ha) hdb he hpl pins s σ H Q I ⟨_, h, fun vs H1 hv => ?_⟩
  obtain ⟨v, rfl, q⟩ := hv
  refine ⟨by show 1 ≤ 1000; decide, fun a na => ⟨a, v, rfl, upd_same, fun dx ndx nea => ?_⟩⟩
  have n1 : H1 dx = none := by rw [upd_ne nea] at ndx; exact ndx
  refine ⟨rfl, dx, [(fld, v)], upd_same, ?_, n1, q _ dx (fun b o hb => ?_) upd_same⟩
  · rw [upd_ne nea, upd_same]
  · have ba : b ≠ a := ne_of_none hb na
    rw [upd_ne (ne_of_none hb n1), del_ne ba, upd_ne ba, upd_ne (ne_of_none hb n1), upd_ne ba]
    exact hb
end
/-! ### several clauses with names -/
def wManyA (K : PySem.W.Frag) (Wout : WX) (D : Ends) : List (Value × Nat × (Addr → Value → Option Addr → TS)) → WX
  | [] => Wout
  | (c, i, ts) :: r => fun cls d σ H => ∃ b, PySem.W.exmOne K cls c = some b ∧
    (b = true → ∀ a, H a = none → ts a cls d { nx := fun σ' H' => D.nx (σ'.set i none) H', rt := D.rt, bk := fun σ' H' => D.bk (σ'.set i none) H', ct := fun σ' H' => D.ct (σ'.set i none) H' } (σ.set i (some (.ref a))) H) ∧
    (b = false → wManyA K Wout D r cls d σ H)
inductive HdsA (X : Cx) : List ExceptHandler → List (Value × Nat × (Addr → Value → Option Addr → TS)) → Prop
  | nil : HdsA X [] []
  | cons {x n : Str} {c : Value} {i : Nat} {ts : Addr → Value → Option Addr → TS} {b₀ : Stmt} {suite : List Stmt} {np pos' : Pos} {hds : List ExceptHandler} {l : List (Value × Nat × (Addr → Value → Option Addr → TS))} (hc : Names X x c)
      (hi : X.N[i]? = some n) (hln : X.env.kindOf n = some .local)
      (hsu : ∀ (a : Addr) (oe : Obj) (cls : Value) (d : Option Addr) (pn : List (Addr × Obj)), Zc cls d oe → (∃ vs, oe.data = .fields vs) → PSs (X.suite a ((a, oe) :: pn)) (b₀ :: suite) (ts a cls d)) (r : HdsA X hds l) :
      HdsA X (.ExceptHandler (some (.Name x np)) (some n) (b₀ :: suite) pos' :: hds) ((c, i, ts) :: l)
section
variable {X : Cx} {body : List Stmt} {h₀ : ExceptHandler} {hds : List ExceptHandler} {l : List (Value × Nat × (Addr → Value → Option Addr → TS))} {pos : Pos} {tb : WX → TS} {Wout : WX}
theorem ps_try_manyA (hs : X.stack = X.env :: X.outer) (hf : X.env.frame = some X.env.locals) (hN : X.N.Nodup) (tk : Takes X Wout)
    (hb : ∀ (W : WX) (pn : List (Addr × Obj)) (xe : Value → Shared → Prop), Takes (X.tr pn xe) W → PassesOwn (model X.prog X.w) X.A X.env xe → PSs (X.tr pn xe) body (tb W))
    (hh : HdsA X (h₀ :: hds) l) : PS X (.Try body (h₀ :: hds) [] [] pos) (fun D σ H => tb (wManyA X.K Wout D l) D σ H) := by
  refine ⟨fun pins s σ H D I h => ?_⟩
  have ok := I.ok
  have hfr : X.A.frames = some (X.env :: X.outer) := by rw [ok.frames, hs]
  refine wpAny_Try_except ?_
  refine wpAny_mono ((hb (wManyA X.K Wout D l) (X.pn ++ pins) (fun e s₁ => wpAny (model X.prog X.w) X.A (noteFrame e X.env) (fun _ s₂ => wpAny (model X.prog X.w) X.A (setFlight e none) (fun _ s₃ =>
    wpAny (model X.prog X.w) X.A (handleBy e X.env (h₀ :: hds)) (SP X pins D) X.xe s₃) X.xe s₂) X.xe s₁) (fun u s' xx => ?_) PassesOwn.looking).run [] s σ H D (I.toTry _) h) (fun f s1 hsp => ?_) (fun e s1 he => he)
  · obtain ⟨a, B, sI, pins', σ', H', cls, d, rfl, J', nb, up, sky, na, os, ag, w⟩ := xx
    have J : Inv X pins σ' H' sI := J'.ofTry ok
    have sky' : Sky B (X.env :: X.outer) a (Zc cls d) X.env.locals s'.heap := by rw [← hs]; exact sky
    show wpAny (model X.prog X.w) X.A (noteFrame (.ref a) X.env) _ _ _
    refine Sky.land Zc.steady hfr hf sky' fun h3 fl3 up3 => ?_
    have J3 : Inv X pins σ' H' { s' with heap := h3 } := J.landed nb fl3.1 (up.trans up3) os ag
    obtain ⟨oe3, vs3, he3, hz3, hd3⟩ := fl3.there
    have notFr : ∀ {h : Heap} {o : Obj} {vs : Array Value}, h.FunFrames B (X.env :: X.outer) → h.get? a = some o → o.data = .fields vs → a ∉ frs (X.env :: X.outer) := fun {h o vs} ff e dd hm => by
      obtain ⟨_, o', e', hnf⟩ := ff.mem hm
      rw [e] at e'; cases e'
      exact hnf _ dd
    have nfr := notFr fl3.2.2.1 he3 hd3
    have nL : a ≠ X.env.locals := fun z => nfr (List.mem_filterMap.mpr ⟨X.env, List.mem_cons_self, by rw [hf, z]⟩)
    have nF : a ∉ X.fs := fun hm => by
      obtain ⟨e, he, q⟩ := List.mem_filterMap.mp hm
      exact nfr (List.mem_filterMap.mpr ⟨e, List.mem_cons_of_mem _ he, q⟩)
    have S3 := J3.suite he3 hd3 na nL nF
    have go : ∀ {hds' : List ExceptHandler} {l' : List (Value × Nat × (Addr → Value → Option Addr → TS))}, HdsA X hds' l' → wManyA X.K Wout D l' cls d σ' H' →
        wpAny (model X.prog X.w) X.A (handleBy (.ref a) X.env hds') (SP X pins D) X.xe { s' with heap := h3 } := by
      intro hds' l' hk
      induction hk with
      | nil =>
        intro w
        refine wpAny_handleBy_nil ?_
        obtain ⟨k1, k2, k3, oe, vs, T, oT, ts', he, hz, hd, h1, hr⟩ := id fl3
        unfold PySem.passOn
        refine wpAny_bind (wpAny_field he hd h1 ?_)
        rw [if_neg (show ¬ ((Value.ref T == Value.none) = true) from by simp)]
        have fin : wpAny (model X.prog X.w) X.A (setFlight (.ref a) X.env.frame) (fun _ s4 => wpAny (model X.prog X.w) X.A (throw (.ref a) : Sem Flow) (SP X pins D) X.xe s4) X.xe { s' with heap := h3 } := by
          rw [hf]
          refine HandSPX.setFlight_upZ fl3 fun h4 hh4 up4 => wpAny_throw (tk _ _ ?_)
          exact ⟨a, B, sI, pins, σ', H', cls, d, rfl, J, nb, (up.trans up3).trans up4, .inr (.inr (by rw [hs]; exact hh4)), na, os, ag, w⟩
        first
          | exact wpAny_bind (wpAny_pure (wpAny_bind fin))
          | exact wpAny_bind fin
      | @cons x n c i ts b₀ suite np pos' hds2 l2 hc hi hln hsu r ih =>
        intro w
        have hloc : Loc X.env.scope n := .inl hln
        obtain ⟨b, hb1, hyes, hno⟩ := w
        refine wpAny_handleBy_cons (codeAny_handlers_test ?_) (by intro q; cases q)
        have LT : PySem.W.Looks (model X.prog X.w) h3 (typeOf (.ref a)) cls := fun A Q E s k q => wpAny_typeOf_ref (k _ _ he3) (by rw [hz3.1]; exact q)
        have LM := PySem.W.exm_one (M := model X.prog X.w) (J3.kIn) LT hb1
        have test : ∀ {Q : Value → Shared → Prop} {E : Value → Shared → Prop}, Q c { s' with heap := h3 } → wpAny (model X.prog X.w) (X.A.mark (some (.ref a))) (eval (.Name x np) X.env) Q E { s' with heap := h3 } := fun {Q E} q => by
          obtain ⟨hg, hdbg, hm | ⟨hm, hv, hnn⟩⟩ := hc
          · exact ld_glob (X := X.suite a ((a, oe3) :: (X.pn ++ pins))) S3 hg hm q hdbg
          · exact ld_blt (X := X.suite a ((a, oe3) :: (X.pn ++ pins))) S3 hg hm hv q hnn hdbg
        refine test (LM.here ?_)
        cases b with
        | true =>
          refine codeAny_handlers_suite_as ?_
          refine HandSPX.lands_againZ fl3 fun h4 fl4 up4 => ?_
          have J4 : Inv X pins σ' H' { s' with heap := h4 } := J.landed nb fl4.1 ((up.trans up3).trans up4) os ag
          obtain ⟨oe4, vs4, he4, hz4, hd4⟩ := fl4.there
          have S4 := J4.suite he4 hd4 na nL nF
          refine store_ok (X := X.suite a ((a, oe4) :: (X.pn ++ pins))) (v := .ref a) S4 hN hi hloc rfl (fun s5 S5 => ?_) (.inr hln)
          refine wpAny_mono ((hsu a oe4 cls d (X.pn ++ pins) hz4 ⟨_, hd4⟩).run [] s5 _ H' _ S5 (hyes rfl a na)) (fun f s6 hsp => ?_) (fun _ _ z => False.elim z)
          have end_ : ∀ {σ6 : L2.St} {H6 : Hp} {Q : Shared → Prop}, Inv (X.suite a ((a, oe4) :: (X.pn ++ pins))) [] σ6 H6 s6 → (∀ s7, Inv X pins (σ6.set i none) H6 s7 → Q s7) →
              wpAny (model X.prog X.w) X.A (do bindName X.env n .none; unbindBehindTheSuite X.env n pos') (fun _ s7 => Q s7) X.xe s6 := fun {σ6 H6 Q} S6 hq => gone_ok (S6.unsuite ok) hN hi hln hq
          cases f with
          | next =>
            obtain ⟨σ6, H6, S6, q6⟩ := hsp
            exact end_ S6 fun s7 J7 => ⟨_, _, J7, q6⟩
          | brk =>
            obtain ⟨σ6, H6, S6, q6⟩ := hsp
            exact end_ S6 fun s7 J7 => ⟨_, _, J7, q6⟩
          | cont =>
            obtain ⟨σ6, H6, S6, q6⟩ := hsp
            exact end_ S6 fun s7 J7 => ⟨_, _, J7, q6⟩
          | ret u =>
            obtain ⟨v6, σ6, H6, S6, r6, q6⟩ := hsp
            exact end_ S6 fun s7 J7 => ⟨_, _, _, J7, r6, q6⟩
        | false =>
          show wpAny _ X.A (handleBy (.ref a) X.env hds2) _ _ _
          exact ih (hno rfl)
    exact go hh w
  · cases f with
    | next =>
      obtain ⟨σ', H', J', q⟩ := hsp
      exact wpAny_execs_nil ⟨σ', H', J'.ofTry ok, q⟩
    | brk =>
      obtain ⟨σ', H', J', q⟩ := hsp
      exact ⟨σ', H', J'.ofTry ok, q⟩
    | cont =>
      obtain ⟨σ', H', J', q⟩ := hsp
      exact ⟨σ', H', J'.ofTry ok, q⟩
    | ret u =>
      obtain ⟨v, σ', H', J', r, q⟩ := hsp
      exact ⟨v, σ', H', J'.ofTry ok, r, q⟩
end
end KR
/-! a local name's def called in a try's body -/
namespace KR
open PySem PySem.Spec PyProof.Rows L2
def tCallLS (i : Nat) (f : Addr) (sp : Sp) (W : WX) (t : TA) : TE := fun σ H Q => σ[i]? = some (some (.ref f)) ∧ t σ H fun vs H1 => sp vs H1 Q (fun cls d H' => W cls d σ H')
section
variable {X : Cx} {k j i : Nat} {f : Addr} {fd : FuncData} {ps : List Str} {sp : Sp} {W : WX} {x : Str} {p pos : Pos} {e : Expr} {es : List Expr} {t : TA}
theorem pe_callLS (F : FnOk X.prog X.w X.K X.mg X.base (L2.CX X.prog X.w) j f fd ps sp) (le : j ≤ k) (hr : Room k X.A) (hN : X.N[i]? = some x) (hv : Vis X.env.scope x) (hk : PySem.W.keepIn X.K (.ref f) = true) (hb : Binds X.K fd ps []) (tk : Takes X W) (ha : PA X (e :: es) t)
    (hdb : (x == ("__debug__" : Str)) = false := by decide) (hcd : (x == ("__classdict__" : Str)) = false := by decide)
    (he : starEach (e :: es) X.env = (false, eval e X.env) :: starEach es X.env := by rfl) (hpl : (backTo pos (starEach es X.env)).any (·.1) = false := by rfl) : PE X (.Call (.Name x p) (e :: es) [] pos) (tCallLS i f sp W t) := by
  refine ⟨fun pins s σ H Q I h => ?_⟩
  obtain ⟨hs, ht⟩ := h
  refine wpAny_Call_Name_kw (thn ((pe_var (pos := p) hN hv hdb hcd).run pins s σ H (fun v H1 => v = .ref f ∧ H1 = H) I ⟨.ref f, hs, rfl, rfl⟩) fun u s1 ⟨v, H1, I1, r1, q1⟩ => ?_)
  obtain ⟨rfl, rfl⟩ := q1
  cases r1
  refine PySem.W.callWith_K (h₀ := X.base) I.ok.mod.kin hk (thn (ha.run pos pins s1 σ _ _ I1 ht) fun us s2 ⟨vs, H2, I2, r, q⟩ => ⟨I2.kIn, ?_⟩) he hpl
  have q' : sp (vs ++ []) H2 Q (fun cls d H' => W cls d σ H') := by rw [List.append_nil]; exact q
  refine run_fnSD (E := fun σ cls d H' => W cls d σ H') (dvs := []) (ds := []) F (hr.mono le) hb .nil (fun pins H s e s' I c => ?_) I2 r q'
  exact tk e s' (XE.of_call I (fun _ _ _ h => h) c)
end
/-- which clause takes which error -/
structure ExM (K : PySem.W.Frag) (A B : Addr) : Prop where
  aa : PySem.W.exmOne K (.ref A) (.ref A) = some true
  ba : PySem.W.exmOne K (.ref B) (.ref A) = some false
  bb : PySem.W.exmOne K (.ref B) (.ref B) = some true
end KR
namespace KQ
open PySem PySem.Spec PyProof.Rows L2 KR KM StX
section
variable {P : Program} {w : World} {K : PySem.W.Frag} {mg : Str → Option Value} {base : Heap}
def spOfA : Sp := fun vs H Q _ => ∃ (m c g : Addr) (b : Int) (l : Addr) (xs : List V), vs = [.ref m, .ref l] ∧ MS H m c g b ∧ b ≤ 1000000 ∧ H l = some (.lst xs) ∧ l ≠ g ∧ xs ≠ [] ∧ xs.length ≤ 1000000 ∧
  ∀ H' x, Kept H H' m g → MS H' m c g (b + 1) → x ∈ xs → Q x H'
def spBent : Sp := fun vs H Q _ => ∃ (m c g : Addr) (b : Int) (a : Addr) (rs : List Int) (many : Int), vs = [.ref m, .ref a, .int many] ∧ MS H m c g b ∧ b ≤ 90000 ∧ TI H a rs ∧ rs.length ≤ 60 ∧ 1 ≤ many ∧ many ≤ 60 ∧
  ∀ H' l (ws : List V), Kept H H' m g → MS H' m c g (b + 100) → H' l = some (.lst ws) → l ≠ m → l ≠ g → ws.length ≤ 100 → (∀ v ∈ ws, Good H' [m, g] v) → Q (.ref l) H'
/-- told as it is being made -/
structure Tld (H : Hp) (m c g a : Addr) (rs : List Int) (B : Int) (n : Nat) (H' : Hp) (l : Addr) : Prop where
  kept : Kept H H' m g
  ms : MS H' m c g B
  row : TI H' a rs
  ex : ∃ ws : List V, H' l = some (.lst ws) ∧ ws.length ≤ n ∧ ∀ v ∈ ws, Good H' [l, m, g] v
  new : H l = none
  lm : l ≠ m
  lc : l ≠ c
  lg : l ≠ g
theorem Tld.put {H H' : Hp} {m c g a : Addr} {rs : List Int} {B : Int} {l : Addr} {n : Nat} {ws : List V} (hk : Kept H H' m g) (ms : MS H' m c g B) (row : TI H' a rs) (e : H' l = some (.lst ws)) (ln : ws.length ≤ n)
    (gd : ∀ v ∈ ws, Good H' [l, m, g] v) (nw : H l = none) (lm : l ≠ m) (lc : l ≠ c) (lg : l ≠ g) {v : V} (hv : Good H' [l, m, g] v) :
    Tld H m c g a rs B (n + 1) (upd H' l (.lst (ws ++ [v]))) l := by
  have kk : KeptS H' (upd H' l (.lst (ws ++ [v]))) [l, m, g] := fun x u hx hn => by
    rw [upd_ne (fun z => hn (by rw [z]; exact List.mem_cons_self))]
    exact hx
  have la : a ≠ l := fun z => by
    have : H' a = _ := row
    rw [z, e] at this
    cases this
  refine ⟨kept_mut hk nw, ms.put lm lc lg, ?_, ⟨ws ++ [v], upd_same, by rw [List.length_append]; show ws.length + 1 ≤ n + 1; omega, fun u hu => ?_⟩, nw, lm, lc, lg⟩
  · show upd H' l _ a = _
    rw [upd_ne la]
    exact row
  · rcases List.mem_append.mp hu with hu | hu
    · exact (gd u hu).kept kk
    · rw [List.mem_singleton.mp hu]
      exact hv.kept kk
theorem Kept.s {H H' : Hp} {m g : Addr} (k : Kept H H' m g) : KeptS H H' [m, g] := fun a u h n => k a u h (fun z => n (by rw [z]; simp)) (fun z => n (by rw [z]; simp))
theorem Kept.s3 {H H' : Hp} {l m g : Addr} (k : Kept H H' m g) : KeptS H H' [l, m, g] := fun a u h n => k a u h (fun z => n (by rw [z]; simp)) (fun z => n (by rw [z]; simp))
theorem ms_tup {H : Hp} {m c g : Addr} {b : Int} (ms : MS H m c g b) {a : Addr} {vs : List V} (h : H a = some (.tup vs)) : a ∉ [m, g] := by
  obtain ⟨cs, gs, k, h1, h2, h3, r⟩ := ms
  intro hm
  rcases List.mem_cons.mp hm with z | z
  · rw [z, h1] at h
    cases h
  · rw [List.mem_singleton.mp z, h3] at h
    cases h
theorem ms_tup3 {H : Hp} {m c g l : Addr} {b : Int} (ms : MS H m c g b) {a : Addr} {vs ws : List V} (hl : H l = some (.lst ws)) (h : H a = some (.tup vs)) : a ∉ [l, m, g] := by
  intro hm
  rcases List.mem_cons.mp hm with z | z
  · rw [z, hl] at h
    cases h
  · exact ms_tup ms h z
theorem ms_new3 {H : Hp} {m c g l : Addr} {b : Int} (ms : MS H m c g b) {a : Addr} {ws : List V} (hl : H l = some (.lst ws)) (h : H a = none) : a ∉ [l, m, g] := by
  have n := ms.ne h
  intro hm
  rcases List.mem_cons.mp hm with z | z
  · rw [z, hl] at h
    cases h
  · rcases List.mem_cons.mp z with z | z
    · exact n.1 z
    · exact n.2.2 (List.mem_singleton.mp z)
theorem shaped_intsT (ns : List Int) : SeqAt.shaped (.tuple (ns.map .int)) = true := by
  unfold SeqAt.shaped
  simp only [PyData.canLay0, lay0, PyData.depth, depth0]
  rfl
theorem eqv_nilT (ns : List Int) : (!PyData.eqv (.tuple (ns.map .int)) (.tuple [])) = !ns.isEmpty := by
  cases ns <;> rfl
end
end KQ
namespace KQ
open PySem PySem.Spec PyProof.Rows L2 KR KM StX
theorem if_factB {b : Bool} {t u : TE} {σ : L2.St} {H : Hp} {Q : VK} (Fact : V → Hp → Prop) (h1 : b = true → ∀ Q : VK, (∀ v H', Fact v H' → Q v H') → t σ H Q) (h2 : b = false → ∀ Q : VK, (∀ v H', Fact v H' → Q v H') → u σ H Q)
    (k : ∀ v H', Fact v H' → Q v H') : if b = true then t σ H Q else u σ H Q := by
  cases b
  · exact h2 rfl Q k
  · exact h1 rfl Q k
section
variable {P : Program} {w : World} {K : PySem.W.Frag} {mg : Str → Option Value} {base : Heap}
def spLikeB : Sp := fun vs H Q _ => ∃ x y : Bool, vs = [.bl x, .bl y] ∧ x = y ∧ Q (.bl true) H
theorem ok_likeB (D : DefAt K mg "_law_like" s__law_like) (T : Bt mg) : Use P w K mg base "_law_like" 1 ["got", "due"] spLikeB := by
  refine use_of D (fun f fd F => F.ok sc__law_like (fun vs H Q E h => ?_) (fun cdv A outer s H vs Q E hr h => ?_)) (fun _ _ _ _ _ _ us hl => match us, hl with | [_, _], _ => rfl)
  · obtain ⟨x, y, rfl, _⟩ := h
    rfl
  · obtain ⟨x, y, rfl, rfl, q⟩ := h
    refine ⟨_, (pss_one (ps_ret (pe_cmpR op_eq (pe_callB call_reprB (by rfl) T.repr (by decide +kernel) (pa_cons (pv 0) pa_nil)) (pe_callB call_reprB (by rfl) T.repr (by decide +kernel) (pa_cons (pv 1) pa_nil)) (nomark _)))), ?_⟩
    refine ⟨_, rfl, x, rfl, _, rfl, x, rfl, rfl, ?_⟩
    rw [decide_eq_true rfl]
    exact q
theorem thing_tup {H : Hp} {a : Addr} {ds : List Int} (h : TI H a ds) (l : ds.length ≤ 1000) : Thing H (.ref a) (some (ds.map V.int)) :=
  .tup h (fun v hv => by obtain ⟨i, _, rfl⟩ := List.mem_map.mp hv; exact .int i) (by rw [List.length_map]; exact l)
def spCoarse : Sp := fun vs H Q _ => ∃ (m c g : Addr) (b : Int), vs = [.ref m] ∧ MS H m c g b ∧ b ≤ 90000 ∧ ∀ H', Q (.bl true) H'
end
end KQ
namespace KQ
open PySem PySem.Spec PyProof.Rows L2 KR KM StX
theorem dp_its {K : PySem.W.Frag} {H : Hp} : ∀ {ts : List Addr} {xss : List (List Int)}, Its H ts xss → DpAll K H (ts.map V.ref) (xss.map fun xs => PyData.tuple (xs.map PyData.int))
  | [], [], _ => .nil
  | [], _ :: _, h => by cases h.1
  | _ :: _, [], h => by cases h.1
  | t :: ts, xs :: xss, h => by
    obtain ⟨ys, e, ht⟩ := h.2 0 t rfl
    obtain rfl : xs = ys := Option.some.inj e
    exact .cons (dp_ti ht) (dp_its ⟨Nat.succ.inj h.1, fun i u hu => h.2 (i + 1) u hu⟩)
theorem ti_new {H : Hp} {a : Addr} {p : List Int} : TI (upd H a (.tup (p.map V.int))) a p := upd_same
theorem dp_tt {K : PySem.W.Frag} {H : Hp} {a : Addr} {xss : List (List Int)} (h : KQ.TT H a xss) : Dp K H (.ref a) (.tuple (xss.map fun xs => PyData.tuple (xs.map PyData.int))) := by
  obtain ⟨ts, e, h1, h2⟩ := h
  exact .tup (sqT e) (dp_its ⟨h1, h2⟩)
theorem nc_ti {p : List Int} (h : ∀ x ∈ p, 0 ≤ x ∧ x < 1024) (hl : p.length ≤ 60) : Nc 1 660 (.tuple (p.map PyData.int)) := (nc_tup (nc_ints h)).le (Nat.le_refl _) (by omega)
theorem nc_tt {xss : List (List Int)} (n : Nat) (h : ∀ xs ∈ xss, (∀ x ∈ xs, 0 ≤ x ∧ x < 1024) ∧ xs.length ≤ n) : Nc 2 ((11 * n + 1) * xss.length) (.tuple (xss.map fun xs => PyData.tuple (xs.map PyData.int))) := by
  have := nc_all (k := 1) (W := 11 * n) (ds := xss.map fun xs => PyData.tuple (xs.map PyData.int)) (fun d hd => by
    obtain ⟨xs, hx, rfl⟩ := List.mem_map.mp hd
    exact (nc_tup (nc_ints (h xs hx).1)).le (Nat.le_refl _) (Nat.mul_le_mul (Nat.le_refl _) (h xs hx).2))
  rw [List.length_map] at this
  exact nc_tup this
theorem par_small {p : List Int} (h : Rg 0 p) (hl : p.length ≤ 60) : ∀ x ∈ p, 0 ≤ x ∧ x < 1024 := fun x hx => by
  have := (rg_mem 0 p (Int.le_refl _) h).1 x hx
  have := bc_le 0 p
  omega
end KQ
/-! partings between two: all of them in order, their number, places -/
namespace KQ
open PySem PySem.Spec PyProof.Rows L2 KR KM StX
/-! ### rows in order -/
theorem lex_of {xs ys : List Int} (hl : xs.length = ys.length) (h : HT.lexLt xs ys = true) : ∃ (i : Nat) (x y : Int), (∀ j, j < i → xs[j]? = ys[j]?) ∧ xs[i]? = some x ∧ ys[i]? = some y ∧ x < y := by
  induction xs generalizing ys with
  | nil =>
    cases ys with
    | nil => cases h
    | cons y ys => cases hl
  | cons x xs ih =>
    cases ys with
    | nil => cases hl
    | cons y ys =>
      rw [HT.lexLt_cons] at h
      by_cases e : x = y
      · rw [if_pos e] at h
        obtain ⟨i, a, b, h1, h2, h3, h4⟩ := ih (Nat.succ.inj hl) h
        refine ⟨i + 1, a, b, fun j hj => ?_, h2, h3, h4⟩
        cases j with
        | zero => rw [e]; rfl
        | succ j => exact h1 j (by omega)
      · rw [if_neg e] at h
        exact ⟨0, x, y, fun j hj => absurd hj (Nat.not_lt_zero _), rfl, rfl, of_decide_eq_true h⟩
theorem lex_mk {xs ys : List Int} {i : Nat} {x y : Int} (h1 : ∀ j, j < i → xs[j]? = ys[j]?) (h2 : xs[i]? = some x) (h3 : ys[i]? = some y) (h4 : x < y) : HT.lexLt xs ys = true := by
  induction xs generalizing ys i with
  | nil => cases h2
  | cons a xs ih =>
    cases ys with
    | nil => cases h3
    | cons b ys =>
      rw [HT.lexLt_cons]
      cases i with
      | zero =>
        obtain rfl : a = x := Option.some.inj h2
        obtain rfl : b = y := Option.some.inj h3
        rw [if_neg (by omega)]
        exact decide_eq_true h4
      | succ i =>
        have e : a = b := Option.some.inj (h1 0 (by omega))
        rw [if_pos e]
        exact ih (fun j hj => h1 (j + 1) (by omega)) h2 h3
/-- the finer one isn't less -/
theorem finer_lex {a b : List Int} (hl : a.length = b.length) (ra : Rg 0 a) (rb : Rg 0 b) (f : Finer a b) : HT.lexLt a b = false := by
  cases e : HT.lexLt a b with
  | false => rfl
  | true =>
    obtain ⟨d, x, y, h1, h2, h3, h4⟩ := lex_of hl e
    have et : a.take d = b.take d := List.ext_getElem? fun j => by
      by_cases c : j < d
      · rw [List.getElem?_take_of_lt c, List.getElem?_take_of_lt c]
        exact h1 j c
      · rw [List.getElem?_take_eq_none (by omega), List.getElem?_take_eq_none (by omega)]
    have by1 := (rg_at rb h3).2
    have bx := (rg_at ra h2).1
    rw [← et] at by1
    have rt : Rg 0 (a.take d) := by
      have := ra
      rw [← List.take_append_drop d a, rg_app] at this
      exact this.1
    obtain ⟨j, hj, ej⟩ := List.getElem_of_mem ((rg_mem 0 (a.take d) (Int.le_refl _) rt).2 x bx (by omega))
    have g : (a.take d)[j]? = some x := by rw [List.getElem?_eq_getElem hj, ej]
    rw [List.length_take] at hj
    rw [List.getElem?_take_of_lt (by omega)] at g
    have g2 := h1 j (by omega)
    rw [g] at g2
    have := f j d x x y g h2 g2.symm h3
    omega
/-! ### how many -/
def gr : Nat → Nat → Nat
  | 0, _ => 1
  | l + 1, m => m * gr l m + gr l (m + 1)
/-- the blocks with a label so far -/
def olds (ls : List Int) (h : Int) : List Nat := (List.range ls.length).filter fun b => decide (ls[b]? = some h)
theorem olds_snoc (ls : List Int) (x h : Int) : olds (ls ++ [x]) h = olds ls h ++ if x = h then [ls.length] else [] := by
  unfold olds
  rw [List.length_append, show ls.length + [x].length = ls.length + 1 from rfl, List.range_succ, List.filter_append]
  congr 1
  · refine List.filter_congr fun b hb => ?_
    rw [List.getElem?_append_left (List.mem_range.mp hb)]
  · rw [List.filter_cons, List.getElem?_append_right (Nat.le_refl _), Nat.sub_self]
    by_cases e : x = h
    · rw [if_pos e, e]
      simp
    · rw [if_neg e]
      have : ¬ (some x = some h) := fun z => e (Option.some.inj z)
      simp [e]
theorem mem_olds {ls : List Int} {h : Int} {b : Nat} : b ∈ olds ls h ↔ ls[b]? = some h := by
  unfold olds
  rw [List.mem_filter, List.mem_range, decide_eq_true_iff]
  exact ⟨fun z => z.2, fun z => ⟨(List.getElem?_eq_some_iff.mp z).1, z⟩⟩
theorem olds_len (h : Int) : ∀ n (ls : List Int), ls.length = n → (olds ls h).length = ls.count h
  | 0, ls, e => by
    rw [List.eq_nil_of_length_eq_zero e]
    rfl
  | n + 1, ls, e => by
    obtain ⟨l', x, rfl⟩ : ∃ l' x, ls = l' ++ [x] := ⟨ls.dropLast, ls.getLast (fun z => by rw [z] at e; cases e), (List.dropLast_concat_getLast _).symm⟩
    rw [olds_snoc, List.length_append, olds_len h n l' (by simpa using e), List.count_append]
    by_cases c : x = h
    · rw [if_pos c, c]
      simp
    · rw [if_neg c]
      simp [c]
/-- a block's label, put behind where it is new -/
def stp (ls : List Int) (h b : Int) : List Int := if b = (ls.length : Int) then ls ++ [h] else ls
def picks (ls : List Int) (h : Int) : List Int := (olds ls h).map (fun b => ((b : Nat) : Int)) ++ [((ls.length : Nat) : Int)]
def comp : List Int → List Int → List (List Int)
  | [], _ => [[]]
  | h :: hs, ls => (picks ls h).flatMap fun b => (comp hs (stp ls h b)).map (b :: ·)
theorem mem_picks {ls : List Int} {h b : Int} : b ∈ picks ls h ↔ 0 ≤ b ∧ (ls[b.toNat]? = some h ∨ b = (ls.length : Int)) := by
  unfold picks
  rw [List.mem_append, List.mem_map, List.mem_singleton]
  constructor
  · rintro (⟨n, hn, rfl⟩ | rfl)
    · exact ⟨by omega, .inl (by rw [Int.toNat_natCast]; exact mem_olds.mp hn)⟩
    · exact ⟨by omega, .inr rfl⟩
  · rintro ⟨h0, h1 | h1⟩
    · exact .inl ⟨b.toNat, mem_olds.mpr h1, by omega⟩
    · exact .inr h1
theorem picks_up (ls : List Int) (h : Int) : (picks ls h).Pairwise (· < ·) := by
  unfold picks
  rw [List.pairwise_append]
  refine ⟨?_, List.pairwise_singleton _ _, fun a ha b hb => ?_⟩
  · rw [List.pairwise_map]
    refine (List.pairwise_lt_range (n := ls.length)).filter _ |>.imp fun {a b} hab => ?_
    omega
  · obtain ⟨n, hn, rfl⟩ := List.mem_map.mp ha
    have := (List.getElem?_eq_some_iff.mp (mem_olds.mp hn)).1
    rw [List.mem_singleton.mp hb]
    omega
theorem comp_width : ∀ (hs ls : List Int), ∀ cs ∈ comp hs ls, cs.length = hs.length
  | [], ls, cs, h => by rw [List.mem_singleton.mp h]
  | h :: hs, ls, cs, hc => by
    obtain ⟨b, hb, h2⟩ := List.mem_flatMap.mp hc
    obtain ⟨c, h3, rfl⟩ := List.mem_map.mp h2
    rw [List.length_cons, List.length_cons, comp_width hs _ c h3]
theorem comp_up : ∀ (hs ls : List Int), (comp hs ls).Pairwise fun x y => HT.lexLt x y = true
  | [], ls => List.pairwise_singleton _ _
  | h :: hs, ls => by
    unfold comp
    rw [List.pairwise_flatMap]
    refine ⟨fun b hb => ?_, (picks_up ls h).imp fun {a b} hab x hx y hy => ?_⟩
    · rw [List.pairwise_map]
      refine (comp_up hs _).imp fun {x y} hxy => ?_
      rw [HT.lexLt_cons, if_pos rfl]
      exact hxy
    · obtain ⟨x, _, rfl⟩ := List.mem_map.mp hx
      obtain ⟨y, _, rfl⟩ := List.mem_map.mp hy
      rw [HT.lexLt_cons, if_neg (by omega)]
      exact decide_eq_true hab
def prd (f : Int → Nat) : List Int → Nat
  | [] => 1
  | x :: r => f x * prd f r
theorem prd_congr {f g : Int → Nat} : ∀ {D : List Int}, (∀ x ∈ D, f x = g x) → prd f D = prd g D
  | [], _ => rfl
  | x :: r, h => by
    unfold prd
    rw [h x List.mem_cons_self, prd_congr fun y hy => h y (List.mem_cons_of_mem _ hy)]
theorem prd_split {f : Int → Nat} {h : Int} : ∀ {D : List Int}, h ∈ D → prd f D = f h * prd f (D.erase h)
  | [], m => by cases m
  | x :: r, m => by
    by_cases e : x = h
    · rw [e, List.erase_cons_head]
      rfl
    · rw [List.erase_cons_tail (by simpa using e)]
      unfold prd
      rw [prd_split (f := f) (D := r) ((List.mem_cons.mp m).resolve_left fun z => e z.symm), ← Nat.mul_assoc, ← Nat.mul_assoc, Nat.mul_comm (f x)]
theorem prd_one {f : Int → Nat} : ∀ {D : List Int}, (∀ x ∈ D, f x = 1) → prd f D = 1
  | [], _ => rfl
  | x :: r, h => by
    unfold prd
    rw [h x List.mem_cons_self, prd_one fun y hy => h y (List.mem_cons_of_mem _ hy)]
theorem flat_len {L : List (List Int)} {f : Nat → List Int → List Int} : ∀ l : List Nat, (l.flatMap fun b => L.map (f b)).length = l.length * L.length
  | [] => by simp
  | b :: r => by
    rw [List.flatMap_cons, List.length_append, flat_len r, List.length_map, List.length_cons, Nat.succ_mul, Nat.add_comm]
theorem flat_eq {f g : Nat → List (List Int)} : ∀ {l : List Nat}, (∀ b ∈ l, f b = g b) → l.flatMap f = l.flatMap g
  | [], _ => rfl
  | b :: r, h => by
    rw [List.flatMap_cons, List.flatMap_cons, h b List.mem_cons_self, flat_eq fun x hx => h x (List.mem_cons_of_mem _ hx)]
theorem comp_step (h : Int) (hs ls : List Int) : (comp (h :: hs) ls).length = ls.count h * (comp hs ls).length + (comp hs (ls ++ [h])).length := by
  show ((picks ls h).flatMap _).length = _
  unfold picks
  rw [List.flatMap_append, List.length_append, List.flatMap_map, List.flatMap_singleton, List.length_map]
  have e1 : stp ls h ((ls.length : Nat) : Int) = ls ++ [h] := if_pos rfl
  rw [e1]
  congr 1
  rw [← olds_len h ls.length ls rfl, ← flat_len (f := fun b cs => ((b : Nat) : Int) :: cs)]
  congr 1
  refine flat_eq fun b hb => ?_
  have := (List.getElem?_eq_some_iff.mp (mem_olds.mp hb)).1
  rw [show stp ls h ((b : Nat) : Int) = ls from if_neg (by omega)]
/-- their number is a product -/
theorem comp_prd {D : List Int} (nd : D.Nodup) : ∀ (hs ls : List Int), (∀ x ∈ hs, x ∈ D) → (comp hs ls).length = prd (fun x => gr (hs.count x) (ls.count x)) D
  | [], ls, _ => (prd_one fun x _ => rfl).symm
  | h :: hs, ls, m => by
    have mh := m h List.mem_cons_self
    have m' : ∀ x ∈ hs, x ∈ D := fun x hx => m x (List.mem_cons_of_mem _ hx)
    rw [comp_step, comp_prd nd hs ls m', comp_prd nd hs (ls ++ [h]) m', prd_split mh, prd_split (f := fun x => gr (hs.count x) ((ls ++ [h]).count x)) mh, prd_split (f := fun x => gr ((h :: hs).count x) (ls.count x)) mh]
    have ne : ∀ x ∈ D.erase h, x ≠ h := fun x hx e => by
      rw [e] at hx
      exact (List.Nodup.mem_erase_iff nd).mp hx |>.1 rfl
    rw [prd_congr (f := fun x => gr (hs.count x) ((ls ++ [h]).count x)) (g := fun x => gr (hs.count x) (ls.count x)) fun x hx => by
        rw [List.count_append, List.count_singleton, if_neg (by simpa using fun e : h = x => ne x hx e.symm), Nat.add_zero],
      prd_congr (f := fun x => gr ((h :: hs).count x) (ls.count x)) (g := fun x => gr (hs.count x) (ls.count x)) fun x hx => by
        rw [List.count_cons, if_neg (by simpa using fun e : h = x => ne x hx e.symm), Nat.add_zero]]
    rw [List.count_cons_self, List.count_append, List.count_singleton, if_pos (by simp)]
    show _ = (ls.count h * gr (hs.count h) (ls.count h) + gr (hs.count h) (ls.count h + 1)) * _
    rw [Nat.add_mul, Nat.mul_assoc]
/-! ### the blocks chosen -/
def Ok : List Int → List Int → List Int → Prop
  | [], _, [] => True
  | h :: hs, ls, b :: cs => b ∈ picks ls h ∧ Ok hs (stp ls h b) cs
  | _, _, _ => False
theorem mem_comp : ∀ {hs ls cs : List Int}, cs ∈ comp hs ls ↔ Ok hs ls cs
  | [], ls, [] => ⟨fun _ => trivial, fun _ => List.mem_singleton_self _⟩
  | [], ls, b :: cs => ⟨fun h => (by cases List.mem_singleton.mp h), fun h => (h : False).elim⟩
  | h :: hs, ls, [] => by
    constructor
    · intro z
      obtain ⟨b, _, z⟩ := List.mem_flatMap.mp z
      obtain ⟨c, _, e⟩ := List.mem_map.mp z
      cases e
    · intro z
      exact (z : False).elim
  | h :: hs, ls, b :: cs => by
    constructor
    · intro z
      obtain ⟨b', hb, z⟩ := List.mem_flatMap.mp z
      obtain ⟨c, hc, e⟩ := List.mem_map.mp z
      cases e
      exact ⟨hb, mem_comp.mp hc⟩
    · rintro ⟨hb, z⟩
      exact List.mem_flatMap.mpr ⟨b, hb, List.mem_map.mpr ⟨cs, mem_comp.mpr z, rfl⟩⟩
/-- the labels at the first doors -/
def labA : List Int → List Int → List Int → List Int
  | acc, x :: p, y :: q => labA (stp acc y x) p q
  | acc, _, _ => acc
def lab (p q : List Int) : List Int := labA [] p q
theorem labA_app {p2 q2 : List Int} : ∀ {acc p1 q1 : List Int}, p1.length = q1.length → labA acc (p1 ++ p2) (q1 ++ q2) = labA (labA acc p1 q1) p2 q2
  | acc, [], [], _ => rfl
  | acc, x :: p, y :: q, h => labA_app (acc := stp acc y x) (Nat.succ.inj h)
theorem stp_len (ls : List Int) (h b : Int) : (((stp ls h b).length : Nat) : Int) = if b = (ls.length : Int) then (ls.length : Int) + 1 else ls.length := by
  unfold stp
  by_cases e : b = (ls.length : Int)
  · rw [if_pos e, if_pos e, List.length_append]
    rfl
  · rw [if_neg e, if_neg e]
theorem labA_len : ∀ {acc p q : List Int}, p.length = q.length → (((labA acc p q).length : Nat) : Int) = bc acc.length p
  | acc, [], [], _ => rfl
  | acc, x :: p, y :: q, h => by
    show (((labA (stp acc y x) p q).length : Nat) : Int) = bc (if x = (acc.length : Int) then (acc.length : Int) + 1 else acc.length) p
    rw [labA_len (Nat.succ.inj h), stp_len]
theorem labA_pre : ∀ {acc p q : List Int}, acc <+: labA acc p q
  | acc, [], _ => List.prefix_refl _
  | acc, _ :: _, [] => List.prefix_refl _
  | acc, x :: p, y :: q => by
    refine List.IsPrefix.trans ?_ (labA_pre (acc := stp acc y x) (p := p) (q := q))
    unfold stp
    split
    · exact List.prefix_append _ _
    · exact List.prefix_refl _
theorem pre_at {a b : List Int} (h : a <+: b) {i : Nat} {x : Int} (e : a[i]? = some x) : b[i]? = some x := by
  obtain ⟨t, rfl⟩ := h
  rw [List.getElem?_append_left (List.getElem?_eq_some_iff.mp e).1]
  exact e
theorem stp_at {acc : List Int} {x y : Int} (x0 : 0 ≤ x) (h : x < (acc.length : Int) → acc[x.toNat]? = some y) (hx : x ≤ (acc.length : Int)) : (stp acc y x)[x.toNat]? = some y := by
  unfold stp
  by_cases e : x = (acc.length : Int)
  · rw [if_pos e, show x.toNat = acc.length by omega, List.getElem?_append_right (Nat.le_refl _), Nat.sub_self]
    rfl
  · rw [if_neg e]
    exact h (by omega)
theorem labA_agree : ∀ {acc p q : List Int}, p.length = q.length → Rg acc.length p → Finer p q → (∀ (i : Nat) (x y : Int), p[i]? = some x → x < (acc.length : Int) → q[i]? = some y → acc[x.toNat]? = some y) →
    ∀ (i : Nat) (x y : Int), p[i]? = some x → q[i]? = some y → (labA acc p q)[x.toNat]? = some y
  | acc, [], [], _, _, _, _, i, x, y, hx, _ => by simp at hx
  | acc, a :: p, b :: q, hl, rg, f, ag, i, x, y, hx, hy => by
    obtain ⟨a0, a1, rg⟩ := rg
    have hs := stp_at (acc := acc) (x := a) (y := b) a0 (fun c => ag 0 a b rfl c rfl) a1
    have sl := stp_len acc b a
    rw [← sl] at rg
    have f' : Finer p q := fun i j x y z h1 h2 h3 h4 => f (i + 1) (j + 1) x y z h1 h2 h3 h4
    have ag' : ∀ (i : Nat) (x y : Int), p[i]? = some x → x < ((stp acc b a).length : Int) → q[i]? = some y → (stp acc b a)[x.toNat]? = some y := fun i x y h1 h2 h3 => by
      by_cases e : x = a
      · subst e
        have := f (i + 1) 0 x y b h1 rfl h3 rfl
        rw [this]
        exact hs
      · have hlt : x < (acc.length : Int) := by
          rw [sl] at h2
          split at h2 <;> omega
        have g := ag (i + 1) x y h1 hlt h3
        unfold stp
        split
        · rw [List.getElem?_append_left (List.getElem?_eq_some_iff.mp g).1]
          exact g
        · exact g
    cases i with
    | zero =>
      obtain rfl : a = x := Option.some.inj hx
      obtain rfl : b = y := Option.some.inj hy
      exact pre_at (labA_pre (acc := stp acc b a) (p := p) (q := q)) hs
    | succ i => exact labA_agree (acc := stp acc b a) (Nat.succ.inj hl) rg f' ag' i x y hx hy
theorem lab_agree {p q : List Int} (hl : p.length = q.length) (rg : Rg 0 p) (f : Finer p q) {i : Nat} {x y : Int} (hx : p[i]? = some x) (hy : q[i]? = some y) : (lab p q)[x.toNat]? = some y :=
  labA_agree (acc := []) hl rg f (fun i x y h1 h2 _ => by
    have := (rg_at rg h1).1
    exact absurd h2 (by simp; omega)) i x y hx hy
theorem lab_len {p q : List Int} (hl : p.length = q.length) : (((lab p q).length : Nat) : Int) = bc 0 p := labA_len (acc := []) hl
theorem ok_fwd : ∀ {hs ls cs : List Int}, Ok hs ls cs → cs.length = hs.length ∧ Rg ls.length cs ∧ ∀ (i : Nat) (x y : Int), cs[i]? = some x → hs[i]? = some y → (labA ls cs hs)[x.toNat]? = some y
  | [], ls, [], _ => ⟨rfl, trivial, fun i x y hx => by simp at hx⟩
  | h :: hs, ls, b :: cs, ⟨hb, ok⟩ => by
    obtain ⟨h1, h2, h3⟩ := ok_fwd ok
    obtain ⟨b0, hb⟩ := mem_picks.mp hb
    have ble : b ≤ (ls.length : Int) := by
      rcases hb with hb | hb
      · have := (List.getElem?_eq_some_iff.mp hb).1
        omega
      · omega
    rw [stp_len] at h2
    refine ⟨by rw [List.length_cons, List.length_cons, h1], ⟨b0, ble, h2⟩, fun i x y hx hy => ?_⟩
    cases i with
    | zero =>
      obtain rfl : b = x := Option.some.inj hx
      obtain rfl : h = y := Option.some.inj hy
      exact pre_at (labA_pre (acc := stp ls h b) (p := cs) (q := hs)) (stp_at b0 (fun c => hb.resolve_right (by omega)) ble)
    | succ i => exact h3 i x y hx hy
theorem ok_bwd : ∀ {hs ls cs : List Int}, cs.length = hs.length → Rg ls.length cs → Finer cs hs → (∀ (i : Nat) (x y : Int), cs[i]? = some x → x < (ls.length : Int) → hs[i]? = some y → ls[x.toNat]? = some y) → Ok hs ls cs
  | [], ls, [], _, _, _, _ => trivial
  | h :: hs, ls, b :: cs, hl, rg, f, ag => by
    obtain ⟨b0, b1, rg⟩ := rg
    have sl := stp_len ls h b
    rw [← sl] at rg
    have hs0 := stp_at (acc := ls) (x := b) (y := h) b0 (fun c => ag 0 b h rfl c rfl) b1
    refine ⟨mem_picks.mpr ⟨b0, ?_⟩, ok_bwd (Nat.succ.inj hl) rg (fun i j x y z h1 h2 h3 h4 => f (i + 1) (j + 1) x y z h1 h2 h3 h4) fun i x y h1 h2 h3 => ?_⟩
    · by_cases e : b = (ls.length : Int)
      · exact .inr e
      · exact .inl (ag 0 b h rfl (by omega) rfl)
    · by_cases e : x = b
      · subst e
        rw [f (i + 1) 0 x y h h1 rfl h3 rfl]
        exact hs0
      · have hlt : x < (ls.length : Int) := by
          rw [sl] at h2
          split at h2 <;> omega
        have g := ag (i + 1) x y h1 hlt h3
        unfold stp
        split
        · rw [List.getElem?_append_left (List.getElem?_eq_some_iff.mp g).1]
          exact g
        · exact g
end KQ
/-! the rows between two partings -/
namespace KQ
open PySem PySem.Spec PyProof.Rows L2 KR KM StX
/-- each door's block through its block in the finer one -/
def rowOf (p cs : List Int) : List Int := p.map fun x => cs.getD x.toNat 0
theorem rowOf_at {p cs : List Int} {i : Nat} {x : Int} (hx : p[i]? = some x) : (rowOf p cs)[i]? = some (cs.getD x.toNat 0) := by
  unfold rowOf
  rw [List.getElem?_map, hx]
  rfl
theorem rowOf_len (p cs : List Int) : (rowOf p cs).length = p.length := List.length_map _
theorem rowOf_lab {p q : List Int} (hl : p.length = q.length) (rg : Rg 0 p) (f : Finer p q) : rowOf p (lab p q) = q := by
  refine List.ext_getElem? fun i => ?_
  by_cases h : i < p.length
  · have hx : p[i]? = some p[i] := List.getElem?_eq_getElem h
    have hy : q[i]? = some q[i] := List.getElem?_eq_getElem (by omega)
    rw [rowOf_at hx, hy, List.getD_eq_getElem?_getD, lab_agree hl rg f hx hy]
    rfl
  · rw [List.getElem?_eq_none (by rw [rowOf_len]; omega), List.getElem?_eq_none (by omega)]
theorem split_last {p : List Int} {n : Nat} (h : p.length = n + 1) : ∃ p' x, p = p' ++ [x] ∧ p'.length = n :=
  ⟨p.dropLast, p.getLast (fun z => by rw [z] at h; cases h), (List.dropLast_concat_getLast _).symm, by rw [List.length_dropLast]; omega⟩
theorem bc_snoc (p : List Int) (x : Int) : bc 0 (p ++ [x]) = if x = bc 0 p then bc 0 p + 1 else bc 0 p := by
  rw [bc_app]
  rfl
theorem rg_take {p : List Int} (h : Rg 0 p) (k : Nat) : Rg 0 (p.take k) := by
  rw [← List.take_append_drop k p, rg_app] at h
  exact h.1
theorem rowOf_rg : ∀ (n : Nat) (p : List Int), p.length = n → Rg 0 p → ∀ cs : List Int, Rg 0 cs → bc 0 p ≤ (cs.length : Int) →
    Rg 0 (rowOf p cs) ∧ bc 0 (rowOf p cs) = bc 0 (cs.take (bc 0 p).toNat) ∧ lab p (rowOf p cs) = cs.take (bc 0 p).toNat
  | 0, p, hn, _, cs, _, _ => by
    rw [List.eq_nil_of_length_eq_zero hn]
    exact ⟨trivial, rfl, rfl⟩
  | n + 1, p, hn, rg, cs, rc, hle => by
    obtain ⟨p', x, rfl, hn'⟩ := split_last hn
    rw [rg_app] at rg
    obtain ⟨rp, x0, x1, _⟩ := rg
    have b0 := bc_ge 0 p'
    rw [bc_snoc] at hle ⊢
    have hle' : bc 0 p' ≤ (cs.length : Int) := by split at hle <;> omega
    obtain ⟨h1, h2, h3⟩ := rowOf_rg n p' hn' rp cs rc hle'
    have er : rowOf (p' ++ [x]) cs = rowOf p' cs ++ [cs.getD x.toNat 0] := by
      unfold rowOf
      rw [List.map_append]
      rfl
    have el : lab (p' ++ [x]) (rowOf p' cs ++ [cs.getD x.toNat 0]) = stp (cs.take (bc 0 p').toNat) (cs.getD x.toNat 0) x := by
      unfold lab
      rw [labA_app (rowOf_len p' cs).symm]
      show labA (stp (lab p' (rowOf p' cs)) _ _) [] [] = _
      rw [h3]
      rfl
    have tl : (cs.take (bc 0 p').toNat).length = (bc 0 p').toNat := by rw [List.length_take]; omega
    rw [er, el, rg_app, bc_snoc, h2]
    by_cases e : x = bc 0 p'
    · rw [if_pos e] at hle
      rw [if_pos e]
      have hc : cs[x.toNat]? = some cs[x.toNat] := List.getElem?_eq_getElem (by omega)
      have ra := rg_at rc hc
      have eg : cs.getD x.toNat 0 = cs[x.toNat] := by rw [List.getD_eq_getElem?_getD, hc]; rfl
      have ek : (bc 0 p').toNat = x.toNat := by rw [e]
      rw [eg, ek, show (bc 0 p' + 1).toNat = x.toNat + 1 by omega, bc_take hc]
      refine ⟨⟨h1, ra.1, ra.2, trivial⟩, rfl, ?_⟩
      unfold stp
      rw [if_pos (by rw [List.length_take]; omega), take_snoc hc]
    · rw [if_neg e]
      have hc : (cs.take (bc 0 p').toNat)[x.toNat]? = some cs[x.toNat] := by
        rw [List.getElem?_take_of_lt (by omega)]
        exact List.getElem?_eq_getElem (by omega)
      have eg : cs.getD x.toNat 0 = cs[x.toNat] := by
        rw [List.getD_eq_getElem?_getD, List.getElem?_eq_getElem (show x.toNat < cs.length by omega)]
        rfl
      have rm := (rg_mem 0 _ (Int.le_refl _) (rg_take rc (bc 0 p').toNat)).1 _ (List.mem_of_getElem? hc)
      rw [eg]
      refine ⟨⟨h1, rm.1, by omega, trivial⟩, ?_, ?_⟩
      · rw [if_neg (by omega)]
      · unfold stp
        rw [if_neg (by omega)]
theorem first_at : ∀ (n : Nat) (p : List Int), p.length = n → Rg 0 p → ∀ i : Int, 0 ≤ i → i < bc 0 p → ∃ d : Nat, p[d]? = some i ∧ ∀ e, e < d → ∃ y, p[e]? = some y ∧ 0 ≤ y ∧ y < i
  | 0, p, hn, _, i, h0, h1 => by
    rw [List.eq_nil_of_length_eq_zero hn] at h1
    exact absurd h1 (by show ¬ i < 0; omega)
  | n + 1, p, hn, rg, i, h0, h1 => by
    obtain ⟨p', x, rfl, hn'⟩ := split_last hn
    rw [rg_app] at rg
    obtain ⟨rp, x0, x1, _⟩ := rg
    by_cases c : i < bc 0 p'
    · obtain ⟨d, hd, he⟩ := first_at n p' hn' rp i h0 c
      have dl := (List.getElem?_eq_some_iff.mp hd).1
      refine ⟨d, by rw [List.getElem?_append_left dl]; exact hd, fun e hlt => ?_⟩
      rw [List.getElem?_append_left (by omega)]
      exact he e hlt
    · rw [bc_snoc] at h1
      have ex : x = i := by split at h1 <;> omega
      refine ⟨p'.length, by rw [List.getElem?_append_right (Nat.le_refl _), Nat.sub_self, ex]; rfl, fun e hlt => ?_⟩
      have hy : p'[e]? = some p'[e] := List.getElem?_eq_getElem hlt
      have := (rg_mem 0 p' (Int.le_refl _) rp).1 _ (List.mem_of_getElem? hy)
      exact ⟨p'[e], by rw [List.getElem?_append_left hlt]; exact hy, this.1, by omega⟩
theorem rowOf_mono {p cs ds : List Int} (rg : Rg 0 p) (lc : (cs.length : Int) = bc 0 p) (ld : ds.length = cs.length) (h : HT.lexLt cs ds = true) : HT.lexLt (rowOf p cs) (rowOf p ds) = true := by
  obtain ⟨i, x, y, h1, h2, h3, h4⟩ := lex_of ld.symm h
  have il := (List.getElem?_eq_some_iff.mp h2).1
  obtain ⟨d, hd, he⟩ := first_at _ p rfl rg ((i : Nat) : Int) (by omega) (by omega)
  have g2 := rowOf_at (cs := cs) hd
  have g3 := rowOf_at (cs := ds) hd
  rw [Int.toNat_natCast, List.getD_eq_getElem?_getD, h2] at g2
  rw [Int.toNat_natCast, List.getD_eq_getElem?_getD, h3] at g3
  refine lex_mk (i := d) (fun e hlt => ?_) g2 g3 h4
  obtain ⟨z, hz, z0, z1⟩ := he e hlt
  rw [rowOf_at hz, rowOf_at hz, List.getD_eq_getElem?_getD, List.getD_eq_getElem?_getD, h1 z.toNat (by omega)]
def betw (p q : List Int) : List (List Int) := (comp (lab p q) []).map (rowOf p)
section
variable {p q : List Int}
theorem lab_back {r : List Int} (hl : p.length = q.length) (hr : r.length = p.length) (rp : Rg 0 p) (rr : Rg 0 r) (fp : Finer p q) (f1 : Finer p r) (f2 : Finer r q) : lab p r ∈ comp (lab p q) [] := by
  have e1 := lab_len (p := p) (q := q) hl
  have e2 := lab_len (p := p) (q := r) hr.symm
  have ag : ∀ (i : Nat) (x : Int), (lab p r)[i]? = some x → ∃ d : Nat, p[d]? = some ((i : Nat) : Int) ∧ r[d]? = some x ∧ ∀ y, (lab p q)[i]? = some y → q[d]? = some y := fun i x hx => by
    have il := (List.getElem?_eq_some_iff.mp hx).1
    obtain ⟨d, hd, _⟩ := first_at _ p rfl rp ((i : Nat) : Int) (by omega) (by omega)
    have dl := (List.getElem?_eq_some_iff.mp hd).1
    have hrd : r[d]? = some r[d] := List.getElem?_eq_getElem (by omega)
    have hqd : q[d]? = some q[d] := List.getElem?_eq_getElem (by omega)
    have g1 := lab_agree hr.symm rp f1 hd hrd
    have g2 := lab_agree hl rp fp hd hqd
    rw [Int.toNat_natCast] at g1 g2
    rw [g1] at hx
    refine ⟨d, hd, by rw [hrd]; exact hx, fun y hy => ?_⟩
    rw [g2] at hy
    rw [hqd]
    exact hy
  refine mem_comp.mpr (ok_bwd (by omega) ?_ (fun i j x y z h1 h2 h3 h4 => ?_) fun i x y h1 h2 _ => ?_)
  · have rr2 := rr
    -- the blocks at the first doors grow as the row does
    have key : ∀ k : Nat, k ≤ r.length → Rg 0 (lab (p.take k) (r.take k)) ∧ bc 0 (lab (p.take k) (r.take k)) = bc 0 (r.take k) := by
      intro k
      induction k with
      | zero => intro _; exact ⟨trivial, rfl⟩
      | succ k ih =>
        intro hk
        obtain ⟨i1, i2⟩ := ih (by omega)
        have hx : p[k]? = some p[k] := List.getElem?_eq_getElem (by omega)
        have hy : r[k]? = some r[k] := List.getElem?_eq_getElem (by omega)
        have tl : (p.take k).length = (r.take k).length := by rw [List.length_take, List.length_take]; omega
        rw [take_snoc hx, take_snoc hy]
        have es : lab (p.take k ++ [p[k]]) (r.take k ++ [r[k]]) = stp (lab (p.take k) (r.take k)) r[k] p[k] := by
          unfold lab
          rw [labA_app tl]
          rfl
        have ra := rg_at rr hy
        have rb := rg_at rp hx
        have ll := lab_len tl
        rw [es, bc_snoc]
        unfold stp
        by_cases e : p[k] = ((lab (p.take k) (r.take k)).length : Int)
        · rw [if_pos e, rg_app, bc_snoc, i2]
          exact ⟨⟨i1, ra.1, ra.2, trivial⟩, rfl⟩
        · rw [if_neg e, i2]
          refine ⟨i1, ?_⟩
          obtain ⟨d, hd, _⟩ := first_at _ (p.take k) rfl (rg_take rp k) p[k] rb.1 (by omega)
          have dl := (List.getElem?_eq_some_iff.mp hd).1
          rw [List.length_take] at dl
          rw [List.getElem?_take_of_lt (by omega)] at hd
          have hrd : r[d]? = some r[d] := List.getElem?_eq_getElem (by omega)
          have er := f1 d k _ _ _ hd hx hrd hy
          have mm : r[k] ∈ r.take k := by
            rw [← er]
            exact List.mem_of_getElem? (i := d) (by rw [List.getElem?_take_of_lt (by omega)]; exact hrd)
          have := (rg_mem 0 _ (Int.le_refl _) (rg_take rr k)).1 _ mm
          rw [if_neg (by omega)]
    have := (key r.length (Nat.le_refl _)).1
    rw [List.take_length, ← hr.symm, List.take_of_length_le (by omega)] at this
    exact this
  · obtain ⟨d, hd, hrd, hq⟩ := ag i x h1
    obtain ⟨e, he, hre, hq2⟩ := ag j x h2
    exact f2 d e x y z hrd hre (hq y h3) (hq2 z h4)
  · have := (List.getElem?_eq_some_iff.mp h1).1
    have rr3 : 0 ≤ x := by
      obtain ⟨d, hd, hrd, _⟩ := ag i x h1
      exact (rg_at rr hrd).1
    exact absurd h2 (by simp; omega)
theorem mem_betw (hl : p.length = q.length) (rp : Rg 0 p) (fp : Finer p q) {r : List Int} : r ∈ betw p q ↔ r.length = p.length ∧ Rg 0 r ∧ Finer p r ∧ Finer r q := by
  have e1 := lab_len (p := p) (q := q) hl
  constructor
  · intro h
    obtain ⟨cs, hc, rfl⟩ := List.mem_map.mp h
    obtain ⟨h1, h2, h3⟩ := ok_fwd (mem_comp.mp hc)
    have rr := rowOf_rg _ p rfl rp cs h2 (by omega)
    refine ⟨rowOf_len p cs, rr.1, fun i j x y z g1 g2 g3 g4 => ?_, fun i j x y z g1 g2 g3 g4 => ?_⟩
    · rw [rowOf_at g1] at g3
      rw [rowOf_at g2] at g4
      exact (Option.some.inj g3).symm.trans (Option.some.inj g4)
    · have il := (List.getElem?_eq_some_iff.mp g3).1
      have jl := (List.getElem?_eq_some_iff.mp g4).1
      have pi : p[i]? = some p[i] := List.getElem?_eq_getElem (by omega)
      have pj : p[j]? = some p[j] := List.getElem?_eq_getElem (by omega)
      have b1 := (rg_mem 0 p (Int.le_refl _) rp).1 _ (List.mem_of_getElem? pi)
      have b2 := (rg_mem 0 p (Int.le_refl _) rp).1 _ (List.mem_of_getElem? pj)
      have a1 := lab_agree hl rp fp pi g3
      have a2 := lab_agree hl rp fp pj g4
      have c1 : cs[p[i].toNat]? = some x := by
        rw [rowOf_at pi, List.getD_eq_getElem?_getD, List.getElem?_eq_getElem (show p[i].toNat < cs.length by omega)] at g1
        rw [List.getElem?_eq_getElem (show p[i].toNat < cs.length by omega)]
        exact g1
      have c2 : cs[p[j].toNat]? = some x := by
        rw [rowOf_at pj, List.getD_eq_getElem?_getD, List.getElem?_eq_getElem (show p[j].toNat < cs.length by omega)] at g2
        rw [List.getElem?_eq_getElem (show p[j].toNat < cs.length by omega)]
        exact g2
      have d1 := h3 _ x y c1 a1
      rw [h3 _ x z c2 a2] at d1
      exact (Option.some.inj d1).symm
  · rintro ⟨hr, rr, f1, f2⟩
    exact List.mem_map.mpr ⟨lab p r, lab_back hl hr rp rr fp f1 f2, rowOf_lab hr.symm rp f1⟩
theorem betw_up (hl : p.length = q.length) (rp : Rg 0 p) : (betw p q).Pairwise fun x y => HT.lexLt x y = true := by
  unfold betw
  rw [List.pairwise_map]
  have e1 := lab_len (p := p) (q := q) hl
  refine List.Pairwise.imp_of_mem (fun {a b} ha hb h => ?_) (comp_up (lab p q) [])
  have la := comp_width _ _ a ha
  have lb := comp_width _ _ b hb
  exact rowOf_mono rp (by omega) (by omega) h
theorem finer_refl (p : List Int) : Finer p p := fun i j x y z h1 h2 h3 h4 => by
  rw [h1] at h3
  rw [h2] at h4
  exact (Option.some.inj h3).symm.trans (Option.some.inj h4)
theorem betw_zero (hl : p.length = q.length) (rp : Rg 0 p) (rq : Rg 0 q) (fp : Finer p q) : (betw p q)[0]? = some q := by
  have hq : q ∈ betw p q := (mem_betw hl rp fp).mpr ⟨hl.symm, rq, fp, finer_refl q⟩
  obtain ⟨i, hi, ei⟩ := List.getElem_of_mem hq
  by_cases h : i = 0
  · subst h
    rw [List.getElem?_eq_getElem hi, ei]
  · have h0 : (betw p q)[0]? = some (betw p q)[0] := List.getElem?_eq_getElem (by omega)
    obtain ⟨l0, r0, _, f0⟩ := (mem_betw hl rp fp).mp (List.mem_of_getElem? h0)
    have := List.pairwise_iff_getElem.mp (betw_up (q := q) hl rp) 0 i (by omega) hi (by omega)
    rw [ei, finer_lex (by omega) r0 rq f0] at this
    cases this
theorem betw_last (hl : p.length = q.length) (rp : Rg 0 p) (rq : Rg 0 q) (fp : Finer p q) : 0 < (betw p q).length ∧ (betw p q)[(betw p q).length - 1]? = some p := by
  have hq : p ∈ betw p q := (mem_betw hl rp fp).mpr ⟨rfl, rp, finer_refl p, fp⟩
  obtain ⟨i, hi, ei⟩ := List.getElem_of_mem hq
  refine ⟨by omega, ?_⟩
  by_cases h : i = (betw p q).length - 1
  · rw [← h, List.getElem?_eq_getElem hi, ei]
  · have h0 : (betw p q)[(betw p q).length - 1]? = some (betw p q)[(betw p q).length - 1] := List.getElem?_eq_getElem (by omega)
    obtain ⟨l0, r0, f0, _⟩ := (mem_betw hl rp fp).mp (List.mem_of_getElem? h0)
    have := List.pairwise_iff_getElem.mp (betw_up (q := q) hl rp) i _ hi (by omega : (betw p q).length - 1 < (betw p q).length) (by omega)
    rw [ei, finer_lex (by omega) rp r0 f0] at this
    cases this
end
end KQ
/-! growths, their bounds, the numbers of all partings; dicts over whole numbers -/
namespace KQ
open PySem PySem.Spec PyProof.Rows L2 KR KM StX
/-! ### dicts -/
def dF (D : List Int) (f : Int → V) : List (L2.Key × V) := D.map fun x => (kI x, f x)
theorem dF_len (D : List Int) (f : Int → V) : (dF D f).length = D.length := List.length_map _
theorem dF_congr {D : List Int} {f g : Int → V} (h : ∀ x ∈ D, f x = g x) : dF D f = dF D g := List.map_congr_left fun x hx => by rw [h x hx]
theorem dF_any (D : List Int) (f : Int → V) (x : Int) : ((dF D f).any fun kv => decide (kv.1 = kI x)) = decide (x ∈ D) := by
  unfold dF
  induction D with
  | nil => rfl
  | cons y r ih =>
    rw [List.map_cons, List.any_cons, ih]
    by_cases e : y = x
    · subst e
      simp
    · have e2 : ¬ x = y := fun z => e z.symm
      have e3 : ¬ kI y = kI x := fun z => e (kI_inj _ _ z)
      simp [e2, e3]
theorem dF_val (D : List Int) (f : Int → V) (x : Int) : valV (dF D f) (kI x) = if x ∈ D then some (f x) else none := by
  unfold dF valV
  induction D with
  | nil => rfl
  | cons y r ih =>
    rw [List.map_cons, List.find?_cons]
    by_cases e : y = x
    · subst e
      simp
    · have e2 : ¬ x = y := fun z => e z.symm
      have e3 : ¬ kI y = kI x := fun z => e (kI_inj _ _ z)
      rw [decide_eq_false e3]
      show Option.map _ (List.find? _ (List.map _ r)) = _
      rw [ih]
      simp [e2]
theorem dF_put (D : List Int) (f : Int → V) (x : Int) (v : V) : putK (dF D f) (kI x) v = dF (if x ∈ D then D else D ++ [x]) (fun y => if y = x then v else f y) := by
  unfold putK
  rw [dF_any]
  by_cases h : x ∈ D
  · rw [if_pos (decide_eq_true h), if_pos h]
    unfold dF
    rw [List.map_map]
    refine List.map_congr_left fun y _ => ?_
    show (if kI y = kI x then (kI y, v) else (kI y, f y)) = (kI y, if y = x then v else f y)
    by_cases e : y = x
    · rw [if_pos (by rw [e]), if_pos e]
    · rw [if_neg (fun z => e (kI_inj _ _ z)), if_neg e]
  · rw [if_neg (by simpa using h), if_neg h]
    unfold dF
    rw [List.map_append]
    congr 1
    · refine List.map_congr_left fun y hy => ?_
      show (kI y, f y) = (kI y, if y = x then v else f y)
      rw [if_neg (fun z : y = x => h (by rw [← z]; exact hy))]
    · show _ = [(kI x, if x = x then v else f x)]
      rw [if_pos rfl]
/-! ### bounds -/
theorem gr_le : ∀ l m : Nat, gr l m ≤ (l + m) ^ l
  | 0, m => Nat.le_refl _
  | l + 1, m => by
    show m * gr l m + gr l (m + 1) ≤ _
    have h1 := gr_le l m
    have h2 := gr_le l (m + 1)
    have h3 : (l + m) ^ l ≤ (l + 1 + m) ^ l := Nat.pow_le_pow_left (by omega) l
    rw [show l + (m + 1) = l + 1 + m by omega] at h2
    have h4 : m * gr l m ≤ m * (l + 1 + m) ^ l := Nat.mul_le_mul (Nat.le_refl _) (Nat.le_trans h1 h3)
    have h5 : (l + 1 + m) ^ (l + 1) = (l + 1 + m) ^ l * (l + 1 + m) := Nat.pow_succ ..
    have h6 : (m + 1) * (l + 1 + m) ^ l ≤ (l + 1 + m) * (l + 1 + m) ^ l := Nat.mul_le_mul (by omega) (Nat.le_refl _)
    rw [h5, Nat.mul_comm ((l + 1 + m) ^ l)]
    rw [Nat.succ_mul] at h6
    omega
theorem comp_le : ∀ hs ls : List Int, (comp hs ls).length ≤ (hs.length + ls.length) ^ hs.length
  | [], ls => Nat.le_refl _
  | h :: hs, ls => by
    rw [comp_step]
    have h1 := comp_le hs ls
    have h2 := comp_le hs (ls ++ [h])
    have h0 : ls.count h ≤ ls.length := List.count_le_length
    rw [List.length_append, show hs.length + (ls.length + [h].length) = hs.length + 1 + ls.length from by show _ + (_ + 1) = _; omega] at h2
    have h3 : (hs.length + ls.length) ^ hs.length ≤ (hs.length + 1 + ls.length) ^ hs.length := Nat.pow_le_pow_left (by omega) _
    have h4 : ls.count h * (comp hs ls).length ≤ ls.length * (hs.length + 1 + ls.length) ^ hs.length := Nat.mul_le_mul h0 (Nat.le_trans h1 h3)
    have h6 : (ls.length + 1) * (hs.length + 1 + ls.length) ^ hs.length ≤ (hs.length + 1 + ls.length) * (hs.length + 1 + ls.length) ^ hs.length := Nat.mul_le_mul (by omega) (Nat.le_refl _)
    rw [List.length_cons, Nat.pow_succ, Nat.mul_comm (_ ^ _)]
    rw [Nat.succ_mul] at h6
    omega
theorem big60 {n l : Nat} (h : n ≤ 60) (hl : l ≤ 60) : n ^ l < 2 ^ 360 :=
  Nat.lt_of_le_of_lt (Nat.pow_le_pow_left h l) (Nat.lt_of_le_of_lt (Nat.pow_le_pow_right (by decide) hl) (by decide +kernel))
theorem gr_big {l m : Nat} (h : l + m ≤ 60) : gr l m < 2 ^ 360 := Nat.lt_of_le_of_lt (gr_le l m) (big60 h (by omega))
theorem comp_big {hs ls : List Int} (h : hs.length + ls.length ≤ 60) : (comp hs ls).length < 2 ^ 360 := Nat.lt_of_le_of_lt (comp_le hs ls) (big60 h (by omega))
theorem gr_pos : ∀ l m : Nat, 0 < gr l m
  | 0, m => Nat.one_pos
  | l + 1, m => by
    show 0 < m * gr l m + gr l (m + 1)
    have := gr_pos l (m + 1)
    omega
theorem prd_pos {f : Int → Nat} : ∀ {D : List Int}, (∀ x ∈ D, 0 < f x) → 0 < prd f D
  | [], _ => Nat.one_pos
  | x :: r, h => Nat.mul_pos (h x List.mem_cons_self) (prd_pos fun y hy => h y (List.mem_cons_of_mem _ hy))
/-! ### the numbers of all partings -/
def nextG : Nat → List Nat → List Nat
  | m, a :: b :: r => (m * a + b) :: nextG (m + 1) (b :: r)
  | _, _ => []
def rowN : Nat → List Nat
  | 0 => List.replicate 61 1
  | l + 1 => nextG 0 (rowN l)
theorem nextG_gr (l : Nat) : ∀ k m, nextG m ((List.range' m (k + 1)).map (gr l)) = (List.range' m k).map (gr (l + 1))
  | 0, m => rfl
  | k + 1, m => by
    rw [List.range'_succ, List.range'_succ, List.range'_succ, List.map_cons, List.map_cons, List.map_cons]
    show (m * gr l m + gr l (m + 1)) :: nextG (m + 1) (gr l (m + 1) :: (List.range' (m + 1 + 1) k).map (gr l)) = _
    have := nextG_gr l k (m + 1)
    rw [List.range'_succ, List.map_cons] at this
    rw [this]
    rfl
theorem rowN_gr : ∀ l, l ≤ 60 → rowN l = (List.range' 0 (61 - l)).map (gr l)
  | 0, _ => by
    show List.replicate 61 1 = (List.range' 0 61).map (gr 0)
    decide +kernel
  | l + 1, h => by
    show nextG 0 (rowN l) = _
    rw [rowN_gr l (by omega), show 61 - l = (61 - (l + 1)) + 1 by omega, nextG_gr]
/-- sums one after the other -/
def bn : Int → List Int → List Int
  | a, [] => [a]
  | a, x :: r => a :: bn (a + x) r
def brow : Nat → List Int
  | 0 => [1]
  | n + 1 => bn ((brow n).getLastD 0) (brow n)
theorem bn_len : ∀ (a : Int) (r : List Int), (bn a r).length = r.length + 1
  | _, [] => rfl
  | a, x :: r => by
    show (bn (a + x) r).length + 1 = _
    rw [bn_len]
    rfl
theorem bn_zero (a : Int) (r : List Int) : (bn a r)[0]? = some a := by cases r <;> rfl
theorem bn_at : ∀ (a : Int) (r : List Int) (i : Nat) (y x : Int), (bn a r)[i]? = some y → r[i]? = some x → (bn a r)[i + 1]? = some (y + x)
  | _, [], i, y, x, _, hx => by simp at hx
  | a, z :: r, 0, y, x, hy, hx => by
    obtain rfl : a = y := Option.some.inj hy
    obtain rfl : z = x := Option.some.inj hx
    exact bn_zero _ r
  | a, z :: r, i + 1, y, x, hy, hx => bn_at (a + z) r i y x hy hx
def heads : Nat → List Nat → List Int → Bool
  | 0, _, _ => true
  | k + 1, r, b => decide (((r.headD 0 : Nat) : Int) = b.headD 0) && heads k (nextG 0 r) (bn (b.getLastD 0) b)
theorem heads_at : ∀ k n, heads k (rowN n) (brow n) = true → ∀ i, i < k → (((rowN (n + i)).headD 0 : Nat) : Int) = (brow (n + i)).headD 0
  | 0, _, _, i, h => absurd h (Nat.not_lt_zero _)
  | k + 1, n, h, i, hi => by
    obtain ⟨h1, h2⟩ := Bool.and_eq_true_iff.mp h
    cases i with
    | zero => exact of_decide_eq_true h1
    | succ i =>
      have := heads_at k (n + 1) h2 i (by omega)
      rw [show n + 1 + i = n + (i + 1) by omega] at this
      exact this
theorem heads_ok : heads 61 (rowN 0) (brow 0) = true := by decide +kernel
theorem bell_gr {n : Nat} (h : n ≤ 60) : ((gr n 0 : Nat) : Int) = (brow n).headD 0 := by
  have := heads_at 61 0 heads_ok n (by omega)
  rw [Nat.zero_add] at this
  rw [← this, rowN_gr n h, show 61 - n = (60 - n) + 1 by omega, List.range'_succ]
  rfl
theorem brow_len : ∀ n, (brow n).length = n + 1
  | 0 => rfl
  | n + 1 => by
    show (bn _ _).length = _
    rw [bn_len, brow_len]
/-! ### blocks within blocks -/
theorem mem_lab {p q : List Int} (hl : p.length = q.length) (rg : Rg 0 p) (f : Finer p q) {x : Int} {lo : Nat} : lo ∈ olds (lab p q) x ↔ ∃ i : Nat, p[i]? = some ((lo : Nat) : Int) ∧ q[i]? = some x := by
  rw [mem_olds]
  constructor
  · intro h
    have il := (List.getElem?_eq_some_iff.mp h).1
    have e1 := lab_len (p := p) (q := q) hl
    obtain ⟨d, hd, _⟩ := first_at _ p rfl rg ((lo : Nat) : Int) (by omega) (by omega)
    have dl := (List.getElem?_eq_some_iff.mp hd).1
    have hq : q[d]? = some q[d] := List.getElem?_eq_getElem (by omega)
    have := lab_agree hl rg f hd hq
    rw [Int.toNat_natCast, h] at this
    exact ⟨d, hd, by rw [hq]; exact this.symm⟩
  · rintro ⟨i, h1, h2⟩
    have := lab_agree hl rg f h1 h2
    rw [Int.toNat_natCast] at this
    exact this
theorem count_lab {p q : List Int} (hl : p.length = q.length) (rg : Rg 0 p) (f : Finer p q) {x : Int} {los : List Int} (nd : los.Nodup) (h : ∀ lo, lo ∈ los ↔ ∃ i : Nat, p[i]? = some lo ∧ q[i]? = some x) : los.length = (lab p q).count x := by
  rw [← olds_len x _ (lab p q) rfl, ← List.length_map (as := olds (lab p q) x) (fun n => ((n : Nat) : Int))]
  refine same_len nd ?_ fun y => ?_
  · rw [List.nodup_iff_pairwise_ne, List.pairwise_map]
    refine ((List.nodup_range (n := (lab p q).length)).filter _).imp fun {a b} hab e => ?_
    exact hab (by omega)
  · rw [h, List.mem_map]
    constructor
    · rintro ⟨i, h1, h2⟩
      have y0 := (rg_at rg h1).1
      refine ⟨y.toNat, (mem_lab hl rg f).mpr ⟨i, ?_, h2⟩, by omega⟩
      rw [h1, show ((y.toNat : Nat) : Int) = y by omega]
    · rintro ⟨n, hn, rfl⟩
      exact (mem_lab hl rg f).mp hn
end KQ
/-! great products in place; sets of pairs -/
namespace KR
open PySem PySem.Spec PyProof.Rows L2
theorem in_mulW {X : Cx} : InOp X .Mult (rI CMulW fun i j => .int (i * j)) := fun pins s σ H x y u v Q I rx ry h =>
  (opI (X := X) (f := inplaceOp .Mult) fun _ _ _ _ _ _ _ hc q => imul_int q hc.ok) pins s σ H x y u v Q I rx ry h
theorem k_setOfT {X : Cx} {K : PySem.W.Frag} (hK : X.K = K) (hc : X.calm = true) (hu : X.A.units + 64 < cLine) : CallR X (.type "set") (rSetOfT K X.prog X.w) := by
  subst hK
  exact cr_setOfT hc hu
theorem k_sortedT {X : Cx} {K : PySem.W.Frag} (hK : X.K = K) (hc : X.calm = true) : CallR X (.builtin "sorted") (rSortedT K X.prog X.w) := by
  subst hK
  exact cr_sortedT hc
theorem atI_end {xs : List V} {v : V} (h : xs[xs.length - 1]? = some v) : atI xs (-1) = some v := by
  have pos : xs.length - 1 < xs.length := (List.getElem?_eq_some_iff.mp h).1
  have ne : xs ≠ [] := fun z => by rw [z] at pos; cases pos
  have el : xs.getLast ne = v := by
    rw [List.getElem?_eq_getElem pos] at h
    rw [← Option.some.inj h, List.getLast_eq_getElem]
  have e : xs = xs.dropLast ++ [v] := by
    rw [← el]
    exact (List.dropLast_concat_getLast ne).symm
  rw [e]
  exact atI_last _ v
end KR
namespace KQ
open PySem PySem.Spec PyProof.Rows L2 KR KM StX
abbrev vN (k : Nat) : V := .int ((k : Nat) : Int)
/-- a row of growths -/
def growV (n l : Nat) : List V := (List.range (n + 1 - l)).map fun m => vN (gr l m)
theorem growV_at {n l m : Nat} (h : m < n + 1 - l) : (growV n l)[m]? = some (vN (gr l m)) := by
  unfold growV
  rw [List.getElem?_map, List.getElem?_range h]
  rfl
theorem growV_len (n l : Nat) : (growV n l).length = n + 1 - l := by
  unfold growV
  rw [List.length_map, List.length_range]
/-- rows of growths, so many -/
def GrT (H : Hp) (g : Addr) (n k : Nat) : Prop := ∃ gs : List Addr, H g = some (.lst (gs.map V.ref)) ∧ gs.length = k ∧ ∀ (l : Nat) (a : Addr), gs[l]? = some a → H a = some (.lst (growV n l))
theorem nat_abs {k b : Nat} (h : k < 2 ^ b) : (((k : Nat) : Int)).natAbs < 2 ^ b := by rw [Int.natAbs_natCast]; exact h
section
variable {P : Program} {w : World} {K : PySem.W.Frag} {mg : Str → Option Value} {base : Heap}
abbrev s_growths : Stmt := topS 16
theorem sc_growths : FnScope ["most", "rows", "left", "last", "made"] ["most"] (defScope s_growths) := ⟨rfl, rfl, rfl, by decide +kernel, rfl, by decide +kernel, by decide +kernel⟩
def spGrowths : Sp := fun vs H Q _ => ∃ n : Nat, vs = [vN n] ∧ n ≤ 60 ∧ ∀ H' g, Same H H' → GrT H' g n (n + 1) → Q (.ref g) H'
theorem ok_growths (D : DefAt K mg "growths" s_growths) (T : Bt mg) : Use P w K mg base "growths" 1 ["most"] spGrowths := by
  refine use_of D (fun f fd F => F.ok sc_growths (fun vs H Q E h => ?_) (fun cdv A outer s H vs Q E hr h => ?_)) (fun _ _ _ _ _ _ us hl => match us, hl with | [_], _ => rfl)
  · obtain ⟨n, rfl, _⟩ := h
    rfl
  · obtain ⟨n, rfl, n60, q⟩ := h
    refine ⟨_, (pss_cons (ps_set (i := 1) sc_growths.nd rfl (Or.inl rfl) (pe_lst (pa_cons (pe_op op_rep (pe_lst (pa_cons pe_int pa_nil)) (pe_op op_add (pv 0) pe_int)) pa_nil)))
      (pss_cons (ps_for PassesOwn.never rfl (pi_range2 (by rfl) T.range (pa_cons pe_int (pa_cons (pe_op op_add (pv 0) pe_int) pa_nil))) (pg_name (i := 2) sc_growths.nd rfl (Or.inl rfl))
      (pss_cons (ps_set (i := 3) sc_growths.nd rfl (Or.inr rfl) (pe_ix (k_ixl (K := K) rfl) (pv 1) (pe_un un_neg pe_int) (fun _ _ => rfl)))
      (pss_one (ps_expr (k_bm (K := K) rfl PySem.F.plainAttrs_list PySem.F.slot_list_append PySem.F.type_list_append mt_append (pv 1) (pa_cons (pe_lc (own := [("made", 4)]) rfl sc_growths.nd (pi_range1 (by rfl) T.range (pa_cons (pe_op op_sub (pe_op op_add (pv 0) pe_int) (pv 2)) pa_nil)) (blkOk_by (N := ["most", "rows", "left", "last", "made"]) (sc := defScope s_growths) (by decide +kernel)) (fun _ _ _ _ _ => (pg_name (i := 4) sc_growths.nd rfl (Or.inl rfl))) (fun _ _ _ _ _ => pts_nil) (fun _ _ _ _ _ => (pe_op op_add (pe_op op_mulW (pv 4) (pe_ix (k_ixl (K := K) rfl) (pv 3) (pv 4) (fun _ _ => rfl))) (pe_ix (k_ixl (K := K) rfl) (pv 3) (pe_op op_add (pv 4) pe_int) (fun _ _ => rfl))))) pa_nil))))))
      (pss_one (ps_ret (pv 1))))), ?_⟩
    refine ⟨by show 1 ≤ sizeLine; decide, fun w0 nw0 => ?_⟩
    refine ⟨_, rfl, _, _, rfl, rfl, w0, _, _, rfl, rfl, upd_same, by omega, by omega, ?_, fun r0 nr0 => ?_⟩
    · show 1 * _ ≤ sizeLine
      rw [Nat.one_mul]
      exact Nat.le_of_lt (small_of (by omega))
    have rep : (List.replicate (((n : Nat) : Int) + 1).toNat [V.int 1]).flatten = growV n 0 := by
      rw [show (((n : Nat) : Int) + 1).toNat = n + 1 by omega]
      unfold growV
      rw [Nat.sub_zero]
      refine List.ext_getElem? fun i => ?_
      have e : (List.replicate (n + 1) [V.int 1]).flatten = List.replicate (n + 1) (V.int 1) := by
        induction n + 1 with
        | zero => rfl
        | succ k ih => rw [List.replicate_succ, List.flatten_cons, ih]; rfl
      rw [e]
      by_cases hi : i < n + 1
      · rw [List.getElem?_replicate_of_lt hi, List.getElem?_map, List.getElem?_range hi]
        rfl
      · rw [List.getElem?_eq_none (by rw [List.length_replicate]; omega), List.getElem?_eq_none (by rw [List.length_map, List.length_range]; omega)]
    rw [rep]
    refine ⟨by show 1 ≤ sizeLine; decide, fun l0 nl0 => ?_⟩
    have s0 : Same H (upd (upd (upd H w0 (.lst [.int 1])) r0 (.lst (growV n 0))) l0 (.lst [.ref r0])) := ((same_new nw0).trans (same_new nr0)).trans (same_new nl0)
    refine ⟨_, rfl, _, _, rfl, rfl, 1, _, rfl, ⟨by decide, by decide, by omega, by omega⟩, for_range (lo := 1) (n := (((n : Nat) : Int) + 1 - 1).toNat)
      (fun i σ H1 => ∃ (y2 y3 : Option V), σ = [some (vN n), some (.ref l0), y2, y3, none] ∧ Same H H1 ∧ GrT H1 l0 n (i + 1))
      ⟨none, none, rfl, s0, [r0], upd_same, rfl, fun l a h => ?_⟩ ?_ ?_⟩
    · have : l = 0 := by
        have := (List.getElem?_eq_some_iff.mp h).1
        simp at this
        omega
      subst this
      obtain rfl : r0 = a := Option.some.inj h
      exact same_new nl0 _ _ upd_same
    · rintro i σ H1 hi ⟨y2, y3, rfl, sm, gs, eg, lg, hg⟩
      have hin : i < n := by omega
      obtain ⟨a, ha⟩ := at_some (xs := gs) (i := i) (by omega)
      have ea := hg i a ha
      obtain ⟨a0, ha0⟩ := at_some (xs := gs) (i := 0) (by omega)
      have nl0H : H l0 = none := (((same_new nw0).trans (same_new nr0))).free nl0
      refine ⟨_, rfl, 1, rfl, l0, _, -1, .ref a, rfl, rfl, sqL eg, atI_end (by rw [List.length_map, lg]; exact at_map ha), ?_⟩
      refine ⟨_, rfl, .inl ⟨rfl, _, .inl (.inl eg)⟩, ?_⟩
      refine ⟨_, rfl, _, _, rfl, rfl, _, rfl, _, _, rfl, rfl, _, rfl, by omega, by omega, fun G nG => ?_⟩
      refine lc_range (fun k H2 => Same H1 H2 ∧ H2 G = some (.lst ((List.range k).map fun m => vN (gr (i + 1) m)))) ⟨same_new nG, upd_same⟩ ?_ ?_
      · rintro k H2 hk ⟨s2, eG⟩
        have hk : k < n - i := by omega
        have ea2 := s2 _ _ ea
        have g1 : gr i k < 2 ^ 360 := gr_big (by omega)
        refine ⟨rfl, _, rfl, _, rfl, _, rfl, a, _, _, vN (gr i k), rfl, rfl, sqL ea2, atI_of (j := k) (by omega) (growV_at (by omega)), ?_⟩
        refine ⟨_, _, rfl, rfl, wide_mul (a := 60) (b := 360) (nb (by omega) (by omega)) (nat_abs g1) (by decide) (by decide) (by decide), ?_⟩
        refine ⟨_, rfl, _, rfl, _, _, rfl, rfl, a, _, _, vN (gr i (k + 1)), rfl, rfl, sqL ea2, atI_of (j := k + 1) (by omega) (growV_at (by omega)), _, _, rfl, rfl, ?_⟩
        refine ⟨_, eG, ?_, same_mut s2 nG, ?_⟩
        · rw [List.length_map, List.length_range]
          exact small_of (by omega)
        · rw [upd_same, List.range_succ, List.map_append]
          refine congrArg (fun z => some (HO.lst (_ ++ [V.int z]))) ?_
          show (0 + ((k : Nat) : Int)) * ((gr i k : Nat) : Int) + ((gr i (k + 1) : Nat) : Int) = ((k * gr i k + gr i (k + 1) : Nat) : Int)
          rw [Int.zero_add, Int.natCast_add, Int.natCast_mul]
      rintro H2 ⟨s2, eG⟩
      rw [show (((n : Nat) : Int) + 1 - (1 + ((i : Nat) : Int))).toNat = n + 1 - (i + 1) by omega] at eG
      have eg2 := s2 _ _ eg
      have nGl : G ≠ l0 := fun z => by rw [z, eg] at nG; cases nG
      refine ⟨l0, _, _, rfl, rfl, eg2, (by rw [List.length_map]; exact small_of (by omega)), _, _, rfl, same_mut (sm.trans s2) nl0H, gs ++ [G], ?_, ?_, fun l b hb => ?_⟩
      · rw [upd_same, List.map_append]
        rfl
      · rw [List.length_append, lg]
        rfl
      · have bl := (List.getElem?_eq_some_iff.mp hb).1
        rw [List.length_append] at bl
        have bl : l < gs.length + 1 := bl
        by_cases c : l < gs.length
        · rw [List.getElem?_append_left c] at hb
          have eb := hg l b hb
          have nb : b ≠ l0 := fun z => by
            rw [z, eg] at eb
            have e2 : (gs.map V.ref)[0]? = (growV n l)[0]? := by rw [HO.lst.inj (Option.some.inj eb)]
            rw [growV_at (by omega), at_map ha0] at e2
            cases e2
          rw [upd_ne nb]
          exact s2 _ _ eb
        · have el : l = gs.length := by omega
          subst el
          rw [List.getElem?_append_right (Nat.le_refl _), Nat.sub_self] at hb
          obtain rfl : G = b := Option.some.inj hb
          rw [upd_ne nGl, eG, lg]
          rfl
    · rintro σ H1 ⟨y2, y3, rfl, sm, g⟩
      rw [show (((n : Nat) : Int) + 1 - 1).toNat + 1 = n + 1 by omega] at g
      exact ⟨_, rfl, q H1 l0 sm g⟩
abbrev s_first_doors : Stmt := topS 18
theorem sc_first_doors : FnScope ["parting", "seen", "flags", "block"] ["parting"] (defScope s_first_doors) := ⟨rfl, rfl, rfl, by decide +kernel, rfl, by decide +kernel, by decide +kernel⟩
/-- is this door the first of its block -/
def isF (p : List Int) (i : Nat) : Bool := decide (p[i]? = some (bc 0 (p.take i)))
def spFirstD : Sp := fun vs H Q _ => ∃ a p, vs = [.ref a] ∧ TI H a p ∧ Rg 0 p ∧ p.length ≤ 60 ∧ ∀ H' l, Same H H' → H l = none → H' l = some (.lst ((List.range p.length).map fun i => V.bl (isF p i))) → Q (.ref l) H'
theorem ok_first_doors (D : DefAt K mg "first_doors" s_first_doors) (T : Bt mg) : Use P w K mg base "first_doors" 1 ["parting"] spFirstD := by
  refine use_of D (fun f fd F => F.ok sc_first_doors (fun vs H Q E h => ?_) (fun cdv A outer s H vs Q E hr h => ?_)) (fun _ _ _ _ _ _ us hl => match us, hl with | [_], _ => rfl)
  · obtain ⟨a, p, rfl, _⟩ := h
    rfl
  · obtain ⟨a, p, rfl, hp, rg, l60, q⟩ := h
    refine ⟨_, (pss_cons (ps_set (i := 1) sc_first_doors.nd rfl (Or.inl rfl) (pe_callTy0 cr_set0 (by rfl) T.set (by decide +kernel)))
      (pss_cons (ps_set (i := 2) sc_first_doors.nd rfl (Or.inl rfl) (pe_lst pa_nil))
      (pss_cons (ps_for PassesOwn.never rfl (k_tup (K := K) rfl (pv 0)) (pg_name (i := 3) sc_first_doors.nd rfl (Or.inl rfl))
      (pss_cons (ps_expr (k_bm (K := K) rfl PySem.F.plainAttrs_list PySem.F.slot_list_append PySem.F.type_list_append mt_append (pv 2) (pa_cons (pe_cmpR or_snotin (pv 3) (pv 1) (by rfl)) pa_nil)))
      (pss_one (ps_expr (pe_sadd (pv 1) (pa_cons (pv 3) pa_nil))))))
      (pss_one (ps_ret (pv 2)))))), ?_⟩
    refine ⟨rfl, fun S nS => ?_⟩
    refine ⟨Nat.zero_le _, fun L nL => ?_⟩
    have s0 : Same H (upd (upd H S (SetO w S (fun _ => false) 0)) L (.lst [])) := (same_new nS).trans (same_new nL)
    have nLS : S ≠ L := fun z => by rw [← z, upd_same] at nL; cases nL
    have nLH : H L = none := (same_new nS).free nL
    refine ⟨_, rfl, a, rfl, ⟨_, (hp.mono s0).seq⟩, for_tup (K := K) (a := a) (xs := p.map V.int)
      (fun i σ H1 => ∃ (y3 : Option V) (n : Nat) (Sf : Int → Bool), σ = [some (.ref a), some (.ref S), some (.ref L), y3] ∧ Same H H1 ∧ H1 S = some (SetO w S Sf n) ∧ n ≤ i ∧ (∀ x, Sf x = decide (x ∈ p.take i)) ∧ H1 L = some (.lst ((List.range i).map fun i => V.bl (isF p i))))
      ⟨none, 0, _, rfl, s0, by rw [upd_ne nLS]; exact upd_same, Nat.le_refl _, fun x => rfl, upd_same⟩ (fun i σ H1 _ ⟨_, _, _, _, sm, _⟩ => (hp.mono sm).seq) ?_ ?_⟩
    · rintro i v σ H1 hi ⟨y3, n, Sf, rfl, sm, eS, ni, hS, eL⟩
      obtain ⟨x, hx, rfl⟩ := map_at hi
      have il := (List.getElem?_eq_some_iff.mp hx).1
      refine ⟨_, rfl, .inl ⟨rfl, _, .inl (.inl eL)⟩, _, rfl, _, rfl, x, S, Sf, n, rfl, rfl, eS, L, _, _, rfl, rfl, eL, (by rw [List.length_map, List.length_range]; exact small_of (by omega)), ?_⟩
      have eS2 : (upd H1 L (.lst (((List.range i).map fun i => V.bl (isF p i)) ++ [V.bl (!Sf x)]))) S = some (SetO w S Sf n) := by rw [upd_ne nLS]; exact eS
      refine ⟨_, rfl, ⟨S, Sf, n, rfl, eS2⟩, _, rfl, S, x, Sf, n, rfl, rfl, eS2, by unfold scanBound; omega, ?_⟩
      have nSH : H S = none := nS
      refine ⟨_, _, _, rfl, same_mut (same_mut sm nLH) nSH, upd_same, by split <;> omega, fun y => ?_, ?_⟩
      · rw [hS, take_snoc hx]
        simp
      · rw [upd_ne nLS.symm, upd_same, List.range_succ, List.map_append]
        refine congrArg (fun z => some (HO.lst (_ ++ [V.bl z]))) ?_
        rw [hS]
        have ra := rg_at rg hx
        have rm := (rg_mem 0 _ (Int.le_refl _) (rg_take rg i))
        unfold isF
        rw [hx]
        by_cases e : x = bc 0 (p.take i)
        · rw [decide_eq_true (congrArg some e), decide_eq_false (fun z => by have := (rm.1 x z).2; omega)]
          rfl
        · rw [decide_eq_false (fun z => e (Option.some.inj z)), decide_eq_true (rm.2 x ra.1 (by omega))]
          rfl
    · rintro σ H1 ⟨y3, n, Sf, rfl, sm, eS, ni, hS, eL⟩
      rw [List.length_map] at eL
      exact ⟨_, rfl, q H1 L sm nLH eL⟩
abbrev s__law_product : Stmt := topS 33
theorem sc__law_product : FnScope ["numbers", "found", "one"] ["numbers"] (defScope s__law_product) := ⟨rfl, rfl, rfl, by decide +kernel, rfl, by decide +kernel, by decide +kernel⟩
def spProduct (K : PySem.W.Frag) : Sp := fun vs H Q _ => ∃ (a : Addr) (ns : List Nat), vs = [.ref a] ∧ SqL K H a (ns.map vN) ∧ (∀ k, k ≤ ns.length → (ns.take k).foldl (· * ·) 1 < 2 ^ 360 ∧ ∀ x, ns[k]? = some x → x < 2 ^ 360) ∧ Q (vN (ns.foldl (· * ·) 1)) H
theorem ok_product (D : DefAt K mg "_law_product" s__law_product) (T : Bt mg) : Use P w K mg base "_law_product" 1 ["numbers"] (spProduct K) := by
  refine use_of D (fun f fd F => F.ok sc__law_product (fun vs H Q E h => ?_) (fun cdv A outer s H vs Q E hr h => ?_)) (fun _ _ _ _ _ _ us hl => match us, hl with | [_], _ => rfl)
  · obtain ⟨a, ns, rfl, _⟩ := h
    rfl
  · obtain ⟨a, ns, rfl, hs, big, q⟩ := h
    refine ⟨_, (pss_cons (ps_set (i := 1) sc__law_product.nd rfl (Or.inl rfl) pe_int)
      (pss_cons (ps_for PassesOwn.never rfl (k_list (K := K) rfl (pv 0)) (pg_name (i := 2) sc__law_product.nd rfl (Or.inl rfl))
      (pss_one (ps_set (i := 1) sc__law_product.nd rfl (Or.inl rfl) (pe_op op_mulW (pv 1) (pv 2)))))
      (pss_one (ps_ret (pv 1))))), ?_⟩
    refine ⟨_, rfl, a, rfl, ⟨_, hs⟩, for_list (K := K) (a := a) (xs := ns.map vN)
      (fun i σ H1 => ∃ y2, σ = [some (.ref a), some (vN ((ns.take i).foldl (· * ·) 1)), y2] ∧ H1 = H) ⟨none, rfl, rfl⟩ (fun i σ H1 _ ⟨_, _, e⟩ => by rw [e]; exact hs) ?_ ?_⟩
    · rintro i v σ H1 hi ⟨y2, rfl, rfl⟩
      obtain ⟨x, hx, rfl⟩ := map_at hi
      have b := big i (by have := (List.getElem?_eq_some_iff.mp hx).1; omega)
      refine ⟨_, rfl, _, rfl, _, _, rfl, rfl, wide_mul (nat_abs b.1) (nat_abs (b.2 x hx)) (by decide) (by decide) (by decide), some (vN x), ?_, rfl⟩
      rw [take_snoc hx, List.foldl_append]
      refine congrArg (fun z => [_, some (V.int z), _]) ?_
      exact (Int.natCast_mul _ _).symm
    · rintro σ H1 ⟨y2, rfl, rfl⟩
      rw [List.length_map, List.take_length]
      exact ⟨_, rfl, q⟩
abbrev s__law_below : Stmt := topS 34
theorem sc__law_below : FnScope ["m", "limit", "found", "turn"] ["m", "limit"] (defScope s__law_below) := ⟨rfl, rfl, rfl, by decide +kernel, rfl, by decide +kernel, by decide +kernel⟩
def spLBelow : Sp := fun vs H Q _ => ∃ (m c g : Addr) (b : Int) (t : Nat), vs = [.ref m, vN t] ∧ MS H m c g b ∧ b ≤ 900000 ∧ 0 < t ∧ t < 2 ^ 360 ∧ ∀ H' (r : Nat), Kept H H' m g → MS H' m c g (b + 9) → r < t → Q (vN r) H'
theorem ok_below (D : DefAt K mg "_law_below" s__law_below) (T : Bt mg) (u__law_draw : Use P w K mg base "_law_draw" 2 ["m", "limit"] spDraw) : Use P w K mg base "_law_below" 3 ["m", "limit"] spLBelow := by
  refine use_of D (fun f fd F => F.ok sc__law_below (fun vs H Q E h => ?_) (fun cdv A outer s H vs Q E hr h => ?_)) (fun _ _ _ _ _ _ us hl => match us, hl with | [_, _], _ => rfl)
  · obtain ⟨m, c, g, b, t, rfl, _⟩ := h
    rfl
  · obtain ⟨m, c, g, b, t, rfl, ms, hb, t0, tb, q⟩ := h
    refine ⟨_, (pss_cons (ps_set (i := 2) sc__law_below.nd rfl (Or.inl rfl) pe_int)
      (pss_cons (ps_for PassesOwn.never rfl (pi_range1 (by rfl) T.range (pa_cons pe_int pa_nil)) (pg_name (i := 3) sc__law_below.nd rfl (Or.inl rfl))
      (pss_one (ps_set (i := 2) sc__law_below.nd rfl (Or.inl rfl) (pe_op op_add (pe_op op_mulW (pv 2) pe_int) (pe_use u__law_draw (by decide) hr (by rfl) (pa_cons (pv 0) (pa_cons pe_int pa_nil)))))))
      (pss_one (ps_ret (pe_op op_modN (pe_callTy call_int1 (by rfl) T.int (by decide +kernel) (pa_cons (pv 2) pa_nil)) (pv 1)))))), ?_⟩
    refine ⟨_, rfl, by decide, by decide, for_range (lo := 0) (n := ((9 : Int)).toNat)
      (fun i σ H1 => ∃ (y3 : Option V) (f : Int), σ = [some (.ref m), some (vN t), some (.int f), y3] ∧ 0 ≤ f ∧ f < 10 ^ (9 * i) ∧ Kept H H1 m g ∧ MS H1 m c g (b + (i : Nat)))
      ⟨none, 0, rfl, Int.le_refl _, by decide, fun _ _ h _ _ => h, by simpa using ms⟩ ?_ ?_⟩
    · rintro i σ H1 hi ⟨y3, f, rfl, f0, f1, k1, ms1⟩
      have hi9 : i < 9 := hi
      have e9 : (10 : Int) ^ (9 * (i + 1)) = 10 ^ (9 * i) * 1000000000 := by rw [Nat.mul_succ, Int.pow_add]; rfl
      have fb : f < 2 ^ 300 := Int.lt_of_lt_of_le f1 (by
        have : (10 : Int) ^ (9 * i) ≤ 10 ^ 81 := by
          have h : (10 : Nat) ^ (9 * i) ≤ 10 ^ 81 := Nat.pow_le_pow_right (by decide) (by omega)
          exact_mod_cast h
        exact Int.le_trans this (by decide +kernel))
      refine ⟨_, rfl, f, 1000000000, rfl, rfl, wide_mul (nb f0 fb) (by decide : (1000000000 : Int).natAbs < 2 ^ 30) (by decide) (by decide) (by decide), ?_⟩
      refine ⟨_, rfl, m, c, g, _, 1000000000, rfl, ms1, by omega, by decide, by decide, fun H2 d k2 ms2 d0 d1 => ⟨_, _, rfl, rfl, ?_⟩⟩
      refine ⟨_, _, rfl, by omega, ?_, k1.trans k2, ?_⟩
      · rw [e9]
        have : f + 1 ≤ 10 ^ (9 * i) := f1
        have h2 : (f + 1) * 1000000000 ≤ 10 ^ (9 * i) * 1000000000 := Int.mul_le_mul_of_nonneg_right this (by decide)
        omega
      · rw [show b + ((i + 1 : Nat) : Int) = b + (i : Nat) + 1 by omega]
        exact ms2
    · rintro σ H1 ⟨y3, f, rfl, f0, f1, k1, ms1⟩
      have tt : (0 : Int) < ((t : Nat) : Int) := by omega
      have r := fm (i := f) tt
      refine ⟨_, rfl, .inl ⟨_, rfl, _, rfl, _, _, rfl, rfl, (by omega : ((t : Nat) : Int) ≠ 0), ?_⟩⟩
      have := q H1 (f.fmod t).toNat k1 (by simpa using ms1) (by omega)
      rw [show vN (f.fmod t).toNat = V.int (f.fmod t) from congrArg V.int (by omega)] at this
      exact this
end
end KQ
namespace KQ
open PySem PySem.Spec PyProof.Rows L2 KR KM StX
section
variable {P : Program} {w : World} {K : PySem.W.Frag} {mg : Str → Option Value} {base : Heap}
abbrev s__law_parting_counts : Stmt := topS 37
theorem sc__law_parting_counts : FnScope ["most", "row", "found", "turn", "longer", "one"] ["most"] (defScope s__law_parting_counts) := ⟨rfl, rfl, rfl, by decide +kernel, rfl, by decide +kernel, by decide +kernel⟩
def bell (n : Nat) : Int := (brow n).headD 0
def spCounts : Sp := fun vs H Q _ => ∃ n : Nat, vs = [vN n] ∧ n ≤ 60 ∧ ∀ H' l, Same H H' → H' l = some (.lst (((List.range (n + 1)).map bell).map V.int)) → Q (.ref l) H'
theorem ok_parting_counts (D : DefAt K mg "_law_parting_counts" s__law_parting_counts) (T : Bt mg) : Use P w K mg base "_law_parting_counts" 1 ["most"] spCounts := by
  refine use_of D (fun f fd F => F.ok sc__law_parting_counts (fun vs H Q E h => ?_) (fun cdv A outer s H vs Q E hr h => ?_)) (fun _ _ _ _ _ _ us hl => match us, hl with | [_], _ => rfl)
  · obtain ⟨n, rfl, _⟩ := h
    rfl
  · obtain ⟨n, rfl, n60, q⟩ := h
    refine ⟨_, (pss_cons (ps_par (i := 1) (j := 2) rfl sc__law_parting_counts.nd rfl rfl (by decide) rfl rfl (pa_cons (pe_lst (pa_cons pe_int pa_nil)) (pa_cons (pe_lst (pa_cons pe_int pa_nil)) pa_nil)) (by rfl))
      (pss_cons (ps_for PassesOwn.never rfl (pi_range1 (by rfl) T.range (pa_cons (pv 0) pa_nil)) (pg_name (i := 3) sc__law_parting_counts.nd rfl (Or.inl rfl))
      (pss_cons (ps_set (i := 4) sc__law_parting_counts.nd rfl (Or.inl rfl) (pe_lst (pa_cons (pe_ix (k_ixl (K := K) rfl) (pv 1) (pe_un un_neg pe_int) (fun _ _ => rfl)) pa_nil)))
      (pss_cons (ps_for PassesOwn.never rfl (k_list (K := K) rfl (pv 1)) (pg_name (i := 5) sc__law_parting_counts.nd rfl (Or.inl rfl))
      (pss_one (ps_expr (k_bm (K := K) rfl PySem.F.plainAttrs_list PySem.F.slot_list_append PySem.F.type_list_append mt_append (pv 4) (pa_cons (pe_op op_add (pe_ix (k_ixl (K := K) rfl) (pv 4) (pe_un un_neg pe_int) (fun _ _ => rfl)) (pv 5)) pa_nil)))))
      (pss_cons (ps_expr (k_bm (K := K) rfl PySem.F.plainAttrs_list PySem.F.slot_list_append PySem.F.type_list_append mt_append (pv 2) (pa_cons (pe_ix (k_ixl (K := K) rfl) (pv 4) pe_int (fun _ _ => rfl)) pa_nil)))
      (pss_one (ps_set (i := 1) sc__law_parting_counts.nd rfl (Or.inl rfl) (pv 4)))))))
      (pss_one (ps_ret (pv 2))))), ?_⟩
    refine ⟨by show 1 ≤ sizeLine; decide, fun r0 nr => ⟨by show 1 ≤ sizeLine; decide, fun f0 nf => ⟨_, _, rfl, ?_⟩⟩⟩
    have s0 : Same H (upd (upd H r0 (.lst [.int 1])) f0 (.lst [.int 1])) := (same_new nr).trans (same_new nf)
    have rf0 : r0 ≠ f0 := fun z => by rw [← z, upd_same] at nf; cases nf
    have nfH : H f0 = none := (same_new nr).free nf
    refine ⟨_, rfl, _, rfl, by omega, by omega, for_range (lo := 0) (n := (((n : Nat) : Int)).toNat)
      (fun i σ H1 => ∃ (r : Addr) (y3 y4 y5 : Option V), σ = [some (vN n), some (.ref r), some (.ref f0), y3, y4, y5] ∧ Same H H1 ∧ H1 r = some (.lst ((brow i).map V.int)) ∧ r ≠ f0 ∧ H1 f0 = some (.lst (((List.range (i + 1)).map bell).map V.int)))
      ⟨r0, none, none, none, rfl, s0, by rw [upd_ne rf0]; exact upd_same, rf0, upd_same⟩ ?_ ?_⟩
    · rintro i σ H1 hi ⟨r, y3, y4, y5, rfl, sm, er, rf, ef⟩
      rw [Int.toNat_natCast] at hi
      have bl := brow_len i
      have hlast : ((brow i).map V.int)[((brow i).map V.int).length - 1]? = some (.int ((brow i).getLastD 0)) := by
        rw [List.length_map, List.getElem?_map, ← List.getLast?_eq_getElem?, List.getLastD_eq_getLast?]
        cases e : (brow i).getLast? with
        | none =>
          rw [List.getLast?_eq_none_iff] at e
          rw [e] at bl
          cases bl
        | some y => rfl
      refine ⟨_, rfl, 1, rfl, r, _, -1, _, rfl, rfl, sqL er, atI_end hlast, by show 1 ≤ sizeLine; decide, fun g ng => ?_⟩
      have ngr : g ≠ r := fun z => by rw [z, er] at ng; cases ng
      have ngf : g ≠ f0 := fun z => by rw [z, ef] at ng; cases ng
      have sg := same_new (H := H1) (o := .lst [.int ((brow i).getLastD 0)]) ng
      have b0 : ((bn ((brow i).getLastD 0) (brow i)).take 1).map V.int = [.int ((brow i).getLastD 0)] := by
        cases brow i <;> rfl
      refine ⟨_, rfl, r, rfl, ⟨_, sqL (sg _ _ er)⟩, for_list (K := K) (a := r) (xs := (brow i).map V.int)
        (fun k σ H2 => ∃ y5, σ = [some (vN n), some (.ref r), some (.ref f0), some (.int (0 + (i : Nat))), some (.ref g), y5] ∧ Same H1 H2 ∧ H2 g = some (.lst (((bn ((brow i).getLastD 0) (brow i)).take (k + 1)).map V.int)))
        ⟨y5, rfl, sg, by rw [upd_same, b0]⟩ (fun k σ H2 _ ⟨_, _, s2, _⟩ => sqL (s2 _ _ er)) ?_ ?_⟩
      · rintro k v σ H2 hk ⟨y5, rfl, s2, eg⟩
        obtain ⟨x, hx, rfl⟩ := map_at hk
        have kl := (List.getElem?_eq_some_iff.mp hx).1
        have bl2 := bn_len ((brow i).getLastD 0) (brow i)
        obtain ⟨y, hy⟩ := at_some (xs := bn ((brow i).getLastD 0) (brow i)) (i := k) (by omega)
        have hn := bn_at _ _ k y x hy hx
        have tl : (((bn ((brow i).getLastD 0) (brow i)).take (k + 1)).map V.int).length = k + 1 := by
          rw [List.length_map, List.length_take]
          omega
        refine ⟨_, rfl, .inl ⟨rfl, _, .inl (.inl eg)⟩, _, rfl, 1, rfl, g, _, -1, .int y, rfl, rfl, sqL eg, atI_end ?_, ?_⟩
        · rw [tl, Nat.add_sub_cancel, List.getElem?_map, List.getElem?_take_of_lt (by omega), hy]
          rfl
        refine ⟨_, rfl, _, _, rfl, rfl, g, _, _, rfl, rfl, eg, by rw [tl]; exact small_of (by omega), _, rfl, same_mut s2 ng, ?_⟩
        rw [upd_same, take_snoc hn, List.map_append]
        rfl
      · rintro σ H2 ⟨y5, rfl, s2, eg⟩
        rw [List.length_map, List.take_of_length_le (Nat.le_of_eq (bn_len _ _))] at eg
        have h0 : (brow (i + 1)).map V.int = (bn ((brow i).getLastD 0) (brow i)).map V.int := rfl
        have hz : ((brow (i + 1)).map V.int)[0]? = some (.int (bell (i + 1))) := by
          rw [List.getElem?_map]
          unfold bell
          cases e : brow (i + 1) with
          | nil =>
            have := brow_len (i + 1)
            rw [e] at this
            cases this
          | cons a t => rfl
        rw [← h0] at eg
        have ef2 := s2 _ _ ef
        refine ⟨_, rfl, .inl ⟨rfl, _, .inl (.inl ef2)⟩, _, rfl, g, _, 0, _, rfl, rfl, sqL eg, atI_of (j := 0) rfl hz, f0, _, _, rfl, rfl, ef2, ?_, ?_⟩
        · rw [List.length_map, List.length_map, List.length_range]
          exact small_of (by omega)
        refine ⟨_, rfl, g, _, _, _, rfl, same_mut (sm.trans s2) nfH, by rw [upd_ne ngf]; exact eg, ngf, ?_⟩
        rw [upd_same, List.range_succ (n := i + 1), List.map_append, List.map_append]
        rfl
    · rintro σ H1 ⟨r, y3, y4, y5, rfl, sm, er, rf, ef⟩
      rw [Int.toNat_natCast] at ef
      exact ⟨_, rfl, q H1 f0 sm ef⟩
abbrev s_inner_blocks : Stmt := topS 17
theorem sc_inner_blocks : FnScope ["parting", "other", "counts", "_", "high"] ["parting", "other"] (defScope s_inner_blocks) := ⟨rfl, rfl, rfl, by decide +kernel, rfl, by decide +kernel, by decide +kernel⟩
/-- pairs with this high one -/
def hiC (S : List (List Int)) (x : Int) : Nat := (S.filter fun r => decide (r.getD 1 0 = x)).length
theorem hiC_snoc (S : List (List Int)) (r : List Int) (x : Int) : hiC (S ++ [r]) x = hiC S x + if r.getD 1 0 = x then 1 else 0 := by
  unfold hiC
  rw [List.filter_append, List.length_append, List.filter_cons]
  by_cases e : r.getD 1 0 = x
  · rw [if_pos (decide_eq_true e), if_pos e]
    rfl
  · rw [if_neg (by simpa using e), if_neg e]
    rfl
def spInner : Sp := fun vs H Q _ => ∃ a b p q, vs = [.ref a, .ref b] ∧ TI H a p ∧ TI H b q ∧ p.length = q.length ∧ p.length ≤ 60 ∧ Rg 0 p ∧ Rg 0 q ∧ Finer p q ∧
  ∀ H' d D, Same H H' → H d = none → D.Nodup → (∀ x, x ∈ D ↔ x ∈ q) → H' d = some (.dK (dF D fun x => vN ((lab p q).count x))) → Q (.ref d) H'
theorem ok_inner (D : DefAt K mg "inner_blocks" s_inner_blocks) (T : Bt mg) : Use P w K mg base "inner_blocks" 1 ["parting", "other"] spInner := by
  refine use_of D (fun f fd F => F.ok sc_inner_blocks (fun vs H Q E h => ?_) (fun cdv A outer s H vs Q E hr h => ?_)) (fun _ _ _ _ _ _ us hl => match us, hl with | [_, _], _ => rfl)
  · obtain ⟨a, b, p, r, rfl, _⟩ := h
    rfl
  · obtain ⟨a, b, p, r, rfl, hp, hq, hl, l60, rp, rq, fin, q⟩ := h
    refine ⟨_, (pss_cons (ps_set (i := 2) sc_inner_blocks.nd rfl (Or.inl rfl) pe_dnewK)
      (pss_cons (ps_for PassesOwn.never rfl (k_list (K := K) rfl (pe_callB (k_sortedT (K := K) rfl rfl) (by rfl) T.sorted (by decide +kernel) (pa_cons (pe_callTy (k_setOfT (K := K) rfl rfl hr.units) (by rfl) T.set (by decide +kernel) (pa_cons (k_lzip (K := K) rfl rfl (by rfl) T.list (by rfl) T.zip (pa_cons (pv 0) (pa_cons (pv 1) pa_nil))) pa_nil)) pa_nil))) (pg_tup rfl (pgs_cons (pg_name (i := 3) sc_inner_blocks.nd rfl (Or.inl rfl)) (pgs_cons (pg_name (i := 4) sc_inner_blocks.nd rfl (Or.inl rfl)) pgs_nil)))
      (pss_one (ps_dput (hu_of hr) (pv 2) (pv 4) (pe_op op_add (pe_dget2 (hu_of hr) (pv 2) (pv 4) pe_int ⟨by rfl, by rfl, by rfl, by rfl⟩) pe_int) rfl)))
      (pss_one (ps_ret (pv 2))))), ?_⟩
    refine fun d nd => ?_
    have sd := same_new (H := H) (o := .dK []) nd
    refine ⟨_, rfl, _, rfl, a, b, _, _, rfl, (hp.mono sd).seq, (hq.mono sd).seq, by rw [List.length_map, List.length_map]; exact hl, by rw [List.length_map]; exact small_of (by omega), fun l ts H1 nl s1 el tl at_ => ?_⟩
    rw [List.length_map] at tl
    have ed1 : H1 d = some (.dK []) := s1 _ _ upd_same
    -- the pairs as rows
    have row : ∀ (i : Nat) (t : Addr), ts[i]? = some t → ∃ x y, p[i]? = some x ∧ r[i]? = some y ∧ H1 t = some (.tup [.int x, .int y]) := fun i t ht => by
      obtain ⟨_, x, y, hx, hy, et⟩ := at_ i t ht
      obtain ⟨x', hx', rfl⟩ := map_at hx
      obtain ⟨y', hy', rfl⟩ := map_at hy
      exact ⟨x', y', hx', hy', et⟩
    have ksE : ((ts.zip (p.zip r)).map fun z => ((z.1, [z.2.1, z.2.2]) : Addr × List Int)).map (fun z => V.ref z.1) = ts.map V.ref := by
      rw [List.map_map]
      refine List.ext_getElem? fun i => ?_
      rw [List.getElem?_map, List.getElem?_map]
      by_cases hi : i < ts.length
      · rw [List.getElem?_eq_getElem (show i < (ts.zip (p.zip r)).length by rw [List.length_zip, List.length_zip]; omega), List.getElem?_eq_getElem hi]
        simp
      · rw [List.getElem?_eq_none (by rw [List.length_zip]; omega), List.getElem?_eq_none (by omega)]
        rfl
    have ksM : ∀ z ∈ (ts.zip (p.zip r)).map fun z => ((z.1, [z.2.1, z.2.2]) : Addr × List Int), ∃ (i : Nat) (x y : Int), p[i]? = some x ∧ r[i]? = some y ∧ z.2 = [x, y] ∧ H1 z.1 = some (.tup [.int x, .int y]) := fun z hz => by
      obtain ⟨i, hi⟩ := List.mem_iff_getElem?.mp hz
      obtain ⟨u, hu, rfl⟩ := map_at hi
      rw [List.getElem?_zip_eq_some] at hu
      obtain ⟨h1, h2⟩ := hu
      rw [List.getElem?_zip_eq_some] at h2
      obtain ⟨x, y, hx, hy, et⟩ := row i _ h1
      have e1 := h2.1.symm.trans hx
      have e2 := h2.2.symm.trans hy
      refine ⟨i, x, y, hx, hy, ?_, et⟩
      rw [Option.some.inj e1, Option.some.inj e2]
    have ksI : ∀ (i : Nat) (x y : Int), p[i]? = some x → r[i]? = some y → ∃ z ∈ (ts.zip (p.zip r)).map fun z => ((z.1, [z.2.1, z.2.2]) : Addr × List Int), z.2 = [x, y] := fun i x y hx hy => by
      have il := (List.getElem?_eq_some_iff.mp hx).1
      obtain ⟨t, ht⟩ := at_some (xs := ts) (i := i) (by omega)
      refine ⟨(t, [x, y]), List.mem_iff_getElem?.mpr ⟨i, ?_⟩, rfl⟩
      refine at_map (f := fun z : Addr × Int × Int => ((z.1, [z.2.1, z.2.2]) : Addr × List Int)) (x := (t, x, y)) ?_
      rw [List.getElem?_zip_eq_some, List.getElem?_zip_eq_some]
      exact ⟨ht, hx, hy⟩
    generalize hks : ((ts.zip (p.zip r)).map fun z => ((z.1, [z.2.1, z.2.2]) : Addr × List Int)) = ks at ksE ksM ksI
    have ksl : ks.length = p.length := by
      rw [← hks, List.length_map, List.length_zip, List.length_zip]
      omega
    clear hks row at_
    refine ⟨l, ks, rfl, by rw [ksE]; exact sqL el, fun z hz => ?_, by omega, fun S L nS hL hL2 => ?_⟩
    · obtain ⟨i, x, y, _, _, e, et⟩ := ksM z hz
      rw [e]
      exact sqT et
    have sS := same_new (H := H1) (o := SetTO P w S L) nS
    have small : ∀ z ∈ ks, z.2.length = 2 ∧ TS.Bd 1024 z.2 := fun z hz => by
      obtain ⟨i, x, y, hx, hy, e, _⟩ := ksM z hz
      rw [e]
      refine ⟨rfl, fun m hm => ?_⟩
      have b1 := (rg_mem 0 p (Int.le_refl _) rp).1 _ (List.mem_of_getElem? hx)
      have b2 := (rg_mem 0 r (Int.le_refl _) rq).1 _ (List.mem_of_getElem? hy)
      have c1 := bc_le 0 p
      have c2 := bc_le 0 r
      rcases List.mem_cons.mp hm with rfl | hm
      · omega
      · rw [List.mem_singleton.mp hm]
        omega
    refine ⟨S, L, 2, 1024, rfl, upd_same, fun z hz => ?_, by decide, fun z hz => small z (hL z hz), fun L' so pm ndR few _ nso => ?_⟩
    · obtain ⟨i, x, y, _, _, e, et⟩ := ksM z (hL z hz)
      rw [e]
      exact sqT (sS _ _ et)
    have sso := same_new (o := .lst (L'.map fun z : Addr × List Int => V.ref z.1)) nso
    have s12 := sS.trans sso
    have ed2 := s12 _ _ ed1
    have rowL : ∀ z ∈ L', ∃ (i : Nat) (x y : Int), p[i]? = some x ∧ r[i]? = some y ∧ z.2 = [x, y] ∧ H1 z.1 = some (.tup [.int x, .int y]) := fun z hz => ksM z (hL z (pm.mem_iff.mp hz))
    have memS : ∀ (i : Nat) (x y : Int), p[i]? = some x → r[i]? = some y → [x, y] ∈ L'.map (·.2) := fun i x y hx hy => by
      obtain ⟨z, hz, e⟩ := ksI i x y hx hy
      have := hL2 z hz
      rw [e] at this
      exact (pm.map (·.2)).mem_iff.mpr this
    generalize hR : L'.map (·.2) = R at ndR memS
    have Rat : ∀ (i : Nat) (z : Addr × List Int), L'[i]? = some z → R[i]? = some z.2 := fun i z h => by
      rw [← hR]
      exact at_map h
    have Rl : R.length = L'.length := by rw [← hR, List.length_map]
    have sod : so ≠ d := fun z => by
      have n2 : upd H1 S (SetTO P w S L) so = none := nso
      rw [z, sS _ _ ed1] at n2
      cases n2
    refine ⟨so, rfl, ⟨_, sqL upd_same⟩, for_list (K := K) (a := so) (xs := L'.map fun z : Addr × List Int => V.ref z.1)
      (fun i σ H2 => ∃ (D : List Int) (y3 y4 : Option V), σ = [some (.ref a), some (.ref b), some (.ref d), y3, y4] ∧ But d (upd (upd H1 S (SetTO P w S L)) so (.lst (L'.map fun z : Addr × List Int => V.ref z.1))) H2 ∧ H2 d = some (.dK (dF D fun x => vN (hiC (R.take i) x))) ∧ D.Nodup ∧ D.length ≤ i ∧ ∀ x, x ∈ D ↔ ∃ z ∈ R.take i, z.getD 1 0 = x)
      ⟨[], none, none, rfl, fun _ _ h _ => h, ed2, List.nodup_nil, Nat.le_refl _, fun x => ⟨fun z => (by cases z), fun ⟨z, hz, _⟩ => (by cases hz)⟩⟩ (fun i σ H2 _ ⟨_, _, _, _, s2, _⟩ => sqL (s2 _ _ upd_same sod)) ?_ ?_⟩
    · rintro i v σ H2 hi ⟨D, y3, y4, rfl, s2, ed, ndD, lD, mD⟩
      obtain ⟨z, hz, rfl⟩ := map_at hi
      obtain ⟨i0, x, y, hx, hy, ez, et⟩ := rowL z (List.mem_of_getElem? hz)
      have et2 : H2 z.1 = some (.tup [.int x, .int y]) := s2 _ _ (s12 _ _ et) (fun e => by rw [e, ed1] at et; cases et)
      have hR2 := Rat i z hz
      have iL := (List.getElem?_eq_some_iff.mp hz).1
      have y1 : z.2.getD 1 0 = y := by rw [ez]; rfl
      refine ⟨z.1, _, rfl, .inl (.inl et2), rfl, _, _, rfl, _, [], rfl, rfl, ?_⟩
      have gv : DGet H2 d (V.int y) (if y ∈ D then some (vN (hiC (R.take i) y)) else none) := by
        have := DGet.k (k := kI y) ed
        rw [dF_val] at this
        exact this
      have cnt0 : y ∉ D → hiC (R.take i) y = 0 := fun h => by
        unfold hiC
        rw [List.length_eq_zero_iff, List.filter_eq_nil_iff]
        intro u hu e
        exact h ((mD y).mpr ⟨u, hu, of_decide_eq_true e⟩)
      have val : ((if y ∈ D then some (vN (hiC (R.take i) y)) else none).getD (V.int 0)) = vN (hiC (R.take i) y) := by
        by_cases h : y ∈ D
        · rw [if_pos h]; rfl
        · rw [if_neg h, cnt0 h]; rfl
      refine ⟨_, rfl, d, rfl, .inl ⟨_, .inl ed⟩, _, rfl, _, gv, ?_⟩
      rw [val]
      refine ⟨_, _, rfl, rfl, _, rfl, _, rfl, d, _, rfl, DPut.k (k := kI y) ed (by rw [dF_len]; exact small_of (by omega)), ?_⟩
      rw [dF_put]
      refine ⟨if y ∈ D then D else D ++ [y], _, _, rfl, fun c u hc hn => by rw [upd_ne hn]; exact s2 c u hc hn, ?_, ?_, ?_, fun w' => ?_⟩
      · rw [upd_same]
        refine congrArg (fun z => some (HO.dK z)) (dF_congr fun w' _ => ?_)
        rw [take_snoc hR2, hiC_snoc, y1]
        by_cases e : w' = y
        · rw [if_pos e, if_pos e.symm, e]
          rfl
        · rw [if_neg e, if_neg (fun z => e z.symm)]
          rfl
      · split
        · exact ndD
        · rename_i h
          exact List.nodup_append.mpr ⟨ndD, by simp, fun u hu v hv e => h (by rw [List.mem_singleton.mp hv] at e; rw [← e]; exact hu)⟩
      · split
        · omega
        · rw [List.length_append]
          show D.length + 1 ≤ i + 1
          omega
      · rw [take_snoc hR2]
        constructor
        · intro h
          by_cases e : w' = y
          · exact ⟨z.2, by simp, by rw [e]; exact y1⟩
          · have : w' ∈ D := by
              split at h
              · exact h
              · rcases List.mem_append.mp h with h | h
                · exact h
                · exact absurd (List.mem_singleton.mp h) e
            obtain ⟨u, hu, e2⟩ := (mD w').mp this
            exact ⟨u, List.mem_append_left _ hu, e2⟩
        · rintro ⟨u, hu, e⟩
          rcases List.mem_append.mp hu with hu | hu
          · have := (mD w').mpr ⟨u, hu, e⟩
            split
            · exact this
            · exact List.mem_append_left _ this
          · rw [List.mem_singleton.mp hu, y1] at e
            rw [← e]
            split
            · assumption
            · simp
    · rintro σ H2 ⟨D, y3, y4, rfl, s2, ed, ndD, lD, mD⟩
      rw [List.length_map, ← Rl, List.take_length] at ed mD
      have sHH : Same H H2 := fun c u hc => by
        have nc : c ≠ d := ne_of_none hc nd
        exact s2 c u (s12 _ _ (s1 _ _ (sd _ _ hc))) nc
      have Rrow : ∀ z ∈ R, ∃ (i : Nat) (x y : Int), p[i]? = some x ∧ r[i]? = some y ∧ z = [x, y] := fun z hz => by
        rw [← hR] at hz
        obtain ⟨u, hu, rfl⟩ := List.mem_map.mp hz
        obtain ⟨i, x, y, hx, hy, e, _⟩ := rowL u hu
        exact ⟨i, x, y, hx, hy, e⟩
      refine ⟨_, rfl, q H2 d D sHH nd ndD (fun x => ?_) ?_⟩
      · rw [mD]
        constructor
        · rintro ⟨z, hz, e⟩
          obtain ⟨i, x', y, _, hy, rfl⟩ := Rrow z hz
          obtain rfl : y = x := e
          exact List.mem_of_getElem? hy
        · intro hx
          obtain ⟨i, hi⟩ := List.mem_iff_getElem?.mp hx
          obtain ⟨y, hy⟩ := at_some (xs := p) (i := i) (by have := (List.getElem?_eq_some_iff.mp hi).1; omega)
          exact ⟨[y, x], memS i y x hy hi, rfl⟩
      · rw [ed]
        refine congrArg (fun z => some (HO.dK z)) (dF_congr fun x _ => ?_)
        refine congrArg vN ?_
        unfold hiC
        rw [← List.length_map (as := R.filter fun r => decide (r.getD 1 0 = x)) (fun z : List Int => z.getD 0 0)]
        refine count_lab hl rp fin ?_ fun lo => ?_
        · rw [List.nodup_iff_pairwise_ne, List.pairwise_map]
          refine List.Pairwise.imp_of_mem (fun {u v} hu hv ne e => ?_) (ndR.filter _)
          obtain ⟨hu1, hu2⟩ := List.mem_filter.mp hu
          obtain ⟨hv1, hv2⟩ := List.mem_filter.mp hv
          obtain ⟨_, x1, y1, _, _, rfl⟩ := Rrow u hu1
          obtain ⟨_, x2, y2, _, _, rfl⟩ := Rrow v hv1
          have a1 : y1 = x := of_decide_eq_true hu2
          have a2 : y2 = x := of_decide_eq_true hv2
          have a3 : x1 = x2 := e
          exact ne (by rw [a1, a2, a3])
        · rw [List.mem_map]
          constructor
          · rintro ⟨u, hu, e⟩
            obtain ⟨hu1, hu2⟩ := List.mem_filter.mp hu
            obtain ⟨i, x1, y1, h1, h2, rfl⟩ := Rrow u hu1
            have a1 : y1 = x := of_decide_eq_true hu2
            have a2 : x1 = lo := e
            exact ⟨i, by rw [← a2]; exact h1, by rw [← a1]; exact h2⟩
          · rintro ⟨i, h1, h2⟩
            exact ⟨[lo, x], List.mem_filter.mpr ⟨memS i lo x h1 h2, decide_eq_true rfl⟩, rfl⟩
end
end KQ
/-! dicts made over a locked dict's keys; lists made over its values -/
namespace KR
open PySem PySem.Spec PyProof.Rows L2
theorem dc_keys {d : Addr} {o : Obj} {kvs : List (L2.Key × V)} {g : TG} {tt : TT} {tk tv : TE} {vs : List Nat} {σ : L2.St} {H1 : Hp} {D : Addr} {Qd : Hp → Prop} (Pv : Nat → Hp → Prop) (h0 : Pv 0 (upd H1 D (.dK []))) (hl : ∀ i H, i ≤ kvs.length → Pv i H → H d = some (.frz o (.dK kvs)))
    (hs : ∀ i k v H, kvs[i]? = some (k, v) → Pv i H → g (kV k) (wipe σ vs) H fun σ2 H2 => wipe σ2 vs = wipe σ vs ∧ tt σ2 H2 fun b H3 =>
      if b = true then tk σ2 H3 fun y H4 => tv σ2 H4 fun z H5 => ∃ ws k, y = kV k ∧ H5 D = some (.dK ws) ∧ ws.length < sizeLine ∧ Pv (i + 1) (upd H5 D (.dK (putK ws k z))) else Pv (i + 1) H3) (hd : ∀ H, Pv kvs.length H → Qd H) :
    ∃ W : Nat → Nat → Hp → Prop, (∃ m, W 0 m (upd H1 D (.dK []))) ∧ ∀ i m H, W i m H →
      ((Itk d o kvs).stop i H ∧ Qd H) ∨ ((Itk d o kvs).go i H ∧ ∃ Nx : Hp → Prop, (∀ H', Nx H' → ∃ m', m' < m ∧ W (i + 1) m' H') ∧ ∀ x H', (Itk d o kvs).yld i H x H' → g x (wipe σ vs) H' fun σ2 H2 => wipe σ2 vs = wipe σ vs ∧ tt σ2 H2 fun b H3 =>
        if b = true then tk σ2 H3 fun y H4 => tv σ2 H4 fun z H5 => ∃ ws k, y = kV k ∧ H5 D = some (.dK ws) ∧ ws.length < sizeLine ∧ Nx (upd H5 D (.dK (putK ws k z))) else Nx H3) := by
  refine ⟨fun i m H => m = kvs.length - i ∧ i ≤ kvs.length ∧ Pv i H, ⟨kvs.length, by simp, Nat.zero_le _, h0⟩, ?_⟩
  rintro i m H ⟨rfl, hi, p⟩
  have q := hl i H hi p
  by_cases hlt : i < kvs.length
  · refine .inr ⟨⟨q, hlt⟩, Pv (i + 1), fun H' p' => ⟨kvs.length - (i + 1), by omega, rfl, hlt, p'⟩, fun x H' y => ?_⟩
    obtain ⟨e, k, v, hk, rfl⟩ := y
    subst e
    exact hs i k v _ hk p
  · obtain rfl : i = kvs.length := by omega
    exact .inl ⟨⟨q, Nat.le_refl _⟩, hd H p⟩
theorem lc_vals {d : Addr} {o : Obj} {kvs : List (L2.Key × V)} {g : TG} {tt : TT} {te : TE} {vs : List Nat} {σ : L2.St} {H1 : Hp} {D : Addr} {Qd : Hp → Prop} (Pv : Nat → Hp → Prop) (h0 : Pv 0 (upd H1 D (.lst []))) (hl : ∀ i H, i ≤ kvs.length → Pv i H → H d = some (.frz o (.dK kvs)))
    (hs : ∀ i k v H, kvs[i]? = some (k, v) → Pv i H → g v (wipe σ vs) H fun σ2 H2 => wipe σ2 vs = wipe σ vs ∧ tt σ2 H2 fun b H3 =>
      if b = true then te σ2 H3 fun y H4 => ∃ acc, H4 D = some (.lst acc) ∧ acc.length < sizeLine ∧ Pv (i + 1) (upd H4 D (.lst (acc ++ [y]))) else Pv (i + 1) H3) (hd : ∀ H, Pv kvs.length H → Qd H) :
    ∃ W : Nat → Nat → Hp → Prop, (∃ m, W 0 m (upd H1 D (.lst []))) ∧ ∀ i m H, W i m H →
      ((Itd d o kvs).stop i H ∧ Qd H) ∨ ((Itd d o kvs).go i H ∧ ∃ Nx : Hp → Prop, (∀ H', Nx H' → ∃ m', m' < m ∧ W (i + 1) m' H') ∧ ∀ x H', (Itd d o kvs).yld i H x H' → g x (wipe σ vs) H' fun σ2 H2 => wipe σ2 vs = wipe σ vs ∧ tt σ2 H2 fun b H3 =>
        if b = true then te σ2 H3 fun y H4 => ∃ acc, H4 D = some (.lst acc) ∧ acc.length < sizeLine ∧ Nx (upd H4 D (.lst (acc ++ [y]))) else Nx H3) := by
  refine ⟨fun i m H => m = kvs.length - i ∧ i ≤ kvs.length ∧ Pv i H, ⟨kvs.length, by simp, Nat.zero_le _, h0⟩, ?_⟩
  rintro i m H ⟨rfl, hi, p⟩
  have q := hl i H hi p
  by_cases hlt : i < kvs.length
  · refine .inr ⟨⟨q, hlt⟩, Pv (i + 1), fun H' p' => ⟨kvs.length - (i + 1), by omega, rfl, hlt, p'⟩, fun x H' y => ?_⟩
    obtain ⟨e, k, hk⟩ := y
    subst e
    exact hs i k x _ hk p
  · obtain rfl : i = kvs.length := by omega
    exact .inl ⟨⟨q, Nat.le_refl _⟩, hd H p⟩
end KR
namespace KQ
open PySem PySem.Spec PyProof.Rows L2 KR KM StX
/-- the fields of what stands between -/
def bF (pa pb dl dm gl db : Addr) (N : Nat) : List (Str × V) := [("parting", .ref pa), ("other", .ref pb), ("left", .ref dl), ("made", .ref dm), ("growths", .ref gl), ("blocks", .ref db), ("number", vN N)]
section
variable {pa pb dl dm gl db : Addr} {N M : Nat}
theorem bF_parting : (bF pa pb dl dm gl db N).lookup ("parting" : Str) = some (.ref pa) := by kernel_rfl
theorem bF_other : (bF pa pb dl dm gl db N).lookup ("other" : Str) = some (.ref pb) := by kernel_rfl
theorem bF_left : (bF pa pb dl dm gl db N).lookup ("left" : Str) = some (.ref dl) := by kernel_rfl
theorem bF_made : (bF pa pb dl dm gl db N).lookup ("made" : Str) = some (.ref dm) := by kernel_rfl
theorem bF_growths : (bF pa pb dl dm gl db N).lookup ("growths" : Str) = some (.ref gl) := by kernel_rfl
theorem bF_blocks : (bF pa pb dl dm gl db N).lookup ("blocks" : Str) = some (.ref db) := by kernel_rfl
theorem bF_number : (bF pa pb dl dm gl db N).lookup ("number" : Str) = some (vN N) := by kernel_rfl
theorem bF_choices : (bF pa pb dl dm gl db N).lookup ("choices" : Str) = none := by kernel_rfl
theorem bF_choose : (bF pa pb dl dm gl db N).lookup ("choose" : Str) = none := by kernel_rfl
theorem nd_ne {α : Type} {l : List α} (h : l.Nodup) (i j : Nat) (c : i < j) (hj : j < l.length) : l[i]? ≠ l[j]? := fun e => by
  rw [List.getElem?_eq_getElem (show i < l.length by omega), List.getElem?_eq_getElem hj] at e
  exact List.pairwise_iff_getElem.mp h i j _ hj c (Option.some.inj e)
theorem bF_put : putF "number" (vN M) (bF pa pb dl dm gl db N) = bF pa pb dl dm gl db M := by kernel_rfl
end
theorem prd_snoc (f : Int → Nat) : ∀ (D : List Int) (x : Int), prd f (D ++ [x]) = prd f D * f x
  | [], x => by show f x * 1 = 1 * f x; omega
  | y :: r, x => by
    show f y * prd f (r ++ [x]) = f y * prd f r * f x
    rw [prd_snoc f r x, Nat.mul_assoc]
theorem prd_take_le {f : Int → Nat} (pos : ∀ x, 0 < f x) : ∀ (D : List Int) (k : Nat), prd f (D.take k) ≤ prd f D
  | D, 0 => by
    show 1 ≤ prd f D
    exact prd_pos fun x _ => pos x
  | [], k + 1 => Nat.le_refl _
  | y :: r, k + 1 => by
    show f y * prd f (r.take k) ≤ f y * prd f r
    exact Nat.mul_le_mul (Nat.le_refl _) (prd_take_le pos r k)
structure BA where
  o : Addr
  pa : Addr
  pb : Addr
  dl : Addr
  dm : Addr
  gl : Addr
  db : Addr
  D : List Int
  ml : Int → Addr
  gs : List Addr
def BA.mu (A : BA) : List Addr := [A.o, A.dl, A.db] ++ A.D.map A.ml
structure BD (A : BA) (q : List Int) : Prop where
  nd : A.D.Nodup
  mem : ∀ x, x ∈ A.D ↔ x ∈ q
  inj : ∀ x ∈ A.D, ∀ y ∈ A.D, A.ml x = A.ml y → x = y
  d1 : A.dl ≠ A.dm
  d2 : A.dl ≠ A.db
  d3 : A.dm ≠ A.db
  g1 : ∀ x ∈ A.D, A.ml x ≠ A.gl
  g2 : ∀ x ∈ A.D, ∀ a ∈ A.gs, a ≠ A.ml x
/-- so many blocks chosen -/
structure BT (C : Addr) (H : Hp) (A : BA) (p q : List Int) (j : Nat) (cs : List Int) : Prop where
  obj : ∃ dx, H A.o = some (.ins C dx (bF A.pa A.pb A.dl A.dm A.gl A.db (comp ((lab p q).drop j) (lab cs ((lab p q).take j))).length))
  ta : TI H A.pa p
  tb : TI H A.pb q
  left : H A.dl = some (.dK (dF A.D fun x => vN (((lab p q).drop j).count x)))
  made : H A.dm = some (.dK (dF A.D fun x => .ref (A.ml x)))
  rows : ∀ x ∈ A.D, H (A.ml x) = some (.lst ((olds (lab cs ((lab p q).take j)) x).map vN))
  grow : H A.gl = some (.lst (A.gs.map V.ref))
  glen : A.gs.length = p.length + 1
  grows : ∀ (l : Nat) (a : Addr), A.gs[l]? = some a → H a = some (.lst (growV p.length l))
  blk : H A.db = some (.dK (dF ((List.range j).map fun n => ((n : Nat) : Int)) fun x => .int (cs.getD x.toNat 0)))
  len : cs.length = j
structure Atts (K : PySem.W.Frag) (C : Addr) : Prop where
  cC : Cls K C
  nP : NoAttr K C "parting"
  nO : NoAttr K C "other"
  nL : NoAttr K C "left"
  nM : NoAttr K C "made"
  nG : NoAttr K C "growths"
  nB : NoAttr K C "blocks"
  nN : NoAttr K C "number"
section
variable {P : Program} {w : World} {K : PySem.W.Frag} {mg : Str → Option Value} {base : Heap}
abbrev s_Between___init__ : Stmt := inClass (topS 19) 0
theorem sc_Between___init__ : FnScope ["self", "parting", "other", "high"] ["self", "parting", "other"] (defScope s_Between___init__) := ⟨rfl, rfl, rfl, by decide +kernel, rfl, by decide +kernel, by decide +kernel⟩
def spBInit (C : Addr) : Sp := fun vs H Q _ => ∃ (o dx pa pb : Addr) (p q : List Int), vs = [.ref o, .ref pa, .ref pb] ∧ H o = some (.ins C dx []) ∧ TI H pa p ∧ TI H pb q ∧ p.length = q.length ∧ p.length ≤ 60 ∧ Rg 0 p ∧ Rg 0 q ∧ Finer p q ∧
  ∀ H' A, BT C H' A p q 0 [] → BD A q → A.o = o → A.pa = pa → A.pb = pb → (∀ a ∈ A.mu, a = o ∨ H a = none) → But o H H' → Q .non H'
theorem ok_binit {C : Addr} (D : IAt K C "Between.__init__" s_Between___init__) (T : Bt mg) (at_ : Atts K C) (hm : mg "Between" = some (.ref C)) (u_inner_blocks : Use P w K mg base "inner_blocks" 1 ["parting", "other"] spInner)
    (u_growths : Use P w K mg base "growths" 1 ["most"] spGrowths) : KUse P w K mg base C "Between" 2 ["self", "parting", "other"] (spBInit C) := by
  refine kuse_of D hm (fun f fd F => F.ok sc_Between___init__ (fun vs H Q E h => ?_) (fun cdv A outer s H vs Q E hr h => ?_)) (fun _ _ _ _ _ _ us hl => match us, hl with | [_, _, _], _ => rfl)
  · obtain ⟨o, dx, pa, pb, p, r, rfl, _⟩ := h
    rfl
  · obtain ⟨o, dx, pa, pb, p, r, rfl, ho, ta, tb, hl, l60, rp, rq, fin, q⟩ := h
    refine ⟨_, (pss_cons (ps_fld (pv 0) (pv 1) rfl)
      (pss_cons (ps_fld (pv 0) (pv 2) rfl)
      (pss_cons (ps_fld (pv 0) (pe_use u_inner_blocks (by decide) hr (by rfl) (pa_cons (pv 1) (pa_cons (pv 2) pa_nil))) rfl)
      (pss_cons (ps_fld (pv 0) (pe_lock (pe_dc (own := [("high", 3)]) rfl sc_Between___init__.nd (pi_keys (k_fld (K := K) rfl (pv 0) rfl)) (blkOk_by (N := ["self", "parting", "other", "high"]) (sc := defScope s_Between___init__) (by decide +kernel)) (fun _ _ _ _ _ => (pg_name (i := 3) sc_Between___init__.nd rfl (Or.inl rfl))) (fun _ _ _ _ _ => pts_nil) (fun _ _ _ _ _ => (pv 3)) (fun _ _ _ _ _ => (pe_lst pa_nil)))) rfl)
      (pss_cons (ps_fld (pv 0) (pe_use u_growths (by decide) hr (by rfl) (pa_cons (pe_callB (k_len (K := K) rfl) (by rfl) T.len PySem.boot_len (pa_cons (pv 1) pa_nil)) pa_nil)) rfl)
      (pss_cons (ps_fld (pv 0) pe_dnewK rfl)
      (pss_cons (ps_fld (pv 0) pe_int rfl)
      (pss_one (ps_lock (ps_for PassesOwn.never rfl (pi_keys (k_fld (K := K) rfl (pv 0) rfl)) (pg_name (i := 3) sc_Between___init__.nd rfl (Or.inl rfl))
      (pss_one (ps_fldaug (pv 0) (pe_ix (k_ixl (K := K) rfl) (pe_ix (k_ixl (K := K) rfl) (k_fld (K := K) rfl (pv 0) rfl) (pe_dget (hu_of hr) (k_fld (K := K) rfl (pv 0) rfl) (pv 3) (fun _ _ => rfl)) (fun _ _ => rfl)) pe_int (fun _ _ => rfl)) in_mulW)))))))))))), ?_⟩
    have ta0 : H pa = some (.tup (p.map V.int)) := ta
    have tb0 : H pb = some (.tup (r.map V.int)) := tb
    have opa : pa ≠ o := fun z => by rw [z, ho] at ta0; cases ta0
    have opb : pb ≠ o := fun z => by rw [z, ho] at tb0; cases tb0
    refine ⟨_, rfl, _, rfl, o, C, dx, _, rfl, ho, at_.cC, at_.nP, by show 0 < 1000; decide, ?_⟩
    refine ⟨_, rfl, _, rfl, o, C, dx, _, rfl, upd_same, at_.cC, at_.nO, by show 1 < 1000; decide, ?_⟩
    have but2 : But o H (upd (upd H o (.ins C dx (putF "parting" (.ref pa) []))) o (.ins C dx (putF "other" (.ref pb) (putF "parting" (.ref pa) [])))) := fun c u hc n => by rw [upd_ne n, upd_ne n]; exact hc
    have ho2 : (upd (upd H o (.ins C dx (putF "parting" (.ref pa) []))) o (.ins C dx (putF "other" (.ref pb) (putF "parting" (.ref pa) [])))) o = some (.ins C dx (putF "other" (.ref pb) (putF "parting" (.ref pa) []))) := upd_same
    generalize upd (upd H o (.ins C dx (putF "parting" (.ref pa) []))) o (.ins C dx (putF "other" (.ref pb) (putF "parting" (.ref pa) []))) = H2 at but2 ho2
    refine ⟨_, rfl, _, rfl, pa, pb, p, r, rfl, but2 _ _ ta0 opa, but2 _ _ tb0 opb, hl, l60, rp, rq, fin, fun H3 dl D s3 ndl ndD mD edl => ?_⟩
    have fr : ∀ {Hx : Hp} {c : Addr} {v : HO}, Hx c = none → But o H Hx → Hx o = some v → H c = none := fun {Hx c v} hn b e2 => by
      cases e : H c with
      | none => rfl
      | some u =>
        by_cases z : c = o
        · rw [z, e2] at hn
          cases hn
        · rw [b c u e z] at hn
          cases hn
    have ho3 := s3 _ _ ho2
    have odl : dl ≠ o := fun z => by rw [z, ho3] at edl; cases edl
    have ndlH : H dl = none := fr ndl but2 ho2
    refine ⟨_, rfl, o, C, dx, _, rfl, ho3, at_.cC, at_.nL, by show 2 < 1000; decide, ?_⟩
    have but4 : But o H (upd H3 o (.ins C dx (putF "left" (.ref dl) (putF "other" (.ref pb) (putF "parting" (.ref pa) []))))) := fun c u hc n => by rw [upd_ne n]; exact s3 _ _ (but2 c u hc n)
    have ho4 : (upd H3 o (.ins C dx (putF "left" (.ref dl) (putF "other" (.ref pb) (putF "parting" (.ref pa) []))))) o = some (.ins C dx (putF "left" (.ref dl) (putF "other" (.ref pb) (putF "parting" (.ref pa) [])))) := upd_same
    have edl4 : (upd H3 o (.ins C dx (putF "left" (.ref dl) (putF "other" (.ref pb) (putF "parting" (.ref pa) []))))) dl = some (.dK (dF D fun x => vN ((lab p r).count x))) := by rw [upd_ne odl]; exact edl
    generalize upd H3 o (.ins C dx (putF "left" (.ref dl) (putF "other" (.ref pb) (putF "parting" (.ref pa) [])))) = H4 at but4 ho4 edl4
    clear but2 ho2 s3 ho3 edl
    -- the lists of the blocks made
    refine ⟨dl, _, edl4, trivial, fun od => ?_⟩
    have ho4f : (upd H4 dl (.frz od (.dK (dF D fun x => vN ((lab p r).count x))))) o = _ := (upd_ne odl.symm).trans ho4
    refine ⟨_, rfl, o, C, dx, _, .ref dl, rfl, ho4f, at_.cC, at_.nL, by kernel_rfl, dl, od, rfl, .inl ⟨_, upd_same, fun dm ndm => ?_⟩⟩
    have hfz : (upd H4 dl (.frz od (.dK (dF D fun x => vN ((lab p r).count x))))) dl = some (.frz od (.dK (dF D fun x => vN ((lab p r).count x)))) := upd_same
    have but4f : ∀ c u, H c = some u → c ≠ o → (upd H4 dl (.frz od (.dK (dF D fun x => vN ((lab p r).count x))))) c = some u := fun c u hc n => by
      rw [upd_ne (ne_of_none hc ndlH)]
      exact but4 c u hc n
    have back4 : ∀ c u, (upd H4 dl (.frz od (.dK (dF D fun x => vN ((lab p r).count x))))) c = some u → c ≠ dl → H4 c = some u := fun c u hc n => by
      rw [upd_ne n] at hc
      exact hc
    generalize upd H4 dl (.frz od (.dK (dF D fun x => vN ((lab p r).count x)))) = Hf at ho4f ndm hfz but4f back4
    have odm : dm ≠ o := fun z => by rw [z, ho4f] at ndm; cases ndm
    have dlm : dl ≠ dm := fun z => by rw [← z, hfz] at ndm; cases ndm
    have ndmH : H dm = none := fr ndm but4f ho4f
    have kl : (dF D fun x => vN ((lab p r).count x)).length = D.length := dF_len _ _
    have lD : D.length ≤ 60 := by
      have := sub_len (ys := r) ndD fun x hx => (mD x).mp hx
      omega
    refine dc_keys (o := od) (kvs := dF D fun x => vN ((lab p r).count x)) (fun i Hk => ∃ as : List Addr, as.length = i ∧ as.Nodup ∧ (∀ a ∈ as, H a = none ∧ Hf a = none ∧ a ≠ dm ∧ Hk a = some (.lst [])) ∧ Same Hf Hk ∧ Hk dm = some (.dK (dF (D.take i) fun x => .ref (as.getD (D.idxOf x) 0))))
      ⟨[], rfl, List.nodup_nil, fun a ha => (by cases ha), same_new ndm, upd_same⟩ (fun i Hk _ ⟨_, _, _, _, sm, _⟩ => sm _ _ hfz) ?_ ?_
    · rintro i k v Hk hi ⟨as, la, nda, has, sm, edm⟩
      unfold dF at hi
      obtain ⟨x, hx, e⟩ := map_at hi
      obtain ⟨rfl, rfl⟩ := Prod.mk.inj e
      have il := (List.getElem?_eq_some_iff.mp hx).1
      refine ⟨rfl, _, rfl, Nat.zero_le _, fun a na => ⟨dF (D.take i) fun x => .ref (as.getD (D.idxOf x) 0), kI x, rfl, ?_, ?_, as ++ [a], ?_, ?_, fun b hb => ?_, ?_, ?_⟩⟩
      · exact same_new na _ _ edm
      · rw [dF_len, List.length_take]
        exact small_of (by omega)
      · rw [List.length_append, la]
        rfl
      · refine List.nodup_append.mpr ⟨nda, by simp, fun u hu v hv e => ?_⟩
        rw [List.mem_singleton.mp hv] at e
        rw [e, ] at hu
        rw [(has a hu).2.2.2] at na
        cases na
      · have dmE : (upd Hk a (.lst [])) dm = _ := same_new na _ _ edm
        rcases List.mem_append.mp hb with hb | hb
        · obtain ⟨h1, h2, h3, h4⟩ := has b hb
          exact ⟨h1, h2, h3, by rw [upd_ne h3]; exact same_new na _ _ h4⟩
        · rw [List.mem_singleton.mp hb]
          have nf : Hf a = none := sm.free na
          have ndm2 : a ≠ dm := fun z => by rw [z, edm] at na; cases na
          exact ⟨fr nf but4f ho4f, nf, ndm2, by rw [upd_ne ndm2]; exact upd_same⟩
      · exact same_mut (sm.trans (same_new na)) ndm
      · rw [upd_same, dF_put]
        have nx : x ∉ D.take i := fun h => by
          obtain ⟨j, hj, ej⟩ := List.getElem_of_mem h
          rw [List.length_take] at hj
          have e1 : D[j]? = some x := by
            rw [← ej, List.getElem_take]
            exact List.getElem?_eq_getElem (by omega)
          have := (nd_ne ndD) j i (by omega) il
          exact this (e1.trans hx.symm)
        rw [if_neg nx, ← take_snoc hx]
        refine congrArg (fun z => some (HO.dK z)) (dF_congr fun y hy => ?_)
        have ixx : D.idxOf x = i := by
          have h1 : D.idxOf x < D.length := List.idxOf_lt_length_iff.mpr (List.mem_of_getElem? hx)
          have h2 : D[D.idxOf x]? = some x := by rw [List.getElem?_eq_getElem h1, List.getElem_idxOf]
          by_cases c : D.idxOf x = i
          · exact c
          · rcases Nat.lt_or_gt_of_ne c with c | c
            · exact absurd (h2.trans hx.symm) ((nd_ne ndD) _ i c il)
            · exact absurd (hx.trans h2.symm) ((nd_ne ndD) i _ c h1)
        by_cases e : y = x
        · rw [if_pos e, e, ixx, List.getD_eq_getElem?_getD, List.getElem?_append_right (by omega), la, Nat.sub_self]
          rfl
        · rw [if_neg e]
          rw [take_snoc hx] at hy
          have hy : y ∈ D.take i := (List.mem_append.mp hy).resolve_right fun z => e (List.mem_singleton.mp z)
          obtain ⟨j, hj, ej⟩ := List.getElem_of_mem hy
          rw [List.length_take] at hj
          have e1 : D[j]? = some y := by
            rw [← ej, List.getElem_take]
            exact List.getElem?_eq_getElem (by omega)
          have ixy : D.idxOf y < i := by
            have h1 : D.idxOf y < D.length := List.idxOf_lt_length_iff.mpr (List.mem_of_getElem? e1)
            have h2 : D[D.idxOf y]? = some y := by rw [List.getElem?_eq_getElem h1, List.getElem_idxOf]
            by_cases c : D.idxOf y = j
            · omega
            · rcases Nat.lt_or_gt_of_ne c with c | c
              · omega
              · exact absurd (e1.trans h2.symm) ((nd_ne ndD) j _ c h1)
          rw [List.getD_eq_getElem?_getD, List.getD_eq_getElem?_getD, List.getElem?_append_left (by omega)]
    rintro Hk ⟨as, la, nda, has, sm, edm⟩
    rw [kl, List.take_length] at edm
    rw [kl] at la
    refine ⟨sm _ _ hfz, ?_⟩
    have hok := sm _ _ ho4f
    refine ⟨_, rfl, o, C, dx, _, rfl, by rw [upd_ne odl.symm]; exact hok, at_.cC, at_.nM, by show 3 < 1000; decide, ?_⟩
    have aso : ∀ a ∈ as, a ≠ o ∧ a ≠ dl := fun a ha => by
      obtain ⟨h1, h2, _, _⟩ := has a ha
      exact ⟨fun z => (by rw [z, ho4f] at h2; cases h2), fun z => (by rw [z, hfz] at h2; cases h2)⟩
    have but5 : But o H (upd (upd Hk dl (.dK (dF D fun x => vN ((lab p r).count x)))) o (.ins C dx (putF "made" (.ref dm) (putF "left" (.ref dl) (putF "other" (.ref pb) (putF "parting" (.ref pa) [])))))) := fun c u hc n => by
      rw [upd_ne n, upd_ne (ne_of_none hc ndlH)]
      exact sm _ _ (but4f c u hc n)
    have ho5 : (upd (upd Hk dl (.dK (dF D fun x => vN ((lab p r).count x)))) o (.ins C dx (putF "made" (.ref dm) (putF "left" (.ref dl) (putF "other" (.ref pb) (putF "parting" (.ref pa) [])))))) o = some (.ins C dx (putF "made" (.ref dm) (putF "left" (.ref dl) (putF "other" (.ref pb) (putF "parting" (.ref pa) []))))) := upd_same
    have edl5 : (upd (upd Hk dl (.dK (dF D fun x => vN ((lab p r).count x)))) o (.ins C dx (putF "made" (.ref dm) (putF "left" (.ref dl) (putF "other" (.ref pb) (putF "parting" (.ref pa) [])))))) dl = some (.dK (dF D fun x => vN ((lab p r).count x))) := by rw [upd_ne odl, upd_same]
    have edm5 : (upd (upd Hk dl (.dK (dF D fun x => vN ((lab p r).count x)))) o (.ins C dx (putF "made" (.ref dm) (putF "left" (.ref dl) (putF "other" (.ref pb) (putF "parting" (.ref pa) [])))))) dm = some (.dK (dF D fun x => .ref (as.getD (D.idxOf x) 0))) := by rw [upd_ne odm, upd_ne dlm.symm]; exact edm
    have eas5 : ∀ a ∈ as, (upd (upd Hk dl (.dK (dF D fun x => vN ((lab p r).count x)))) o (.ins C dx (putF "made" (.ref dm) (putF "left" (.ref dl) (putF "other" (.ref pb) (putF "parting" (.ref pa) [])))))) a = some (.lst []) := fun a ha => by
      rw [upd_ne (aso a ha).1, upd_ne (aso a ha).2]
      exact (has a ha).2.2.2
    have nas : ∀ a ∈ as, H a = none := fun a ha => (has a ha).1
    generalize upd (upd Hk dl (.dK (dF D fun x => vN ((lab p r).count x)))) o (.ins C dx (putF "made" (.ref dm) (putF "left" (.ref dl) (putF "other" (.ref pb) (putF "parting" (.ref pa) []))))) = H5 at but5 ho5 edl5 edm5 eas5
    clear hok sm edm has hfz but4f back4 ho4f but4 ho4 edl4
    -- growths
    refine ⟨_, rfl, pa, _, rfl, .inr (sqT (but5 _ _ ta0 opa)), _, rfl, by rw [List.length_map]; exact l60, fun H6 gl s6 g => ?_⟩
    rw [List.length_map] at g
    obtain ⟨gs, egl, lgs, egs⟩ := g
    have ho6 := s6 _ _ ho5
    refine ⟨_, rfl, o, C, dx, _, rfl, ho6, at_.cC, at_.nG, by show 4 < 1000; decide, ?_⟩
    have ogl : gl ≠ o := fun z => by rw [z, ho6] at egl; cases egl
    have ogs : ∀ a ∈ gs, a ≠ o := fun a ha z => by
      obtain ⟨l, hl2⟩ := List.mem_iff_getElem?.mp ha
      have := egs l a hl2
      rw [z, ho6] at this
      cases this
    have odm5 : dm ≠ o := odm
    have pos7 : 0 < gs.length := by omega
    have asg : ∀ a ∈ as, a ≠ gl ∧ ∀ b ∈ gs, b ≠ a := fun a ha => by
      have e1 := s6 _ _ (eas5 a ha)
      refine ⟨fun z => ?_, fun b hb z => ?_⟩
      · rw [z, egl] at e1
        have := HO.lst.inj (Option.some.inj e1)
        rw [List.map_eq_nil_iff] at this
        rw [this] at pos7
        cases pos7
      · obtain ⟨l, hl2⟩ := List.mem_iff_getElem?.mp hb
        have e2 := egs l b hl2
        have ll := (List.getElem?_eq_some_iff.mp hl2).1
        rw [z, e1] at e2
        have e3 := congrArg List.length (HO.lst.inj (Option.some.inj e2))
        rw [growV_len] at e3
        simp at e3
        omega
    -- the blocks told, the number
    refine fun db ndb => ?_
    have odb : db ≠ o := fun z => by rw [z, upd_same] at ndb; cases ndb
    have n6 : ∀ {c : Addr} {u : HO}, H6 c = some u → c ≠ db := fun {c u} hc z => by
      rw [z] at hc
      rw [upd_ne odb, hc] at ndb
      cases ndb
    refine ⟨_, rfl, o, C, dx, _, rfl, by rw [upd_ne odb.symm]; exact upd_same, at_.cC, at_.nB, by show 5 < 1000; decide, ?_⟩
    refine ⟨_, rfl, o, C, dx, _, rfl, upd_same, at_.cC, at_.nN, by show 6 < 1000; decide, ?_⟩
    have ef : putF "number" (V.int 1) (putF "blocks" (.ref db) (putF "growths" (.ref gl) (putF "made" (.ref dm) (putF "left" (.ref dl) (putF "other" (.ref pb) (putF "parting" (.ref pa) [])))))) = bF pa pb dl dm gl db 1 := by kernel_rfl
    rw [ef]
    have ndbH : H db = none := by
      cases e : H db with
      | none => rfl
      | some u => exact absurd rfl (n6 (s6 _ _ (but5 _ _ e odb)))
    have keep9 : ∀ c u, H6 c = some u → c ≠ o → (upd (upd (upd (upd H6 o (.ins C dx (putF "growths" (.ref gl) (putF "made" (.ref dm) (putF "left" (.ref dl) (putF "other" (.ref pb) (putF "parting" (.ref pa) []))))))) db (.dK [])) o (.ins C dx (putF "blocks" (.ref db) (putF "growths" (.ref gl) (putF "made" (.ref dm) (putF "left" (.ref dl) (putF "other" (.ref pb) (putF "parting" (.ref pa) [])))))))) o (.ins C dx (bF pa pb dl dm gl db 1))) c = some u := fun c u hc n => by
      rw [upd_ne n, upd_ne n, upd_ne (n6 hc), upd_ne n]
      exact hc
    have edb9 : (upd (upd (upd (upd H6 o (.ins C dx (putF "growths" (.ref gl) (putF "made" (.ref dm) (putF "left" (.ref dl) (putF "other" (.ref pb) (putF "parting" (.ref pa) []))))))) db (.dK [])) o (.ins C dx (putF "blocks" (.ref db) (putF "growths" (.ref gl) (putF "made" (.ref dm) (putF "left" (.ref dl) (putF "other" (.ref pb) (putF "parting" (.ref pa) [])))))))) o (.ins C dx (bF pa pb dl dm gl db 1))) db = some (.dK []) := by
      rw [upd_ne odb, upd_ne odb, upd_same]
    have ho9 : (upd (upd (upd (upd H6 o (.ins C dx (putF "growths" (.ref gl) (putF "made" (.ref dm) (putF "left" (.ref dl) (putF "other" (.ref pb) (putF "parting" (.ref pa) []))))))) db (.dK [])) o (.ins C dx (putF "blocks" (.ref db) (putF "growths" (.ref gl) (putF "made" (.ref dm) (putF "left" (.ref dl) (putF "other" (.ref pb) (putF "parting" (.ref pa) [])))))))) o (.ins C dx (bF pa pb dl dm gl db 1))) o = some (.ins C dx (bF pa pb dl dm gl db 1)) := upd_same
    generalize upd (upd (upd (upd H6 o (.ins C dx (putF "growths" (.ref gl) (putF "made" (.ref dm) (putF "left" (.ref dl) (putF "other" (.ref pb) (putF "parting" (.ref pa) []))))))) db (.dK [])) o (.ins C dx (putF "blocks" (.ref db) (putF "growths" (.ref gl) (putF "made" (.ref dm) (putF "left" (.ref dl) (putF "other" (.ref pb) (putF "parting" (.ref pa) [])))))))) o (.ins C dx (bF pa pb dl dm gl db 1)) = H9 at keep9 edb9 ho9
    have but9 : But o H H9 := fun c u hc n => keep9 _ _ (s6 _ _ (but5 c u hc n)) n
    have edl9 := keep9 _ _ (s6 _ _ edl5) odl
    have edm9 := keep9 _ _ (s6 _ _ edm5) odm
    have eas9 : ∀ a ∈ as, H9 a = some (.lst []) := fun a ha => keep9 _ _ (s6 _ _ (eas5 a ha)) (aso a ha).1
    have egl9 := keep9 _ _ egl ogl
    have egs9 : ∀ (l : Nat) (a : Addr), gs[l]? = some a → H9 a = some (.lst (growV p.length l)) := fun l a h => keep9 _ _ (egs l a h) (ogs a (List.mem_of_getElem? h))
    have dlb : dl ≠ db := n6 (s6 _ _ edl5)
    have dmb : dm ≠ db := n6 (s6 _ _ edm5)
    clear keep9 n6 ndb ef ho6 ho5 but5 edl5 edm5 eas5 egl egs s6
    -- how many
    have gpos : ∀ x : Int, 0 < gr ((lab p r).count x) 0 := fun x => gr_pos _ _
    have tot : (comp (lab p r) []).length = prd (fun x => gr ((lab p r).count x) 0) D := by
      rw [comp_prd ndD (lab p r) [] fun x hx => ?_]
      · refine prd_congr fun x _ => ?_
        rfl
      · obtain ⟨i, hi⟩ := List.mem_iff_getElem?.mp hx
        have : i ∈ olds (lab p r) x := mem_olds.mpr hi
        obtain ⟨d, _, hd⟩ := (mem_lab hl rp fin).mp this
        exact (mD x).mpr (List.mem_of_getElem? hd)
    have lb : (lab p r).length ≤ 60 := by
      have e1 := lab_len (p := p) (q := r) hl
      have e2 := bc_le 0 p
      omega
    have tbig : (comp (lab p r) []).length < 2 ^ 360 := comp_big (by simpa using lb)
    have cle : ∀ x, (lab p r).count x ≤ p.length := fun x => by
      have e1 := lab_len (p := p) (q := r) hl
      have e2 := bc_le 0 p
      have : (lab p r).count x ≤ (lab p r).length := List.count_le_length
      omega
    refine ⟨dl, _, edl9, trivial, fun od2 => ?_⟩
    have hfz : (upd H9 dl (.frz od2 (.dK (dF D fun x => vN ((lab p r).count x))))) dl = some (.frz od2 (.dK (dF D fun x => vN ((lab p r).count x)))) := upd_same
    have kf : ∀ c u, H9 c = some u → c ≠ dl → (upd H9 dl (.frz od2 (.dK (dF D fun x => vN ((lab p r).count x))))) c = some u := fun c u hc n => by rw [upd_ne n]; exact hc
    have bk : ∀ c, c ≠ dl → (upd H9 dl (.frz od2 (.dK (dF D fun x => vN ((lab p r).count x))))) c = H9 c := fun c n => upd_ne n
    generalize upd H9 dl (.frz od2 (.dK (dF D fun x => vN ((lab p r).count x)))) = Hf at hfz kf bk
    have hof := kf _ _ ho9 odl.symm
    refine ⟨_, rfl, o, C, dx, _, _, rfl, hof, at_.cC, at_.nL, bF_left, dl, od2, rfl, .inl ⟨_, hfz, ?_⟩⟩
    refine for_keys (o := od2) (kvs := dF D fun x => vN ((lab p r).count x)) (fun i σ Hk => ∃ y3 : Option V, σ = [some (.ref o), some (.ref pa), some (.ref pb), y3] ∧ Hk o = some (.ins C dx (bF pa pb dl dm gl db (prd (fun x => gr ((lab p r).count x) 0) (D.take i)))) ∧ But o Hf Hk ∧ ∀ c, c ≠ o → Hk c = Hf c)
      ⟨none, rfl, hof, fun _ _ h _ => h, fun _ _ => rfl⟩ (fun i σ Hk _ ⟨_, _, _, b, _⟩ => b _ _ hfz odl) ?_ ?_
    · rintro i k v σ Hk hi ⟨y3, rfl, hok, b, eqc⟩
      unfold dF at hi
      obtain ⟨x, hx, e⟩ := map_at hi
      obtain ⟨rfl, rfl⟩ := Prod.mk.inj e
      have xD := List.mem_of_getElem? hx
      obtain ⟨g0, hg0⟩ := at_some (xs := gs) (i := (lab p r).count x) (by have := cle x; omega)
      have eg0 := b _ _ (kf _ _ (egs9 _ _ hg0) (fun z => by have := egs9 _ _ hg0; rw [z, edl9] at this; cases this)) (ogs _ (List.mem_of_getElem? hg0))
      have egk := b _ _ (kf _ _ egl9 (fun z => by rw [z, edl9] at egl9; cases egl9)) ogl
      have gv : DGet Hk dl (V.int x) (some (vN ((lab p r).count x))) := .inl ⟨_, kI x, .inr ⟨od2, b _ _ hfz odl⟩, rfl, by rw [dF_val, if_pos xD]⟩
      have pk := prd_take_le gpos D i
      refine ⟨_, rfl, o, C, dx, _, _, rfl, hok, at_.cC, at_.nN, bF_number, ?_⟩
      refine ⟨_, rfl, o, C, dx, _, _, rfl, hok, at_.cC, at_.nG, bF_growths, _, rfl, o, C, dx, _, _, rfl, hok, at_.cC, at_.nL, bF_left, _, rfl, dl, _, rfl, gv, gl, _, _, .ref g0, rfl, rfl, sqL egk, atI_of (j := (lab p r).count x) rfl (at_map hg0), g0, _, 0, _, rfl, rfl, sqL eg0, atI_of (j := 0) rfl (growV_at (by have := cle x; omega)), ?_⟩
      refine ⟨_, _, rfl, rfl, wide_mul (nat_abs (b := 360) (by omega)) (nat_abs (gr_big (by have := cle x; omega))) (by decide) (by decide) (by decide), dx, _, hok, by show 7 < 1000; decide, ?_⟩
      refine ⟨_, rfl, ?_, fun c u hc n => by rw [upd_ne n]; exact b c u hc n, fun c n => by rw [upd_ne n]; exact eqc c n⟩
      rw [upd_same, take_snoc hx, prd_snoc]
      refine congrArg (fun z => some (HO.ins C dx z)) ?_
      have em : (V.int (((prd (fun x => gr ((lab p r).count x) 0) (D.take i) : Nat) : Int) * ((gr ((lab p r).count x) 0 : Nat) : Int))) = vN (prd (fun x => gr ((lab p r).count x) 0) (D.take i) * gr ((lab p r).count x) 0) := congrArg V.int (Int.natCast_mul _ _).symm
      exact (congrArg (fun z => putF "number" z _) em).trans bF_put
    · rintro σ Hk ⟨y3, rfl, hok, b, eqc⟩
      rw [kl, List.take_length, ← tot] at hok
      refine ⟨b _ _ hfz odl, ?_⟩
      have fin_ : ∀ c u, H9 c = some u → c ≠ o → c ≠ dl → (upd Hk dl (.dK (dF D fun x => vN ((lab p r).count x)))) c = some u := fun c u hc n1 n2 => by
        rw [upd_ne n2]
        exact b _ _ (kf _ _ hc n2) n1
      have asx : ∀ x ∈ D, as.getD (D.idxOf x) 0 ∈ as := fun x hx => by
        have h1 : D.idxOf x < D.length := List.idxOf_lt_length_iff.mpr hx
        rw [List.getD_eq_getElem?_getD, List.getElem?_eq_getElem (show D.idxOf x < as.length by omega)]
        exact List.getElem_mem _
      refine q _ ⟨o, pa, pb, dl, dm, gl, db, D, fun x => as.getD (D.idxOf x) 0, gs⟩ ?_ ?_ rfl rfl rfl (fun a ha => ?_) (fun c u hc n => ?_)
      · refine ⟨⟨dx, ?_⟩, ?_, ?_, ?_, ?_, fun x hx => ?_, ?_, lgs, fun l a h => ?_, ?_, rfl⟩
        · show (upd Hk dl _) o = _
          rw [upd_ne odl.symm]
          exact hok
        · exact fin_ _ _ (but9 _ _ ta0 opa) opa (ne_of_none ta0 ndlH)
        · exact fin_ _ _ (but9 _ _ tb0 opb) opb (ne_of_none tb0 ndlH)
        · exact upd_same
        · exact fin_ _ _ edm9 odm dlm.symm
        · exact fin_ _ _ (eas9 _ (asx x hx)) (aso _ (asx x hx)).1 (aso _ (asx x hx)).2
        · exact fin_ gl _ egl9 ogl (fun z => by rw [z, edl9] at egl9; cases egl9)
        · exact fin_ _ _ (egs9 l a h) (ogs a (List.mem_of_getElem? h)) (fun z => by have := egs9 l a h; rw [z, edl9] at this; cases this)
        · exact fin_ _ _ edb9 odb dlb.symm
      · refine ⟨ndD, mD, fun x hx y hy e => ?_, dlm, dlb, dmb, fun x hx => (asg _ (asx x hx)).1, fun x hx b hb => (asg _ (asx x hx)).2 b hb⟩
        have h1 : D.idxOf x < D.length := List.idxOf_lt_length_iff.mpr hx
        have h2 : D.idxOf y < D.length := List.idxOf_lt_length_iff.mpr hy
        have e1 : as[D.idxOf x]? = as[D.idxOf y]? := by
          have e : as.getD (D.idxOf x) 0 = as.getD (D.idxOf y) 0 := e
          rw [List.getD_eq_getElem?_getD, List.getD_eq_getElem?_getD, List.getElem?_eq_getElem (show D.idxOf x < as.length by omega), List.getElem?_eq_getElem (show D.idxOf y < as.length by omega)] at e
          rw [List.getElem?_eq_getElem (show D.idxOf x < as.length by omega), List.getElem?_eq_getElem (show D.idxOf y < as.length by omega)]
          exact congrArg some e
        have e2 : D.idxOf x = D.idxOf y := by
          rcases Nat.lt_trichotomy (D.idxOf x) (D.idxOf y) with c | c | c
          · exact absurd e1 ((nd_ne nda) _ _ c (by omega))
          · exact c
          · exact absurd e1.symm ((nd_ne nda) _ _ c (by omega))
        have e3 : D[D.idxOf x] = x := List.getElem_idxOf h1
        have e4 : D[D.idxOf y] = y := List.getElem_idxOf h2
        rw [← e3, ← e4]
        congr 1
      · unfold BA.mu at ha
        simp only [List.mem_append, List.mem_cons, List.mem_nil_iff, or_false, List.mem_map] at ha
        rcases ha with (rfl | rfl | rfl) | ⟨x, hx, rfl⟩
        · exact .inl rfl
        · exact .inr ndlH
        · exact .inr ndbH
        · exact .inr (nas _ (asx x hx))
      · exact fin_ _ _ (but9 c u hc n) n (ne_of_none hc ndlH)
end
end KQ
namespace KQ
open PySem PySem.Spec PyProof.Rows L2 KR KM StX
/-- what the choice in one block leaves -/
theorem comp_split {D : List Int} (nd : D.Nodup) {h : Int} (hs ls : List Int) (m : ∀ x ∈ hs, x ∈ D) (mh : h ∈ D) : (comp hs ls).length = gr (hs.count h) (ls.count h) * prd (fun x => gr (hs.count x) (ls.count x)) (D.erase h) := by
  rw [comp_prd nd hs ls m, prd_split mh]
theorem comp_share {D : List Int} (nd : D.Nodup) {h : Int} (hs ls : List Int) (m : ∀ x ∈ hs, x ∈ D) (mh : h ∈ D) :
    (comp (h :: hs) ls).length / gr (hs.count h + 1) (ls.count h) * gr (hs.count h) (ls.count h) = (comp hs ls).length ∧ (comp (h :: hs) ls).length / gr (hs.count h + 1) (ls.count h) * gr (hs.count h) (ls.count h + 1) = (comp hs (ls ++ [h])).length := by
  have m' : ∀ x ∈ h :: hs, x ∈ D := fun x hx => by
    rcases List.mem_cons.mp hx with rfl | hx
    · exact mh
    · exact m x hx
  have ne : ∀ x ∈ D.erase h, x ≠ h := fun x hx e => by
    rw [e] at hx
    exact (List.Nodup.mem_erase_iff nd).mp hx |>.1 rfl
  have e0 := comp_split nd (h :: hs) ls m' mh
  have e1 := comp_split nd hs ls m mh
  have e2 := comp_split nd hs (ls ++ [h]) m mh
  rw [List.count_cons_self, prd_congr (g := fun x => gr (hs.count x) (ls.count x)) fun x hx => by
    rw [List.count_cons, if_neg (by simpa using fun e : h = x => ne x hx e.symm), Nat.add_zero]] at e0
  rw [prd_congr (g := fun x => gr (hs.count x) (ls.count x)) fun x hx => by
    rw [List.count_append, List.count_singleton, if_neg (by simpa using fun e : h = x => ne x hx e.symm), Nat.add_zero], List.count_append, List.count_singleton, if_pos (by simp)] at e2
  rw [e0, Nat.mul_div_cancel_left _ (gr_pos _ _), e1, e2]
  exact ⟨Nat.mul_comm _ _, Nat.mul_comm _ _⟩
theorem sum_counts {D : List Int} (nd : D.Nodup) : ∀ ls : List Int, (∀ x ∈ ls, x ∈ D) → (D.map fun x => (((olds ls x).length : Nat) : Int)).sum = ls.length := by
  intro ls
  have e : (D.map fun x => (((olds ls x).length : Nat) : Int)) = D.map fun x => ((ls.count x : Nat) : Int) := List.map_congr_left fun x _ => by rw [olds_len x _ ls rfl]
  rw [e]
  induction ls with
  | nil =>
    intro _
    clear nd e
    induction D with
    | nil => rfl
    | cons y r ih =>
      rw [List.map_cons, List.sum_cons, ih fun x hx => by cases hx]
      rfl
  | cons a ls ih =>
    intro m
    have h1 := ih (List.map_congr_left fun x _ => by rw [olds_len x _ ls rfl]) fun x hx => m x (List.mem_cons_of_mem _ hx)
    have ma := m a List.mem_cons_self
    have key : ∀ D : List Int, D.Nodup → (D.map fun x => (((a :: ls).count x : Nat) : Int)).sum = (D.map fun x => ((ls.count x : Nat) : Int)).sum + if a ∈ D then 1 else 0 := by
      intro D nd
      induction D with
      | nil => rfl
      | cons y r ih2 =>
        rw [List.map_cons, List.sum_cons, List.map_cons, List.sum_cons, ih2 (List.nodup_cons.mp nd).2, List.count_cons]
        by_cases e : a = y
        · subst e
          rw [if_neg (List.nodup_cons.mp nd).1, if_pos List.mem_cons_self]
          simp
          omega
        · have : a ∈ y :: r ↔ a ∈ r := ⟨fun z => (List.mem_cons.mp z).resolve_left e, List.mem_cons_of_mem _⟩
          rw [if_neg (by simpa using e)]
          simp only [this]
          omega
    rw [key D nd, if_pos ma, h1, List.length_cons]
    omega
/-- what is known of the two partings -/
structure Pq (p q : List Int) : Prop where
  hl : p.length = q.length
  l60 : p.length ≤ 60
  rp : Rg 0 p
  rq : Rg 0 q
  fin : Finer p q
theorem Pq.lab60 {p q : List Int} (h : Pq p q) : (lab p q).length ≤ 60 := by
  have e1 := lab_len (p := p) (q := q) h.hl
  have e2 := bc_le 0 p
  have := h.l60
  omega
theorem Pq.labD {p q : List Int} (h : Pq p q) {D : List Int} (mD : ∀ x, x ∈ D ↔ x ∈ q) {x : Int} (hx : x ∈ lab p q) : x ∈ D := by
  obtain ⟨i, hi⟩ := List.mem_iff_getElem?.mp hx
  have : i ∈ olds (lab p q) x := mem_olds.mpr hi
  obtain ⟨d, _, hd⟩ := (mem_lab h.hl h.rp h.fin).mp this
  exact (mD x).mpr (List.mem_of_getElem? hd)
theorem labA_mem : ∀ {acc p q : List Int} {x : Int}, x ∈ labA acc p q → x ∈ acc ∨ x ∈ q
  | acc, [], _, x, h => .inl h
  | acc, _ :: _, [], x, h => .inl h
  | acc, a :: p, b :: q, x, h => by
    rcases labA_mem (acc := stp acc b a) h with h | h
    · unfold stp at h
      split at h
      · rcases List.mem_append.mp h with h | h
        · exact .inl h
        · exact .inr (by rw [List.mem_singleton.mp h]; exact List.mem_cons_self)
      · exact .inl h
    · exact .inr (List.mem_cons_of_mem _ h)
section
variable {P : Program} {w : World} {K : PySem.W.Frag} {mg : Str → Option Value} {base : Heap}
abbrev s_Between_choices : Stmt := inClass (topS 19) 1
theorem sc_Between_choices : FnScope ["self", "door", "high", "made", "left", "rest", "old", "new", "fresh", "row", "block"] ["self", "door"] (defScope s_Between_choices) := ⟨rfl, rfl, rfl, by decide +kernel, rfl, by decide +kernel, by decide +kernel⟩
/-- the choices told -/
def RowsAt (H : Hp) (ts : List Addr) (rest ls : List Int) (h : Int) : Prop := ts.length = (picks ls h).length ∧ ∀ (i : Nat) (t : Addr) (b : Int), ts[i]? = some t → (picks ls h)[i]? = some b → H t = some (.tup [.int b, vN (comp rest (stp ls h b)).length])
def spChoices (C : Addr) : Sp := fun vs H Q _ => ∃ (A : BA) (p q : List Int) (d j : Nat) (cs : List Int) (h : Int) (rest : List Int), vs = [.ref A.o, vN d] ∧ BT C H A p q j cs ∧ BD A q ∧ Pq p q ∧ p[d]? = some ((j : Nat) : Int) ∧ q[d]? = some h ∧ (lab p q).drop j = h :: rest ∧
  ∀ H' L ts, Same H H' → H L = none → H' L = some (.lst (ts.map V.ref)) → RowsAt H' ts rest (lab cs ((lab p q).take j)) h → Q (.ref L) H'
theorem ok_choices {C : Addr} (D : MAt K C "choices" "Between.choices" s_Between_choices) (T : Bt mg) (at_ : Atts K C) : MUse P w K mg base C "choices" 1 ["self", "door"] (spChoices C) := by
  refine muse_of D (fun f fd F => F.ok sc_Between_choices (fun vs H Q E h => ?_) (fun cdv A outer s H vs Q E hr h => ?_)) (fun _ _ _ _ _ _ us hl => match us, hl with | [_, _], _ => rfl)
  · obtain ⟨A, p, r, d, j, cs, hi, rest, rfl, _⟩ := h
    rfl
  · obtain ⟨B, p, r, d, j, cs, hi, rest, rfl, bt, bd, pq, hd, hq, hdr, q⟩ := h
    refine ⟨_, (pss_cons (ps_set (i := 2) sc_Between_choices.nd rfl (Or.inl rfl) (pe_ix (k_ixt (K := K) rfl) (k_fld (K := K) rfl (pv 0) rfl) (pv 1) (fun _ _ => rfl)))
      (pss_cons (ps_set (i := 3) sc_Between_choices.nd rfl (Or.inl rfl) (pe_dget (hu_of hr) (k_fld (K := K) rfl (pv 0) rfl) (pv 2) (fun _ _ => rfl)))
      (pss_cons (ps_set (i := 4) sc_Between_choices.nd rfl (Or.inl rfl) (pe_dget (hu_of hr) (k_fld (K := K) rfl (pv 0) rfl) (pv 2) (fun _ _ => rfl)))
      (pss_cons (ps_set (i := 5) sc_Between_choices.nd rfl (Or.inl rfl) (pe_op op_fdivW (k_fld (K := K) rfl (pv 0) rfl) (pe_ix (k_ixl (K := K) rfl) (pe_ix (k_ixl (K := K) rfl) (k_fld (K := K) rfl (pv 0) rfl) (pv 4) (fun _ _ => rfl)) (pe_callB (k_len (K := K) rfl) (by rfl) T.len PySem.boot_len (pa_cons (pv 3) pa_nil)) (fun _ _ => rfl))))
      (pss_cons (ps_set (i := 6) sc_Between_choices.nd rfl (Or.inr rfl) (pe_op op_mulW (pv 5) (pe_ix (k_ixl (K := K) rfl) (pe_ix (k_ixl (K := K) rfl) (k_fld (K := K) rfl (pv 0) rfl) (pe_op op_sub (pv 4) pe_int) (fun _ _ => rfl)) (pe_callB (k_len (K := K) rfl) (by rfl) T.len PySem.boot_len (pa_cons (pv 3) pa_nil)) (fun _ _ => rfl))))
      (pss_cons (ps_set (i := 7) sc_Between_choices.nd rfl (Or.inl rfl) (pe_op op_mulW (pv 5) (pe_ix (k_ixl (K := K) rfl) (pe_ix (k_ixl (K := K) rfl) (k_fld (K := K) rfl (pv 0) rfl) (pe_op op_sub (pv 4) pe_int) (fun _ _ => rfl)) (pe_op op_add (pe_callB (k_len (K := K) rfl) (by rfl) T.len PySem.boot_len (pa_cons (pv 3) pa_nil)) pe_int) (fun _ _ => rfl))))
      (pss_cons (ps_set (i := 8) sc_Between_choices.nd rfl (Or.inl rfl) (pe_callB (cr_sum rfl) (by rfl) T.sum (by decide +kernel) (pa_cons (pe_lock (pe_lc (own := [("row", 9)]) rfl sc_Between_choices.nd (pi_values (k_fld (K := K) rfl (pv 0) rfl)) (blkOk_by (N := ["self", "door", "high", "made", "left", "rest", "old", "new", "fresh", "row", "block"]) (sc := defScope s_Between_choices) (by decide +kernel)) (fun _ _ _ _ _ => (pg_name (i := 9) sc_Between_choices.nd rfl (Or.inl rfl))) (fun _ _ _ _ _ => pts_nil) (fun _ _ _ _ _ => (pe_callB (k_len (K := K) rfl) (by rfl) T.len PySem.boot_len (pa_cons (pv 9) pa_nil))))) pa_nil)))
      (pss_one (ps_ret (pe_lst (k_star (K := K) rfl (pe_lc (own := [("block", 10)]) rfl sc_Between_choices.nd (k_list (K := K) rfl (pv 3)) (blkOk_by (N := ["self", "door", "high", "made", "left", "rest", "old", "new", "fresh", "row", "block"]) (sc := defScope s_Between_choices) (by decide +kernel)) (fun _ _ _ _ _ => (pg_name (i := 10) sc_Between_choices.nd rfl (Or.inl rfl))) (fun _ _ _ _ _ => pts_nil) (fun _ _ _ _ _ => (pe_tup (pa_cons (pv 10) (pa_cons (pv 6) pa_nil))))) (pa_cons (pe_tup (pa_cons (pv 8) (pa_cons (pv 7) pa_nil))) pa_nil)))))))))))), ?_⟩
    obtain ⟨⟨dx, ho⟩, ta, tb, left, made, rows, grow, glen, grows, blk, lcs⟩ := bt
    have hD : hi ∈ B.D := (bd.mem hi).mpr (List.mem_of_getElem? hq)
    have dl := (List.getElem?_eq_some_iff.mp hd).1
    have l60 := pq.lab60
    have lll := pq.l60
    have lbp : (lab p r).length ≤ p.length := by
      have e1 := lab_len (p := p) (q := r) pq.hl
      have e2 := bc_le 0 p
      omega
    have lt : (lab p r).length = j + (rest.length + 1) := by
      have := congrArg List.length hdr
      rw [List.length_drop, List.length_cons] at this
      omega
    have lsl : (lab cs ((lab p r).take j)).length ≤ j := by
      have e1 := lab_len (p := cs) (q := (lab p r).take j) (by rw [List.length_take]; omega)
      have e2 := bc_le 0 cs
      omega
    have lsD : ∀ x ∈ lab cs ((lab p r).take j), x ∈ B.D := fun x hx => by
      rcases labA_mem hx with h | h
      · cases h
      · exact pq.labD bd.mem (List.mem_of_mem_take h)
    have restD : ∀ x ∈ rest, x ∈ B.D := fun x hx => pq.labD bd.mem (List.mem_of_mem_drop (i := j) (by rw [hdr]; exact List.mem_cons_of_mem _ hx))
    generalize lab cs ((lab p r).take j) = ls at ho rows lsl lsD q
    rw [hdr] at ho left
    have m_eq := olds_len hi _ ls rfl
    have cnt1 : (hi :: rest).count hi = rest.count hi + 1 := List.count_cons_self ..
    have cr : rest.count hi ≤ rest.length := List.count_le_length
    have cl : ls.count hi ≤ ls.length := List.count_le_length
    have share := comp_share bd.nd rest ls restD hD
    have big0 : (comp (hi :: rest) ls).length < 2 ^ 360 := comp_big (by rw [List.length_cons]; omega)
    refine ⟨_, rfl, B.o, C, dx, _, .ref B.pb, rfl, ho, at_.cC, at_.nO, bF_other, _, rfl, B.pb, _, _, .int hi, rfl, rfl, tb.seq, atI_of (j := d) rfl (at_map hq), ?_⟩
    have gm : DGet H B.dm (V.int hi) (some (.ref (B.ml hi))) := by
      have := DGet.k (k := kI hi) made
      rw [dF_val, if_pos hD] at this
      exact this
    have gl : DGet H B.dl (V.int hi) (some (vN (rest.count hi + 1))) := by
      have := DGet.k (k := kI hi) left
      rw [dF_val, if_pos hD, cnt1] at this
      exact this
    refine ⟨_, rfl, B.o, C, dx, _, .ref B.dm, rfl, ho, at_.cC, at_.nM, bF_made, _, rfl, B.dm, _, rfl, gm, ?_⟩
    refine ⟨_, rfl, B.o, C, dx, _, .ref B.dl, rfl, ho, at_.cC, at_.nL, bF_left, _, rfl, B.dl, _, rfl, gl, ?_⟩
    have er := rows hi hD
    have elen : ((olds ls hi).map vN).length = ls.count hi := by rw [List.length_map, m_eq]
    obtain ⟨g1, hg1⟩ := at_some (xs := B.gs) (i := rest.count hi + 1) (by omega)
    obtain ⟨g0, hg0⟩ := at_some (xs := B.gs) (i := rest.count hi) (by omega)
    have eg1 := grows _ _ hg1
    have eg0 := grows _ _ hg0
    refine ⟨_, rfl, B.o, C, dx, _, _, rfl, ho, at_.cC, at_.nN, bF_number, _, rfl, B.o, C, dx, _, .ref B.gl, rfl, ho, at_.cC, at_.nG, bF_growths, _, rfl, B.gl, _, _, .ref g1, rfl, rfl, sqL grow, atI_of (j := rest.count hi + 1) rfl (at_map hg1), _, rfl, B.ml hi, _, rfl, .inl (sqL er), g1, _, _, vN (gr (rest.count hi + 1) (ls.count hi)), rfl, rfl, sqL eg1, atI_of (j := ls.count hi) (by rw [elen]) (growV_at (by omega)), ?_⟩
    have gb1 : gr (rest.count hi + 1) (ls.count hi) < 2 ^ 360 := gr_big (by omega)
    have gp1 := gr_pos (rest.count hi + 1) (ls.count hi)
    refine ⟨_, _, rfl, rfl, wide_div (by omega) (nat_abs gb1) (by decide) (by decide), ?_⟩
    have ediv : (((comp (hi :: rest) ls).length : Nat) : Int) / ((gr (rest.count hi + 1) (ls.count hi) : Nat) : Int) = (((comp (hi :: rest) ls).length / gr (rest.count hi + 1) (ls.count hi) : Nat) : Int) := (Int.natCast_ediv _ _).symm
    have qb : (comp (hi :: rest) ls).length / gr (rest.count hi + 1) (ls.count hi) < 2 ^ 360 := Nat.lt_of_le_of_lt (Nat.div_le_self _ _) big0
    refine ⟨_, rfl, _, rfl, B.o, C, dx, _, .ref B.gl, rfl, ho, at_.cC, at_.nG, bF_growths, _, rfl, _, _, rfl, rfl, B.gl, _, _, .ref g0, rfl, rfl, sqL grow, atI_of (j := rest.count hi) (by omega) (at_map hg0), _, rfl, B.ml hi, _, rfl, .inl (sqL er), g0, _, _, vN (gr (rest.count hi) (ls.count hi)), rfl, rfl, sqL eg0, atI_of (j := ls.count hi) (by rw [elen]) (growV_at (by omega)), ?_⟩
    refine ⟨_, _, rfl, rfl, wide_mul (by rw [ediv]; exact nat_abs qb) (nat_abs (gr_big (l := rest.count hi) (m := ls.count hi) (by omega))) (by decide) (by decide) (by decide), ?_⟩
    refine ⟨_, rfl, _, rfl, B.o, C, dx, _, .ref B.gl, rfl, ho, at_.cC, at_.nG, bF_growths, _, rfl, _, _, rfl, rfl, B.gl, _, _, .ref g0, rfl, rfl, sqL grow, atI_of (j := rest.count hi) (by omega) (at_map hg0), _, rfl, B.ml hi, _, rfl, .inl (sqL er), _, _, rfl, rfl, g0, _, _, vN (gr (rest.count hi) (ls.count hi + 1)), rfl, rfl, sqL eg0, atI_of (j := ls.count hi + 1) (by rw [elen]; rfl) (growV_at (by omega)), ?_⟩
    refine ⟨_, _, rfl, rfl, wide_mul (by rw [ediv]; exact nat_abs qb) (nat_abs (gr_big (l := rest.count hi) (m := ls.count hi + 1) (by omega))) (by decide) (by decide) (by decide), ?_⟩
    have eold : V.int ((((comp (hi :: rest) ls).length : Nat) : Int) / ((gr (rest.count hi + 1) (ls.count hi) : Nat) : Int) * ((gr (rest.count hi) (ls.count hi) : Nat) : Int)) = vN (comp rest ls).length := by
      rw [ediv, ← share.1]
      exact congrArg V.int (Int.natCast_mul _ _).symm
    have enew : V.int ((((comp (hi :: rest) ls).length : Nat) : Int) / ((gr (rest.count hi + 1) (ls.count hi) : Nat) : Int) * ((gr (rest.count hi) (ls.count hi + 1) : Nat) : Int)) = vN (comp rest (ls ++ [hi])).length := by
      rw [ediv, ← share.2]
      exact congrArg V.int (Int.natCast_mul _ _).symm
    -- how many blocks so far
    refine ⟨B.dm, _, made, trivial, fun od => ?_⟩
    have oDm : B.o ≠ B.dm := fun z => by rw [z, made] at ho; cases ho
    have hfz : (upd H B.dm (.frz od (.dK (dF B.D fun x => .ref (B.ml x))))) B.dm = some (.frz od (.dK (dF B.D fun x => .ref (B.ml x)))) := upd_same
    have kf : ∀ c u, H c = some u → c ≠ B.dm → (upd H B.dm (.frz od (.dK (dF B.D fun x => .ref (B.ml x))))) c = some u := fun c u hc n => by rw [upd_ne n]; exact hc
    have bk : ∀ c, c ≠ B.dm → (upd H B.dm (.frz od (.dK (dF B.D fun x => .ref (B.ml x))))) c = H c := fun c n => upd_ne n
    generalize upd H B.dm (.frz od (.dK (dF B.D fun x => .ref (B.ml x)))) = Hf at hfz kf bk
    refine ⟨_, rfl, B.o, C, dx, _, .ref B.dm, rfl, kf _ _ ho oDm, at_.cC, at_.nM, bF_made, B.dm, od, _, rfl, hfz, fun G nG => ?_⟩
    have nGH : H G = none := by
      by_cases z : G = B.dm
      · rw [z, hfz] at nG
        cases nG
      · rw [← bk G z]
        exact nG
    have lD : B.D.length ≤ 60 := by
      have := sub_len (ys := r) bd.nd fun x hx => (bd.mem x).mp hx
      have := pq.hl
      omega
    have mlm : ∀ x ∈ B.D, B.ml x ≠ B.dm := fun x hx z => by
      have := rows x hx
      rw [z, made] at this
      cases this
    refine lc_vals (o := od) (kvs := dF B.D fun x => .ref (B.ml x)) (fun i Hk => Same Hf Hk ∧ Hk G = some (.lst (((B.D.take i).map fun x => (((olds ls x).length : Nat) : Int)).map V.int))) ⟨same_new nG, upd_same⟩ (fun i Hk _ ⟨sm, _⟩ => sm _ _ hfz) ?_ ?_
    · rintro i k v Hk hi2 ⟨sm, eG⟩
      unfold dF at hi2
      obtain ⟨x, hx, e⟩ := map_at hi2
      obtain ⟨rfl, rfl⟩ := Prod.mk.inj e
      have xD := List.mem_of_getElem? hx
      refine ⟨rfl, _, rfl, B.ml x, _, rfl, .inl (sqL (sm _ _ (kf _ _ (rows x xD) (mlm x xD)))), _, eG, ?_, same_mut sm nG, ?_⟩
      · rw [List.length_map, List.length_map, List.length_take]
        exact small_of (by omega)
      · rw [upd_same, take_snoc hx, List.map_append, List.map_append, List.length_map]
        rfl
    rintro Hk ⟨sm, eG⟩
    rw [dF_len, List.take_length] at eG
    have GnDm : G ≠ B.dm := fun z => by rw [z, hfz] at nG; cases nG
    refine ⟨sm _ _ hfz, G, _, rfl, sqL (by rw [upd_ne GnDm]; exact eG), ?_⟩
    rw [sum_counts bd.nd ls lsD]
    have s1 : Same H (upd Hk B.dm (.dK (dF B.D fun x => .ref (B.ml x)))) := fun c u hc => by
      by_cases z : c = B.dm
      · rw [z, made] at hc
        rw [z, upd_same]
        exact hc
      · rw [upd_ne z]
        exact sm _ _ (kf _ _ hc z)
    generalize upd Hk B.dm (.dK (dF B.D fun x => .ref (B.ml x))) = H1 at s1
    clear sm eG GnDm hfz kf bk nGH nG
    -- told
    have er1 := s1 _ _ er
    refine ⟨_, rfl, B.ml hi, rfl, ⟨_, sqL er1⟩, fun G nG => ?_⟩
    have nGH : H G = none := s1.free nG
    refine lc_list (K := K) (a := B.ml hi) (xs := (olds ls hi).map vN) (fun k H2 => Same H1 H2 ∧ ∃ ts : List Addr, H2 G = some (.lst (ts.map V.ref)) ∧ ts.length = k ∧ ∀ (i : Nat) (t : Addr) (b : Nat), ts[i]? = some t → (olds ls hi)[i]? = some b → H2 t = some (.tup [vN b, vN (comp rest ls).length]))
      ⟨same_new nG, [], upd_same, rfl, fun i t b h => by simp at h⟩ (fun k H2 _ ⟨s2, _⟩ => sqL (s2 _ _ er1)) ?_ ?_
    · rintro k v H2 hk ⟨s2, ts, eG, lts, hts⟩
      obtain ⟨b, hb, rfl⟩ := map_at hk
      have kl := (List.getElem?_eq_some_iff.mp hb).1
      refine ⟨rfl, _, rfl, _, rfl, by show 2 ≤ sizeLine; decide, fun t nt => ?_⟩
      dsimp only
      rw [eold]
      have eG2 := same_new (o := .tup [vN b, vN (comp rest ls).length]) nt _ _ eG
      have nGt : t ≠ G := fun z => by rw [z, eG] at nt; cases nt
      refine ⟨_, eG2, ?_, same_mut (s2.trans (same_new nt)) nG, ts ++ [t], ?_, ?_, fun i t' b' h1 h2 => ?_⟩
      · rw [List.length_map, lts]
        exact small_of (by omega)
      · rw [upd_same, List.map_append]
        rfl
      · rw [List.length_append, lts]
        rfl
      · have il := (List.getElem?_eq_some_iff.mp h1).1
        rw [List.length_append] at il
        have il : i < ts.length + 1 := il
        by_cases c : i < ts.length
        · rw [List.getElem?_append_left c] at h1
          have := hts i t' b' h1 h2
          have n1 : t' ≠ G := fun z => by rw [z, eG] at this; cases this
          rw [upd_ne n1]
          exact same_new nt _ _ this
        · have ei : i = ts.length := by omega
          rw [List.getElem?_append_right (by omega), ei, Nat.sub_self] at h1
          obtain rfl : t = t' := Option.some.inj h1
          rw [ei, lts, hb] at h2
          obtain rfl := Option.some.inj h2
          rw [upd_ne nGt]
          exact upd_same
    rintro H2 ⟨s2, ts, eG, lts, hts⟩
    rw [List.length_map] at lts
    refine ⟨G, _, rfl, .inr (sqL eG), _, rfl, _, rfl, by show 2 ≤ sizeLine; decide, fun t nt => ?_⟩
    dsimp only
    rw [enew]
    refine ⟨?_, fun L nL => ?_⟩
    · have : ls.length ≤ 60 := by omega
      have o1 : (olds ls hi).length ≤ 60 := by rw [m_eq]; omega
      rw [List.length_append, List.length_map, lts]
      exact Nat.le_of_lt (small_of (show _ + 1 ≤ 100000 by omega))
    have st := same_new (H := H2) (o := .tup [vN ls.length, vN (comp rest (ls ++ [hi])).length]) nt
    have sL := same_new (o := .lst (ts.map V.ref ++ [V.ref t])) nL
    have eT := sL _ _ (upd_same (H := H2) (a := t) (o := .tup [vN ls.length, vN (comp rest (ls ++ [hi])).length]))
    refine q _ L (ts ++ [t]) (((s1.trans s2).trans st).trans sL) ((((s1.trans s2).trans st)).free nL) (by rw [upd_same, List.map_append]; rfl) ⟨?_, fun i t' b h1 h2 => ?_⟩
    · unfold picks
      rw [List.length_append, List.length_append, List.length_map, lts]
      rfl
    · have il := (List.getElem?_eq_some_iff.mp h1).1
      rw [List.length_append] at il
      have il : i < ts.length + 1 := il
      unfold picks at h2
      by_cases c : i < ts.length
      · rw [List.getElem?_append_left c] at h1
        rw [List.getElem?_append_left (by rw [List.length_map]; omega)] at h2
        obtain ⟨b0, hb0, rfl⟩ := map_at h2
        have := hts i t' b0 h1 hb0
        have bl := (List.getElem?_eq_some_iff.mp (mem_olds.mp (List.mem_of_getElem? hb0))).1
        rw [show stp ls hi ((b0 : Nat) : Int) = ls from if_neg (by omega)]
        exact sL _ _ (st _ _ this)
      · have ei : i = ts.length := by omega
        rw [List.getElem?_append_right (by omega), ei, Nat.sub_self] at h1
        obtain rfl : t = t' := Option.some.inj h1
        rw [List.getElem?_append_right (by rw [List.length_map]; omega), List.length_map, ei, lts, Nat.sub_self] at h2
        obtain rfl := Option.some.inj h2
        rw [show stp ls hi ((ls.length : Nat) : Int) = ls ++ [hi] from if_pos rfl]
        exact eT
end
end KQ
namespace KQ
open PySem PySem.Spec PyProof.Rows L2 KR KM StX
section
variable {P : Program} {w : World} {K : PySem.W.Frag} {mg : Str → Option Value} {base : Heap}
abbrev s_Between_choose : Stmt := inClass (topS 19) 2
theorem sc_Between_choose : FnScope ["self", "door", "block", "number", "high"] ["self", "door", "block", "number"] (defScope s_Between_choose) := ⟨rfl, rfl, rfl, by decide +kernel, rfl, by decide +kernel, by decide +kernel⟩
def spChoose (C : Addr) : Sp := fun vs H Q _ => ∃ (A : BA) (p q : List Int) (d j : Nat) (cs : List Int) (h : Int) (rest : List Int) (b : Int), vs = [.ref A.o, vN d, .int b, vN (comp rest (stp (lab cs ((lab p q).take j)) h b)).length] ∧ BT C H A p q j cs ∧ BD A q ∧ Pq p q ∧
  p[d]? = some ((j : Nat) : Int) ∧ q[d]? = some h ∧ (lab p q).drop j = h :: rest ∧ b ∈ picks (lab cs ((lab p q).take j)) h ∧ ∀ H', BT C H' A p q (j + 1) (cs ++ [b]) → KeptS H H' A.mu → Q .non H'
theorem ok_choose {C : Addr} (D : MAt K C "choose" "Between.choose" s_Between_choose) (T : Bt mg) (at_ : Atts K C) : MUse P w K mg base C "choose" 1 ["self", "door", "block", "number"] (spChoose C) := by
  refine muse_of D (fun f fd F => F.ok sc_Between_choose (fun vs H Q E h => ?_) (fun cdv A outer s H vs Q E hr h => ?_)) (fun _ _ _ _ _ _ us hl => match us, hl with | [_, _, _, _], _ => rfl)
  · obtain ⟨A, p, r, d, j, cs, hi, rest, b, rfl, _⟩ := h
    rfl
  · obtain ⟨B, p, r, d, j, cs, hi, rest, b, rfl, bt, bd, pq, hd, hq, hdr, hb, q⟩ := h
    refine ⟨_, (pss_cons (ps_set (i := 4) sc_Between_choose.nd rfl (Or.inl rfl) (pe_ix (k_ixt (K := K) rfl) (k_fld (K := K) rfl (pv 0) rfl) (pv 1) (fun _ _ => rfl)))
      (pss_cons (ps_if (pt_cmpR (k_notIn (K := K) rfl) (pv 2) (pe_dget (hu_of hr) (k_fld (K := K) rfl (pv 0) rfl) (pv 4) (fun _ _ => rfl)) (by rfl)) (pss_one (ps_expr (k_bm (K := K) rfl PySem.F.plainAttrs_list PySem.F.slot_list_append PySem.F.type_list_append mt_append (pe_dget (hu_of hr) (k_fld (K := K) rfl (pv 0) rfl) (pv 4) (fun _ _ => rfl)) (pa_cons (pv 2) pa_nil)))) pss_nil)
      (pss_cons (ps_daug (hu_of hr) (k_fld (K := K) rfl (pv 0) rfl) (pv 4) pe_int in_sub (by intro _ _ _; rfl))
      (pss_cons (ps_dput (hu_of hr) (k_fld (K := K) rfl (pv 0) rfl) (pe_ix (k_ixt (K := K) rfl) (k_fld (K := K) rfl (pv 0) rfl) (pv 1) (fun _ _ => rfl)) (pv 2) rfl)
      (pss_one (ps_fld (pv 0) (pv 3) rfl)))))), ?_⟩
    obtain ⟨⟨dx, ho⟩, ta, tb, left, made, rows, grow, glen, grows, blk, lcs⟩ := bt
    have hD : hi ∈ B.D := (bd.mem hi).mpr (List.mem_of_getElem? hq)
    have l60 := pq.lab60
    have lt : (lab p r).length = j + (rest.length + 1) := by
      have := congrArg List.length hdr
      rw [List.length_drop, List.length_cons] at this
      omega
    have hj : (lab p r)[j]? = some hi := by
      have : ((lab p r).drop j)[0]? = some hi := by rw [hdr]; rfl
      rw [List.getElem?_drop] at this
      exact this
    have lsl : (lab cs ((lab p r).take j)).length ≤ j := by
      have e1 := lab_len (p := cs) (q := (lab p r).take j) (by rw [List.length_take]; omega)
      have e2 := bc_le 0 cs
      omega
    have lsE : lab (cs ++ [b]) ((lab p r).take (j + 1)) = stp (lab cs ((lab p r).take j)) hi b := by
      rw [take_snoc hj]
      unfold lab
      rw [labA_app (by rw [List.length_take]; unfold lab at lt; omega)]
      rfl
    have drE : (lab p r).drop (j + 1) = rest := by
      rw [← List.drop_drop, hdr]
      rfl
    generalize lab cs ((lab p r).take j) = ls at ho rows lsl hb lsE
    rw [hdr] at ho left
    have m_eq := olds_len hi _ ls rfl
    have cl : ls.count hi ≤ ls.length := List.count_le_length
    have cnt1 : (hi :: rest).count hi = rest.count hi + 1 := List.count_cons_self ..
    have gm : ∀ {Hx : Hp}, Hx B.dm = some (.dK (dF B.D fun x => .ref (B.ml x))) → DGet Hx B.dm (V.int hi) (some (.ref (B.ml hi))) := fun {Hx} e => by
      have := DGet.k (k := kI hi) e
      rw [dF_val, if_pos hD] at this
      exact this
    have er := rows hi hD
    have erI : (olds ls hi).map vN = ((olds ls hi).map fun n => ((n : Nat) : Int)).map V.int := by rw [List.map_map]; rfl
    have lD : B.D.length ≤ 60 := by
      have := sub_len (ys := r) bd.nd fun x hx => (bd.mem x).mp hx
      have := pq.hl
      have := pq.l60
      omega
    -- kinds apart
    have oL : ∀ x ∈ B.D, B.o ≠ B.ml x := fun x hx z => by rw [z, rows x hx] at ho; cases ho
    have mLn : ∀ x ∈ B.D, B.dm ≠ B.ml x := fun x hx z => by rw [z, rows x hx] at made; cases made
    have lLn : ∀ x ∈ B.D, B.dl ≠ B.ml x := fun x hx z => by rw [z, rows x hx] at left; cases left
    have bLn : ∀ x ∈ B.D, B.db ≠ B.ml x := fun x hx z => by rw [z, rows x hx] at blk; cases blk
    have taN : H B.pa = some (.tup (p.map V.int)) := ta
    have tbN : H B.pb = some (.tup (r.map V.int)) := tb
    have paN : B.pa ≠ B.ml hi ∧ B.pa ≠ B.dl ∧ B.pa ≠ B.db ∧ B.pa ≠ B.o := ⟨(fun z => by rw [z, er] at taN; cases taN), (fun z => by rw [z, left] at taN; cases taN), (fun z => by rw [z, blk] at taN; cases taN), (fun z => by rw [z, ho] at taN; cases taN)⟩
    have pbN : B.pb ≠ B.ml hi ∧ B.pb ≠ B.dl ∧ B.pb ≠ B.db ∧ B.pb ≠ B.o := ⟨(fun z => by rw [z, er] at tbN; cases tbN), (fun z => by rw [z, left] at tbN; cases tbN), (fun z => by rw [z, blk] at tbN; cases tbN), (fun z => by rw [z, ho] at tbN; cases tbN)⟩
    have glN : B.gl ≠ B.dl ∧ B.gl ≠ B.db ∧ B.gl ≠ B.o := ⟨(fun z => by rw [z, left] at grow; cases grow), (fun z => by rw [z, blk] at grow; cases grow), (fun z => by rw [z, ho] at grow; cases grow)⟩
    have gsN : ∀ (l : Nat) (a : Addr), B.gs[l]? = some a → a ≠ B.dl ∧ a ≠ B.db ∧ a ≠ B.o := fun l a h => by
      have := grows l a h
      exact ⟨(fun z => by rw [z, left] at this; cases this), (fun z => by rw [z, blk] at this; cases this), (fun z => by rw [z, ho] at this; cases this)⟩
    have odl : B.o ≠ B.dl := fun z => by rw [z, left] at ho; cases ho
    have odb : B.o ≠ B.db := fun z => by rw [z, blk] at ho; cases ho
    have odm : B.o ≠ B.dm := fun z => by rw [z, made] at ho; cases ho
    refine ⟨_, rfl, B.o, C, dx, _, .ref B.pb, rfl, ho, at_.cC, at_.nO, bF_other, _, rfl, B.pb, _, _, .int hi, rfl, rfl, tb.seq, atI_of (j := d) rfl (at_map hq), ?_⟩
    refine ⟨_, rfl, _, rfl, B.o, C, dx, _, .ref B.dm, rfl, ho, at_.cC, at_.nM, bF_made, _, rfl, B.dm, _, rfl, gm made, B.ml hi, _, rfl, .inl (sqL er), rfl, by rw [erI]; exact flat_ints _, _, rfl, ?_⟩
    rw [show (if true = true then !L2.inV (V.int b) ((olds ls hi).map vN) else L2.inV (V.int b) ((olds ls hi).map vN)) = !decide (b ∈ (olds ls hi).map fun n => ((n : Nat) : Int)) from by rw [erI]; exact congrArg Bool.not (inV_ints _ _)]
    refine ifs_fact2 (fun σ' H' => σ' = [some (.ref B.o), some (vN d), some (.int b), some (vN (comp rest (stp ls hi b)).length), some (.int hi)] ∧ (∀ x ∈ B.D, H' (B.ml x) = some (.lst ((olds (stp ls hi b) x).map vN))) ∧ ∀ c, c ≠ B.ml hi → H' c = H c)
      (fun hn D kD => ?_) (fun hn D kD => kD _ _ ⟨rfl, fun x hx => ?_, fun _ _ => rfl⟩) ?_
    · have hn : b ∉ (olds ls hi).map fun n => ((n : Nat) : Int) := by simpa using hn
      have bl : b = (ls.length : Int) := by
        unfold picks at hb
        rcases List.mem_append.mp hb with h | h
        · exact absurd h hn
        · exact List.mem_singleton.mp h
      refine ⟨_, rfl, B.o, C, dx, _, .ref B.dm, rfl, ho, at_.cC, at_.nM, bF_made, _, rfl, B.dm, _, rfl, gm made, .inl ⟨rfl, _, .inl (.inl er)⟩, _, rfl, B.ml hi, _, _, rfl, rfl, er, ?_, ?_⟩
      · rw [List.length_map, m_eq]
        exact small_of (by omega)
      · refine kD _ _ ⟨rfl, fun x hx => ?_, fun c n => upd_ne n⟩
        rw [show stp ls hi b = ls ++ [hi] from if_pos bl, olds_snoc]
        by_cases e : hi = x
        · subst e
          rw [upd_same, if_pos rfl, List.map_append, bl]
          rfl
        · have : B.ml x ≠ B.ml hi := fun z => e (bd.inj x hx hi hD z).symm
          rw [upd_ne this, if_neg e, List.append_nil]
          exact rows x hx
    · have hn : b ∈ (olds ls hi).map fun n => ((n : Nat) : Int) := by simpa using hn
      obtain ⟨n, hn2, rfl⟩ := List.mem_map.mp hn
      have := (List.getElem?_eq_some_iff.mp (mem_olds.mp hn2)).1
      rw [show stp ls hi ((n : Nat) : Int) = ls from if_neg (by omega)]
      exact rows x hx
    rintro σ' H1 ⟨rfl, rows1, eq1⟩
    have ho1 := (eq1 B.o (oL hi hD)).trans ho
    have left1 := (eq1 B.dl (lLn hi hD)).trans left
    have blk1 := (eq1 B.db (bLn hi hD)).trans blk
    refine ⟨_, rfl, B.o, C, dx, _, .ref B.dl, rfl, ho1, at_.cC, at_.nL, bF_left, _, rfl, B.dl, vN (rest.count hi + 1), rfl, ?_, _, _, rfl, rfl, _, DPut.k (k := kI hi) left1 (by rw [dF_len]; exact small_of (by omega)), ?_⟩
    · have := DGet.k (k := kI hi) left1
      rw [dF_val, if_pos hD, cnt1] at this
      exact this
    rw [dF_put, if_pos hD]
    have left2 : dF B.D (fun y => if y = hi then V.int (((rest.count hi + 1 : Nat) : Int) - 1) else vN ((hi :: rest).count y)) = dF B.D fun x => vN (rest.count x) := dF_congr fun y _ => by
      by_cases e : y = hi
      · rw [if_pos e, e]
        exact congrArg V.int (by omega)
      · rw [if_neg e, List.count_cons, if_neg (by simpa using fun z : hi = y => e z.symm), Nat.add_zero]
    rw [left2]
    have ho2 : (upd H1 B.dl (.dK (dF B.D fun x => vN (rest.count x)))) B.o = _ := (upd_ne odl).trans ho1
    have ta2 : (upd H1 B.dl (.dK (dF B.D fun x => vN (rest.count x)))) B.pa = some (.tup (p.map V.int)) := by rw [upd_ne paN.2.1, eq1 _ paN.1]; exact ta
    have blk2 : (upd H1 B.dl (.dK (dF B.D fun x => vN (rest.count x)))) B.db = _ := (upd_ne bd.d2.symm).trans blk1
    refine ⟨_, rfl, _, rfl, B.o, C, dx, _, .ref B.db, rfl, ho2, at_.cC, at_.nB, bF_blocks, _, rfl, B.o, C, dx, _, .ref B.pa, rfl, ho2, at_.cC, at_.nP, bF_parting, _, rfl, B.pa, _, _, .int ((j : Nat) : Int), rfl, rfl, sqT ta2, atI_of (j := d) rfl (at_map hd), B.db, _, rfl, DPut.k (k := kI ((j : Nat) : Int)) blk2 (by rw [dF_len, List.length_map, List.length_range]; exact small_of (by omega)), ?_⟩
    have nj : ((j : Nat) : Int) ∉ (List.range j).map fun n => ((n : Nat) : Int) := fun h => by
      obtain ⟨n, hn, e⟩ := List.mem_map.mp h
      have := List.mem_range.mp hn
      omega
    rw [dF_put, if_neg nj]
    have blk3 : dF ((List.range j).map (fun n => ((n : Nat) : Int)) ++ [((j : Nat) : Int)]) (fun y => if y = ((j : Nat) : Int) then V.int b else V.int (cs.getD y.toNat 0)) = dF ((List.range (j + 1)).map fun n => ((n : Nat) : Int)) fun x => .int ((cs ++ [b]).getD x.toNat 0) := by
      rw [List.range_succ, List.map_append]
      refine dF_congr fun y hy => ?_
      by_cases e : y = ((j : Nat) : Int)
      · rw [if_pos e, e, Int.toNat_natCast, List.getD_eq_getElem?_getD, List.getElem?_append_right (by omega), lcs, Nat.sub_self]
        rfl
      · rw [if_neg e]
        have hy : y ∈ (List.range j).map fun n => ((n : Nat) : Int) := (List.mem_append.mp hy).resolve_right fun z => e (List.mem_singleton.mp z)
        obtain ⟨n, hn, rfl⟩ := List.mem_map.mp hy
        have := List.mem_range.mp hn
        rw [Int.toNat_natCast, List.getD_eq_getElem?_getD, List.getD_eq_getElem?_getD, List.getElem?_append_left (by omega)]
    rw [blk3]
    refine ⟨_, rfl, _, rfl, B.o, C, dx, _, rfl, by rw [upd_ne odb]; exact ho2, at_.cC, at_.nN, by show 7 < 1000; decide, ?_⟩
    rw [bF_put]
    have keep : ∀ c, c ≠ B.ml hi → c ≠ B.dl → c ≠ B.db → c ≠ B.o → (upd (upd (upd H1 B.dl (.dK (dF B.D fun x => vN (rest.count x)))) B.db (.dK (dF ((List.range (j + 1)).map fun n => ((n : Nat) : Int)) fun x => .int ((cs ++ [b]).getD x.toNat 0)))) B.o (.ins C dx (bF B.pa B.pb B.dl B.dm B.gl B.db (comp rest (stp ls hi b)).length))) c = H c := fun c n1 n2 n3 n4 => by
      rw [upd_ne n4, upd_ne n3, upd_ne n2, eq1 c n1]
    refine q _ ⟨⟨dx, ?_⟩, ?_, ?_, ?_, ?_, fun x hx => ?_, ?_, glen, fun l a h => ?_, ?_, ?_⟩ fun c u hc hn => ?_
    · rw [drE, lsE]
      exact upd_same
    · exact (keep _ paN.1 paN.2.1 paN.2.2.1 paN.2.2.2).trans ta
    · exact (keep _ pbN.1 pbN.2.1 pbN.2.2.1 pbN.2.2.2).trans tb
    · rw [drE, upd_ne odl.symm, upd_ne bd.d2, upd_same]
    · exact (keep _ (mLn hi hD) bd.d1.symm bd.d3 odm.symm).trans made
    · rw [lsE, upd_ne (oL x hx).symm, upd_ne (bLn x hx).symm, upd_ne (lLn x hx).symm]
      exact rows1 x hx
    · exact (keep _ (bd.g1 hi hD).symm glN.1 glN.2.1 glN.2.2).trans grow
    · exact (keep _ (bd.g2 hi hD a (List.mem_of_getElem? h)) (gsN l a h).1 (gsN l a h).2.1 (gsN l a h).2.2).trans (grows l a h)
    · rw [upd_ne odb.symm, upd_same]
    · rw [List.length_append, lcs]
      rfl
    · unfold BA.mu at hn
      simp only [List.mem_append, List.mem_cons, List.mem_nil_iff, or_false, List.mem_map, not_or] at hn
      exact (keep c (fun z => hn.2 ⟨hi, hD, z.symm⟩) hn.1.2.1 hn.1.2.2 hn.1.1).trans hc
end
end KQ
namespace KQ
open PySem PySem.Spec PyProof.Rows L2 KR KM StX
def flatP (rest ls : List Int) (h : Int) (bs : List Int) : List (List Int) := bs.flatMap fun b => (comp rest (stp ls h b)).map (b :: ·)
section
variable {rest ls bs : List Int} {h b : Int} {a : Nat}
theorem comp_flat (h : Int) (rest ls : List Int) : comp (h :: rest) ls = flatP rest ls h (picks ls h) := rfl
theorem flatP_cons : flatP rest ls h (b :: bs) = (comp rest (stp ls h b)).map (b :: ·) ++ flatP rest ls h bs := List.flatMap_cons
theorem flatP_lt (hl : a < (comp rest (stp ls h b)).length) : (flatP rest ls h (b :: bs))[a]? = ((comp rest (stp ls h b))[a]?).map (b :: ·) := by
  rw [flatP_cons, List.getElem?_append_left (by rw [List.length_map]; exact hl), List.getElem?_map]
theorem flatP_ge (hl : (comp rest (stp ls h b)).length ≤ a) : (flatP rest ls h (b :: bs))[a]? = (flatP rest ls h bs)[a - (comp rest (stp ls h b)).length]? := by
  rw [flatP_cons, List.getElem?_append_right (by rw [List.length_map]; exact hl), List.length_map]
theorem flatP_len : (flatP rest ls h (b :: bs)).length = (comp rest (stp ls h b)).length + (flatP rest ls h bs).length := by
  rw [flatP_cons, List.length_append, List.length_map]
end
/-- one block more chosen -/
theorem lab_step {p r cs : List Int} {j : Nat} {h b : Int} (hj : (lab p r)[j]? = some h) (lc : cs.length = j) : lab (cs ++ [b]) ((lab p r).take (j + 1)) = stp (lab cs ((lab p r).take j)) h b := by
  have jl := (List.getElem?_eq_some_iff.mp hj).1
  rw [take_snoc hj]
  generalize lab p r = M at jl
  unfold lab
  rw [labA_app (by rw [List.length_take]; omega)]
  rfl
theorem made_same {H H' : Hp} {o dx C : Addr} (no : H o = none) (ndx : H dx = none) (but : But o (upd (upd H dx (.own o)) o (.ins C dx [])) H') : Same H H' := fun c u hc => by
  have n1 := ne_of_none hc no
  refine but c u ?_ n1
  rw [upd_ne n1, upd_ne (ne_of_none hc ndx)]
  exact hc
theorem made_new {H : Hp} {A : BA} {o dx C : Addr} (no : H o = none) (ndx : H dx = none) (fresh : ∀ a ∈ A.mu, a = o ∨ (upd (upd H dx (.own o)) o (.ins C dx [])) a = none) : ∀ a ∈ A.mu, H a = none := fun a ha => by
  rcases fresh a ha with rfl | e
  · exact no
  · cases hc : H a with
    | none => rfl
    | some u =>
      rw [upd_ne (ne_of_none hc no), upd_ne (ne_of_none hc ndx), hc] at e
      cases e
section
variable {P : Program} {w : World} {K : PySem.W.Frag} {mg : Str → Option Value} {base : Heap}
abbrev s_between_number : Stmt := topS 20
theorem sc_between_number : FnScope ["parting", "other"] ["parting", "other"] (defScope s_between_number) := ⟨rfl, rfl, rfl, by decide +kernel, rfl, by decide +kernel, by decide +kernel⟩
def spBNum : Sp := fun vs H Q _ => ∃ a b p q, vs = [.ref a, .ref b] ∧ TI H a p ∧ TI H b q ∧ Par p ∧ Par q ∧ p.length = q.length ∧ ∀ H', Same H H' → (Finer p q → Q (vN (betw p q).length) H') ∧ (¬ Finer p q → Q (.int 0) H')
theorem ok_between_number {C : Addr} (D : DefAt K mg "between_number" s_between_number) (T : Bt mg) (at_ : Atts K C) (u_need_two_partings : Use P w K mg base "need_two_partings" 6 ["parting", "other"] spTwo) (u_lies_within : Use P w K mg base "lies_within" 1 ["parting", "other"] spLies)
    (u_Between : KUse P w K mg base C "Between" 2 ["self", "parting", "other"] (spBInit C)) : Use P w K mg base "between_number" 7 ["parting", "other"] spBNum := by
  refine use_of D (fun f fd F => F.ok sc_between_number (fun vs H Q E h => ?_) (fun cdv A outer s H vs Q E hr h => ?_)) (fun _ _ _ _ _ _ us hl => match us, hl with | [_, _], _ => rfl)
  · obtain ⟨a, b, p, r, rfl, _⟩ := h
    rfl
  · obtain ⟨a, b, p, r, rfl, ta, tb, par, parr, hl, q⟩ := h
    refine ⟨_, (pss_cons (ps_expr (pe_use u_need_two_partings (by decide) hr (by rfl) (pa_cons (pv 0) (pa_cons (pv 1) pa_nil))))
      (pss_cons (ps_if (pt_not (pt_val (pe_use u_lies_within (by decide) hr (by rfl) (pa_cons (pv 0) (pa_cons (pv 1) pa_nil))))) (pss_one (ps_ret pe_int)) pss_nil)
      (pss_one (ps_ret (k_fld (K := K) rfl (pe_kUse u_Between (by decide) hr (by rfl) (pa_cons (pv 0) (pa_cons (pv 1) pa_nil))) rfl))))), ?_⟩
    refine ⟨_, rfl, _, rfl, a, b, p, r, rfl, ta, tb, par, parr, hl, fun H1 s1 => ?_⟩
    refine ⟨_, rfl, _, rfl, a, b, p, r, rfl, ta.mono s1, tb.mono s1, hl, par.le, fun H2 c s2 hc => ⟨c, rfl, ?_⟩⟩
    have s12 := s1.trans s2
    cases c with
    | false => exact (q H2 s12).2 fun z => by have := hc.mpr z; cases this
    | true =>
      refine ⟨_, rfl, _, rfl, fun o dx no ndx ne => ?_⟩
      have ti : ∀ {c : Addr} {x : List Int}, TI H2 c x → TI (upd (upd H2 dx (.own o)) o (.ins C dx [])) c x := fun {c x} t => by
        have t : H2 c = some (.tup (x.map V.int)) := t
        show upd _ o _ c = _
        rw [upd_ne (ne_of_none t no), upd_ne (ne_of_none t ndx)]
        exact t
      refine ⟨o, dx, a, b, p, r, rfl, upd_same, ti (ta.mono s12), ti (tb.mono s12), hl, par.le, par.rg, parr.rg, hc.mp rfl, fun H3 A bt bd eo ea eb fresh but => ⟨rfl, ?_⟩⟩
      obtain ⟨dx', ho⟩ := bt.obj
      have := (q H3 (s12.trans (made_same no ndx but))).1 (hc.mp rfl)
      refine ⟨A.o, C, dx', _, _, by rw [eo], ho, at_.cC, at_.nN, bF_number, ?_⟩
      unfold betw at this
      rw [List.length_map] at this
      exact this
abbrev s_between_at : Stmt := topS 21
theorem sc_between_at : FnScope ["parting", "other", "number", "made", "ahead", "door", "is_first", "rows", "block", "many"] ["parting", "other", "number"] (defScope s_between_at) := ⟨rfl, rfl, rfl, by decide +kernel, rfl, by decide +kernel, by decide +kernel⟩
def spAt : Sp := fun vs H Q _ => ∃ a b p q n, vs = [.ref a, .ref b, vN n] ∧ TI H a p ∧ TI H b q ∧ Par p ∧ Par q ∧ p.length = q.length ∧ Finer p q ∧ n < (betw p q).length ∧ ∀ H' t r, Same H H' → TI H' t r → (betw p q)[n]? = some r → Q (.ref t) H'
theorem ok_between_at {C : Addr} (D : DefAt K mg "between_at" s_between_at) (T : Bt mg) (at_ : Atts K C) (u_need_two_partings : Use P w K mg base "need_two_partings" 6 ["parting", "other"] spTwo) (u_lies_within : Use P w K mg base "lies_within" 1 ["parting", "other"] spLies)
    (u_is_integer : Use P w K mg base "is_integer" 1 ["value"] spIsInteger) (u_first_doors : Use P w K mg base "first_doors" 1 ["parting"] spFirstD) (u_Between : KUse P w K mg base C "Between" 2 ["self", "parting", "other"] (spBInit C))
    (u_m_choices : MUse P w K mg base C "choices" 1 ["self", "door"] (spChoices C)) (u_m_choose : MUse P w K mg base C "choose" 1 ["self", "door", "block", "number"] (spChoose C)) : Use P w K mg base "between_at" 7 ["parting", "other", "number"] spAt := by
  have cC := at_.cC
  refine use_of D (fun f fd F => F.ok sc_between_at (fun vs H Q E h => ?_) (fun cdv A outer s H vs Q E hr h => ?_)) (fun _ _ _ _ _ _ us hl => match us, hl with | [_, _, _], _ => rfl)
  · obtain ⟨a, b, p, r, n, rfl, _⟩ := h
    rfl
  · obtain ⟨a, b, p, r, n, rfl, ta, tb, par, parr, hl, fin, hn, q⟩ := h
    refine ⟨_, (pss_cons (ps_expr (pe_use u_need_two_partings (by decide) hr (by rfl) (pa_cons (pv 0) (pa_cons (pv 1) pa_nil))))
      (pss_cons (ps_if (PW.pt (pw_or (pt_not (pt_val (pe_use u_is_integer (by decide) hr (by rfl) (pa_cons (pv 2) pa_nil)))) (pw_or (pt_cmpR op_lt (pv 2) pe_int (nomark _)) (pw_or1 (pt_not (pt_val (pe_use u_lies_within (by decide) hr (by rfl) (pa_cons (pv 0) (pa_cons (pv 1) pa_nil))))))))) (pss_one ps_never) pss_nil)
      (pss_cons (ps_set (i := 3) sc_between_at.nd rfl (Or.inr rfl) (pe_kUse u_Between (by decide) hr (by rfl) (pa_cons (pv 0) (pa_cons (pv 1) pa_nil))))
      (pss_cons (ps_if (pt_cmpR op_ge (pv 2) (k_fld (K := K) rfl (pv 3) rfl) (nomark _)) (pss_one ps_never) pss_nil)
      (pss_cons (ps_set (i := 4) sc_between_at.nd rfl (Or.inl rfl) (pv 2))
      (pss_cons (ps_for PassesOwn.never rfl (k_enum (K := K) rfl (by rfl) T.enumerate (pa_cons (pe_use u_first_doors (by decide) hr (by rfl) (pa_cons (pv 0) pa_nil)) pa_nil)) (pg_tup rfl (pgs_cons (pg_name (i := 5) sc_between_at.nd rfl (Or.inl rfl)) (pgs_cons (pg_name (i := 6) sc_between_at.nd rfl (Or.inl rfl)) pgs_nil)))
      (pss_one (ps_if (pt_val (pv 6)) (pss_cons (ps_set (i := 7) sc_between_at.nd rfl (Or.inl rfl) (pe_mUse (pv 3) cC u_m_choices (by decide) hr (pa_cons (pv 5) pa_nil)))
      (pss_one (ps_for PassesOwn.never rfl (k_list (K := K) rfl (pv 7)) (pg_tup rfl (pgs_cons (pg_name (i := 8) sc_between_at.nd rfl (Or.inl rfl)) (pgs_cons (pg_name (i := 9) sc_between_at.nd rfl (Or.inl rfl)) pgs_nil)))
      (pss_cons (ps_if (pt_cmpR op_lt (pv 4) (pv 9) (nomark _)) (pss_cons (ps_expr (pe_mUse (pv 3) cC u_m_choose (by decide) hr (pa_cons (pv 5) (pa_cons (pv 8) (pa_cons (pv 9) pa_nil)))))
      (pss_one ps_break)) pss_nil)
      (pss_one (ps_aug (i := 4) sc_between_at.nd rfl (Or.inl rfl) (pv 9) ip_sub)))))) pss_nil)))
      (pss_one (ps_ret (pe_callTy (k_tupOf (K := K) rfl) (by rfl) T.tuple (by decide +kernel) (pa_cons (pe_lc (own := [("block", 8)]) rfl sc_between_at.nd (k_tup (K := K) rfl (pv 0)) (blkOk_by (N := ["parting", "other", "number", "made", "ahead", "door", "is_first", "rows", "block", "many"]) (sc := defScope s_between_at) (by decide +kernel)) (fun _ _ _ _ _ => (pg_name (i := 8) sc_between_at.nd rfl (Or.inl rfl))) (fun _ _ _ _ _ => pts_nil) (fun _ _ _ _ _ => (pe_dget (hu_of hr) (k_fld (K := K) rfl (pv 3) rfl) (pv 8) (fun _ _ => rfl)))) pa_nil)))))))))), ?_⟩
    refine ⟨_, rfl, _, rfl, a, b, p, r, rfl, ta, tb, par, parr, hl, fun H1 s1 => ?_⟩
    refine ⟨_, rfl, _, rfl, true, rfl, ?_⟩
    refine ⟨_, rfl, _, _, rfl, rfl, _, rfl, ?_⟩
    rw [decide_eq_false (show ¬ ((n : Nat) : Int) < 0 by omega)]
    refine ⟨_, rfl, _, rfl, a, b, p, r, rfl, ta.mono s1, tb.mono s1, hl, par.le, fun H2 c s2 hc => ⟨c, rfl, ?_⟩⟩
    obtain rfl : c = true := hc.mpr fin
    have s12 := s1.trans s2
    refine ⟨_, rfl, _, rfl, fun o dx no ndx ne => ?_⟩
    have ti : ∀ {c : Addr} {x : List Int}, TI H2 c x → TI (upd (upd H2 dx (.own o)) o (.ins C dx [])) c x := fun {c x} t => by
      have t : H2 c = some (.tup (x.map V.int)) := t
      show upd _ o _ c = _
      rw [upd_ne (ne_of_none t no), upd_ne (ne_of_none t ndx)]
      exact t
    refine ⟨o, dx, a, b, p, r, rfl, upd_same, ti (ta.mono s12), ti (tb.mono s12), hl, par.le, par.rg, parr.rg, fin, fun H3 A bt bd eo ea eb fresh but => ⟨rfl, ?_⟩⟩
    have s23 := made_same no ndx but
    have muN := made_new no ndx fresh
    have s13 := s12.trans s23
    clear fresh but ti ne no ndx
    subst eo ea eb
    have pq : Pq p r := ⟨hl, par.le, par.rg, parr.rg, fin⟩
    have hn2 : n < (comp (lab p r) []).length := by unfold betw at hn; rw [List.length_map] at hn; exact hn
    obtain ⟨dx3, ho3⟩ := bt.obj
    refine ⟨_, rfl, _, rfl, A.o, C, dx3, _, _, rfl, ho3, at_.cC, at_.nN, bF_number, _, _, rfl, rfl, _, rfl, ?_⟩
    have e0 : lab ([] : List Int) ((lab p r).take 0) = [] := rfl
    rw [List.drop_zero, e0, decide_eq_false (show ¬ (((comp (lab p r) []).length : Nat) : Int) ≤ ((n : Nat) : Int) by omega)]
    refine ⟨_, rfl, ?_⟩
    refine ⟨_, rfl, A.pa, p, rfl, bt.ta, par.rg, par.le, fun H4 l s4 nl el => ?_⟩
    have nlmu : l ∉ A.mu := fun h => by
      -- all of the object's cells are there
      have : ∃ u, H3 l = some u := by
        unfold BA.mu at h
        simp only [List.mem_append, List.mem_cons, List.mem_nil_iff, or_false, List.mem_map] at h
        rcases h with (rfl | rfl | rfl) | ⟨x, hx, rfl⟩
        · exact ⟨_, ho3⟩
        · exact ⟨_, bt.left⟩
        · exact ⟨_, bt.blk⟩
        · exact ⟨_, bt.rows x hx⟩
      obtain ⟨u, hu⟩ := this
      rw [hu] at nl
      cases nl
    have bt4 : BT C H4 A p r 0 [] := ⟨⟨dx3, s4 _ _ ho3⟩, bt.ta.mono s4, bt.tb.mono s4, s4 _ _ bt.left, s4 _ _ bt.made, fun x hx => s4 _ _ (bt.rows x hx), s4 _ _ bt.grow, bt.glen, fun l a h => s4 _ _ (bt.grows l a h), s4 _ _ bt.blk, rfl⟩
    have lbl := lab_len (p := p) (q := r) hl
    have lbi : ∀ i : Nat, i ≤ p.length → (bc 0 (p.take i)).toNat ≤ (lab p r).length := fun i hi => by
      have := bc_ge 0 (p.take i)
      have h2 : bc 0 (p.take i) ≤ bc 0 p := by
        rw [← List.take_append_drop i p, bc_app, List.take_append_drop]
        exact bc_ge _ _
      omega
    refine ⟨l, _, rfl, sqL el, for_enumL (K := K) (a := l) (xs := (List.range p.length).map fun i => V.bl (isF p i))
      (fun i σ H5 => ∃ (cs : List Int) (ah : Nat) (y5 y6 y7 y8 y9 : Option V), σ = [some (.ref A.pa), some (.ref A.pb), some (vN n), some (.ref A.o), some (vN ah), y5, y6, y7, y8, y9] ∧ BT C H5 A p r (bc 0 (p.take i)).toNat cs ∧ KeptS H4 H5 A.mu ∧
        ah < (comp ((lab p r).drop (bc 0 (p.take i)).toNat) (lab cs ((lab p r).take (bc 0 (p.take i)).toNat))).length ∧
        (comp (lab p r) [])[n]? = ((comp ((lab p r).drop (bc 0 (p.take i)).toNat) (lab cs ((lab p r).take (bc 0 (p.take i)).toNat)))[ah]?).map (cs ++ ·))
      ⟨[], n, none, none, none, none, none, rfl, bt4, fun c u hc _ => hc, hn2, by
        show _ = ((comp (lab p r) [])[n]?).map _
        cases (comp (lab p r) [])[n]? <;> rfl⟩ (fun i σ H5 ⟨_, _, _, _, _, _, _, _, _, kp, _⟩ => sqL (kp _ _ el nlmu)) ?_ ?_⟩
    · rintro i v T1 σ H5 hi ⟨cs, ah, y5, y6, y7, y8, y9, rfl, bt5, kp, hah, hcs⟩ hT
      obtain ⟨i', hi', rfl⟩ := map_at hi
      have il : i < p.length := by
        have := (List.getElem?_eq_some_iff.mp hi).1
        rw [List.length_map, List.length_range] at this
        exact this
      obtain rfl : i = i' := by
        rw [List.getElem?_range il] at hi'
        exact Option.some.inj hi'
      refine ⟨T1, _, rfl, .inl (.inl upd_same), rfl, _, _, rfl, _, [], rfl, rfl, ?_⟩
      have sT := same_new (H := H5) (o := .tup [.int (i : Nat), .bl (isF p i)]) hT
      generalize upd H5 T1 (.tup [.int (i : Nat), .bl (isF p i)]) = H6 at sT
      obtain ⟨dx5, ho5⟩ := bt5.obj
      have bt6 : BT C H6 A p r (bc 0 (p.take i)).toNat cs := ⟨⟨dx5, sT _ _ ho5⟩, bt5.ta.mono sT, bt5.tb.mono sT, sT _ _ bt5.left, sT _ _ bt5.made, fun x hx => sT _ _ (bt5.rows x hx), sT _ _ bt5.grow, bt5.glen, fun l a h => sT _ _ (bt5.grows l a h), sT _ _ bt5.blk, bt5.len⟩
      have kp6 : KeptS H4 H6 A.mu := fun c u hc hm => sT _ _ (kp c u hc hm)
      have hx : p[i]? = some p[i] := List.getElem?_eq_getElem il
      have bge := bc_ge 0 (p.take i)
      refine ⟨_, rfl, isF p i, rfl, ?_⟩
      by_cases fi : p[i] = bc 0 (p.take i)
      · have eF : isF p i = true := decide_eq_true (by rw [hx, fi])
        rw [eF]
        have bt' : bc 0 (p.take (i + 1)) = bc 0 (p.take i) + 1 := by rw [bc_take hx, if_pos fi]
        obtain ⟨j, hj⟩ : ∃ j, (bc 0 (p.take i)).toNat = j := ⟨_, rfl⟩
        have hj1 : (bc 0 (p.take (i + 1))).toNat = j + 1 := by omega
        have hd : p[i]? = some ((j : Nat) : Int) := by rw [hx, fi]; exact congrArg some (by omega)
        rw [hj] at bt6 hah hcs
        rw [hj1]
        have jl : j < (lab p r).length := by
          have := lbi (i + 1) (by omega)
          omega
        have hq : r[i]? = some r[i] := List.getElem?_eq_getElem (by omega)
        have hjq : (lab p r)[j]? = some r[i] := by
          have := lab_agree hl par.rg fin hd hq
          rw [Int.toNat_natCast] at this
          exact this
        have hdr : (lab p r).drop j = r[i] :: (lab p r).drop (j + 1) := by
          rw [List.drop_eq_getElem_cons jl]
          congr 1
          rw [List.getElem?_eq_getElem jl] at hjq
          exact Option.some.inj hjq
        rw [hdr] at hah hcs
        obtain ⟨dx6, ho6⟩ := bt6.obj
        generalize hrest : (lab p r).drop (j + 1) = rest at hdr hah hcs ⊢
        generalize hls : lab cs ((lab p r).take j) = ls at hah hcs
        have stE : ∀ b, lab (cs ++ [b]) ((lab p r).take (j + 1)) = stp ls r[i] b := fun b => by rw [lab_step hjq bt6.len, hls]
        refine ⟨_, rfl, A.o, dx6, _, rfl, ho6, bF_choices, _, rfl, A, p, r, i, j, cs, r[i], rest, rfl, bt6, bd, pq, hd, hq, hdr, fun H7 L ts s7 nL eL hR => ?_⟩
        rw [hls] at hR
        have bt7 : BT C H7 A p r j cs := ⟨⟨dx6, s7 _ _ ho6⟩, bt6.ta.mono s7, bt6.tb.mono s7, s7 _ _ bt6.left, s7 _ _ bt6.made, fun x hx => s7 _ _ (bt6.rows x hx), s7 _ _ bt6.grow, bt6.glen, fun l a h => s7 _ _ (bt6.grows l a h), s7 _ _ bt6.blk, bt6.len⟩
        have ho7 := s7 _ _ ho6
        refine ⟨_, rfl, L, rfl, ⟨_, sqL eL⟩, for_list (K := K) (a := L) (xs := ts.map V.ref)
          (fun k σ H8 => ∃ (ah : Nat) (y8 y9 : Option V), σ = [some (.ref A.pa), some (.ref A.pb), some (vN n), some (.ref A.o), some (vN ah), some (.int (i : Nat)), some (.bl true), some (.ref L), y8, y9] ∧ H8 = H7 ∧
            ah < (flatP rest ls r[i] ((picks ls r[i]).drop k)).length ∧ (comp (lab p r) [])[n]? = ((flatP rest ls r[i] ((picks ls r[i]).drop k))[ah]?).map (cs ++ ·))
          ⟨ah, y8, y9, rfl, rfl, hah, hcs⟩ (fun k σ H8 _ ⟨_, _, _, _, e, _⟩ => by rw [e]; exact sqL eL) ?_ ?_⟩
        · rintro k v σ H8 hk ⟨ah, y8, y9, rfl, rfl, hah, hcs⟩
          obtain ⟨t, ht, rfl⟩ := map_at hk
          have kl := (List.getElem?_eq_some_iff.mp ht).1
          have kp' : k < (picks ls r[i]).length := by rw [← hR.1]; exact kl
          obtain ⟨b, hb⟩ : ∃ b, (picks ls r[i])[k]? = some b := ⟨_, List.getElem?_eq_getElem kp'⟩
          have et := hR.2 k t b ht hb
          have dk : (picks ls r[i]).drop k = b :: (picks ls r[i]).drop (k + 1) := by
            rw [List.drop_eq_getElem_cons kp']
            congr 1
            rw [List.getElem?_eq_getElem kp'] at hb
            exact Option.some.inj hb
          rw [dk] at hah hcs
          refine ⟨t, _, rfl, .inl (.inl et), rfl, _, _, rfl, _, [], rfl, rfl, ?_⟩
          refine ⟨_, rfl, _, rfl, _, _, rfl, rfl, _, rfl, ite2 (fun lt => ?_) (fun ge => ?_)⟩
          · have lt : ah < (comp rest (stp ls r[i] b)).length := by
              have := of_decide_eq_true lt
              omega
            rw [flatP_lt lt] at hcs
            refine ⟨_, rfl, A.o, dx6, _, rfl, ho7, bF_choose, _, rfl, _, rfl, _, rfl, A, p, r, i, j, cs, r[i], rest, b, by rw [hls]; rfl, bt7, bd, pq, hd, hq, hdr, by rw [hls]; exact List.mem_of_getElem? hb, fun H9 bt9 kp9 => ?_⟩
            refine ⟨cs ++ [b], ah, _, _, _, _, _, rfl, bt9, fun c u hc hm => kp9 c u (s7 _ _ (kp6 c u hc hm)) hm, ?_, ?_⟩
            · rw [stE]
              exact lt
            · rw [stE, hcs, Option.map_map]
              congr 1
              funext x
              show cs ++ b :: x = (cs ++ [b]) ++ x
              rw [List.append_assoc]
              rfl
          · have ge : (comp rest (stp ls r[i] b)).length ≤ ah := by
              have : ¬ ((ah : Nat) : Int) < (((comp rest (stp ls r[i] b)).length : Nat) : Int) := fun z => ge (decide_eq_true z)
              omega
            rw [flatP_ge ge] at hcs
            rw [flatP_len] at hah
            refine ⟨_, rfl, _, rfl, _, _, rfl, rfl, ah - (comp rest (stp ls r[i] b)).length, some (.int b), some (vN (comp rest (stp ls r[i] b)).length), ?_, rfl, by omega, hcs⟩
            have : V.int (((ah : Nat) : Int) - (((comp rest (stp ls r[i] b)).length : Nat) : Int)) = vN (ah - (comp rest (stp ls r[i] b)).length) := congrArg V.int (by omega)
            rw [← this]
            rfl
        · rintro σ H8 ⟨ah, y8, y9, rfl, rfl, hah, hcs⟩
          rw [List.length_map, hR.1, List.drop_length] at hah
          exact absurd hah (Nat.not_lt_zero _)
      · have eF : isF p i = false := decide_eq_false (by rw [hx]; exact fun z => fi (Option.some.inj z))
        rw [eF]
        have bt' : bc 0 (p.take (i + 1)) = bc 0 (p.take i) := by rw [bc_take hx, if_neg fi]
        rw [bt']
        exact ⟨cs, ah, _, _, _, _, _, rfl, bt6, kp6, hah, hcs⟩
    · rintro σ H5 ⟨cs, ah, y5, y6, y7, y8, y9, rfl, bt5, kp, hah, hcs⟩
      rw [List.length_map, List.length_range, List.take_length] at bt5 hah hcs
      have kE : (bc 0 p).toNat = (lab p r).length := by omega
      rw [kE, List.drop_length] at hah hcs
      have a0 : ah = 0 := by
        have : ah < 1 := hah
        omega
      subst a0
      have hcs : (comp (lab p r) [])[n]? = some cs := by
        rw [hcs]
        show some (cs ++ []) = _
        rw [List.append_nil]
      obtain ⟨dx5, ho5⟩ := bt5.obj
      have s15 : Same H H5 := fun c u hc => kp _ _ (s4 _ _ (s13 _ _ hc)) fun hm => by
        have := muN c hm
        rw [s12 _ _ hc] at this
        cases this
      have memp := (rg_mem 0 p (Int.le_refl _) par.rg).1
      refine ⟨_, rfl, A.pa, rfl, ⟨_, bt5.ta.seq⟩, fun G nG => ?_⟩
      refine lc_tup (K := K) (a := A.pa) (xs := p.map V.int) (fun k H6 => Same H5 H6 ∧ H6 G = some (.lst (((p.take k).map fun x => cs.getD x.toNat 0).map V.int))) ⟨same_new nG, upd_same⟩ (fun k H6 _ ⟨s6, _⟩ => (bt5.ta.mono s6).seq) ?_ ?_
      · rintro k v H6 hk ⟨s6, eG⟩
        obtain ⟨x, hx, rfl⟩ := map_at hk
        have kl := (List.getElem?_eq_some_iff.mp hx).1
        have xm := memp x (List.mem_of_getElem? hx)
        have gv : DGet H6 A.db (V.int x) (some (.int (cs.getD x.toNat 0))) := by
          have := DGet.k (k := kI x) (s6 _ _ bt5.blk)
          rw [dF_val, if_pos (List.mem_map.mpr ⟨x.toNat, List.mem_range.mpr (by omega), by omega⟩)] at this
          exact this
        refine ⟨rfl, _, rfl, A.o, C, dx5, _, .ref A.db, rfl, s6 _ _ ho5, at_.cC, at_.nB, bF_blocks, _, rfl, A.db, _, rfl, gv, _, eG, ?_, same_mut s6 nG, ?_⟩
        · rw [List.length_map, List.length_map, List.length_take]
          have := par.le
          exact small_of (by omega)
        · rw [upd_same, take_snoc hx, List.map_append, List.map_append]
          rfl
      rintro H6 ⟨s6, eG⟩
      rw [List.length_map, List.take_length] at eG
      refine ⟨G, _, rfl, .inl ⟨sqL eG, fun t nt => ?_⟩⟩
      refine q _ t (rowOf p cs) ((s15.trans s6).trans (same_new nt)) upd_same ?_
      unfold betw
      rw [List.getElem?_map, hcs]
      rfl
end
end KQ
namespace KQ
open PySem PySem.Spec PyProof.Rows L2 KR KM StX
theorem finer_trans {p r q : List Int} (hl : p.length = r.length) (f1 : Finer p r) (f2 : Finer r q) : Finer p q := fun i j x y z h1 h2 h3 h4 => by
  have i1 := (List.getElem?_eq_some_iff.mp h1).1
  have j1 := (List.getElem?_eq_some_iff.mp h2).1
  have ri : r[i]? = some r[i] := List.getElem?_eq_getElem (by omega)
  have rj : r[j]? = some r[j] := List.getElem?_eq_getElem (by omega)
  have e := f1 i j x _ _ h1 h2 ri rj
  rw [← e] at rj
  exact f2 i j _ y z ri rj h3 h4
theorem up_uniqI {L : List (List Int)} (h : L.Pairwise fun x y => HT.lexLt x y = true) {i j : Nat} {x : List Int} (hi : L[i]? = some x) (hj : L[j]? = some x) : i = j := by
  have il := List.getElem?_eq_some_iff.mp hi
  have jl := List.getElem?_eq_some_iff.mp hj
  have irr : ∀ z : List Int, HT.lexLt z z = false := fun z => by
    cases e : HT.lexLt z z with
    | false => rfl
    | true => rw [lex_asym _ _ e] at e; cases e
  rcases Nat.lt_trichotomy i j with c | c | c
  · have := List.pairwise_iff_getElem.mp h i j il.1 jl.1 c
    rw [il.2, jl.2, irr] at this
    cases this
  · exact c
  · have := List.pairwise_iff_getElem.mp h j i jl.1 il.1 c
    rw [il.2, jl.2, irr] at this
    cases this
section
variable {P : Program} {w : World} {K : PySem.W.Frag} {mg : Str → Option Value} {base : Heap}
abbrev s_number_between : Stmt := topS 22
theorem sc_number_between : FnScope ["parting", "other", "third", "made", "ahead", "door", "is_first", "rows", "block", "many"] ["parting", "other", "third"] (defScope s_number_between) := ⟨rfl, rfl, rfl, by decide +kernel, rfl, by decide +kernel, by decide +kernel⟩
def spNB : Sp := fun vs H Q _ => ∃ a b c p q t, vs = [.ref a, .ref b, .ref c] ∧ TI H a p ∧ TI H b q ∧ TI H c t ∧ Par p ∧ Par q ∧ Par t ∧ p.length = q.length ∧ t.length = p.length ∧
  ∀ H', Same H H' → (Finer p t → Finer t q → ∀ n : Nat, (betw p q)[n]? = some t → Q (vN n) H') ∧ (¬ (Finer p t ∧ Finer t q) → Q .non H')
theorem ok_number_between {C : Addr} (D : DefAt K mg "number_between" s_number_between) (T : Bt mg) (at_ : Atts K C) (u_need_two_partings : Use P w K mg base "need_two_partings" 6 ["parting", "other"] spTwo) (u_need_parting_of : Use P w K mg base "need_parting_of" 5 ["parting", "doors"] spNeedOf)
    (u_lies_within : Use P w K mg base "lies_within" 1 ["parting", "other"] spLies) (u_first_doors : Use P w K mg base "first_doors" 1 ["parting"] spFirstD) (u_Between : KUse P w K mg base C "Between" 2 ["self", "parting", "other"] (spBInit C))
    (u_m_choices : MUse P w K mg base C "choices" 1 ["self", "door"] (spChoices C)) (u_m_choose : MUse P w K mg base C "choose" 1 ["self", "door", "block", "number"] (spChoose C)) : Use P w K mg base "number_between" 7 ["parting", "other", "third"] spNB := by
  have cC := at_.cC
  refine use_of D (fun f fd F => F.ok sc_number_between (fun vs H Q E h => ?_) (fun cdv A outer s H vs Q E hr h => ?_)) (fun _ _ _ _ _ _ us hl => match us, hl with | [_, _, _], _ => rfl)
  · obtain ⟨a, b, c, p, r, t, rfl, _⟩ := h
    rfl
  · obtain ⟨a, b, w3, p, r, tr, rfl, ta, tb, tc, par, parr, part, hl, hlt, q⟩ := h
    refine ⟨_, (pss_cons (ps_expr (pe_use u_need_two_partings (by decide) hr (by rfl) (pa_cons (pv 0) (pa_cons (pv 1) pa_nil))))
      (pss_cons (ps_expr (pe_use u_need_parting_of (by decide) hr (by rfl) (pa_cons (pv 2) (pa_cons (pe_callB (k_len (K := K) rfl) (by rfl) T.len PySem.boot_len (pa_cons (pv 0) pa_nil)) pa_nil))))
      (pss_cons (ps_if (PW.pt (pw_or (pt_not (pt_val (pe_use u_lies_within (by decide) hr (by rfl) (pa_cons (pv 0) (pa_cons (pv 2) pa_nil))))) (pw_or1 (pt_not (pt_val (pe_use u_lies_within (by decide) hr (by rfl) (pa_cons (pv 2) (pa_cons (pv 1) pa_nil)))))))) (pss_one (ps_ret pe_non)) pss_nil)
      (pss_cons (ps_set (i := 3) sc_number_between.nd rfl (Or.inl rfl) (pe_kUse u_Between (by decide) hr (by rfl) (pa_cons (pv 0) (pa_cons (pv 1) pa_nil))))
      (pss_cons (ps_set (i := 4) sc_number_between.nd rfl (Or.inl rfl) pe_int)
      (pss_cons (ps_for PassesOwn.never rfl (k_enum (K := K) rfl (by rfl) T.enumerate (pa_cons (pe_use u_first_doors (by decide) hr (by rfl) (pa_cons (pv 0) pa_nil)) pa_nil)) (pg_tup rfl (pgs_cons (pg_name (i := 5) sc_number_between.nd rfl (Or.inl rfl)) (pgs_cons (pg_name (i := 6) sc_number_between.nd rfl (Or.inl rfl)) pgs_nil)))
      (pss_one (ps_if (pt_val (pv 6)) (pss_cons (ps_set (i := 7) sc_number_between.nd rfl (Or.inl rfl) (pe_mUse (pv 3) cC u_m_choices (by decide) hr (pa_cons (pv 5) pa_nil)))
      (pss_one (ps_for PassesOwn.never rfl (k_list (K := K) rfl (pv 7)) (pg_tup rfl (pgs_cons (pg_name (i := 8) sc_number_between.nd rfl (Or.inl rfl)) (pgs_cons (pg_name (i := 9) sc_number_between.nd rfl (Or.inl rfl)) pgs_nil)))
      (pss_cons (ps_if (pt_cmpR op_eq (pv 8) (pe_ix (k_ixt (K := K) rfl) (pv 2) (pv 5) (fun _ _ => rfl)) (nomark _)) (pss_cons (ps_expr (pe_mUse (pv 3) cC u_m_choose (by decide) hr (pa_cons (pv 5) (pa_cons (pv 8) (pa_cons (pv 9) pa_nil)))))
      (pss_one ps_break)) pss_nil)
      (pss_one (ps_aug (i := 4) sc_number_between.nd rfl (Or.inl rfl) (pv 9) ip_add)))))) pss_nil)))
      (pss_one (ps_ret (pv 4))))))))), ?_⟩
    refine ⟨_, rfl, _, rfl, a, b, p, r, rfl, ta, tb, par, parr, hl, fun H0 s0 => ?_⟩
    refine ⟨_, rfl, _, rfl, a, _, rfl, .inr (ta.mono s0).seq, w3, tr, by rw [List.length_map, hlt]; rfl, tc.mono s0, part, fun H1 s01 => ?_⟩
    have s1 := s0.trans s01
    refine ⟨_, rfl, _, rfl, a, w3, p, tr, rfl, ta.mono s1, tc.mono s1, hlt.symm, par.le, fun Ha c1 sa hc1 => ⟨c1, rfl, ?_⟩⟩
    cases c1 with
    | false => exact (q Ha (s1.trans sa)).2 fun z => by have := hc1.mpr z.1; cases this
    | true =>
    have f1 := hc1.mp rfl
    refine ⟨_, rfl, _, rfl, w3, b, tr, r, rfl, (tc.mono s1).mono sa, (tb.mono s1).mono sa, by omega, part.le, fun H2 c2 s2' hc2 => ⟨c2, rfl, ?_⟩⟩
    have s12 := (s1.trans sa).trans s2'
    cases c2 with
    | false => exact (q H2 s12).2 fun z => by have := hc2.mpr z.2; cases this
    | true =>
    have f2 := hc2.mp rfl
    have fin := finer_trans hlt.symm f1 f2
    have q := fun H' (s' : Same H H') => (q H' s').1 f1 f2
    refine ⟨_, rfl, _, rfl, fun o dx no ndx ne => ?_⟩
    have ti : ∀ {c : Addr} {x : List Int}, TI H2 c x → TI (upd (upd H2 dx (.own o)) o (.ins C dx [])) c x := fun {c x} t => by
      have t : H2 c = some (.tup (x.map V.int)) := t
      show upd _ o _ c = _
      rw [upd_ne (ne_of_none t no), upd_ne (ne_of_none t ndx)]
      exact t
    refine ⟨o, dx, a, b, p, r, rfl, upd_same, ti (ta.mono s12), ti (tb.mono s12), hl, par.le, par.rg, parr.rg, fin, fun H3 A bt bd eo ea eb fresh but => ⟨rfl, ?_⟩⟩
    have s23 := made_same no ndx but
    have muN := made_new no ndx fresh
    have s13 := s12.trans s23
    clear fresh but ti ne no ndx
    subst eo ea eb
    have pq : Pq p r := ⟨hl, par.le, par.rg, parr.rg, fin⟩
    obtain ⟨dx3, ho3⟩ := bt.obj
    have e0 : lab ([] : List Int) ((lab p r).take 0) = [] := rfl
    have tcN : w3 ∉ A.mu := fun hm => by
      have h1 := muN w3 hm
      have h2 : H w3 = some (.tup (tr.map V.int)) := tc
      rw [s12 _ _ h2] at h1
      cases h1
    have tc3 : TI H3 w3 tr := (tc.mono s12).mono s23
    refine ⟨_, rfl, A.pa, p, rfl, bt.ta, par.rg, par.le, fun H4 l s4 nl el => ?_⟩
    have nlmu : l ∉ A.mu := fun h => by
      -- all of the object's cells are there
      have : ∃ u, H3 l = some u := by
        unfold BA.mu at h
        simp only [List.mem_append, List.mem_cons, List.mem_nil_iff, or_false, List.mem_map] at h
        rcases h with (rfl | rfl | rfl) | ⟨x, hx, rfl⟩
        · exact ⟨_, ho3⟩
        · exact ⟨_, bt.left⟩
        · exact ⟨_, bt.blk⟩
        · exact ⟨_, bt.rows x hx⟩
      obtain ⟨u, hu⟩ := this
      rw [hu] at nl
      cases nl
    have bt4 : BT C H4 A p r 0 [] := ⟨⟨dx3, s4 _ _ ho3⟩, bt.ta.mono s4, bt.tb.mono s4, s4 _ _ bt.left, s4 _ _ bt.made, fun x hx => s4 _ _ (bt.rows x hx), s4 _ _ bt.grow, bt.glen, fun l a h => s4 _ _ (bt.grows l a h), s4 _ _ bt.blk, rfl⟩
    have lbl := lab_len (p := p) (q := r) hl
    have lbi : ∀ i : Nat, i ≤ p.length → (bc 0 (p.take i)).toNat ≤ (lab p r).length := fun i hi => by
      have := bc_ge 0 (p.take i)
      have h2 : bc 0 (p.take i) ≤ bc 0 p := by
        rw [← List.take_append_drop i p, bc_app, List.take_append_drop]
        exact bc_ge _ _
      omega
    refine ⟨l, _, rfl, sqL el, for_enumL (K := K) (a := l) (xs := (List.range p.length).map fun i => V.bl (isF p i))
      (fun i σ H5 => ∃ (cs : List Int) (ah : Nat) (y5 y6 y7 y8 y9 : Option V), σ = [some (.ref A.pa), some (.ref A.pb), some (.ref w3), some (.ref A.o), some (vN ah), y5, y6, y7, y8, y9] ∧ BT C H5 A p r (bc 0 (p.take i)).toNat cs ∧ KeptS H4 H5 A.mu ∧
        cs = (lab p tr).take (bc 0 (p.take i)).toNat ∧ Ok ((lab p r).drop (bc 0 (p.take i)).toNat) (lab cs ((lab p r).take (bc 0 (p.take i)).toNat)) ((lab p tr).drop (bc 0 (p.take i)).toNat) ∧
        ∀ (x : Nat) (y : List Int), (comp ((lab p r).drop (bc 0 (p.take i)).toNat) (lab cs ((lab p r).take (bc 0 (p.take i)).toNat)))[x]? = some y → (comp (lab p r) [])[ah + x]? = some (cs ++ y))
      ⟨[], 0, none, none, none, none, none, rfl, bt4, fun c u hc _ => hc, rfl, mem_comp.mp (lab_back hl hlt par.rg part.rg fin f1 f2), fun x y h => by
        rw [Nat.zero_add]
        exact h⟩ (fun i σ H5 ⟨_, _, _, _, _, _, _, _, _, kp, _⟩ => sqL (kp _ _ el nlmu)) ?_ ?_⟩
    · rintro i v T1 σ H5 hi ⟨cs, ah, y5, y6, y7, y8, y9, rfl, bt5, kp, ecs, hok, hcs⟩ hT
      obtain ⟨i', hi', rfl⟩ := map_at hi
      have il : i < p.length := by
        have := (List.getElem?_eq_some_iff.mp hi).1
        rw [List.length_map, List.length_range] at this
        exact this
      obtain rfl : i = i' := by
        rw [List.getElem?_range il] at hi'
        exact Option.some.inj hi'
      refine ⟨T1, _, rfl, .inl (.inl upd_same), rfl, _, _, rfl, _, [], rfl, rfl, ?_⟩
      have sT := same_new (H := H5) (o := .tup [.int (i : Nat), .bl (isF p i)]) hT
      generalize upd H5 T1 (.tup [.int (i : Nat), .bl (isF p i)]) = H6 at sT
      obtain ⟨dx5, ho5⟩ := bt5.obj
      have bt6 : BT C H6 A p r (bc 0 (p.take i)).toNat cs := ⟨⟨dx5, sT _ _ ho5⟩, bt5.ta.mono sT, bt5.tb.mono sT, sT _ _ bt5.left, sT _ _ bt5.made, fun x hx => sT _ _ (bt5.rows x hx), sT _ _ bt5.grow, bt5.glen, fun l a h => sT _ _ (bt5.grows l a h), sT _ _ bt5.blk, bt5.len⟩
      have kp6 : KeptS H4 H6 A.mu := fun c u hc hm => sT _ _ (kp c u hc hm)
      have hx : p[i]? = some p[i] := List.getElem?_eq_getElem il
      have bge := bc_ge 0 (p.take i)
      refine ⟨_, rfl, isF p i, rfl, ?_⟩
      by_cases fi : p[i] = bc 0 (p.take i)
      · have eF : isF p i = true := decide_eq_true (by rw [hx, fi])
        rw [eF]
        have bt' : bc 0 (p.take (i + 1)) = bc 0 (p.take i) + 1 := by rw [bc_take hx, if_pos fi]
        obtain ⟨j, hj⟩ : ∃ j, (bc 0 (p.take i)).toNat = j := ⟨_, rfl⟩
        have hj1 : (bc 0 (p.take (i + 1))).toNat = j + 1 := by omega
        have hd : p[i]? = some ((j : Nat) : Int) := by rw [hx, fi]; exact congrArg some (by omega)
        rw [hj] at bt6 ecs hok hcs
        rw [hj1]
        have jl : j < (lab p r).length := by
          have := lbi (i + 1) (by omega)
          omega
        have hq : r[i]? = some r[i] := List.getElem?_eq_getElem (by omega)
        have hjq : (lab p r)[j]? = some r[i] := by
          have := lab_agree hl par.rg fin hd hq
          rw [Int.toNat_natCast] at this
          exact this
        have hdr : (lab p r).drop j = r[i] :: (lab p r).drop (j + 1) := by
          rw [List.drop_eq_getElem_cons jl]
          congr 1
          rw [List.getElem?_eq_getElem jl] at hjq
          exact Option.some.inj hjq
        rw [hdr] at hok hcs
        obtain ⟨dx6, ho6⟩ := bt6.obj
        generalize hrest : (lab p r).drop (j + 1) = rest at hdr hok hcs ⊢
        generalize hls : lab cs ((lab p r).take j) = ls at hok hcs
        have stE : ∀ b, lab (cs ++ [b]) ((lab p r).take (j + 1)) = stp ls r[i] b := fun b => by rw [lab_step hjq bt6.len, hls]
        refine ⟨_, rfl, A.o, dx6, _, rfl, ho6, bF_choices, _, rfl, A, p, r, i, j, cs, r[i], rest, rfl, bt6, bd, pq, hd, hq, hdr, fun H7 L ts s7 nL eL hR => ?_⟩
        rw [hls] at hR
        have bt7 : BT C H7 A p r j cs := ⟨⟨dx6, s7 _ _ ho6⟩, bt6.ta.mono s7, bt6.tb.mono s7, s7 _ _ bt6.left, s7 _ _ bt6.made, fun x hx => s7 _ _ (bt6.rows x hx), s7 _ _ bt6.grow, bt6.glen, fun l a h => s7 _ _ (bt6.grows l a h), s7 _ _ bt6.blk, bt6.len⟩
        have ho7 := s7 _ _ ho6
        have htr : tr[i]? = some tr[i] := List.getElem?_eq_getElem (by omega)
        have hlt' := lab_len (p := p) (q := tr) hlt.symm
        have htj : (lab p tr)[j]? = some tr[i] := by
          have := lab_agree hlt.symm par.rg f1 hd htr
          rw [Int.toNat_natCast] at this
          exact this
        have hdt : (lab p tr).drop j = tr[i] :: (lab p tr).drop (j + 1) := by
          have jl2 := (List.getElem?_eq_some_iff.mp htj).1
          rw [List.drop_eq_getElem_cons jl2]
          congr 1
          rw [List.getElem?_eq_getElem jl2] at htj
          exact Option.some.inj htj
        rw [hdt] at hok
        obtain ⟨hpk, hok⟩ := hok
        have tc7 : TI H7 w3 tr := (show TI H6 w3 tr from kp6 _ _ (tc3.mono s4) tcN).mono s7
        refine ⟨_, rfl, L, rfl, ⟨_, sqL eL⟩, for_list (K := K) (a := L) (xs := ts.map V.ref)
          (fun k σ H8 => ∃ (ah : Nat) (y8 y9 : Option V), σ = [some (.ref A.pa), some (.ref A.pb), some (.ref w3), some (.ref A.o), some (vN ah), some (.int (i : Nat)), some (.bl true), some (.ref L), y8, y9] ∧ H8 = H7 ∧
            tr[i] ∈ (picks ls r[i]).drop k ∧ ∀ (x : Nat) (y : List Int), (flatP rest ls r[i] ((picks ls r[i]).drop k))[x]? = some y → (comp (lab p r) [])[ah + x]? = some (cs ++ y))
          ⟨ah, y8, y9, rfl, rfl, hpk, hcs⟩ (fun k σ H8 _ ⟨_, _, _, _, e, _⟩ => by rw [e]; exact sqL eL) ?_ ?_⟩
        · rintro k v σ H8 hk ⟨ah, y8, y9, rfl, rfl, hmem, hcs⟩
          obtain ⟨t, ht, rfl⟩ := map_at hk
          have kl := (List.getElem?_eq_some_iff.mp ht).1
          have kp' : k < (picks ls r[i]).length := by rw [← hR.1]; exact kl
          obtain ⟨b, hb⟩ : ∃ b, (picks ls r[i])[k]? = some b := ⟨_, List.getElem?_eq_getElem kp'⟩
          have et := hR.2 k t b ht hb
          have dk : (picks ls r[i]).drop k = b :: (picks ls r[i]).drop (k + 1) := by
            rw [List.drop_eq_getElem_cons kp']
            congr 1
            rw [List.getElem?_eq_getElem kp'] at hb
            exact Option.some.inj hb
          rw [dk] at hmem hcs
          refine ⟨t, _, rfl, .inl (.inl et), rfl, _, _, rfl, _, [], rfl, rfl, ?_⟩
          refine ⟨_, rfl, _, rfl, _, rfl, w3, _, _, .int tr[i], rfl, rfl, tc7.seq, atI_of (j := i) rfl (at_map htr), rfl, _, rfl, ite2 (fun eq => ?_) (fun nq => ?_)⟩
          · have eb : b = tr[i] := V.int.inj (of_decide_eq_true eq)
            subst eb
            refine ⟨_, rfl, A.o, dx6, _, rfl, ho7, bF_choose, _, rfl, _, rfl, _, rfl, A, p, r, i, j, cs, r[i], rest, tr[i], by rw [hls]; rfl, bt7, bd, pq, hd, hq, hdr, by rw [hls]; exact hpk, fun H9 bt9 kp9 => ?_⟩
            refine ⟨cs ++ [tr[i]], ah, _, _, _, _, _, rfl, bt9, fun c u hc hm => kp9 c u (s7 _ _ (kp6 c u hc hm)) hm, ?_, ?_, fun x y hxy => ?_⟩
            · rw [ecs, take_snoc htj]
            · rw [stE]
              exact hok
            · rw [stE] at hxy
              have := hcs x (tr[i] :: y) (by
                rw [flatP_lt (List.getElem?_eq_some_iff.mp hxy).1, hxy]
                rfl)
              rw [this, List.append_assoc]
              rfl
          · have nb : b ≠ tr[i] := fun z => nq (decide_eq_true (by rw [z]))
            refine ⟨_, rfl, _, rfl, _, _, rfl, rfl, ah + (comp rest (stp ls r[i] b)).length, some (.int b), some (vN (comp rest (stp ls r[i] b)).length), ?_, rfl, (List.mem_cons.mp hmem).resolve_left fun z => nb z.symm, fun x y hxy => ?_⟩
            · have : V.int (((ah : Nat) : Int) + (((comp rest (stp ls r[i] b)).length : Nat) : Int)) = vN (ah + (comp rest (stp ls r[i] b)).length) := congrArg V.int (by omega)
              rw [← this]
              rfl
            · have := hcs ((comp rest (stp ls r[i] b)).length + x) y (by
                rw [flatP_ge (Nat.le_add_right _ _), Nat.add_sub_cancel_left]
                exact hxy)
              rw [← this, Nat.add_assoc]
        · rintro σ H8 ⟨ah, y8, y9, rfl, rfl, hmem, hcs⟩
          rw [List.length_map, hR.1, List.drop_length] at hmem
          cases hmem
      · have eF : isF p i = false := decide_eq_false (by rw [hx]; exact fun z => fi (Option.some.inj z))
        rw [eF]
        have bt' : bc 0 (p.take (i + 1)) = bc 0 (p.take i) := by rw [bc_take hx, if_neg fi]
        rw [bt']
        exact ⟨cs, ah, _, _, _, _, _, rfl, bt6, kp6, ecs, hok, hcs⟩
    · rintro σ H5 ⟨cs, ah, y5, y6, y7, y8, y9, rfl, bt5, kp, ecs, hok, hcs⟩
      rw [List.length_map, List.length_range, List.take_length] at ecs hcs
      have kE : (bc 0 p).toNat = (lab p r).length := by omega
      have kE2 : (bc 0 p).toNat = (lab p tr).length := by
        have := lab_len (p := p) (q := tr) hlt.symm
        omega
      have e1 : (comp (lab p r) [])[ah]? = some cs := by
        have := hcs 0 [] (by rw [kE, List.drop_length]; rfl)
        rw [List.append_nil] at this
        exact this
      rw [kE2, List.take_length] at ecs
      have s15 : Same H H5 := fun c u hc => kp _ _ (s4 _ _ (s13 _ _ hc)) fun hm => by
        have := muN c hm
        rw [s12 _ _ hc] at this
        cases this
      refine ⟨_, rfl, q H5 s15 ah ?_⟩
      unfold betw
      rw [List.getElem?_map, e1, ecs]
      exact congrArg some (rowOf_lab hlt.symm par.rg f1)
end
end KQ
/-! a def of the text called in a try's body -/
namespace KR
open PySem PySem.Spec PyProof.Rows L2
def tCallW (sp : Sp) (W : WX) (t : TA) : TE := fun σ H Q => t σ H fun vs H1 => sp vs H1 Q (fun cls d H' => W cls d σ H')
section
variable {X : Cx} {k j : Nat} {ps : List Str} {sp : Sp} {W : WX} {x : Str} {p pos : Pos} {e : Expr} {es : List Expr} {t : TA}
theorem pe_usexW (u : UseX X.prog X.w X.K X.mg X.base x j ps sp) (tk : Takes X W) (le : j ≤ k) (hr : Room k X.A) (hg : Gl X x) (ha : PA X (e :: es) t)
    (hdb : (x == ("__debug__" : Str)) = false := by decide) (he : starEach (e :: es) X.env = (false, eval e X.env) :: starEach es X.env := by rfl)
    (hpl : (backTo pos (starEach es X.env)).any (·.1) = false := by rfl) : PE X (.Call (.Name x p) (e :: es) [] pos) (tCallW sp W t) := by
  obtain ⟨f, fd, F, hm, kp, b⟩ := u
  refine ⟨fun pins s σ H Q I h => ?_⟩
  refine wpAny_Call_Name_kw (ld_glob I hg hm ?_ hdb)
  refine PySem.W.callWith_K (h₀ := X.base) I.ok.mod.kin kp (thn (ha.run pos pins s σ _ _ I h) fun us s2 ⟨vs, H2, I2, r, q⟩ => ⟨I2.kIn, ?_⟩) he hpl
  have q' : sp (vs ++ []) H2 Q (fun cls d H' => W cls d σ H') := by rw [List.append_nil]; exact q
  refine run_fnSD (E := fun σ cls d H' => W cls d σ H') (dvs := []) (ds := []) F (hr.mono le) b .nil (fun pins H s e s' I c => ?_) I2 r q'
  exact tk e s' (XE.of_call I (fun _ _ _ h => h) c)
end
end KR
namespace KQ
open PySem PySem.Spec PyProof.Rows L2 KR KM StX
theorem foldl_prd (f : Int → Nat) : ∀ (D : List Int) (a : Nat), (D.map f).foldl (· * ·) a = a * prd f D
  | [], a => (Nat.mul_one a).symm
  | x :: r, a => by
    show (r.map f).foldl (· * ·) (a * f x) = a * (f x * prd f r)
    rw [foldl_prd f r, Nat.mul_assoc]
theorem foldl_ge : ∀ (ns : List Nat) (a : Nat), (∀ x ∈ ns, 0 < x) → a ≤ ns.foldl (· * ·) a
  | [], a, _ => Nat.le_refl a
  | x :: r, a, h => Nat.le_trans (Nat.le_mul_of_pos_right a (h x List.mem_cons_self)) (foldl_ge r (a * x) fun y hy => h y (List.mem_cons_of_mem _ hy))
theorem foldl_take {ns : List Nat} (h : ∀ x ∈ ns, 0 < x) (k : Nat) : (ns.take k).foldl (· * ·) 1 ≤ ns.foldl (· * ·) 1 := by
  conv => rhs; rw [← List.take_append_drop k ns, List.foldl_append]
  exact foldl_ge _ _ fun x hx => h x (List.mem_of_mem_drop hx)
/-- what the first row says where the second says x -/
def mtU (p q : List Int) (x : Int) : List Int := ((p.zip q).filter fun z => decide (z.2 = x)).map (·.1)
theorem mem_mtU {p q : List Int} {x lo : Int} : lo ∈ mtU p q x ↔ ∃ i : Nat, p[i]? = some lo ∧ q[i]? = some x := by
  unfold mtU
  rw [List.mem_map]
  constructor
  · rintro ⟨z, hz, rfl⟩
    obtain ⟨h1, h2⟩ := List.mem_filter.mp hz
    obtain ⟨i, hi⟩ := List.mem_iff_getElem?.mp h1
    rw [List.getElem?_zip_eq_some] at hi
    exact ⟨i, hi.1, by rw [hi.2, of_decide_eq_true h2]⟩
  · rintro ⟨i, h1, h2⟩
    exact ⟨(lo, x), List.mem_filter.mpr ⟨List.mem_iff_getElem?.mpr ⟨i, by rw [List.getElem?_zip_eq_some]; exact ⟨h1, h2⟩⟩, decide_eq_true rfl⟩, rfl⟩
theorem mtU_snoc {p q : List Int} {x u v : Int} {i : Nat} (hu : p[i]? = some u) (hv : q[i]? = some v) : mtU (p.take (i + 1)) (q.take (i + 1)) x = mtU (p.take i) (q.take i) x ++ if v = x then [u] else [] := by
  unfold mtU
  have lp := (List.getElem?_eq_some_iff.mp hu).1
  have lq := (List.getElem?_eq_some_iff.mp hv).1
  rw [List.take_succ, List.take_succ, hu, hv, List.zip_append (by rw [List.length_take, List.length_take]; omega), List.filter_append, List.map_append]
  refine congrArg _ ?_
  show ((([u].zip [v]).filter _).map _ : List Int) = _
  show (([(u, v)].filter _).map _ : List Int) = _
  by_cases e : v = x
  · rw [if_pos e, List.filter_cons, if_pos (decide_eq_true e)]
    rfl
  · rw [if_neg e, List.filter_cons, if_neg (by simpa using e)]
    rfl
theorem mtU_le (p q : List Int) (x : Int) : (mtU p q x).length ≤ p.length := by
  unfold mtU
  rw [List.length_map]
  refine Nat.le_trans (List.length_filter_le _ _) ?_
  rw [List.length_zip]
  omega
theorem betw_prd {p q : List Int} (hl : p.length = q.length) (rp : Rg 0 p) (rq : Rg 0 q) (fp : Finer p q) :
    (betw p q).length = ((List.range (bc 0 q).toNat).map fun k => gr ((lab p q).count ((k : Nat) : Int)) 0).foldl (· * ·) 1 := by
  unfold betw
  rw [List.length_map]
  have D : ((List.range (bc 0 q).toNat).map fun k => gr ((lab p q).count ((k : Nat) : Int)) 0) = ((List.range (bc 0 q).toNat).map fun k => ((k : Nat) : Int)).map fun x => gr ((lab p q).count x) 0 := by
    rw [List.map_map]
    rfl
  rw [D, foldl_prd, Nat.one_mul]
  have nd : ((List.range (bc 0 q).toNat).map fun k => ((k : Nat) : Int)).Nodup := by
    rw [List.nodup_iff_pairwise_ne, List.pairwise_map]
    exact List.nodup_range.imp fun h e => h (by omega)
  have := comp_prd nd (lab p q) [] (fun x hx => ?_)
  · exact this
  · obtain ⟨k, hk⟩ := List.mem_iff_getElem?.mp hx
    obtain ⟨i, _, h2⟩ := (mem_lab hl rp fp).mp (mem_olds.mpr hk)
    have := (rg_mem 0 q (Int.le_refl _) rq).1 x (List.mem_of_getElem? h2)
    exact List.mem_map.mpr ⟨x.toNat, List.mem_range.mpr (by omega), by omega⟩
theorem betw_big {p q : List Int} (hl : p.length = q.length) (h : p.length ≤ 60) : (betw p q).length < 2 ^ 360 := by
  unfold betw
  rw [List.length_map]
  have := lab_len (p := p) (q := q) hl
  have h2 := bc_le 0 p
  refine comp_big ?_
  show _ + 0 ≤ 60
  omega
end KQ
namespace KQ
open PySem PySem.Spec PyProof.Rows L2 KR KM StX
section
variable {P : Program} {w : World} {K : PySem.W.Frag} {mg : Str → Option Value} {base : Heap}
/-- a number that is refused: the second lies not above the first -/
def spAtX (CN : Addr) : Sp := fun vs H _ E => ∃ a b p q n, vs = [.ref a, .ref b, vN n] ∧ TI H a p ∧ TI H b q ∧ Par p ∧ Par q ∧ p.length = q.length ∧ ¬ Finer p q ∧ ∀ H' d, Same H H' → H' d = some (.xd [("value", vN n)]) → E (.ref CN) (some d) H'
theorem ok_between_atX {C CN : Addr} (D : DefAt K mg "between_at" s_between_at) (T : Bt mg) (at_ : Atts K C) (e_BadNumber : ErrC P w K mg base "BadNumber" CN "value") (u_need_two_partings : Use P w K mg base "need_two_partings" 6 ["parting", "other"] spTwo)
    (u_lies_within : Use P w K mg base "lies_within" 1 ["parting", "other"] spLies)
    (u_is_integer : Use P w K mg base "is_integer" 1 ["value"] spIsInteger) (u_first_doors : Use P w K mg base "first_doors" 1 ["parting"] spFirstD) (u_Between : KUse P w K mg base C "Between" 2 ["self", "parting", "other"] (spBInit C))
    (u_m_choices : MUse P w K mg base C "choices" 1 ["self", "door"] (spChoices C)) (u_m_choose : MUse P w K mg base C "choose" 1 ["self", "door", "block", "number"] (spChoose C)) : UseX P w K mg base "between_at" 7 ["parting", "other", "number"] (spAtX CN) := by
  have cC := at_.cC
  refine usex_of D (fun f fd F => okX F sc_between_at (fun vs H Q E h => ?_) (fun cdv A outer s H vs Q E tk po hr h => ?_)) (fun _ _ _ _ _ _ us hl => match us, hl with | [_, _, _], _ => rfl)
  · obtain ⟨a, b, p, r, n, rfl, _⟩ := h
    rfl
  · obtain ⟨a, b, p, r, n, rfl, ta, tb, par, parr, hl, nf, q⟩ := h
    refine ⟨_, (pss_cons (ps_expr (pe_use u_need_two_partings (by decide) hr (by rfl) (pa_cons (pv 0) (pa_cons (pv 1) pa_nil))))
      (pss_cons (ps_if (PW.pt (pw_or (pt_not (pt_val (pe_use u_is_integer (by decide) hr (by rfl) (pa_cons (pv 2) pa_nil)))) (pw_or (pt_cmpR op_lt (pv 2) pe_int (nomark _)) (pw_or1 (pt_not (pt_val (pe_use u_lies_within (by decide) hr (by rfl) (pa_cons (pv 0) (pa_cons (pv 1) pa_nil))))))))) (pss_one (ps_raise rfl tk (pmk_err e_BadNumber (hr.mono (by decide)) (by rfl) (pa_cons (pv 2) pa_nil)))) pss_nil)
      (pss_cons (ps_set (i := 3) sc_between_at.nd rfl (Or.inr rfl) (pe_kUse u_Between (by decide) hr (by rfl) (pa_cons (pv 0) (pa_cons (pv 1) pa_nil))))
      (pss_cons (ps_if (pt_cmpR op_ge (pv 2) (k_fld (K := K) rfl (pv 3) rfl) (nomark _)) (pss_one (ps_raise rfl tk (pmk_err e_BadNumber (hr.mono (by decide)) (by rfl) (pa_cons (pv 2) pa_nil)))) pss_nil)
      (pss_cons (ps_set (i := 4) sc_between_at.nd rfl (Or.inl rfl) (pv 2))
      (pss_cons (ps_for po rfl (k_enum (K := K) rfl (by rfl) T.enumerate (pa_cons (pe_use u_first_doors (by decide) hr (by rfl) (pa_cons (pv 0) pa_nil)) pa_nil)) (pg_tup rfl (pgs_cons (pg_name (i := 5) sc_between_at.nd rfl (Or.inl rfl)) (pgs_cons (pg_name (i := 6) sc_between_at.nd rfl (Or.inl rfl)) pgs_nil)))
      (pss_one (ps_if (pt_val (pv 6)) (pss_cons (ps_set (i := 7) sc_between_at.nd rfl (Or.inl rfl) (pe_mUse (pv 3) cC u_m_choices (by decide) hr (pa_cons (pv 5) pa_nil)))
      (pss_one (ps_for po rfl (k_list (K := K) rfl (pv 7)) (pg_tup rfl (pgs_cons (pg_name (i := 8) sc_between_at.nd rfl (Or.inl rfl)) (pgs_cons (pg_name (i := 9) sc_between_at.nd rfl (Or.inl rfl)) pgs_nil)))
      (pss_cons (ps_if (pt_cmpR op_lt (pv 4) (pv 9) (nomark _)) (pss_cons (ps_expr (pe_mUse (pv 3) cC u_m_choose (by decide) hr (pa_cons (pv 5) (pa_cons (pv 8) (pa_cons (pv 9) pa_nil)))))
      (pss_one ps_break)) pss_nil)
      (pss_one (ps_aug (i := 4) sc_between_at.nd rfl (Or.inl rfl) (pv 9) ip_sub)))))) pss_nil)))
      (pss_one (ps_ret (pe_callTy (k_tupOf (K := K) rfl) (by rfl) T.tuple (by decide +kernel) (pa_cons (pe_lc (own := [("block", 8)]) rfl sc_between_at.nd (k_tup (K := K) rfl (pv 0)) (blkOk_by (N := ["parting", "other", "number", "made", "ahead", "door", "is_first", "rows", "block", "many"]) (sc := defScope s_between_at) (by decide +kernel)) (fun _ _ _ _ _ => (pg_name (i := 8) sc_between_at.nd rfl (Or.inl rfl))) (fun _ _ _ _ _ => pts_nil) (fun _ _ _ _ _ => (pe_dget (hu_of hr) (k_fld (K := K) rfl (pv 3) rfl) (pv 8) (fun _ _ => rfl)))) pa_nil)))))))))), ?_⟩
    refine ⟨_, rfl, _, rfl, a, b, p, r, rfl, ta, tb, par, parr, hl, fun H1 s1 => ?_⟩
    refine ⟨_, rfl, _, rfl, true, rfl, ?_⟩
    refine ⟨_, rfl, _, _, rfl, rfl, _, rfl, ?_⟩
    rw [decide_eq_false (show ¬ ((n : Nat) : Int) < 0 by omega)]
    refine ⟨_, rfl, _, rfl, a, b, p, r, rfl, ta.mono s1, tb.mono s1, hl, par.le, fun H2 c s2 hc => ⟨c, rfl, ?_⟩⟩
    obtain rfl : c = false := by
      cases c with
      | false => rfl
      | true => exact absurd (hc.mp rfl) nf
    exact ⟨_, rfl, _, rfl, fun H' d s' e => q H' d ((s1.trans s2).trans s') e⟩
abbrev s__law_none_told : Stmt := topS 39
theorem sc__law_none_told : FnScope ["one", "two", "is_refused", "told"] ["one", "two"] (defScope s__law_none_told) := ⟨rfl, rfl, rfl, by decide +kernel, rfl, by decide +kernel, by decide +kernel⟩
def spNoneT : Sp := fun vs H Q _ => ∃ a b p q, vs = [.ref a, .ref b] ∧ TI H a p ∧ TI H b q ∧ Par p ∧ Par q ∧ p.length = q.length ∧ ¬ Finer p q ∧ ∀ H', Q (.bl true) H'
theorem ok_none_told {CN : Addr} (D : DefAt K mg "_law_none_told" s__law_none_told) (T : Bt mg) (e_BadNumber : ErrC P w K mg base "BadNumber" CN "value") (ex : PySem.W.exmOne K (.ref CN) (.ref CN) = some true)
    (ux_between_at : UseX P w K mg base "between_at" 7 ["parting", "other", "number"] (spAtX CN)) (u_between_number : Use P w K mg base "between_number" 7 ["parting", "other"] spBNum) (u_number_between : Use P w K mg base "number_between" 7 ["parting", "other", "third"] spNB)
    (u__law_like : UseG P w K mg base "_law_like" 1 ["got", "due"] (spLike K)) : UseG P w K mg base "_law_none_told" 8 ["one", "two"] spNoneT := by
  refine use_ofG D (fun f fd F => Fun.okG F sc__law_none_told (fun vs H Q E h => ?_) (fun cdv A outer s H vs Q E gd hr h => ?_)) (fun _ _ _ _ _ _ us hl => match us, hl with | [_, _], _ => rfl)
  · obtain ⟨a, b, p, r, rfl, _⟩ := h
    rfl
  · obtain ⟨a, b, p, r, rfl, ta, tb, par, parr, hl, nf, q⟩ := h
    refine ⟨_, (pss_cons (ps_set (i := 2) sc__law_none_told.nd rfl (Or.inl rfl) pe_bl)
      (pss_cons (ps_try_many rfl rfl takes_none5 (fun W pn xe tk po => (pss_one (ps_expr (pe_usexW ux_between_at tk (by decide) hr (by rfl) (pa_cons (pv 0) (pa_cons (pv 1) (pa_cons pe_int pa_nil))))))) (HdsOk.cons ⟨by rfl, by decide, .inl e_BadNumber.hm⟩ (fun a oe cls d pn hz hf => (pss_one (ps_set (i := 2) sc__law_none_told.nd rfl (Or.inl rfl) pe_bl))) HdsOk.nil))
      (pss_cons (ps_set (i := 3) sc__law_none_told.nd rfl (Or.inl rfl) (pe_lst (pa_cons (pe_use u_between_number (by decide) hr (by rfl) (pa_cons (pv 0) (pa_cons (pv 1) pa_nil))) (pa_cons (pe_use u_number_between (by decide) hr (by rfl) (pa_cons (pv 0) (pa_cons (pv 1) (pa_cons (pv 0) pa_nil)))) pa_nil))))
      (pss_one (ps_ret (pe_and (pv 2) (pe_one (pe_useG u__law_like gd (by decide) hr (by rfl) (pa_cons (pv 3) (pa_cons (pe_lst (pa_cons pe_int (pa_cons pe_non pa_nil))) pa_nil)))))))))), ?_⟩
    refine ⟨_, rfl, _, rfl, a, b, p, r, 0, rfl, ta, tb, par, parr, hl, nf, fun H1 d s1 e1 => ?_⟩
    refine ⟨true, ex, fun _ x nx => ?_, (fun z => by cases z)⟩
    refine ⟨_, rfl, _, rfl, a, b, p, r, rfl, ta.mono s1, tb.mono s1, par, parr, hl, fun H2 s2 => ⟨fun f => absurd f nf, fun _ => ?_⟩⟩
    have s12 := s1.trans s2
    refine ⟨_, rfl, _, rfl, _, rfl, a, b, a, p, r, p, rfl, ta.mono s12, tb.mono s12, ta.mono s12, par, parr, par, hl, rfl, fun H3 s3 => ⟨fun _ f => absurd f nf, fun _ => ?_⟩⟩
    refine ⟨by show 2 ≤ sizeLine; decide, fun L nL => ?_⟩
    refine ⟨_, rfl, true, rfl, iteT ⟨_, rfl, by show 2 ≤ sizeLine; decide, fun M nM => ?_⟩⟩
    have nML := ne_of_none (upd_same (H := H3) (a := L) (o := .lst [.int 0, .non])) nM
    refine ⟨.ref L, .ref M, .list [.int 0, .none], rfl, .lst (sqL (xs := [.int 0, .non]) (by rw [upd_ne nML]; exact upd_same)) (.cons (.int 0) (.cons .non .nil)), .lst (sqL (xs := [.int 0, .non]) upd_same) (.cons (.int 0) (.cons .non .nil)), rfl, ?_, q _⟩
    exact ⟨rfl, rfl, by decide, by decide +kernel, by decide +kernel⟩
def spLikeI : Sp := fun vs H Q _ => ∃ n : Nat, vs = [vN n, vN n] ∧ n < 2 ^ 360 ∧ Q (.bl true) H
theorem ok_likeI (D : DefAt K mg "_law_like" s__law_like) (T : Bt mg) : Use P w K mg base "_law_like" 1 ["got", "due"] spLikeI := by
  refine use_of D (fun f fd F => F.ok sc__law_like (fun vs H Q E h => ?_) (fun cdv A outer s H vs Q E hr h => ?_)) (fun _ _ _ _ _ _ us hl => match us, hl with | [_, _], _ => rfl)
  · obtain ⟨n, rfl, _⟩ := h
    rfl
  · obtain ⟨n, rfl, hn, q⟩ := h
    have hlog : (((n : Nat) : Int)).natAbs.log2 < 1920 := by
      rw [Int.natAbs_natCast]
      by_cases h0 : n = 0
      · rw [h0]
        decide
      · exact Nat.lt_of_lt_of_le ((Nat.log2_lt h0).2 hn) (by decide)
    refine ⟨_, (pss_one (ps_ret (pe_cmpR op_eq (pe_callB SkE.call_repr_int (by rfl) T.repr (by decide +kernel) (pa_cons (pv 0) pa_nil)) (pe_callB SkE.call_repr_int (by rfl) T.repr (by decide +kernel) (pa_cons (pv 1) pa_nil)) (nomark _)))), ?_⟩
    refine ⟨_, rfl, _, rfl, hlog, _, rfl, _, rfl, hlog, rfl, ?_⟩
    rw [decide_eq_true rfl]
    exact q
theorem ok_lnumU (D : DefAt K mg "_law_numbered" s__law_numbered) (T : Bt mg) : Use P w K mg base "_law_numbered" 1 ["labels"] spNumT := by
  refine use_of D (fun f fd F => F.ok sc__law_numbered (fun vs H Q E h => ?_) (fun cdv A outer s H vs Q E hr h => ?_)) (fun _ _ _ _ _ _ us hl => match us, hl with | [_], _ => rfl)
  · obtain ⟨a, p, rfl, _⟩ := h
    rfl
  · obtain ⟨a, xs, rfl, hp, hl, q⟩ := h
    refine ⟨_, (pss_cons (ps_par (i := 1) (j := 2) rfl sc__law_numbered.nd rfl rfl (by decide) rfl rfl (pa_cons pe_dnewK (pa_cons (pe_lst pa_nil) pa_nil)) (by rfl))
      (pss_cons (ps_for PassesOwn.never rfl (k_tup (K := K) rfl (pv 0)) (pg_name (i := 3) sc__law_numbered.nd rfl (Or.inl rfl))
      (pss_cons (ps_if (pt_cmp (pc_dnotin (hu_of hr) (pv 3) (pv 1))) (pss_one (ps_dput (hu_of hr) (pv 1) (pv 3) (pe_callB call_lenD (by rfl) T.len PySem.boot_len (pa_cons (pv 1) pa_nil)) rfl)) pss_nil)
      (pss_one (ps_expr (k_bm (K := K) rfl PySem.F.plainAttrs_list PySem.F.slot_list_append PySem.F.type_list_append mt_append (pv 2) (pa_cons (pe_dget (hu_of hr) (pv 1) (pv 3) (fun _ _ => rfl)) pa_nil))))))
      (pss_one (ps_ret (pe_callTy (k_tupOf (K := K) rfl) (by rfl) T.tuple (by decide +kernel) (pa_cons (pv 2) pa_nil)))))), ?_⟩
    refine fun d nd => ⟨Nat.zero_le _, fun L nL => ?_⟩
    have s0 : Same H (upd H d (.dK [])) := same_new nd
    have s1 : Same H (upd (upd H d (.dK [])) L (.lst [])) := s0.trans (same_new nL)
    have nL0 : H L = none := s0.free nL
    have ndL : d ≠ L := fun e => by rw [e, upd_same] at nL; cases nL
    refine ⟨_, _, rfl, ?_⟩
    refine ⟨_, rfl, a, rfl, ⟨_, (hp.mono s1).seq⟩, for_tup (K := K) (a := a) (xs := xs.map V.int)
      (fun i σ H1 => ∃ y3, σ = [some (.ref a), some (.ref d), some (.ref L), y3] ∧ Same H H1 ∧ H1 d = some (.dK (dg kI (firsts (xs.take i)))) ∧ H1 L = some (.lst ((num (xs.take i)).map V.int)))
      ⟨none, rfl, s1, ?_, ?_⟩ (fun i σ H1 _ ⟨_, _, sm, _⟩ => (hp.mono sm).seq) ?_ ?_⟩
    · rw [upd_ne ndL, upd_same]
      rfl
    · rw [upd_same]
      rfl
    · rintro i v σ H1 hi ⟨y3, rfl, sm, ed, eL⟩
      obtain ⟨x, hx, rfl⟩ := map_at hi
      have small : ((num (xs.take i)).map V.int).length < sizeLine := by
        rw [List.length_map, num_len, List.length_take]
        exact small_of (by omega)
      have small2 : (dg kI (firsts (xs.take i))).length < sizeLine := by
        rw [dg_len]
        have := firsts_le (xs.take i)
        rw [List.length_take] at this
        exact small_of (by omega)
      by_cases hm : x ∈ firsts (xs.take i)
      · obtain ⟨e1, e2⟩ := num_old hm
        have gv : DGet H1 d (V.int x) (some (V.int (((firsts (xs.take i)).idxOf x : Nat) : Int))) := by
          have := DGet.k (k := kI x) ed
          rw [dg_val kI_inj _ _ (firsts_nodup _), if_pos hm] at this
          exact this
        refine ⟨_, rfl, _, rfl, d, _, rfl, gv, _, rfl, _, rfl, .inl ⟨rfl, _, .inl (.inl eL)⟩, _, rfl, _, rfl, d, _, rfl, gv, L, _, _, rfl, rfl, eL, small, some (.int x), rfl, same_mut sm nL0, ?_, ?_⟩
        · rw [upd_ne ndL, take_snoc hx, e2]
          exact ed
        · rw [upd_same, take_snoc hx, e1, List.map_append]
          rfl
      · obtain ⟨e1, e2⟩ := num_new hm
        have gv : DGet H1 d (V.int x) none := by
          have := DGet.k (k := kI x) ed
          rw [dg_val kI_inj _ _ (firsts_nodup _), if_neg hm] at this
          exact this
        have ed2 : (upd H1 d (.dK (putK (dg kI (firsts (xs.take i))) (kI x) (.int (((firsts (xs.take i)).length : Nat) : Int))))) d = some (.dK (dg kI (firsts (xs.take i) ++ [x]))) := by
          rw [upd_same, dg_put kI_inj _ _ hm]
        have gv2 : DGet (upd H1 d (.dK (putK (dg kI (firsts (xs.take i))) (kI x) (.int (((firsts (xs.take i)).length : Nat) : Int))))) d (V.int x) (some (V.int (((firsts (xs.take i)).length : Nat) : Int))) := by
          have := DGet.k (k := kI x) ed2
          rw [dg_new kI_inj (firsts_nodup _) hm] at this
          exact this
        have eL2 : (upd H1 d (.dK (putK (dg kI (firsts (xs.take i))) (kI x) (.int (((firsts (xs.take i)).length : Nat) : Int))))) L = some (.lst ((num (xs.take i)).map V.int)) := by
          rw [upd_ne ndL.symm]
          exact eL
        refine ⟨_, rfl, _, rfl, d, _, rfl, gv, _, rfl, _, rfl, d, _, rfl, ed, ?_⟩
        rw [dg_len]
        refine ⟨_, rfl, _, rfl, d, _, rfl, DPut.k (k := kI x) ed small2, ?_⟩
        refine ⟨_, rfl, .inl ⟨rfl, _, .inl (.inl eL2)⟩, _, rfl, _, rfl, d, _, rfl, gv2, L, _, _, rfl, rfl, eL2, small, some (.int x), rfl, same_mut (same_mut sm nd) nL0, ?_, ?_⟩
        · rw [upd_ne ndL, ed2, take_snoc hx, e2]
        · rw [upd_same, take_snoc hx, e1, List.map_append]
          rfl
    · rintro σ H1 ⟨y3, rfl, sm, ed, eL⟩
      refine ⟨_, rfl, L, _, rfl, .inl ⟨.inl (.inl eL), fun l hl => ?_⟩⟩
      refine q _ l (sm.trans (same_new hl)) ?_
      show upd H1 l _ l = _
      rw [upd_same, List.length_map, List.take_length]
end
end KQ
namespace KQ
open PySem PySem.Spec PyProof.Rows L2 KR KM StX
theorem mem_firsts {xs : List Int} {x : Int} : x ∈ firsts xs ↔ x ∈ xs := by
  constructor
  · revert x
    refine firsts_rec (P := fun ys => ∀ {x : Int}, x ∈ firsts ys → x ∈ ys) (fun {x} h => h) (fun ys y ih {x} h => ?_) xs
    rw [firsts_snoc] at h
    unfold ins at h
    split at h
    · exact List.mem_append_left _ (ih h)
    · rcases List.mem_append.mp h with h | h
      · exact List.mem_append_left _ (ih h)
      · exact List.mem_append_right _ h
  · intro h
    obtain ⟨i, hi⟩ := List.mem_iff_getElem?.mp h
    have hn := num_get hi
    have l := (rg_mem 0 _ (Int.le_refl _) (num_rg xs)).1 _ (List.mem_of_getElem? hn)
    have e := (firsts_len xs).1
    exact List.idxOf_lt_length_iff.mp (by omega)
section
variable {P : Program} {w : World} {K : PySem.W.Frag} {mg : Str → Option Value} {base : Heap}
abbrev s__law_count : Stmt := topS 38
theorem sc__law_count : FnScope ["one", "two", "counts", "inner", "block", "met", "at"] ["one", "two"] (defScope s__law_count) := ⟨rfl, rfl, rfl, by decide +kernel, rfl, by decide +kernel, by decide +kernel⟩
theorem ok_lcount (D : DefAt K mg "_law_count" s__law_count) (T : Bt mg) (u__law_is_finer : Use P w K mg base "_law_is_finer" 1 ["one", "two"] spLFiner) (u__law_parting_counts : Use P w K mg base "_law_parting_counts" 1 ["most"] spCounts)
    (u__law_numbered : Use P w K mg base "_law_numbered" 1 ["labels"] spNumL) (u__law_product : Use P w K mg base "_law_product" 1 ["numbers"] (spProduct K)) : Use P w K mg base "_law_count" 2 ["one", "two"] spBNum := by
  refine use_of D (fun f fd F => F.ok sc__law_count (fun vs H Q E h => ?_) (fun cdv A outer s H vs Q E hr h => ?_)) (fun _ _ _ _ _ _ us hl => match us, hl with | [_, _], _ => rfl)
  · obtain ⟨a, b, p, r, rfl, _⟩ := h
    rfl
  · obtain ⟨a, b, p, r, rfl, ta, tb, par, parr, hl, q⟩ := h
    refine ⟨_, (pss_cons (ps_if (pt_not (pt_val (pe_use u__law_is_finer (by decide) hr (by rfl) (pa_cons (pv 0) (pa_cons (pv 1) pa_nil))))) (pss_one (ps_ret pe_int)) pss_nil)
      (pss_cons (ps_par (i := 2) (j := 3) rfl sc__law_count.nd rfl rfl (by decide) rfl rfl (pa_cons (pe_use u__law_parting_counts (by decide) hr (by rfl) (pa_cons (pe_op op_add (pe_callB (k_maxT (K := K) rfl rfl hr.units) (by rfl) T.max (by decide +kernel) (pa_cons (pv 0) pa_nil)) pe_int) pa_nil)) (pa_cons (pe_lst pa_nil) pa_nil)) (by rfl))
      (pss_cons (ps_for PassesOwn.never rfl (pi_range1 (by rfl) T.range (pa_cons (pe_op op_add (pe_callB (k_maxT (K := K) rfl rfl hr.units) (by rfl) T.max (by decide +kernel) (pa_cons (pv 1) pa_nil)) pe_int) pa_nil)) (pg_name (i := 4) sc__law_count.nd rfl (Or.inr rfl))
      (pss_cons (ps_setLc (i := 5) (own := [("at", 6)]) rfl sc__law_count.nd rfl rfl (sw_true rfl rfl rfl (by decide +kernel)) (pi_range1 (by rfl) T.range (pa_cons (pe_callB (k_len (K := K) rfl) (by rfl) T.len PySem.boot_len (pa_cons (pv 0) pa_nil)) pa_nil)) (blkOk_by (N := ["one", "two", "counts", "inner", "block", "met", "at"]) (sc := defScope s__law_count) (by decide +kernel)) (fun _ _ _ _ _ => (pg_name (i := 6) sc__law_count.nd rfl (Or.inl rfl))) (fun _ _ _ _ _ => (pts_one (pt_cmpR op_eq (pe_ix (k_ixt (K := K) rfl) (pv 1) (pv 6) (fun _ _ => rfl)) (pv 4) (nomark _)))) (fun _ _ _ _ _ => (pe_ix (k_ixt (K := K) rfl) (pv 0) (pv 6) (fun _ _ => rfl))))
      (pss_one (ps_expr (k_bm (K := K) rfl PySem.F.plainAttrs_list PySem.F.slot_list_append PySem.F.type_list_append mt_append (pv 3) (pa_cons (pe_ix (k_ixl (K := K) rfl) (pv 2) (pe_op op_add (pe_callB (k_maxT (K := K) rfl rfl hr.units) (by rfl) T.max (by decide +kernel) (pa_cons (pe_use u__law_numbered (by decide) hr (by rfl) (pa_cons (pv 5) pa_nil)) pa_nil)) pe_int) (fun _ _ => rfl)) pa_nil))))))
      (pss_one (ps_ret (pe_use u__law_product (by decide) hr (by rfl) (pa_cons (pv 3) pa_nil))))))), ?_⟩
    refine ⟨_, rfl, _, rfl, a, b, p, r, rfl, ta, tb, par.le, hl, fun H1 c s1 hc => ⟨c, rfl, ?_⟩⟩
    cases c with
    | false => exact (q H1 s1).2 fun z => by have := hc.mpr z; cases this
    | true =>
    have fin := hc.mp rfl
    have q := fun H' s' => (q H' s').1 fin
    have p60 := par.le
    have g0 := bc_ge 0 p
    have g1 := bc_le 0 p
    have g2 := bc_ge 0 r
    have g3 := bc_le 0 r
    have ta1 := ta.mono s1
    refine ⟨_, rfl, a, p, rfl, ta1.seq, par.ne, fun mx hm hle => ⟨mx, 1, rfl, rfl, ?_⟩⟩
    have em := par_max par hm hle
    refine ⟨(bc 0 p).toNat, congrArg (fun z => [V.int z]) (show mx + 1 = _ by omega), by omega, fun H2 C s2 eC => ?_⟩
    have ll := lab_len (p := p) (q := r) hl
    refine ⟨by show 0 ≤ sizeLine; decide, fun L nL => ?_⟩
    have s12 := s1.trans s2
    have nLH : H L = none := s12.free nL
    have nCL : C ≠ L := ne_of_none eC nL
    have tb2 := tb.mono s12
    have sL := same_new (H := H2) (o := .lst []) nL
    refine ⟨_, _, rfl, ?_⟩
    refine ⟨_, rfl, b, r, rfl, (tb2.mono sL).seq, parr.ne, fun mx2 hm2 hle2 => ⟨mx2, 1, rfl, rfl, ?_⟩⟩
    have em2 := par_max parr hm2 hle2
    refine ⟨_, rfl, by omega, by omega, for_range (lo := 0) (n := (mx2 + 1).toNat)
      (fun i σ H3 => ∃ (y4 y5 : Option V), σ = [some (.ref a), some (.ref b), some (.ref C), some (.ref L), y4, y5, none] ∧ Same H H3 ∧ H3 C = some (.lst (((List.range ((bc 0 p).toNat + 1)).map bell).map V.int)) ∧
        H3 L = some (.lst (((List.range i).map fun k => gr ((lab p r).count ((k : Nat) : Int)) 0).map vN)))
      ⟨none, none, rfl, s12.trans sL, by rw [upd_ne nCL]; exact eC, upd_same⟩ ?_ ?_⟩
    · rintro i σ H3 hi ⟨y4, y5, rfl, s3, eC3, eL3⟩
      have ta3 := ta.mono s3
      have tb3 := tb.mono s3
      refine ⟨_, rfl, a, _, rfl, .inr ta3.seq, _, rfl, by rw [List.length_map]; omega, by rw [List.length_map]; omega, fun M nM => ?_⟩
      have sM := same_new (H := H3) (o := .lst []) nM
      refine lc_range (fun j H4 => Same H3 H4 ∧ H4 M = some (.lst ((mtU (p.take j) (r.take j) ((i : Nat) : Int)).map V.int))) ⟨sM, upd_same⟩ ?_ ?_
      · rintro j H4 hj ⟨s4, eM⟩
        rw [List.length_map] at hj
        have hj : j < p.length := by omega
        obtain ⟨u, hu⟩ := at_some (xs := p) (i := j) hj
        obtain ⟨v, hv⟩ := at_some (xs := r) (i := j) (by omega)
        have ta4 := ta3.mono s4
        have tb4 := tb3.mono s4
        refine ⟨rfl, _, rfl, _, rfl, b, _, _, .int v, rfl, rfl, tb4.seq, atI_of (j := j) (by omega) (at_map hv), _, rfl, rfl, _, rfl, ?_⟩
        have sn := mtU_snoc (x := ((i : Nat) : Int)) hu hv
        by_cases e : v = ((i : Nat) : Int)
        · rw [if_pos e] at sn
          rw [decide_eq_true (show V.int v = V.int (0 + ((i : Nat) : Int)) by rw [e, Int.zero_add])]
          refine ⟨_, rfl, _, rfl, a, _, _, .int u, rfl, rfl, ta4.seq, atI_of (j := j) (by omega) (at_map hu), _, eM, ?_, same_mut s4 nM, ?_⟩
          · rw [List.length_map]
            have := mtU_le (p.take j) (r.take j) ((i : Nat) : Int)
            rw [List.length_take] at this
            exact small_of (by omega)
          · rw [upd_same, sn, List.map_append]
            rfl
        · rw [if_neg e, List.append_nil] at sn
          rw [decide_eq_false (show ¬ V.int v = V.int (0 + ((i : Nat) : Int)) from fun z => e (by rw [Int.zero_add] at z; exact V.int.inj z))]
          exact ⟨s4, by rw [sn]; exact eM⟩
      rintro H4 ⟨s4, eM⟩
      have e1 : p.take ((((p.map V.int).length : Nat) : Int)).toNat = p := by rw [List.length_map, Int.toNat_natCast, List.take_length]
      have e2 : r.take ((((p.map V.int).length : Nat) : Int)).toNat = r := by rw [List.length_map, Int.toNat_natCast, hl, List.take_length]
      rw [e1, e2] at eM
      have ir : ((i : Nat) : Int) < bc 0 r := by omega
      have ne : mtU p r ((i : Nat) : Int) ≠ [] := by
        have hm := (rg_mem 0 r (Int.le_refl _) parr.rg).2 _ (by omega) ir
        obtain ⟨k, hk⟩ := List.mem_iff_getElem?.mp hm
        obtain ⟨u, hu⟩ := at_some (xs := p) (i := k) (by have := (List.getElem?_eq_some_iff.mp hk).1; omega)
        exact List.ne_nil_of_mem (mem_mtU.mpr ⟨k, hu, hk⟩)
      have ml := mtU_le p r ((i : Nat) : Int)
      have cnt := count_lab hl par.rg fin (x := ((i : Nat) : Int)) (firsts_nodup (mtU p r ((i : Nat) : Int))) (fun lo => mem_firsts.trans mem_mtU)
      have fl := (firsts_len (mtU p r ((i : Nat) : Int))).1
      have npar : Par (num (mtU p r ((i : Nat) : Int))) := num_par ne (by omega)
      have cle : (lab p r).count ((i : Nat) : Int) ≤ (lab p r).length := List.count_le_length
      have eC4 := s4 _ _ eC3
      have eL4 := s4 _ _ eL3
      refine ⟨_, rfl, .inl ⟨rfl, _, .inl (.inl eL4)⟩, ?_⟩
      refine ⟨_, rfl, _, rfl, M, _, rfl, eM, by omega, fun H5 t s5 et => ?_⟩
      refine ⟨t, _, rfl, et.seq, npar.ne, fun mx3 hm3 hle3 => ⟨mx3, 1, rfl, rfl, ?_⟩⟩
      have em3 := par_max npar hm3 hle3
      have eC5 := s5 _ _ eC4
      have eL5 := s5 _ _ eL4
      refine ⟨C, _, _, .int (bell ((lab p r).count ((i : Nat) : Int))), rfl, rfl, sqL eC5, atI_of (j := (lab p r).count ((i : Nat) : Int)) (by rw [em3, ← fl, cnt]) ?_, ?_⟩
      · refine at_map (at_map ?_)
        rw [List.getElem?_range (by omega)]
      refine ⟨L, _, _, rfl, rfl, eL5, (by rw [List.length_map, List.length_map, List.length_range]; exact small_of (by omega)), ?_⟩
      refine ⟨_, _, rfl, same_mut ((s3.trans s4).trans s5) nLH, by rw [upd_ne nCL]; exact eC5, ?_⟩
      rw [upd_same, List.range_succ, List.map_append, List.map_append]
      refine congrArg (fun z => some (HO.lst (_ ++ [V.int z]))) ?_
      exact (bell_gr (by omega)).symm
    · rintro σ H3 ⟨y4, y5, rfl, s3, eC3, eL3⟩
      rw [em2] at eL3
      have e := betw_prd hl par.rg parr.rg fin
      have big := betw_big hl p60
      rw [e] at big
      have pos : ∀ x ∈ (List.range (bc 0 r).toNat).map fun k => gr ((lab p r).count ((k : Nat) : Int)) 0, 0 < x := fun x hx => by
        obtain ⟨k, _, rfl⟩ := List.mem_map.mp hx
        exact gr_pos _ _
      refine ⟨_, rfl, L, _, rfl, sqL eL3, fun k hk => ⟨Nat.lt_of_le_of_lt (foldl_take pos k) big, fun x hx => ?_⟩, ?_⟩
      · obtain ⟨k', hk', rfl⟩ := map_at hx
        have cle : (lab p r).count ((k' : Nat) : Int) ≤ (lab p r).length := List.count_le_length
        exact gr_big (by omega)
      · have := q H3 s3
        rw [e] at this
        exact this
end
end KQ
namespace KQ
open PySem PySem.Spec PyProof.Rows L2 KR KM StX
theorem allP_allS : ∀ (n : Nat) (r : List Int), Rg 0 r → r.length = n + 1 → r ∈ allP n
  | 0, [x], h, _ => by
    have h1 : 0 ≤ x := h.1
    have h2 : x ≤ 0 := h.2.1
    rw [show x = 0 by omega]
    exact List.mem_singleton.mpr rfl
  | n + 1, r, h, hl => by
    have ne : r ≠ [] := fun e => by rw [e] at hl; cases hl
    rw [← List.dropLast_concat_getLast ne, rg_app] at h
    obtain ⟨h1, h2⟩ := h
    have b0 : 0 ≤ r.getLast ne := h2.1
    have b1 : r.getLast ne ≤ bc 0 r.dropLast := h2.2.1
    refine List.mem_flatMap.mpr ⟨r.dropLast, allP_allS n _ h1 (by rw [List.length_dropLast, hl]; rfl), List.mem_map.mpr ⟨(r.getLast ne).toNat, List.mem_range.mpr (by omega), ?_⟩⟩
    rw [show (((r.getLast ne).toNat : Nat) : Int) = r.getLast ne by omega, List.dropLast_concat_getLast ne]
theorem lex_more {a b : List Int} (hl : a.length = b.length) (h : HT.lexLt a b = true) (xs ys : List Int) : HT.lexLt (a ++ xs) (b ++ ys) = true := by
  obtain ⟨i, x, y, h1, h2, h3, h4⟩ := lex_of hl h
  have ia := (List.getElem?_eq_some_iff.mp h2).1
  have ib := (List.getElem?_eq_some_iff.mp h3).1
  refine lex_mk (i := i) (x := x) (y := y) (fun j hj => ?_) ?_ ?_ h4
  · rw [List.getElem?_append_left (by omega), List.getElem?_append_left (by omega)]
    exact h1 j hj
  · rw [List.getElem?_append_left ia]; exact h2
  · rw [List.getElem?_append_left ib]; exact h3
theorem lex_last (a : List Int) {x y : Int} (h : x < y) : HT.lexLt (a ++ [x]) (a ++ [y]) = true := by
  refine lex_mk (i := a.length) (x := x) (y := y) (fun j hj => ?_) ?_ ?_ h
  · rw [List.getElem?_append_left hj, List.getElem?_append_left hj]
  · rw [List.getElem?_append_right (Nat.le_refl _), Nat.sub_self]; rfl
  · rw [List.getElem?_append_right (Nat.le_refl _), Nat.sub_self]; rfl
theorem pw_flat {α β : Type} {R : β → β → Prop} {f : α → List β} : ∀ {l : List α}, (∀ x ∈ l, (f x).Pairwise R) → l.Pairwise (fun x y => ∀ u ∈ f x, ∀ v ∈ f y, R u v) → (l.flatMap f).Pairwise R
  | [], _, _ => List.Pairwise.nil
  | x :: r, h, g => by
    rw [List.flatMap_cons, List.pairwise_append]
    obtain ⟨g1, g2⟩ := List.pairwise_cons.mp g
    refine ⟨h x List.mem_cons_self, pw_flat (fun y hy => h y (List.mem_cons_of_mem _ hy)) g2, fun u hu v hv => ?_⟩
    obtain ⟨y, hy, hv⟩ := List.mem_flatMap.mp hv
    exact g1 y hy u hu v hv
theorem allP_upA : ∀ n : Nat, (allP n).Pairwise fun x y => HT.lexLt x y = true
  | 0 => List.pairwise_singleton _ _
  | n + 1 => by
    refine pw_flat (f := ext) (l := allP n) (fun x _ => ?_) ?_
    · unfold ext
      rw [List.pairwise_map]
      exact List.pairwise_lt_range.imp fun {a b} h => lex_last x (by omega)
    · refine List.Pairwise.imp_of_mem (fun {a b} ha hb h u hu v hv => ?_) (allP_upA n)
      obtain ⟨i, _, rfl⟩ := List.mem_map.mp hu
      obtain ⟨j, _, rfl⟩ := List.mem_map.mp hv
      have la := (allP_ok n a ha).2
      have lb := (allP_ok n b hb).2
      exact lex_more (by omega) h _ _
theorem lex_irrS (x : List Int) : HT.lexLt x x = false := by
  cases e : HT.lexLt x x with
  | false => rfl
  | true => rw [lex_asym _ _ e] at e; cases e
theorem lup_nodup {L : List (List Int)} (h : L.Pairwise fun x y => HT.lexLt x y = true) : L.Nodup := by
  refine List.nodup_iff_pairwise_ne.mpr (h.imp fun {a b} g e => ?_)
  rw [e, lex_irrS] at g
  cases g
/-- ascending rows with the same members are the same -/
theorem lup_same {L M : List (List Int)} (h : L.Pairwise fun x y => HT.lexLt x y = true) (g : M.Pairwise fun x y => HT.lexLt x y = true) (e : ∀ x, x ∈ L ↔ x ∈ M) : L = M :=
  rows_uniq ((List.perm_ext_iff_of_nodup (lup_nodup h) (lup_nodup g)).mpr e) (h.imp fun {_ _} z => lex_asym _ _ z) (g.imp fun {_ _} z => lex_asym _ _ z)
open Classical in
noncomputable def selF (p q x : List Int) : Bool := decide (Finer p x ∧ Finer x q)
open Classical in
theorem sel_iff {p q x : List Int} : selF p q x = true ↔ Finer p x ∧ Finer x q := by
  unfold selF
  exact decide_eq_true_iff
theorem betw_all {p q : List Int} (par : Par p) (hl : p.length = q.length) (fp : Finer p q) : (allP (p.length - 1)).filter (selF p q) = betw p q := by
  refine lup_same ((allP_upA _).filter _) (betw_up hl par.rg) fun x => ?_
  have pos := List.length_pos_iff.mpr par.ne
  rw [List.mem_filter, mem_betw hl par.rg fp, sel_iff]
  constructor
  · rintro ⟨h1, h2⟩
    obtain ⟨rg, l⟩ := allP_ok _ x h1
    exact ⟨by omega, rg, h2.1, h2.2⟩
  · rintro ⟨h1, h2, h3, h4⟩
    exact ⟨allP_allS _ x h2 (by omega), h3, h4⟩
end KQ
namespace KQ
open PySem PySem.Spec PyProof.Rows L2 KR KM StX
theorem betw_par {p q r : List Int} (par : Par p) (hl : p.length = q.length) (fp : Finer p q) (h : r ∈ betw p q) : Par r ∧ r.length = p.length ∧ Finer p r ∧ Finer r q := by
  obtain ⟨lr, rr, f1, f2⟩ := (mem_betw hl par.rg fp).mp h
  exact ⟨⟨fun e => par.ne (List.length_eq_zero_iff.mp (by rw [← lr, e]; rfl)), by have := par.le; omega, rr⟩, lr, f1, f2⟩
theorem num_selfS {r : List Int} (parr : Par r) : num r = r := (num_is rfl parr.rg fun i j x y u v hi hj ui vj => by
  rw [hi] at ui
  rw [hj] at vj
  obtain rfl := Option.some.inj ui
  obtain rfl := Option.some.inj vj
  exact Iff.rfl)
theorem shaped_intsS (ns : List Int) : SeqAt.shaped (.tuple (ns.map .int)) = true := by
  unfold SeqAt.shaped
  simp only [PyData.canLay0, lay0, PyData.depth, depth0]
  rfl
theorem up_at {L : List (List Int)} (h : L.Pairwise fun x y => HT.lexLt x y = true) {i j : Nat} {x y : List Int} (hi : L[i]? = some x) (hj : L[j]? = some y) (c : i < j) : HT.lexLt x y = true := by
  have il := List.getElem?_eq_some_iff.mp hi
  have jl := List.getElem?_eq_some_iff.mp hj
  have := List.pairwise_iff_getElem.mp h i j il.1 jl.1 c
  rw [il.2, jl.2] at this
  exact this
theorem units0 {k : Nat} {A : Around} (r : Room k A) : A.units < cLine := by
  have := r.un
  omega
theorem k_ltT {X : Cx} {K : PySem.W.Frag} (hK : X.K = K) (hu : X.A.units < cLine) : OpR X (compareOp .Lt) (rLtT K) := by
  subst hK
  exact op_ltT hu
section
variable {P : Program} {w : World} {K : PySem.W.Frag} {mg : Str → Option Value} {base : Heap}
abbrev s__law_right_at : Stmt := topS 40
theorem sc__law_right_at : FnScope ["one", "two", "place", "told", "block"] ["one", "two", "place"] (defScope s__law_right_at) := ⟨rfl, rfl, rfl, by decide +kernel, rfl, by decide +kernel, by decide +kernel⟩
def spRightAt : Sp := fun vs H Q _ => ∃ a b p q n, vs = [.ref a, .ref b, vN n] ∧ TI H a p ∧ TI H b q ∧ Par p ∧ Par q ∧ p.length = q.length ∧ Finer p q ∧ n < (betw p q).length ∧ ∀ H', Same H H' → Q (.bl true) H'
theorem ok_right_at (D : DefAt K mg "_law_right_at" s__law_right_at) (T : Bt mg) (u_between_at : Use P w K mg base "between_at" 7 ["parting", "other", "number"] spAt) (u__law_is_int : Use P w K mg base "_law_is_int" 1 ["thing", "low", "high"] spIntWA)
    (u__law_numbered : Use P w K mg base "_law_numbered" 1 ["labels"] spNumT) (u__law_is_finer : Use P w K mg base "_law_is_finer" 1 ["one", "two"] spLFiner) (u_number_between : Use P w K mg base "number_between" 7 ["parting", "other", "third"] spNB)
    (u__law_likeI : Use P w K mg base "_law_like" 1 ["got", "due"] spLikeI) : Use P w K mg base "_law_right_at" 8 ["one", "two", "place"] spRightAt := by
  refine use_of D (fun f fd F => F.ok sc__law_right_at (fun vs H Q E h => ?_) (fun cdv A outer s H vs Q E hr h => ?_)) (fun _ _ _ _ _ _ us hl => match us, hl with | [_, _, _], _ => rfl)
  · obtain ⟨a, b, p, r, n, rfl, _⟩ := h
    rfl
  · obtain ⟨a, b, p, r, n, rfl, ta, tb, par, parr, hl, fin, hn, q⟩ := h
    refine ⟨_, (pss_cons (ps_set (i := 3) sc__law_right_at.nd rfl (Or.inl rfl) (pe_use u_between_at (by decide) hr (by rfl) (pa_cons (pv 0) (pa_cons (pv 1) (pa_cons (pv 2) pa_nil)))))
      (pss_cons (ps_if (PW.pt (pw_or (pt_not (pt_val (pe_callB (k_isi (K := K) rfl) (by rfl) T.isinstance (by decide +kernel) (pa_cons (pv 3) (pa_cons (pe_bltn (v := .ty "tuple") (by rfl) T.tuple (by decide +kernel) rfl) pa_nil))))) (pw_or1 (pt_cmpR (k_neD (K := K) rfl hr.units) (pe_lc (own := [("block", 4)]) rfl sc__law_right_at.nd (k_tup (K := K) rfl (pv 3)) (blkOk_by (N := ["one", "two", "place", "told", "block"]) (sc := defScope s__law_right_at) (by decide +kernel)) (fun _ _ _ _ _ => (pg_name (i := 4) sc__law_right_at.nd rfl (Or.inl rfl))) (fun _ _ _ _ _ => (pts_one (pt_not (pt_val (pe_use u__law_is_int (by decide) hr (by rfl) (pa_cons (pv 4) (pa_cons pe_int (pa_cons pe_int pa_nil)))))))) (fun _ _ _ _ _ => pe_int)) (pe_lst pa_nil) (nomark _))))) (pss_one (ps_ret pe_bl)) pss_nil)
      (pss_cons (ps_if (PW.pt (pw_or (pt_cmpR op_ne (pe_callB (k_len (K := K) rfl) (by rfl) T.len PySem.boot_len (pa_cons (pv 3) pa_nil)) (pe_callB (k_len (K := K) rfl) (by rfl) T.len PySem.boot_len (pa_cons (pv 0) pa_nil)) (nomark _)) (pw_or1 (pt_cmpR (k_neD (K := K) rfl hr.units) (pe_use u__law_numbered (by decide) hr (by rfl) (pa_cons (pv 3) pa_nil)) (pv 3) (nomark _))))) (pss_one (ps_ret pe_bl)) pss_nil)
      (pss_cons (ps_if (PW.pt (pw_or (pt_not (pt_val (pe_use u__law_is_finer (by decide) hr (by rfl) (pa_cons (pv 0) (pa_cons (pv 3) pa_nil))))) (pw_or1 (pt_not (pt_val (pe_use u__law_is_finer (by decide) hr (by rfl) (pa_cons (pv 3) (pa_cons (pv 1) pa_nil)))))))) (pss_one (ps_ret pe_bl)) pss_nil)
      (pss_cons (ps_if (pt_not (pt_val (pe_use u__law_likeI (by decide) hr (by rfl) (pa_cons (pe_use u_number_between (by decide) hr (by rfl) (pa_cons (pv 0) (pa_cons (pv 1) (pa_cons (pv 3) pa_nil)))) (pa_cons (pv 2) pa_nil))))) (pss_one (ps_ret pe_bl)) pss_nil)
      (pss_one (ps_ret (pe_or (pe_cmpR op_eq (pv 2) pe_int (nomark _)) (pe_one (pe_cmpR (k_ltT (K := K) rfl (units0 hr)) (pe_use u_between_at (by decide) hr (by rfl) (pa_cons (pv 0) (pa_cons (pv 1) (pa_cons (pe_op op_sub (pv 2) pe_int) pa_nil)))) (pv 3) (nomark _))))))))))), ?_⟩
    have g60 := par.le
    refine ⟨_, rfl, _, rfl, _, rfl, a, b, p, r, n, rfl, ta, tb, par, parr, hl, fin, hn, fun H1 t x s1 tx hx => ?_⟩
    obtain ⟨px, lx, f1, f2⟩ := betw_par par hl fin (List.mem_of_getElem? hx)
    refine ⟨_, rfl, _, _, _, _, true, rfl, .ty _, .base (.tup tx), kit_ty (by decide +kernel), true, rfl, ?_⟩
    refine ⟨_, rfl, t, rfl, ⟨_, tx.seq⟩, fun L nL => ?_⟩
    refine lc_tup (K := K) (a := t) (xs := x.map V.int) (fun k H3 => Same H1 H3 ∧ H3 L = some (.lst (([] : List Int).map V.int))) ⟨same_new nL, upd_same⟩ (fun k H3 _ ⟨s3, _⟩ => (tx.mono s3).seq) ?_ ?_
    · rintro k v H3 hk ⟨s3, eL⟩
      obtain ⟨z, hz, rfl⟩ := map_at hk
      have zr := par_small px.rg px.le z (List.mem_of_getElem? hz)
      have zb := (rg_mem 0 x (Int.le_refl _) px.rg).1 z (List.mem_of_getElem? hz)
      have := bc_le 0 x
      refine ⟨rfl, _, rfl, .int z, 0, 59, rfl, .int z, _, rfl, ?_⟩
      rw [show inV (.int z) 0 59 = true from decide_eq_true ⟨zr.1, by omega⟩]
      exact ⟨s3, eL⟩
    rintro H3 ⟨s3, eL⟩
    refine ⟨Nat.zero_le _, fun M2 nM2 => ?_⟩
    have nML : M2 ≠ L := fun e => by rw [e, eL] at nM2; cases nM2
    refine ⟨.list (([] : List Int).map PyData.int), .list [], .lst (sqL (by rw [upd_ne nML.symm]; exact eL)) (dpAll_ints _), .lst (sqL (xs := []) upd_same) .nil, shaped_ints _, rfl, _, rfl, ?_⟩
    rw [eqv_nil]
    have s4 : Same H1 (upd H3 M2 (.lst [])) := s3.trans (same_new nM2)
    generalize upd H3 M2 (.lst []) = Ha at s4
    clear nML nM2 M2 eL s3 H3 nL L
    have tx := tx.mono s4
    have s1 := s1.trans s4
    have ta1 := ta.mono s1
    have tb1 := tb.mono s1
    refine ⟨_, rfl, t, _, rfl, .inr tx.seq, _, rfl, a, _, rfl, .inr ta1.seq, rfl, _, rfl, ?_⟩
    rw [List.length_map, List.length_map, lx, decide_eq_true rfl]
    refine ⟨_, rfl, t, x, rfl, tx, by omega, fun H5 u s5 tu => ?_⟩
    have tx5 := tx.mono s5
    rw [num_selfS px] at tu
    refine ⟨_, rfl, .tuple (x.map PyData.int), .tuple (x.map PyData.int), dp_ti tu, dp_ti tx5, shaped_intsS _, shaped_intsS _, _, rfl, ?_⟩
    rw [show PyData.eqv (.tuple (x.map PyData.int)) (.tuple (x.map PyData.int)) = true from by
      show PyData.eqvAll _ _ = true
      rw [eqv_ints, decide_eq_true rfl]]
    have s5 := s1.trans s5
    clear s1 s4 tx ta1 tb1 tu
    refine ⟨_, rfl, _, rfl, a, t, p, x, rfl, ta.mono s5, tx5, g60, lx.symm, fun H6 c s6 hc => ⟨c, rfl, ?_⟩⟩
    obtain rfl : c = true := hc.mpr f1
    have s6' := s5.trans s6
    have tx6 := tx5.mono s6
    refine ⟨_, rfl, _, rfl, t, b, x, r, rfl, tx6, tb.mono s6', by omega, by omega, fun H7 c s7 hc => ⟨c, rfl, ?_⟩⟩
    obtain rfl : c = true := hc.mpr f2
    have s7' := s6'.trans s7
    have tx7 := tx6.mono s7
    clear s5 s6' tx5 tx6 s6 s7
    refine ⟨_, rfl, _, rfl, _, rfl, a, b, t, p, r, x, rfl, ta.mono s7', tb.mono s7', tx7, par, parr, px, hl, lx, fun H8 s8 => ⟨fun _ _ k hk => ?_, fun z => absurd ⟨f1, f2⟩ z⟩⟩
    obtain rfl : k = n := up_uniqI (betw_up hl par.rg) hk hx
    have big := betw_big hl g60
    refine ⟨_, rfl, k, rfl, by omega, true, rfl, ?_⟩
    have s8' := s7'.trans s8
    refine ⟨_, rfl, rfl, _, rfl, ?_⟩
    by_cases h0 : k = 0
    · rw [decide_eq_true (show V.int ((k : Nat) : Int) = V.int 0 by rw [h0]; rfl)]
      exact iteT (q H8 s8')
    · rw [decide_eq_false (show ¬ V.int ((k : Nat) : Int) = V.int 0 from fun z => h0 (by have := V.int.inj z; omega))]
      refine iteF ?_
      obtain ⟨y, hy⟩ := at_some (xs := betw p r) (i := k - 1) (by omega)
      refine ⟨_, rfl, _, rfl, _, rfl, _, _, rfl, rfl, a, b, p, r, k - 1, ?_, ta.mono s8', tb.mono s8', par, parr, hl, fin, by omega, fun H9 u z s9 tz hz => ?_⟩
      · exact congrArg (fun z => [V.ref a, V.ref b, V.int z]) (by omega : ((k : Nat) : Int) - 1 = ((k - 1 : Nat) : Int))
      refine ⟨_, rfl, u, t, z, x, rfl, rfl, tz.seq, (tx7.mono (s8.trans s9)).seq, ?_⟩
      rw [up_at (betw_up hl par.rg) hz hx (by omega)]
      exact q H9 (s8'.trans s9)
end
end KQ
namespace KQ
open PySem PySem.Spec PyProof.Rows L2 KR KM StX
theorem lex_iff {L : List (List Int)} (h : L.Pairwise fun x y => HT.lexLt x y = true) {i j : Nat} {x y : List Int} (hi : L[i]? = some x) (hj : L[j]? = some y) : HT.lexLt x y = decide (((i : Nat) : Int) < ((j : Nat) : Int)) := by
  rcases Nat.lt_trichotomy i j with c | c | c
  · rw [up_at h hi hj c, decide_eq_true (by omega)]
  · subst c
    rw [hi] at hj
    rw [Option.some.inj hj, lex_irrS, decide_eq_false (by omega)]
  · rw [lex_asym _ _ (up_at h hj hi c), decide_eq_false (by omega)]
theorem nc_tiA {p : List Int} (px : Par p) : Nc 1 660 (.tuple (p.map PyData.int)) := (nc_tup (nc_ints (par_small px.rg px.le))).le (by decide) (Nat.mul_le_mul (Nat.le_refl _) px.le)
theorem nc_tiS {p : List Int} (px : Par p) : Nc 20 (2 ^ 20) (.tuple (p.map PyData.int)) := (nc_tiA px).le (by decide) (by decide)
section
variable {P : Program} {w : World} {K : PySem.W.Frag} {mg : Str → Option Value} {base : Heap}
abbrev s_law : Stmt := topS 41
theorem sc_law : FnScope ["script", "m", "many", "first", "second", "total", "places", "place", "told", "third", "due", "n", "one"] ["script"] (defScope s_law) := ⟨rfl, rfl, rfl, by decide +kernel, rfl, by decide +kernel, by decide +kernel⟩
/-- what law calls -/
structure Calls (P : Program) (w : World) (K : PySem.W.Frag) (mg : Str → Option Value) (base : Heap) : Prop where
  begun : Use P w K mg base "_law_begun" 2 ["script"] (spBegun K)
  draw : Use P w K mg base "_law_draw" 2 ["m", "limit"] spDraw
  any : Use P w K mg base "_law_any_parting" 3 ["m", "many"] spAny
  coarser : Use P w K mg base "_law_coarser" 3 ["m", "parting"] spCoarser
  count : Use P w K mg base "_law_count" 2 ["one", "two"] spBNum
  none : UseG P w K mg base "_law_none_told" 8 ["one", "two"] spNoneT
  like : UseG P w K mg base "_law_like" 1 ["got", "due"] (spLike K)
  likeI : Use P w K mg base "_law_like" 1 ["got", "due"] spLikeI
  number : Use P w K mg base "between_number" 7 ["parting", "other"] spBNum
  at_ : Use P w K mg base "between_at" 7 ["parting", "other", "number"] spAt
  nb : Use P w K mg base "number_between" 7 ["parting", "other", "third"] spNB
  below : Use P w K mg base "_law_below" 3 ["m", "limit"] spLBelow
  right : Use P w K mg base "_law_right_at" 8 ["one", "two", "place"] spRightAt
  finer : Use P w K mg base "_law_is_finer" 1 ["one", "two"] spLFiner
  isint : Use P w K mg base "_law_is_int" 1 ["thing", "low", "high"] spIntWA
  lparts : Use P w K mg base "_law_partings" 1 ["many"] spLParts
def spLaw (K : PySem.W.Frag) : Sp := fun vs H Q _ => ∃ (a : Addr) (ns : List Int), vs = [.ref a] ∧ SqL K H a (ns.map V.int) ∧ ns.length ≤ 63 ∧ ∀ H', Q (.bl true) H'
/-- the context of law's own lines -/
abbrev LX (P : Program) (w : World) (K : PySem.W.Frag) (mg : Str → Option Value) (base : Heap) (f : Addr) (cdv : Value) (A : Around) (outer : List Env) (s : Shared) (H : Hp) (E : XK) : Cx :=
  (cxOf CX0 P w K mg base ["script", "m", "many", "first", "second", "total", "places", "place", "told", "third", "due", "n", "one"] "law" (defScope s_law) f cdv A outer s H E).nox
variable {f : Addr} {cdv : Value} {A : Around} {outer : List Env} {s : Shared} {H0 : Hp} {E : XK}
theorem lawD (T : Bt mg) (C : Calls P w K mg base) (gd : (A.deeper (envOfC "law" (defScope s_law) s.heap.objs.size f cdv)).guards = some []) (hr : Room 8 (A.deeper (envOfC "law" (defScope s_law) s.heap.objs.size f cdv))) :
    ∃ t, PSs (LX P w K mg base f cdv A outer s H0 E) ((defBody s_law).drop 16) t ∧ ∀ (D : Ends) (σ : L2.St) (H : Hp), (∃ (fa sa : Addr) (p r : List Int) (y0 y1 y6 y7 y8 y9 y10 y11 y12 : Option V), σ = [y0, y1, some (.int ((p.length : Nat) : Int)), some (.ref fa), some (.ref sa), some (vN (betw p r).length), y6, y7, y8, y9, y10, y11, y12] ∧ TI H fa p ∧ TI H sa r ∧ Par p ∧ Par r ∧ p.length = r.length ∧ Finer p r ∧ ∀ H', D.rt (.bl true) H') → t D σ H := by
  have u__law_like := C.like
  have u__law_is_finer := C.finer
  have u__law_partings := C.lparts
  have u_between_at := C.at_
  refine ⟨_, (pss_cons (ps_if (pt_cmpR op_gt (pv 2) pe_int (nomark _)) (pss_one (ps_ret pe_bl)) pss_nil)
      (pss_cons (ps_setLc (i := 10) (own := [("one", 12)]) rfl sc_law.nd rfl rfl (sw_true rfl rfl rfl (by decide +kernel)) (k_list (K := K) rfl (pe_use u__law_partings (by decide) hr (by rfl) (pa_cons (pv 2) pa_nil))) (blkOk_by (N := ["script", "m", "many", "first", "second", "total", "places", "place", "told", "third", "due", "n", "one"]) (sc := defScope s_law) (by decide +kernel)) (fun _ _ _ _ _ => (pg_name (i := 12) sc_law.nd rfl (Or.inl rfl))) (fun _ _ _ _ _ => (pts_one (PW.pt (pw_and (pt_val (pe_use u__law_is_finer (by decide) hr (by rfl) (pa_cons (pv 3) (pa_cons (pv 12) pa_nil)))) (pw_and1 (pt_val (pe_use u__law_is_finer (by decide) hr (by rfl) (pa_cons (pv 12) (pa_cons (pv 4) pa_nil))))))))) (fun _ _ _ _ _ => (pv 12)))
      (pss_one (ps_ret (pe_useG u__law_like gd (by decide) hr (by rfl) (pa_cons (pe_lc (own := [("place", 7)]) rfl sc_law.nd (pi_range1 (by rfl) T.range (pa_cons (pv 5) pa_nil)) (blkOk_by (N := ["script", "m", "many", "first", "second", "total", "places", "place", "told", "third", "due", "n", "one"]) (sc := defScope s_law) (by decide +kernel)) (fun _ _ _ _ _ => (pg_name (i := 7) sc_law.nd rfl (Or.inl rfl))) (fun _ _ _ _ _ => pts_nil) (fun _ _ _ _ _ => (pe_use u_between_at (by decide) hr (by rfl) (pa_cons (pv 3) (pa_cons (pv 4) (pa_cons (pv 7) pa_nil)))))) (pa_cons (pv 10) pa_nil))))))), ?_⟩
  rintro D σ H ⟨fa, sa, p, r, y0, y1, y6, y7, y8, y9, y10, y11, y12, rfl, hp, hr', par, parr, hl, fin, q⟩
  have pos := List.length_pos_iff.mpr par.ne
  refine ⟨_, rfl, _, _, rfl, rfl, _, rfl, ?_⟩
  by_cases h5 : 5 < ((p.length : Nat) : Int)
  · rw [decide_eq_true h5]
    exact q _
  rw [decide_eq_false h5]
  have ball := betw_all par hl fin
  have hcnt : (allP (p.length - 1)).length ≤ 4140 := allP_count ⟨p.length - 1, by omega⟩
  refine ⟨_, rfl, p.length - 1, ?_, by omega, fun H1 l s1 ⟨ts, el, its⟩ => ?_⟩
  · exact congrArg (fun z => [V.int z]) (by omega : ((p.length : Nat) : Int) = ((p.length - 1 + 1 : Nat) : Int))
  refine ⟨l, rfl, ⟨_, sqL el⟩, fun L nL => ?_⟩
  refine lc_list (K := K) (a := l) (xs := ts.map V.ref) (fun k H3 => Same H1 H3 ∧ ∃ us : List Addr, H3 L = some (.lst (us.map V.ref)) ∧ Its H3 us (((allP (p.length - 1)).take k).filter (selF p r)))
    ⟨same_new nL, [], upd_same, Its.nil⟩ (fun k H3 _ ⟨s3, _⟩ => sqL (s3 _ _ el)) ?_ ?_
  · rintro k v H3 hk ⟨s3, us, eL, it⟩
    obtain ⟨t, ht, rfl⟩ := map_at hk
    obtain ⟨row, hrow, et⟩ := its.2 k t ht
    obtain ⟨rg, rl⟩ := allP_ok _ row (List.mem_of_getElem? hrow)
    have fl : (((allP (p.length - 1)).take k).filter (selF p r)).length ≤ ((allP (p.length - 1)).take k).length := List.length_filter_le _ _
    rw [List.length_take] at fl
    have tk : ((allP (p.length - 1)).take (k + 1)).filter (selF p r) = ((allP (p.length - 1)).take k).filter (selF p r) ++ if selF p r row = true then [row] else [] := by
      rw [take_snoc hrow, List.filter_append]
      congr 1
      rw [List.filter_cons]
      rfl
    have s13 := s1.trans s3
    have et3 := et.mono s3
    refine ⟨rfl, _, rfl, _, rfl, fa, t, p, row, rfl, hp.mono s13, et3, by omega, by omega, fun H4 c s4 hc => ⟨c, rfl, ?_⟩⟩
    cases c with
    | false =>
      refine ⟨s3.trans s4, us, s4 _ _ eL, ?_⟩
      rw [tk, if_neg (fun z => by have := hc.mpr (sel_iff.mp z).1; cases this), List.append_nil]
      exact it.mono s4
    | true =>
    refine ⟨_, rfl, _, rfl, t, sa, row, r, rfl, et3.mono s4, hr'.mono (s13.trans s4), by omega, by omega, fun H5 c s5 hc2 => ⟨c, rfl, ?_⟩⟩
    have s45 := s4.trans s5
    cases c with
    | false =>
      refine ⟨s3.trans s45, us, s45 _ _ eL, ?_⟩
      rw [tk, if_neg (fun z => by have := hc2.mpr (sel_iff.mp z).2; cases this), List.append_nil]
      exact it.mono s45
    | true =>
    have eL4 := s45 _ _ eL
    refine ⟨_, rfl, _, eL4, ?_, same_mut (s3.trans s45) nL, us ++ [t], ?_, ?_⟩
    · rw [List.length_map, it.1]
      exact Nat.lt_of_le_of_lt (show _ ≤ 4140 by omega) (by decide)
    · rw [upd_same, List.map_append]
      rfl
    · rw [tk, if_pos (sel_iff.mpr ⟨hc.mp rfl, hc2.mp rfl⟩)]
      exact ((it.mono s45).put eL4).app (Its.one (show TI _ t _ from by
        have ht4 : H5 t = some (.tup _) := et3.mono s45
        show upd H5 L _ t = _
        rw [upd_ne (fun e => by rw [← e, ht4] at eL4; cases eL4)]
        exact ht4))
  rintro H3 ⟨s3, us, eL, it⟩
  rw [List.length_map, its.1, List.take_length, ball] at it
  have s13 := s1.trans s3
  have blen : (betw p r).length ≤ 4140 := by rw [← ball]; exact Nat.le_trans (List.length_filter_le _ _) hcnt
  have hp3 := hp.mono s13
  have hr3 := hr'.mono s13
  refine ⟨_, rfl, _, rfl, by omega, by omega, fun M nM => ?_⟩
  refine lc_range (fun k H5 => Same H3 H5 ∧ ∃ ws : List Addr, H5 M = some (.lst (ws.map V.ref)) ∧ Its H5 ws ((betw p r).take k)) ⟨same_new nM, [], upd_same, Its.nil⟩ ?_ ?_
  · rintro k H5 hk ⟨s5, ws, eM, iw⟩
    rw [Int.toNat_natCast] at hk
    refine ⟨rfl, _, rfl, _, rfl, _, rfl, fa, sa, p, r, k, ?_, hp3.mono s5, hr3.mono s5, par, parr, hl, fin, hk, fun H6 t x s6 tx hx => ?_⟩
    · exact congrArg (fun z => [V.ref fa, V.ref sa, V.int z]) (by omega : (0 : Int) + ((k : Nat) : Int) = ((k : Nat) : Int))
    have eM6 := s6 _ _ eM
    have wl := iw.1
    rw [List.length_take] at wl
    refine ⟨_, eM6, ?_, same_mut (s5.trans s6) nM, ws ++ [t], ?_, ?_⟩
    · rw [List.length_map]
      exact Nat.lt_of_le_of_lt (show _ ≤ 4140 by omega) (by decide)
    · rw [upd_same, List.map_append]
      rfl
    · rw [take_snoc hx]
      exact ((iw.mono s6).put eM6).app (Its.one (show TI _ t _ from by
        have ht4 : H6 t = some (.tup _) := tx
        show upd H6 M _ t = _
        rw [upd_ne (fun e => by rw [← e, ht4] at eM6; cases eM6)]
        exact ht4))
  rintro H5 ⟨s5, ws, eM, iw⟩
  rw [Int.toNat_natCast, List.take_length] at iw
  have nc : Nc 20 (2 ^ 20) (.list ((betw p r).map fun xs => PyData.tuple (xs.map PyData.int))) := (nc_lst (nc_all (k := 1) (W := 55) fun d hd => by
    obtain ⟨x, hx, rfl⟩ := List.mem_map.mp hd
    obtain ⟨px, lx, _, _⟩ := betw_par par hl fin hx
    exact (nc_tup (nc_ints (par_small px.rg px.le))).le (by decide) (Nat.le_trans (Nat.mul_le_mul (Nat.le_refl _) (show x.length ≤ 5 by omega)) (by decide)))).le (by decide) (by
      rw [List.length_map]
      exact Nat.le_trans (Nat.mul_le_mul (Nat.le_refl _) blen) (by decide))
  exact ⟨_, rfl, .ref M, .ref L, _, rfl, .lst (sqL eM) (dp_its iw), .lst (sqL (s5 _ _ eL)) (dp_its (it.mono s5)), rfl, nc, q _⟩
theorem lawC (T : Bt mg) (C : Calls P w K mg base) (gd : (A.deeper (envOfC "law" (defScope s_law) s.heap.objs.size f cdv)).guards = some []) (hr : Room 8 (A.deeper (envOfC "law" (defScope s_law) s.heap.objs.size f cdv))) :
    ∃ t, PSs (LX P w K mg base f cdv A outer s H0 E) ((defBody s_law).drop 12) t ∧ ∀ (D : Ends) (σ : L2.St) (H : Hp), (∃ (m c g fa sa : Addr) (p r : List Int) (y0 y6 y7 y8 y9 y10 y11 y12 : Option V), σ = [y0, some (.ref m), some (.int ((p.length : Nat) : Int)), some (.ref fa), some (.ref sa), some (vN (betw p r).length), y6, y7, y8, y9, y10, y11, y12] ∧ MS H m c g 1000 ∧ TI H fa p ∧ TI H sa r ∧ Par p ∧ Par r ∧ p.length = r.length ∧ Finer p r ∧ ∀ H', D.rt (.bl true) H') → t D σ H := by
  have u__law_draw := C.draw
  have u__law_coarser := C.coarser
  have u__law_any_parting := C.any
  have u__law_is_finer := C.finer
  have u__law_is_int := C.isint
  have u__law_like := C.like
  have u_number_between := C.nb
  have u_between_at := C.at_
  obtain ⟨t2, h2, k2⟩ := lawD (P := P) (w := w) (K := K) (mg := mg) (base := base) (f := f) (cdv := cdv) (A := A) (outer := outer) (s := s) (H0 := H0) (E := E) T C gd hr
  refine ⟨_, (pss_cons (ps_set (i := 9) sc_law.nd rfl (Or.inl rfl) (pe_ifExp (pt_cmpR op_eq (pe_use u__law_draw (by decide) hr (by rfl) (pa_cons (pv 1) (pa_cons pe_int pa_nil))) pe_int (nomark _)) (pe_use u__law_coarser (by decide) hr (by rfl) (pa_cons (pv 1) (pa_cons (pv 3) pa_nil))) (pe_use u__law_any_parting (by decide) hr (by rfl) (pa_cons (pv 1) (pa_cons (pv 2) pa_nil)))))
      (pss_cons (ps_set (i := 7) sc_law.nd rfl (Or.inl rfl) (pe_use u_number_between (by decide) hr (by rfl) (pa_cons (pv 3) (pa_cons (pv 4) (pa_cons (pv 9) pa_nil)))))
      (pss_cons (ps_if (pt_not (PW.pt (pw_and (pt_val (pe_use u__law_is_finer (by decide) hr (by rfl) (pa_cons (pv 3) (pa_cons (pv 9) pa_nil)))) (pw_and1 (pt_val (pe_use u__law_is_finer (by decide) hr (by rfl) (pa_cons (pv 9) (pa_cons (pv 4) pa_nil)))))))) (pss_one (ps_ret (pe_cmpR op_isN (pv 7) pe_non (nomark _)))) pss_nil)
      (pss_cons (ps_if (PW.pt (pw_or (pt_not (pt_val (pe_use u__law_is_int (by decide) hr (by rfl) (pa_cons (pv 7) (pa_cons pe_int (pa_cons (pe_op op_sub (pv 5) pe_int) pa_nil)))))) (pw_or1 (pt_not (pt_val (pe_useG u__law_like gd (by decide) hr (by rfl) (pa_cons (pe_use u_between_at (by decide) hr (by rfl) (pa_cons (pv 3) (pa_cons (pv 4) (pa_cons (pv 7) pa_nil)))) (pa_cons (pv 9) pa_nil)))))))) (pss_one (ps_ret pe_bl)) pss_nil)
      h2)))), ?_⟩
  rintro D σ H ⟨m, c, g, fa, sa, p, r, y0, y6, y7, y8, y9, y10, y11, y12, rfl, ms, hp, hr', par, parr, hl, fin, q⟩
  have pos := List.length_pos_iff.mpr par.ne
  have p60 := par.le
  refine ⟨_, rfl, m, c, g, _, 2, rfl, ms, by decide, by decide, by decide, fun H4 d4 k4 ms4 d40 d41 => ⟨rfl, _, rfl, ?_⟩⟩
  have hp4 := k4.ti ms hp
  have hr4 := k4.ti ms hr'
  refine if_factB (fun v H' => ∃ (ta : Addr) (t : List Int), v = .ref ta ∧ TI H' fa p ∧ TI H' sa r ∧ TI H' ta t ∧ Par t ∧ t.length = p.length) (fun _ Qv kv => ?_) (fun _ Qv kv => ?_) ?_
  · exact ⟨_, rfl, _, rfl, m, c, g, _, fa, p, rfl, ms4, by decide, hp4, par, fun H5 ta t k5 ms5 ht5 part lt => kv _ _ ⟨ta, t, rfl, k5.ti ms4 hp4, k5.ti ms4 hr4, ht5, part, lt⟩⟩
  · exact ⟨_, rfl, _, rfl, m, c, g, _, _, rfl, ms4, by decide, by omega, by omega, fun H5 ta t k5 ms5 ht5 part lt => kv _ _ ⟨ta, t, rfl, k5.ti ms4 hp4, k5.ti ms4 hr4, ht5, part, by omega⟩⟩
  rintro v H5 ⟨ta, t, rfl, hp5, hr5, ht5, part, lt⟩
  refine ⟨_, rfl, _, rfl, _, rfl, fa, sa, ta, p, r, t, rfl, hp5, hr5, ht5, par, parr, part, hl, lt, fun H6 s6 => ⟨fun f1 f2 n hn => ?_, fun nf => ?_⟩⟩
  · have nl := (List.getElem?_eq_some_iff.mp hn).1
    refine ⟨_, rfl, _, rfl, fa, ta, p, t, rfl, hp5.mono s6, ht5.mono s6, p60, lt.symm, fun H7 c s7 hc => ⟨c, rfl, ?_⟩⟩
    obtain rfl : c = true := hc.mpr f1
    have s67 := s6.trans s7
    refine ⟨_, rfl, _, rfl, ta, sa, t, r, rfl, ht5.mono s67, hr5.mono s67, by omega, by omega, fun H8 c s8 hc => ⟨c, rfl, ?_⟩⟩
    obtain rfl : c = true := hc.mpr f2
    have s68 := s67.trans s8
    refine ⟨_, rfl, _, rfl, _, _, rfl, rfl, vN n, 0, _, rfl, .int _, _, rfl, ?_⟩
    rw [show inV (vN n) 0 (((((betw p r).length : Nat) : Int)) - 1) = true from decide_eq_true ⟨by omega, by omega⟩]
    refine ⟨_, rfl, _, rfl, _, rfl, fa, sa, p, r, n, rfl, hp5.mono s68, hr5.mono s68, par, parr, hl, fin, nl, fun H9 u x s9 tu hx => ?_⟩
    obtain rfl : t = x := by
      rw [hn] at hx
      exact Option.some.inj hx
    have s69 := s68.trans s9
    refine ⟨_, rfl, .ref u, .ref ta, _, rfl, dp_ti tu, dp_ti (ht5.mono s69), rfl, nc_tiS part, true, rfl, ?_⟩
    exact k2 _ _ _ ⟨fa, sa, p, r, _, _, _, _, _, _, _, _, _, rfl, hp5.mono s69, hr5.mono s69, par, parr, hl, fin, fun H' => q H'⟩
  · refine ⟨_, rfl, _, rfl, fa, ta, p, t, rfl, hp5.mono s6, ht5.mono s6, p60, lt.symm, fun H7 c s7 hc => ⟨c, rfl, ?_⟩⟩
    cases c with
    | false => exact ⟨_, rfl, rfl, q _⟩
    | true =>
    have s67 := s6.trans s7
    refine ⟨_, rfl, _, rfl, ta, sa, t, r, rfl, ht5.mono s67, hr5.mono s67, by omega, by omega, fun H8 c2 s8 hc2 => ⟨c2, rfl, ?_⟩⟩
    cases c2 with
    | false => exact ⟨_, rfl, rfl, q _⟩
    | true => exact absurd ⟨hc.mp rfl, hc2.mp rfl⟩ nf
theorem lawB (T : Bt mg) (C : Calls P w K mg base) (gd : (A.deeper (envOfC "law" (defScope s_law) s.heap.objs.size f cdv)).guards = some []) (hr : Room 8 (A.deeper (envOfC "law" (defScope s_law) s.heap.objs.size f cdv))) :
    ∃ t, PSs (LX P w K mg base f cdv A outer s H0 E) ((defBody s_law).drop 8) t ∧ ∀ (D : Ends) (σ : L2.St) (H : Hp), (∃ (m c g fa sa : Addr) (p r : List Int) (mn : Int) (y0 y6 y7 y8 y9 y10 y11 y12 : Option V), σ = [y0, some (.ref m), some (.int mn), some (.ref fa), some (.ref sa), some (vN (betw p r).length), y6, y7, y8, y9, y10, y11, y12] ∧ mn = ((p.length : Nat) : Int) ∧ MS H m c g 600 ∧ TI H fa p ∧ TI H sa r ∧ Par p ∧ Par r ∧ p.length = r.length ∧ Finer p r ∧ ∀ H', D.rt (.bl true) H') → t D σ H := by
  have u__law_below := C.below
  have u__law_right_at := C.right
  have u_between_at := C.at_
  obtain ⟨t2, h2, k2⟩ := lawC (P := P) (w := w) (K := K) (mg := mg) (base := base) (f := f) (cdv := cdv) (A := A) (outer := outer) (s := s) (H0 := H0) (E := E) T C gd hr
  refine ⟨_, (pss_cons (ps_set (i := 6) sc_law.nd rfl (Or.inr rfl) (pe_callB cr_sortedI (by rfl) T.sorted (by decide +kernel) (pa_cons (pe_lst (pa_cons (pe_use u__law_below (by decide) hr (by rfl) (pa_cons (pv 1) (pa_cons (pv 5) pa_nil))) (pa_cons (pe_use u__law_below (by decide) hr (by rfl) (pa_cons (pv 1) (pa_cons (pv 5) pa_nil))) (pa_cons (pe_op op_fdivW (pv 5) pe_int) pa_nil)))) pa_nil)))
      (pss_cons (ps_for PassesOwn.never rfl (k_list (K := K) rfl (pv 6)) (pg_name (i := 7) sc_law.nd rfl (Or.inl rfl))
      (pss_one (ps_if (pt_not (pt_val (pe_use u__law_right_at (by decide) hr (by rfl) (pa_cons (pv 3) (pa_cons (pv 4) (pa_cons (pv 7) pa_nil)))))) (pss_one (ps_ret pe_bl)) pss_nil)))
      (pss_cons (ps_set (i := 8) sc_law.nd rfl (Or.inr rfl) (pe_lc (own := [("place", 7)]) rfl sc_law.nd (k_list (K := K) rfl (pv 6)) (blkOk_by (N := ["script", "m", "many", "first", "second", "total", "places", "place", "told", "third", "due", "n", "one"]) (sc := defScope s_law) (by decide +kernel)) (fun _ _ _ _ _ => (pg_name (i := 7) sc_law.nd rfl (Or.inl rfl))) (fun _ _ _ _ _ => pts_nil) (fun _ _ _ _ _ => (pe_use u_between_at (by decide) hr (by rfl) (pa_cons (pv 3) (pa_cons (pv 4) (pa_cons (pv 7) pa_nil)))))))
      (pss_cons (ps_if (pt_cmpR (k_neD (K := K) rfl hr.units) (pe_lc (own := [("n", 11)]) rfl sc_law.nd (pi_range1 (by rfl) T.range (pa_cons pe_int pa_nil)) (blkOk_by (N := ["script", "m", "many", "first", "second", "total", "places", "place", "told", "third", "due", "n", "one"]) (sc := defScope s_law) (by decide +kernel)) (fun _ _ _ _ _ => (pg_name (i := 11) sc_law.nd rfl (Or.inl rfl))) (fun _ _ _ _ _ => (pts_one (pt_cmpR op_ne (pe_cmpR (k_ltT (K := K) rfl (units0 hr)) (pe_ix (k_ixl (K := K) rfl) (pv 8) (pv 11) (fun _ _ => rfl)) (pe_ix (k_ixl (K := K) rfl) (pv 8) (pe_op op_add (pv 11) pe_int) (fun _ _ => rfl)) (nomark _)) (pe_cmpR op_lt (pe_ix (k_ixl (K := K) rfl) (pv 6) (pv 11) (fun _ _ => rfl)) (pe_ix (k_ixl (K := K) rfl) (pv 6) (pe_op op_add (pv 11) pe_int) (fun _ _ => rfl)) (nomark _)) (nomark _)))) (fun _ _ _ _ _ => pe_int)) (pe_lst pa_nil) (nomark _)) (pss_one (ps_ret pe_bl)) pss_nil)
      h2)))), ?_⟩
  rintro D σ H ⟨m, c, g, fa, sa, p, r, mn, y0, y6, y7, y8, y9, y10, y11, y12, rfl, rfl, ms, hp, hr', par, parr, hl, fin, q⟩
  have p60 := par.le
  have big := betw_big hl p60
  have T0 := (betw_last hl par.rg parr.rg fin).1
  have bup := betw_up (q := r) hl par.rg
  refine ⟨_, rfl, _, rfl, m, c, g, _, _, rfl, ms, by decide, T0, big, fun H1 r1 k1 ms1 l1 => ?_⟩
  refine ⟨_, rfl, _, rfl, m, c, g, _, _, rfl, ms1, by decide, T0, big, fun H2 r2 k2' ms2 l2 => ?_⟩
  refine ⟨_, rfl, _, _, rfl, rfl, ⟨by decide, by decide⟩, ?_⟩
  refine ⟨by show 3 ≤ sizeLine; decide, fun L nL => ?_⟩
  have hp2 := k2'.ti ms1 (k1.ti ms hp)
  have hr2 := k2'.ti ms1 (k1.ti ms hr')
  have sL := same_new (o := .lst [vN r1, vN r2, V.int ((((betw p r).length : Nat) : Int) / 2)]) nL
  refine ⟨L, [((r1 : Nat) : Int), ((r2 : Nat) : Int), (((betw p r).length : Nat) : Int) / 2], rfl, sqL upd_same, fun ns S pm up nS => ?_⟩
  have sS := sL.trans (same_new (o := .lst (ns.map V.int)) nS)
  have rng : ∀ x ∈ ns, 0 ≤ x ∧ x < (((betw p r).length : Nat) : Int) := fun x hx => by
    have := pm.mem_iff.mp hx
    simp only [List.mem_cons, List.mem_nil_iff, or_false] at this
    rcases this with rfl | rfl | rfl <;> omega
  have nlen : ns.length = 3 := pm.length_eq
  have hp3 := hp2.mono sS
  have hr3 := hr2.mono sS
  have ms3 := ms2.mono sS
  have eS : (upd (upd H2 L (.lst [vN r1, vN r2, V.int ((((betw p r).length : Nat) : Int) / 2)])) S (.lst (ns.map V.int))) S = some (.lst (ns.map V.int)) := upd_same
  generalize upd (upd H2 L (.lst [vN r1, vN r2, V.int ((((betw p r).length : Nat) : Int) / 2)])) S (.lst (ns.map V.int)) = H3 at hp3 hr3 ms3 eS
  clear sS sL nS nL pm hp2 hr2 ms2 ms1 ms k1 k2' hp hr'
  refine ⟨_, rfl, S, rfl, ⟨_, sqL eS⟩, for_list (K := K) (a := S) (xs := ns.map V.int)
    (fun i σ H4 => ∃ (y7 : Option V), σ = [y0, some (.ref m), some (.int ((p.length : Nat) : Int)), some (.ref fa), some (.ref sa), some (vN (betw p r).length), some (.ref S), y7, y8, y9, y10, y11, y12] ∧ Same H3 H4)
    ⟨_, rfl, Same.refl H3⟩ (fun i σ H4 _ ⟨_, _, sm⟩ => sqL (sm _ _ eS)) ?_ ?_⟩
  · rintro i v σ H4 hi ⟨y7, rfl, sm⟩
    obtain ⟨x, hx, rfl⟩ := map_at hi
    have xr := rng x (List.mem_of_getElem? hx)
    refine ⟨_, rfl, _, rfl, _, rfl, fa, sa, p, r, x.toNat, ?_, hp3.mono sm, hr3.mono sm, par, parr, hl, fin, by omega, fun H5 s5 => ⟨true, rfl, ?_⟩⟩
    · exact congrArg (fun z => [V.ref fa, V.ref sa, V.int z]) (by omega : x = ((x.toNat : Nat) : Int))
    exact ⟨_, rfl, sm.trans s5⟩
  rintro σ H4 ⟨y7, rfl, sm⟩
  have hp4 := hp3.mono sm
  have hr4 := hr3.mono sm
  have ms4 := ms3.mono sm
  have eS4 := sm _ _ eS
  clear sm hp3 hr3 ms3 eS
  refine ⟨_, rfl, S, rfl, ⟨_, sqL eS4⟩, fun M nM => ?_⟩
  refine lc_list (K := K) (a := S) (xs := ns.map V.int) (fun k H5 => Same H4 H5 ∧ ∃ us : List Addr, H5 M = some (.lst (us.map V.ref)) ∧ us.length = k ∧ ∀ (i : Nat) (u : Addr) (x : Int), us[i]? = some u → ns[i]? = some x → ∃ z, (betw p r)[x.toNat]? = some z ∧ TI H5 u z)
    ⟨same_new nM, [], upd_same, rfl, fun i u x hu => by simp at hu⟩ (fun k H5 _ ⟨s5, _⟩ => sqL (s5 _ _ eS4)) ?_ ?_
  · rintro k v H5 hk ⟨s5, us, eM, lu, hu⟩
    obtain ⟨x, hx, rfl⟩ := map_at hk
    have xr := rng x (List.mem_of_getElem? hx)
    have kl := (List.getElem?_eq_some_iff.mp hx).1
    refine ⟨rfl, _, rfl, _, rfl, _, rfl, fa, sa, p, r, x.toNat, ?_, hp4.mono s5, hr4.mono s5, par, parr, hl, fin, by omega, fun H6 t z s6 tz hz => ?_⟩
    · exact congrArg (fun z => [V.ref fa, V.ref sa, V.int z]) (by omega : x = ((x.toNat : Nat) : Int))
    have eM6 := s6 _ _ eM
    have keep : ∀ {u : Addr} {zs : List Int}, TI H6 u zs → TI (upd H6 M (.lst (us.map V.ref ++ [V.ref t]))) u zs := fun {u zs} tu => by
      have tu' : H6 u = some (.tup _) := tu
      show upd H6 M _ u = _
      rw [upd_ne (fun e => by rw [← e, tu'] at eM6; cases eM6)]
      exact tu'
    refine ⟨_, eM6, ?_, same_mut (s5.trans s6) nM, us ++ [t], ?_, ?_, fun i u y hi hy => ?_⟩
    · rw [List.length_map, lu]
      exact small_of (by omega)
    · rw [upd_same, List.map_append]
      rfl
    · rw [List.length_append, lu]
      rfl
    · by_cases c : i < us.length
      · rw [List.getElem?_append_left c] at hi
        obtain ⟨w, hw, tw⟩ := hu i u y hi hy
        exact ⟨w, hw, keep (tw.mono s6)⟩
      · have il := (List.getElem?_eq_some_iff.mp hi).1
        rw [List.length_append] at il
        have il : i < us.length + 1 := il
        have ei : i = us.length := by omega
        subst ei
        rw [List.getElem?_append_right (Nat.le_refl _), Nat.sub_self] at hi
        obtain rfl : t = u := Option.some.inj hi
        rw [lu, hx] at hy
        obtain rfl := Option.some.inj hy
        exact ⟨z, hz, keep tz⟩
  rintro H5 ⟨s5, us, eM, lu, hu⟩
  rw [List.length_map, nlen] at lu
  have eS5 := s5 _ _ eS4
  have hp5 := hp4.mono s5
  have hr5 := hr4.mono s5
  have ms5 := ms4.mono s5
  clear s5 hp4 hr4 ms4 eS4 nM
  refine ⟨_, rfl, by decide, by decide, fun G nG => ?_⟩
  refine lc_range (fun k H6 => Same H5 H6 ∧ H6 G = some (.lst (([] : List Int).map V.int))) ⟨same_new nG, upd_same⟩ ?_ ?_
  · rintro j H6 hj ⟨s6, eG⟩
    have hj : j < 2 := hj
    obtain ⟨t0, h0⟩ := at_some (xs := us) (i := j) (by omega)
    obtain ⟨t1, h1⟩ := at_some (xs := us) (i := j + 1) (by omega)
    obtain ⟨x0, g0⟩ := at_some (xs := ns) (i := j) (by omega)
    obtain ⟨x1, g1⟩ := at_some (xs := ns) (i := j + 1) (by omega)
    obtain ⟨z0, hz0, tz0⟩ := hu j t0 x0 h0 g0
    obtain ⟨z1, hz1, tz1⟩ := hu (j + 1) t1 x1 h1 g1
    have r0 := rng x0 (List.mem_of_getElem? g0)
    have r1 := rng x1 (List.mem_of_getElem? g1)
    have eM6 := s6 _ _ eM
    have eS6 := s6 _ _ eS5
    refine ⟨rfl, _, rfl, _, rfl, M, _, _, .ref t0, rfl, rfl, sqL eM6, atI_of (j := j) (by omega) (at_map h0), ?_⟩
    refine ⟨_, rfl, _, rfl, _, _, rfl, rfl, M, _, _, .ref t1, rfl, rfl, sqL eM6, atI_of (j := j + 1) (by omega) (at_map h1), ?_⟩
    refine ⟨t0, t1, z0, z1, rfl, rfl, (tz0.mono s6).seq, (tz1.mono s6).seq, ?_⟩
    refine ⟨_, rfl, _, rfl, S, _, _, .int x0, rfl, rfl, sqL eS6, atI_of (j := j) (by omega) (at_map g0), ?_⟩
    refine ⟨_, rfl, _, rfl, _, _, rfl, rfl, S, _, _, .int x1, rfl, rfl, sqL eS6, atI_of (j := j + 1) (by omega) (at_map g1), ?_⟩
    refine ⟨_, _, rfl, rfl, rfl, _, rfl, ?_⟩
    rw [lex_iff bup hz0 hz1, show decide (((x0.toNat : Nat) : Int) < ((x1.toNat : Nat) : Int)) = decide (x0 < x1) from decide_eq_decide.mpr (by omega), decide_eq_true rfl]
    exact ⟨s6, eG⟩
  rintro H6 ⟨s6, eG⟩
  refine ⟨Nat.zero_le _, fun M2 nM2 => ?_⟩
  have nML : M2 ≠ G := fun e => by rw [e, eG] at nM2; cases nM2
  refine ⟨.list (([] : List Int).map PyData.int), .list [], .lst (sqL (by rw [upd_ne nML.symm]; exact eG)) (dpAll_ints _), .lst (sqL (xs := []) upd_same) .nil, shaped_ints _, rfl, _, rfl, ?_⟩
  rw [eqv_nil]
  have s7 := s6.trans (same_new (o := .lst []) nM2)
  exact k2 _ _ _ ⟨m, c, g, fa, sa, p, r, _, _, _, _, _, _, _, _, rfl, (ms5.mono s7).le (by decide), hp5.mono s7, hr5.mono s7, par, parr, hl, fin, fun H' => q H'⟩
theorem fn_law (F : Fun K "law" "law" s_law f fd) (T : Bt mg) (C : Calls P w K mg base) : FnG P w K mg base 9 f fd ["script"] (spLaw K) := by
  have u__law_begun := C.begun
  have u__law_draw := C.draw
  have u__law_any_parting := C.any
  have u__law_coarser := C.coarser
  have u__law_count := C.count
  have u__law_none_told := C.none
  have u__law_like := C.like
  have u__law_likeI := C.likeI
  have u_between_number := C.number
  have u_between_at := C.at_
  refine Fun.okG F sc_law (fun vs H Q E h => ?_) (fun cdv A outer s H vs Q E gd hr h => ?_)
  · obtain ⟨a, ns, rfl, _⟩ := h
    rfl
  obtain ⟨a, ns, rfl, hs, hl, q⟩ := h
  obtain ⟨t2, h2, k2⟩ := lawB (P := P) (w := w) (K := K) (mg := mg) (base := base) (f := f) (cdv := cdv) (A := A) (outer := outer) (s := s) (H0 := H) (E := E) T C gd hr
  refine ⟨_, (pss_cons (ps_set (i := 1) sc_law.nd rfl (Or.inl rfl) (pe_use u__law_begun (by decide) hr (by rfl) (pa_cons (pv 0) pa_nil)))
      (pss_cons (ps_set (i := 2) sc_law.nd rfl (Or.inl rfl) (pe_op op_add pe_int (pe_use u__law_draw (by decide) hr (by rfl) (pa_cons (pv 1) (pa_cons (pe_ifExp (pt_cmpR op_gt (pe_use u__law_draw (by decide) hr (by rfl) (pa_cons (pv 1) (pa_cons pe_int pa_nil))) pe_int (nomark _)) pe_int pe_int) pa_nil)))))
      (pss_cons (ps_set (i := 3) sc_law.nd rfl (Or.inr rfl) (pe_use u__law_any_parting (by decide) hr (by rfl) (pa_cons (pv 1) (pa_cons (pv 2) pa_nil))))
      (pss_cons (ps_set (i := 4) sc_law.nd rfl (Or.inr rfl) (pe_ifExp (pt_cmpR op_eq (pe_use u__law_draw (by decide) hr (by rfl) (pa_cons (pv 1) (pa_cons pe_int pa_nil))) pe_int (nomark _)) (pe_use u__law_any_parting (by decide) hr (by rfl) (pa_cons (pv 1) (pa_cons (pv 2) pa_nil))) (pe_use u__law_coarser (by decide) hr (by rfl) (pa_cons (pv 1) (pa_cons (pv 3) pa_nil)))))
      (pss_cons (ps_set (i := 5) sc_law.nd rfl (Or.inl rfl) (pe_use u__law_count (by decide) hr (by rfl) (pa_cons (pv 3) (pa_cons (pv 4) pa_nil))))
      (pss_cons (ps_if (pt_cmpR op_eq (pv 5) pe_int (nomark _)) (pss_one (ps_ret (pe_useG u__law_none_told gd (by decide) hr (by rfl) (pa_cons (pv 3) (pa_cons (pv 4) pa_nil))))) pss_nil)
      (pss_cons (ps_if (pt_not (pt_val (pe_use u__law_likeI (by decide) hr (by rfl) (pa_cons (pe_use u_between_number (by decide) hr (by rfl) (pa_cons (pv 3) (pa_cons (pv 4) pa_nil))) (pa_cons (pv 5) pa_nil))))) (pss_one (ps_ret pe_bl)) pss_nil)
      (pss_cons (ps_if (pt_not (pt_val (pe_useG u__law_like gd (by decide) hr (by rfl) (pa_cons (pe_lst (pa_cons (pe_use u_between_at (by decide) hr (by rfl) (pa_cons (pv 3) (pa_cons (pv 4) (pa_cons pe_int pa_nil)))) (pa_cons (pe_use u_between_at (by decide) hr (by rfl) (pa_cons (pv 3) (pa_cons (pv 4) (pa_cons (pe_op op_sub (pv 5) pe_int) pa_nil)))) pa_nil))) (pa_cons (pe_lst (pa_cons (pv 4) (pa_cons (pv 3) pa_nil))) pa_nil))))) (pss_one (ps_ret pe_bl)) pss_nil)
      h2)))))))), ?_⟩
  refine ⟨_, rfl, a, ns, rfl, hs, hl, fun H0 m c g ms0 => ?_⟩
  refine ⟨_, rfl, _, rfl, m, c, g, 0, 3, rfl, ms0, by decide, by decide, by decide, fun H1 d1 k1 ms1 d10 d11 => ⟨_, _, rfl, rfl, _, rfl, ?_⟩⟩
  refine if_factB (fun v H' => ∃ lim : Int, v = .int lim ∧ 1 ≤ lim ∧ lim ≤ 60 ∧ H' = H1) (fun _ Qv kv => kv _ _ ⟨60, rfl, by decide, by decide, rfl⟩) (fun _ Qv kv => kv _ _ ⟨5, rfl, by decide, by decide, rfl⟩) ?_
  rintro v H1' ⟨lim, rfl, lim1, lim2, rfl⟩
  refine ⟨m, c, g, _, lim, rfl, ms1, by decide, by omega, by omega, fun H2 d2 k2' ms2 d20 d21 => ⟨1, d2, rfl, rfl, ?_⟩⟩
  refine ⟨_, rfl, _, rfl, m, c, g, _, 1 + d2, rfl, ms2, by decide, by omega, by omega, fun H3 fa p k3 ms3 hp3 par lp => ?_⟩
  refine ⟨_, rfl, m, c, g, _, 5, rfl, ms3, by omega, by decide, by decide, fun H4 d4 k4 ms4 d40 d41 => ⟨rfl, _, rfl, ?_⟩⟩
  have hp4 := k4.ti ms3 hp3
  refine if_factB (fun v H' => ∃ (sa : Addr) (r : List Int), v = .ref sa ∧ MS H' m c g 300 ∧ TI H' fa p ∧ TI H' sa r ∧ Par r ∧ r.length = p.length) (fun _ Qv kv => ?_) (fun _ Qv kv => ?_) ?_
  · exact ⟨_, rfl, _, rfl, m, c, g, _, 1 + d2, rfl, ms4, by omega, by omega, by omega, fun H5 sa r k5 ms5 hr5 parr lr => kv _ _ ⟨sa, r, rfl, ms5.le (by omega), k5.ti ms4 hp4, hr5, parr, by omega⟩⟩
  · exact ⟨_, rfl, _, rfl, m, c, g, _, fa, p, rfl, ms4, by omega, hp4, par, fun H5 sa r k5 ms5 hr5 parr lr => kv _ _ ⟨sa, r, rfl, ms5.le (by omega), k5.ti ms4 hp4, hr5, parr, lr⟩⟩
  rintro v H5 ⟨sa, r, rfl, ms5, hp5, hr5, parr, lr⟩
  clear k1 k2' k3 k4 ms0 ms1 ms2 ms3 ms4 hp3 hp4
  have p60 := par.le
  have lrp : p.length = r.length := lr.symm
  refine ⟨_, rfl, _, rfl, fa, sa, p, r, rfl, hp5, hr5, par, parr, lrp, fun H6 s6 => ⟨fun fin => ?_, fun nf => ?_⟩⟩
  · have big := betw_big lrp p60
    obtain ⟨T0, lastp⟩ := betw_last lrp par.rg parr.rg fin
    have zerop := betw_zero lrp par.rg parr.rg fin
    refine ⟨_, rfl, rfl, _, rfl, ?_⟩
    rw [decide_eq_false (show ¬ V.int (((betw p r).length : Nat) : Int) = V.int 0 from fun z => by have := V.int.inj z; omega)]
    refine ⟨_, rfl, _, rfl, fa, sa, p, r, rfl, hp5.mono s6, hr5.mono s6, par, parr, lrp, fun H7 s7 => ⟨fun _ => ?_, fun nf => absurd fin nf⟩⟩
    refine ⟨_, rfl, _, rfl, big, true, rfl, ?_⟩
    have s67 := s6.trans s7
    refine ⟨_, rfl, _, rfl, fa, sa, p, r, 0, rfl, hp5.mono s67, hr5.mono s67, par, parr, lrp, fin, T0, fun H8 t0 x0 s8 tx0 hx0 => ?_⟩
    have s68 := s67.trans s8
    refine ⟨_, rfl, _, rfl, _, rfl, _, _, rfl, rfl, fa, sa, p, r, (betw p r).length - 1, ?_, hp5.mono s68, hr5.mono s68, par, parr, lrp, fin, by omega, fun H9 t1 x1 s9 tx1 hx1 => ?_⟩
    · exact congrArg (fun z => [V.ref fa, V.ref sa, V.int z]) (by omega : (((betw p r).length : Nat) : Int) - 1 = (((betw p r).length - 1 : Nat) : Int))
    rw [zerop] at hx0
    rw [lastp] at hx1
    obtain rfl := Option.some.inj hx0
    obtain rfl := Option.some.inj hx1
    have s69 := s68.trans s9
    refine ⟨by show 2 ≤ sizeLine; decide, fun L nL => ?_⟩
    refine ⟨_, rfl, _, rfl, by show 2 ≤ sizeLine; decide, fun M nM => ?_⟩
    have sL := same_new (o := .lst [V.ref t0, .ref t1]) nL
    have sM := same_new (o := .lst [V.ref sa, .ref fa]) nM
    have s9z := sL.trans sM
    have s6z := s69.trans s9z
    refine ⟨.ref L, .ref M, .list [.tuple (r.map PyData.int), .tuple (p.map PyData.int)], rfl,
      .lst (sqL (sM _ _ upd_same)) (.cons (dp_ti ((tx0.mono s9).mono s9z)) (.cons (dp_ti (tx1.mono s9z)) .nil)),
      .lst (sqL upd_same) (.cons (dp_ti (hr5.mono s6z)) (.cons (dp_ti (hp5.mono s6z)) .nil)), rfl,
      (nc_lst (nc_cons (nc_tiA parr) (nc_cons (nc_tiA par) (nc_nil 1)))).le (by decide) (by decide), true, rfl, ?_⟩
    exact k2 _ _ _ ⟨m, c, g, fa, sa, p, r, _, _, _, _, _, _, _, _, _, rfl, by omega, (ms5.mono s6z).le (by decide), hp5.mono s6z, hr5.mono s6z, par, parr, lrp, fin, fun H' => q H'⟩
  · refine ⟨_, rfl, rfl, _, rfl, ?_⟩
    rw [decide_eq_true (show V.int 0 = V.int 0 from rfl)]
    exact ⟨_, rfl, _, rfl, fa, sa, p, r, rfl, hp5.mono s6, hr5.mono s6, par, parr, lrp, nf, fun H' => q H'⟩
end
end KQ
namespace KQ
open PySem PySem.Spec PyProof.Rows L2 KR
section
variable {P : Program} {w : World} {K : PySem.W.Frag} {mg : Str → Option Value} {h : Heap} {Goal : Prop}
/-- a def that the top has -/
theorem step_def {x : Str} {st : Stmt} {f : Addr} {oc : Value} {od an : Option Addr} {osl : Array (Option Value)} {kV doc pm cdv ct : Value} (X : K.In h) (G : h.Ns mainGlobals mg)
    (a : PySem.W.nsIn K mainGlobals x = some (some (.ref f))) (l : K.lookup f = some ⟨oc, od, .func (PySem.W.fnOf x x (defArgs st) (defBody st) (defScope st) .none kV doc pm an cdv ct), osl⟩)
    (c : PySem.W.codeIn K cdv x = true) (k : PySem.W.keepIn K (.ref f) = true) (n : DefAt K mg x st → Goal) : Goal :=
  n ⟨f, _, fun_mk (st := st) l c k, PySem.W.mg_of X G a⟩
theorem step_cst {x : Str} {v : Int} {t : Tok} (X : K.In h) (G : h.Ns mainGlobals mg) (a : PySem.W.nsIn K mainGlobals x = some (some (.int v t))) (n : Cst mg x v → Goal) : Goal := n ⟨t, PySem.W.mg_of X G a⟩
theorem step_none {x : Str} (X : K.In h) (G : h.Ns mainGlobals mg) (a : PySem.W.nsIn K mainGlobals x = some none) (n : mg x = none → Goal) : Goal := n (PySem.W.mg_none_of X G a)
theorem step_cls {x : Str} {C : Addr} (X : K.In h) (G : h.Ns mainGlobals mg) (aC : PySem.W.nsIn K mainGlobals x = some (some (.ref C))) (pg : PySem.W.plainGet K C Str.empty = true) (hd : PySem.W.hasDictIn K C = true)
    (po : PySem.W.plainOver K C = true) (sa : PySem.W.findIn K (.ref C) "__setattr__" = some (some (.builtin "object.__setattr__"))) (mk : PySem.W.makesIn K C = true) (kc : PySem.W.keepIn K (.ref C) = true)
    (n : Cls K C → mg x = some (.ref C) → PySem.W.makesIn K C = true → PySem.W.keepIn K (.ref C) = true → Goal) : Goal := n ⟨pg, hd, po, sa⟩ (PySem.W.mg_of X G aC) mk kc
theorem step_init {q : Str} {st : Stmt} {C f : Addr} {oc : Value} {od an : Option Addr} {osl : Array (Option Value)} {kV doc pm cdv ct : Value}
    (a : PySem.W.findIn K (.ref C) "__init__" = some (some (.ref f))) (i : PySem.W.isFn K (.ref f) = true) (l : K.lookup f = some ⟨oc, od, .func (PySem.W.fnOf "__init__" q (defArgs st) (defBody st) (defScope st) .none kV doc pm an cdv ct), osl⟩)
    (c : PySem.W.codeIn K cdv q = true) (k : PySem.W.keepIn K (.ref f) = true) (mk : PySem.W.makesIn K C = true) (kc : PySem.W.keepIn K (.ref C) = true) (n : IAt K C q st → Goal) : Goal :=
  n ⟨f, _, fun_mk (st := st) l c k, ⟨mk, a, i, kc⟩⟩
theorem step_meth {m q : Str} {st : Stmt} {C f : Addr} {oc : Value} {od an : Option Addr} {osl : Array (Option Value)} {kV doc pm cdv ct : Value}
    (_X : Cls K C) (a : PySem.W.findIn K (.ref C) m = some (some (.ref f))) (i : PySem.W.isFn K (.ref f) = true) (l : K.lookup f = some ⟨oc, od, .func (PySem.W.fnOf m q (defArgs st) (defBody st) (defScope st) .none kV doc pm an cdv ct), osl⟩)
    (c : PySem.W.codeIn K cdv q = true) (k : PySem.W.keepIn K (.ref f) = true) (n : MAt K C m q st → Goal) : Goal :=
  n ⟨f, _, fun_mk (st := st) l c k, ⟨a, i, k⟩⟩
theorem step_noattr {x : Str} {C : Addr} (_X : Cls K C) (a : PySem.W.findIn K (.ref C) x = some none) (n : NoAttr K C x → Goal) : Goal := n a
end
end KQ
/-! own errors of the text, told by the written part -/
namespace KQ
open PySem PySem.Spec PyProof.Rows L2 KR
structure ErrK (P : Program) (K : PySem.W.Frag) (mg : Str → Option Value) (x : Str) (C : Addr) (fld : Str) : Prop where
  T : OexC K C
  ini : ∃ fI fd p, (∀ (w : World) (base : Heap), FnOk P w K mg base CX0 1 fI fd ["self", p] (spIni C fld)) ∧ PySem.W.findIn K (.ref C) "__init__" = some (some (.ref fI)) ∧ PySem.W.typeIn K (.ref fI) = some (.type "function") ∧ Binds K fd ["self", p] []
  hm : mg x = some (.ref C)
  xf : XfC K C
  nf : PySem.W.findIn K (.ref C) fld = some none
theorem ErrK.err {P : Program} {w : World} {K : PySem.W.Frag} {mg : Str → Option Value} {base : Heap} {x fld : Str} {C : Addr} (e : ErrK P K mg x C fld) : ErrC P w K mg base x C fld :=
  ⟨e.T, let ⟨fI, fd, p, F, a, b, c⟩ := e.ini; ⟨fI, fd, p, F w base, a, b, c⟩, e.hm, e.xf, e.nf⟩
section
variable {P : Program} {K : PySem.W.Frag} {mg : Str → Option Value} {h : Heap} {Goal : Prop}
theorem step_err {f cc cda C : Addr} {name qual fld x msg cx : Str} {params : Arguments} {scope : Scope} {dV kV doc pm ct oc ccl cl : Value} {an od cdd cld : Option Addr} {osl ccs csl : Array (Option Value)} {vs0 : Array Value} {file : Str} {tf : Tok} {ar : Arg}
    {j : Nat} {p0 p1 p2 p3 p4 p5 q1 q2 q3 q4 : Pos} {nm q : Str} {N : Addr} {bs bm : List Value} {sn : List Str} {sub : List Value} {ab : Bool} {col : Option Bool} {dd : Option Addr} {k0 k1 k2 k3 k5 : Option Value} {pl : Sem Bool}
    (X : K.In h) (G : h.Ns mainGlobals mg) (hsm : mg "super" = none)
    (aC : PySem.W.nsIn K mainGlobals cx = some (some (.ref C)))
    (lC : K.lookup C = some (excClassObj nm q C N bs bm true sn sub ab col dd k0 k1 k2 k3 k5 "ValueError.__new__")) (rv : PySem.HandSPX.refsVE bm = true)
    (sa : PySem.W.findIn K (.ref C) "__setattr__" = some (some (.builtin "object.__setattr__"))) (exC : PySem.W.subIn K (.ref C) (.type "BaseException") = some true) (tyC : PySem.W.typeIn K (.ref C) = some (.type "type")) (kC : PySem.W.keepIn K (.ref C) = true)
    (iC : PySem.W.findIn K (.ref C) "__init__" = some (some (.ref f))) (tI : PySem.W.typeIn K (.ref f) = some (.type "function"))
    (lk : K.lookup f = some ⟨oc, od, .func (PySem.W.ksFn name qual params (iniBody msg fld x j p0 p1 p2 p3 p4 p5 q1 q2 q3 q4) scope dV kV doc pm an (.ref cda) ct cc), osl⟩)
    (hcd : PySem.W.codeIn K (.ref cda) qual = true) (hcode : K.lookup cda = some ⟨ccl, cdd, .fields vs0, ccs⟩) (hvs : vs0[2]? = some (.str file tf)) (hfile : ((P.main.file : Str) == file) = true)
    (htop : (P.main.scope.names.lookup ("super" : Str)).isSome = false) (hcell : K.lookup cc = some ⟨cl, cld, .cell (some (.ref C)), csl⟩)
    (hsup : PySem.W.ks_superIn K C C "__init__" = some (some (.builtin "ValueError.__init__"))) (hV : PySem.W.subIn K (.ref C) (.type "ValueError") = some true) (hmro : PySem.W.mroIn K C (.ref C) = some true)
    (hop : PySem.W.nsIn K cStatics "thirdparty.any" = some none) (hfa : PySem.W.findIn K (.ref C) fld = some none)
    (hp : (params.posonlyargs ++ params.args).head? = some ar) (har : ar.arg = "self") (hx : ¬ (x = "self")) (hxd : (x == ("__debug__" : Str)) = false) (hxc : (x == ("__classdict__" : Str)) = false)
    (hk : scope.kind = .function) (hco : scope.isCoroutine = false) (hgen : scope.isGenerator = false)
    (l1 : scope.names.lookup ("self" : Str) = some .local) (l2 : scope.names.lookup x = some .local) (l3 : scope.names.lookup ("__class__" : Str) = some .free) (l4 : scope.names.lookup ("super" : Str) = some .globalImplicit)
    (hev : ∀ L, eval (.Call (.Attribute (.Call (.Name "super" p0) [] [] p1) "__init__" p2) [.Constant (.str msg) j p3] [] p4) (PySem.W.ksEnv qual scope L f (.ref cda) cc) = (do
      let ov ← attributeBase (.Call (.Name "super" p0) [] [] p1) "__init__" (PySem.W.ksEnv qual scope L f (.ref cda) cc) (eval (.Call (.Name "super" p0) [] [] p1) (PySem.W.ksEnv qual scope L f (.ref cda) cc))
      standAt p2.atName
      let (fn, first) ← holding [ov] (getMethod ov "__init__" pl)
      callWith p4 fn first (backTo p4 (starEach [.Constant (.str msg) j p3] (PySem.W.ksEnv qual scope L f (.ref cda) cc))) []))
    (l5 : ∀ y ∈ scope.names, y.2 ≠ .cell) (l6 : ∀ y ∈ scope.names, y.2 = .free → y.1 = "__class__")
    (hb : ∀ us : List Value, us.length = 2 → bindArgs (PySem.W.ksFn name qual params (iniBody msg fld x j p0 p1 p2 p3 p4 p5 q1 q2 q3 q4) scope dV kV doc pm an (.ref cda) ct cc) ⟨us, []⟩ = pure ((["self", x] : List Str).zip us))
    (ga : PySem.W.findIn K (.ref C) "__getattribute__" = some (some (.builtin "BaseException.__getattribute__"))) (gg : PySem.W.findIn K (.ref C) "__getattr__" = some none) (hdC : PySem.W.hasDictIn K C = true)
    (n : ErrK P K mg cx C fld → Goal) : Goal :=
  have T : OexC K C := ⟨⟨nm, q, N, bs, bm, sn, sub, ab, col, dd, k0, k1, k2, k3, k5, lC, rv⟩, sa, exC, tyC, kC⟩
  n ⟨T, ⟨f, _, x, fun w base => fn_ini T lk hcd hcode hvs hfile htop hcell hsup hV hmro hop hsm hfa hp har hx hxd hxc hk hco hgen l1 l2 l3 l4 hev l5 l6, iC, tI, Binds.all hb⟩, PySem.W.mg_of X G aC, ⟨ga, gg, exC, hdC⟩, hfa⟩
theorem step_exm1 {x fx : Str} {A : Addr} (eA : ErrK P K mg x A fx) (h1 : PySem.W.subIn K (.ref A) (.ref A) = some true) (n : PySem.W.exmOne K (.ref A) (.ref A) = some true → Goal) : Goal :=
  n (PySem.W.exm_ref eA.xf.exC eA.xf.hdC eA.T.tyC h1)
/-- which clause takes which of two own errors -/
theorem step_exm {x y fx fy : Str} {A B : Addr} (eA : ErrK P K mg x A fx) (eB : ErrK P K mg y B fy) (h1 : PySem.W.subIn K (.ref A) (.ref A) = some true) (h2 : PySem.W.subIn K (.ref B) (.ref A) = some false) (h3 : PySem.W.subIn K (.ref B) (.ref B) = some true)
    (n : ExM K A B → Goal) : Goal :=
  n ⟨PySem.W.exm_ref eA.xf.exC eA.xf.hdC eA.T.tyC h1, PySem.W.exm_ref eA.xf.exC eA.xf.hdC eA.T.tyC h2, PySem.W.exm_ref eB.xf.exC eB.xf.hdC eB.T.tyC h3⟩
end
end KQ
namespace KQ
open PySem PySem.Spec PyProof.Rows L2 KR KM StX
section
variable {P : Program} {w : World} {K : PySem.W.Frag} {mg : Str → Option Value} {base : Heap}
structure Defs (K : PySem.W.Frag) (mg : Str → Option Value) : Prop where
  d_is_integer : DefAt K mg "is_integer" s_is_integer
  d_is_tuple_within : DefAt K mg "is_tuple_within" s_is_tuple_within
  d_first_wrong_block : DefAt K mg "first_wrong_block" s_first_wrong_block
  d_need_parting : DefAt K mg "need_parting" s_need_parting
  d_need_parting_of : DefAt K mg "need_parting_of" s_need_parting_of
  d_need_two_partings : DefAt K mg "need_two_partings" s_need_two_partings
  d_lies_within : DefAt K mg "lies_within" s_lies_within
  d_growths : DefAt K mg "growths" s_growths
  d_inner_blocks : DefAt K mg "inner_blocks" s_inner_blocks
  d_first_doors : DefAt K mg "first_doors" s_first_doors
  d_between_number : DefAt K mg "between_number" s_between_number
  d_between_at : DefAt K mg "between_at" s_between_at
  d_number_between : DefAt K mg "number_between" s_number_between
  d__law_mixed : DefAt K mg "_law_mixed" s__law_mixed
  d__law_folded : DefAt K mg "_law_folded" s__law_folded
  d__law_draw : DefAt K mg "_law_draw" s__law_draw
  d__law_begun : DefAt K mg "_law_begun" s__law_begun
  d__law_like : DefAt K mg "_law_like" s__law_like
  d__law_is_int : DefAt K mg "_law_is_int" s__law_is_int
  d__law_numbered : DefAt K mg "_law_numbered" s__law_numbered
  d__law_partings : DefAt K mg "_law_partings" s__law_partings
  d__law_any_parting : DefAt K mg "_law_any_parting" s__law_any_parting
  d__law_product : DefAt K mg "_law_product" s__law_product
  d__law_below : DefAt K mg "_law_below" s__law_below
  d__law_coarser : DefAt K mg "_law_coarser" s__law_coarser
  d__law_is_finer : DefAt K mg "_law_is_finer" s__law_is_finer
  d__law_parting_counts : DefAt K mg "_law_parting_counts" s__law_parting_counts
  d__law_count : DefAt K mg "_law_count" s__law_count
  d__law_none_told : DefAt K mg "_law_none_told" s__law_none_told
  d__law_right_at : DefAt K mg "_law_right_at" s__law_right_at
  c_MOST_DOORS : Cst mg "MOST_DOORS" 60
structure Cl_Between (K : PySem.W.Frag) (mg : Str → Option Value) (C : Addr) : Prop where
  cC : Cls K C
  hm : mg "Between" = some (.ref C)
  n_parting : NoAttr K C "parting"
  n_other : NoAttr K C "other"
  n_left : NoAttr K C "left"
  n_made : NoAttr K C "made"
  n_growths : NoAttr K C "growths"
  n_blocks : NoAttr K C "blocks"
  n_number : NoAttr K C "number"
  i : IAt K C "Between.__init__" s_Between___init__
  m_choices : MAt K C "choices" "Between.choices" s_Between_choices
  m_choose : MAt K C "choose" "Between.choose" s_Between_choose
theorem calls {CN : Addr} {CB : Addr} (D : Defs K mg) (T : Bt mg) (eN : ErrK P K mg "BadNumber" CN "value") (X : PySem.W.exmOne K (.ref CN) (.ref CN) = some true) (LB : Cl_Between K mg CB) : Calls P w K mg base := by
  have eN := eN.err (w := w) (base := base)
  have at_ : Atts K CB := ⟨LB.cC, LB.n_parting, LB.n_other, LB.n_left, LB.n_made, LB.n_growths, LB.n_blocks, LB.n_number⟩
  have u_is_integer := ok_is_integer (P := P) (w := w) (base := base) D.d_is_integer T
  have u_tw := ok_is_tuple_within (P := P) (w := w) (base := base) D.d_is_tuple_within T
  have u_fw := ok_first_wrong_block (P := P) (w := w) (base := base) D.d_first_wrong_block T
  have u_need := ok_need_parting D.d_need_parting T D.c_MOST_DOORS u_tw u_fw
  have u_need_of := ok_need_parting_of D.d_need_parting_of T u_need
  have u_two := ok_need_two_partings D.d_need_two_partings T u_need u_need_of
  have u_lies := ok_lies_within (P := P) (w := w) (base := base) D.d_lies_within T
  have u_growths := ok_growths (P := P) (w := w) (base := base) D.d_growths T
  have u_inner := ok_inner (P := P) (w := w) (base := base) D.d_inner_blocks T
  have u_firstd := ok_first_doors (P := P) (w := w) (base := base) D.d_first_doors T
  have u_B := ok_binit LB.i T at_ LB.hm u_inner u_growths
  have u_ch := ok_choices (P := P) (w := w) (base := base) LB.m_choices T at_
  have u_cs := ok_choose (P := P) (w := w) (base := base) LB.m_choose T at_
  have u_bnum := ok_between_number D.d_between_number T at_ u_two u_lies u_B
  have u_at := ok_between_at D.d_between_at T at_ u_two u_lies u_is_integer u_firstd u_B u_ch u_cs
  have u_nb := ok_number_between D.d_number_between T at_ u_two u_need_of u_lies u_firstd u_B u_ch u_cs
  have ux_at := ok_between_atX D.d_between_at T at_ eN u_two u_lies u_is_integer u_firstd u_B u_ch u_cs
  have u_mixed := ok_mixed (P := P) (w := w) (base := base) D.d__law_mixed T
  have u_draw := ok_draw D.d__law_draw T u_mixed
  have u_folded := ok_folded (P := P) (w := w) (base := base) D.d__law_folded T
  have u_lnumL := ok_lnumL (P := P) (w := w) (base := base) D.d__law_numbered T
  have u_lnumU := ok_lnumU (P := P) (w := w) (base := base) D.d__law_numbered T
  have u_lparts := ok_lparts (P := P) (w := w) (base := base) D.d__law_partings T
  have u_lfiner := ok_lfiner (P := P) (w := w) (base := base) D.d__law_is_finer T
  have u_isint := ok_law_is_int (P := P) (w := w) (base := base) D.d__law_is_int T
  have u_like := ok_like (P := P) (w := w) (base := base) D.d__law_like T
  have u_likeI := ok_likeI (P := P) (w := w) (base := base) D.d__law_like T
  have u_counts := ok_parting_counts (P := P) (w := w) (base := base) D.d__law_parting_counts T
  have u_product := ok_product (P := P) (w := w) (base := base) D.d__law_product T
  exact ⟨ok_begun D.d__law_begun T u_folded, u_draw, ok_any D.d__law_any_parting T u_draw u_lnumL, ok_coarser D.d__law_coarser T u_draw u_lnumL, ok_lcount D.d__law_count T u_lfiner u_counts u_lnumL u_product,
    ok_none_told D.d__law_none_told T eN X ux_at u_bnum u_nb u_like, u_like, u_likeI, u_bnum, u_at, u_nb, ok_below D.d__law_below T u_draw, ok_right_at D.d__law_right_at T u_at u_isint u_lnumU u_lfiner u_nb u_likeI, u_lfiner, u_isint, u_lparts⟩
theorem finish {l : PySem.W.OpenLaw} {fa : Addr} {CN : Addr} {CB : Addr} (hfa : mg "law" = some (.ref fa)) (DL : DefAt K mg "law" s_law) (D : Defs K mg) (T : Bt mg) (eN : ErrK l.prog K mg "BadNumber" CN "value") (X : PySem.W.exmOne K (.ref CN) (.ref CN) = some true) (LB : Cl_Between K mg CB) :
    ∃ fd : FuncData, (∀ (s : Shared) (u : Value), BindsTo s fd ⟨[u], []⟩ [("script", u)]) ∧ ∀ base : Heap, K.In base → base.Ns mainGlobals mg → FnG l.prog w K mg base 9 fa fd ["script"] (spLaw K) := by
  obtain ⟨f, fd, F, hm⟩ := DL
  have e := hfa.symm.trans hm
  cases e
  have F' := F
  obtain ⟨oc, od, kV, doc, pm, an, cdv, ct, osl, rfl, lk, hcd⟩ := F'.ex
  exact ⟨_, fun s v => .of_eq rfl, fun base _ _ => fn_law F T (calls D T eN X LB)⟩
theorem walk {l : PySem.W.OpenLaw} {q : Program} {loose : List Str} {XP : (Str → Option Value) → Heap → Prop} {YP : World → Heap → Prop} {d : DefRec} {K : Params → PySem.W.Frag} (hn : l.most = some 63) (hdf : d.params.defaults = [])
    (hY : ∀ (w : World) (h : Heap), YP w h → (K w.params).In h)
    (F : ∀ (w : World) (mg : Str → Option Value) (fa : Addr) (h : Heap), (K w.params).In h → h.Ns mainGlobals mg → mg d.name = some (.ref fa) →
      ∃ fd : FuncData, (∀ (s : Shared) (u : Value), BindsTo s fd ⟨[u], []⟩ [("script", u)]) ∧ ∀ base : Heap, (K w.params).In base → base.Ns mainGlobals mg → FnG l.prog w (K w.params) mg base 9 fa fd ["script"] (spLaw (K w.params))) :
    PySem.W.WalkO q loose XP YP l.row.toRowW d [] (fun f vs => PySem.call f vs) :=
  KR.walk_ofG (n := 63) (k := 9) (x := "script") (sp := fun w => spLaw (K w.params)) hn (by decide) hdf ⟨rfl, by decide, by decide⟩ hY F (fun _ _ a ns hl _ hS => ⟨a, ns, rfl, hS, hl, fun _ => rfl⟩)
end
end KQ
open PySem PySem.W PyProof.Rows
set_option maxRecDepth 100000 in
set_option maxHeartbeats 0 in
theorem PySem.Challenge.cw_fittingdoors_k02_whole_partings_between_holds : PySem.Challenge.rw_fittingdoors_k02_whole_partings_between.Holds := by
  w_on; o_law; k_head; (case hw => w_witness2)
  k_fill
  refine KQ.walk (l := PySem.Challenge.rw_fittingdoors_k02_whole_partings_between) rfl rfl (fun w h Y => PySem.W.kIn_of Y) ?F
  case F =>
    intro w mg fa h KX G hmg
    refine' KQ.step_def (x := "is_integer") (st := KQ.s_is_integer) KX G ?a1 ?l1 ?c1 ?k1 ?n1
    (case a1 => k_is); (case l1 => k_is); (case c1 => k_is); (case k1 => k_is)
    intro d_is_integer
    refine' KQ.step_def (x := "is_tuple_within") (st := KQ.s_is_tuple_within) KX G ?a2 ?l2 ?c2 ?k2 ?n2
    (case a2 => k_is); (case l2 => k_is); (case c2 => k_is); (case k2 => k_is)
    intro d_is_tuple_within
    refine' KQ.step_def (x := "first_wrong_block") (st := KQ.s_first_wrong_block) KX G ?a3 ?l3 ?c3 ?k3 ?n3
    (case a3 => k_is); (case l3 => k_is); (case c3 => k_is); (case k3 => k_is)
    intro d_first_wrong_block
    refine' KQ.step_def (x := "need_parting") (st := KQ.s_need_parting) KX G ?a4 ?l4 ?c4 ?k4 ?n4
    (case a4 => k_is); (case l4 => k_is); (case c4 => k_is); (case k4 => k_is)
    intro d_need_parting
    refine' KQ.step_def (x := "need_parting_of") (st := KQ.s_need_parting_of) KX G ?a5 ?l5 ?c5 ?k5 ?n5
    (case a5 => k_is); (case l5 => k_is); (case c5 => k_is); (case k5 => k_is)
    intro d_need_parting_of
    refine' KQ.step_def (x := "need_two_partings") (st := KQ.s_need_two_partings) KX G ?a6 ?l6 ?c6 ?k6 ?n6
    (case a6 => k_is); (case l6 => k_is); (case c6 => k_is); (case k6 => k_is)
    intro d_need_two_partings
    refine' KQ.step_def (x := "lies_within") (st := KQ.s_lies_within) KX G ?a7 ?l7 ?c7 ?k7 ?n7
    (case a7 => k_is); (case l7 => k_is); (case c7 => k_is); (case k7 => k_is)
    intro d_lies_within
    refine' KQ.step_def (x := "growths") (st := KQ.s_growths) KX G ?a8 ?l8 ?c8 ?k8 ?n8
    (case a8 => k_is); (case l8 => k_is); (case c8 => k_is); (case k8 => k_is)
    intro d_growths
    refine' KQ.step_def (x := "inner_blocks") (st := KQ.s_inner_blocks) KX G ?a9 ?l9 ?c9 ?k9 ?n9
    (case a9 => k_is); (case l9 => k_is); (case c9 => k_is); (case k9 => k_is)
    intro d_inner_blocks
    refine' KQ.step_def (x := "first_doors") (st := KQ.s_first_doors) KX G ?a10 ?l10 ?c10 ?k10 ?n10
    (case a10 => k_is); (case l10 => k_is); (case c10 => k_is); (case k10 => k_is)
    intro d_first_doors
    refine' KQ.step_def (x := "between_number") (st := KQ.s_between_number) KX G ?a11 ?l11 ?c11 ?k11 ?n11
    (case a11 => k_is); (case l11 => k_is); (case c11 => k_is); (case k11 => k_is)
    intro d_between_number
    refine' KQ.step_def (x := "between_at") (st := KQ.s_between_at) KX G ?a12 ?l12 ?c12 ?k12 ?n12
    (case a12 => k_is); (case l12 => k_is); (case c12 => k_is); (case k12 => k_is)
    intro d_between_at
    refine' KQ.step_def (x := "number_between") (st := KQ.s_number_between) KX G ?a13 ?l13 ?c13 ?k13 ?n13
    (case a13 => k_is); (case l13 => k_is); (case c13 => k_is); (case k13 => k_is)
    intro d_number_between
    refine' KQ.step_def (x := "_law_mixed") (st := KQ.s__law_mixed) KX G ?a14 ?l14 ?c14 ?k14 ?n14
    (case a14 => k_is); (case l14 => k_is); (case c14 => k_is); (case k14 => k_is)
    intro d__law_mixed
    refine' KQ.step_def (x := "_law_folded") (st := KQ.s__law_folded) KX G ?a15 ?l15 ?c15 ?k15 ?n15
    (case a15 => k_is); (case l15 => k_is); (case c15 => k_is); (case k15 => k_is)
    intro d__law_folded
    refine' KQ.step_def (x := "_law_draw") (st := KQ.s__law_draw) KX G ?a16 ?l16 ?c16 ?k16 ?n16
    (case a16 => k_is); (case l16 => k_is); (case c16 => k_is); (case k16 => k_is)
    intro d__law_draw
    refine' KQ.step_def (x := "_law_begun") (st := KQ.s__law_begun) KX G ?a17 ?l17 ?c17 ?k17 ?n17
    (case a17 => k_is); (case l17 => k_is); (case c17 => k_is); (case k17 => k_is)
    intro d__law_begun
    refine' KQ.step_def (x := "_law_like") (st := KQ.s__law_like) KX G ?a18 ?l18 ?c18 ?k18 ?n18
    (case a18 => k_is); (case l18 => k_is); (case c18 => k_is); (case k18 => k_is)
    intro d__law_like
    refine' KQ.step_def (x := "_law_is_int") (st := KQ.s__law_is_int) KX G ?a19 ?l19 ?c19 ?k19 ?n19
    (case a19 => k_is); (case l19 => k_is); (case c19 => k_is); (case k19 => k_is)
    intro d__law_is_int
    refine' KQ.step_def (x := "_law_numbered") (st := KQ.s__law_numbered) KX G ?a20 ?l20 ?c20 ?k20 ?n20
    (case a20 => k_is); (case l20 => k_is); (case c20 => k_is); (case k20 => k_is)
    intro d__law_numbered
    refine' KQ.step_def (x := "_law_partings") (st := KQ.s__law_partings) KX G ?a21 ?l21 ?c21 ?k21 ?n21
    (case a21 => k_is); (case l21 => k_is); (case c21 => k_is); (case k21 => k_is)
    intro d__law_partings
    refine' KQ.step_def (x := "_law_any_parting") (st := KQ.s__law_any_parting) KX G ?a22 ?l22 ?c22 ?k22 ?n22
    (case a22 => k_is); (case l22 => k_is); (case c22 => k_is); (case k22 => k_is)
    intro d__law_any_parting
    refine' KQ.step_def (x := "_law_product") (st := KQ.s__law_product) KX G ?a23 ?l23 ?c23 ?k23 ?n23
    (case a23 => k_is); (case l23 => k_is); (case c23 => k_is); (case k23 => k_is)
    intro d__law_product
    refine' KQ.step_def (x := "_law_below") (st := KQ.s__law_below) KX G ?a24 ?l24 ?c24 ?k24 ?n24
    (case a24 => k_is); (case l24 => k_is); (case c24 => k_is); (case k24 => k_is)
    intro d__law_below
    refine' KQ.step_def (x := "_law_coarser") (st := KQ.s__law_coarser) KX G ?a25 ?l25 ?c25 ?k25 ?n25
    (case a25 => k_is); (case l25 => k_is); (case c25 => k_is); (case k25 => k_is)
    intro d__law_coarser
    refine' KQ.step_def (x := "_law_is_finer") (st := KQ.s__law_is_finer) KX G ?a26 ?l26 ?c26 ?k26 ?n26
    (case a26 => k_is); (case l26 => k_is); (case c26 => k_is); (case k26 => k_is)
    intro d__law_is_finer
    refine' KQ.step_def (x := "_law_parting_counts") (st := KQ.s__law_parting_counts) KX G ?a27 ?l27 ?c27 ?k27 ?n27
    (case a27 => k_is); (case l27 => k_is); (case c27 => k_is); (case k27 => k_is)
    intro d__law_parting_counts
    refine' KQ.step_def (x := "_law_count") (st := KQ.s__law_count) KX G ?a28 ?l28 ?c28 ?k28 ?n28
    (case a28 => k_is); (case l28 => k_is); (case c28 => k_is); (case k28 => k_is)
    intro d__law_count
    refine' KQ.step_def (x := "_law_none_told") (st := KQ.s__law_none_told) KX G ?a29 ?l29 ?c29 ?k29 ?n29
    (case a29 => k_is); (case l29 => k_is); (case c29 => k_is); (case k29 => k_is)
    intro d__law_none_told
    refine' KQ.step_def (x := "_law_right_at") (st := KQ.s__law_right_at) KX G ?a30 ?l30 ?c30 ?k30 ?n30
    (case a30 => k_is); (case l30 => k_is); (case c30 => k_is); (case k30 => k_is)
    intro d__law_right_at
    refine' KQ.step_def (x := "law") (st := KQ.s_law) KX G ?a31 ?l31 ?c31 ?k31 ?n31
    (case a31 => k_is); (case l31 => k_is); (case c31 => k_is); (case k31 => k_is)
    intro d_law
    refine' KQ.step_cst (x := "MOST_DOORS") (v := 60) KX G ?a32 ?n32
    (case a32 => k_is)
    intro c_MOST_DOORS
    refine' KQ.step_none (x := "len") KX G ?a33 ?n33
    (case a33 => k_is)
    intro z_len
    refine' KQ.step_none (x := "range") KX G ?a34 ?n34
    (case a34 => k_is)
    intro z_range
    refine' KQ.step_none (x := "enumerate") KX G ?a35 ?n35
    (case a35 => k_is)
    intro z_enumerate
    refine' KQ.step_none (x := "zip") KX G ?a36 ?n36
    (case a36 => k_is)
    intro z_zip
    refine' KQ.step_none (x := "isinstance") KX G ?a37 ?n37
    (case a37 => k_is)
    intro z_isinstance
    refine' KQ.step_none (x := "int") KX G ?a38 ?n38
    (case a38 => k_is)
    intro z_int
    refine' KQ.step_none (x := "bool") KX G ?a39 ?n39
    (case a39 => k_is)
    intro z_bool
    refine' KQ.step_none (x := "tuple") KX G ?a40 ?n40
    (case a40 => k_is)
    intro z_tuple
    refine' KQ.step_none (x := "list") KX G ?a41 ?n41
    (case a41 => k_is)
    intro z_list
    refine' KQ.step_none (x := "max") KX G ?a42 ?n42
    (case a42 => k_is)
    intro z_max
    refine' KQ.step_none (x := "min") KX G ?a43 ?n43
    (case a43 => k_is)
    intro z_min
    refine' KQ.step_none (x := "repr") KX G ?a44 ?n44
    (case a44 => k_is)
    intro z_repr
    refine' KQ.step_none (x := "set") KX G ?a45 ?n45
    (case a45 => k_is)
    intro z_set
    refine' KQ.step_none (x := "sum") KX G ?a46 ?n46
    (case a46 => k_is)
    intro z_sum
    refine' KQ.step_none (x := "sorted") KX G ?a47 ?n47
    (case a47 => k_is)
    intro z_sorted
    refine' KQ.step_none (x := "super") KX G ?a48 ?n48
    (case a48 => k_is)
    intro z_super
    refine' KQ.step_err (P := PySem.W.OpenLaw.prog PySem.Challenge.rw_fittingdoors_k02_whole_partings_between) (cx := "BadNumber") (fld := "value") (x := "value") (msg := _) KX G z_super ?aC49 ?lC49 ?rv49 ?sa49 ?exC49 ?tyC49 ?kC49 ?iC49 ?tI49 ?lk49 ?hcd49 ?hcode49 ?hvs49 ?hfile49 ?htop49 ?hcell49 ?hsup49 ?hV49 ?hmro49 ?hop49 ?hfa49 ?hp49 ?har49 ?hx49 ?hxd49 ?hxc49 ?hk49 ?hco49 ?hgen49 ?l149 ?l249 ?l349 ?l449 ?hev49 ?l549 ?l649 ?hb49 ?ga49 ?gg49 ?hdC49 ?n49
    (case aC49 => k_is)
    (case lC49 => k_is)
    (case rv49 => rfl)
    (case sa49 => k_is)
    (case exC49 => k_is)
    (case tyC49 => k_is)
    (case kC49 => k_is)
    (case iC49 => k_is)
    (case tI49 => k_is)
    (case lk49 => (refine Eq.trans (b := some _) (by k_is) ?_; rfl))
    (case hcd49 => k_is)
    (case hcode49 => k_is)
    (case hvs49 => rfl)
    (case hfile49 => rfl)
    (case htop49 => rfl)
    (case hcell49 => k_is)
    (case hsup49 => ks_is)
    (case hV49 => k_is)
    (case hmro49 => k_is)
    (case hop49 => k_is)
    (case hfa49 => k_is)
    (case hp49 => rfl)
    (case har49 => rfl)
    (case hx49 => decide)
    (case hxd49 => decide)
    (case hxc49 => decide)
    (case hk49 => rfl)
    (case hco49 => rfl)
    (case hgen49 => rfl)
    (case l149 => rfl)
    (case l249 => rfl)
    (case l349 => rfl)
    (case l449 => rfl)
    (case hev49 => exact fun _ => rfl)
    (case l549 => decide +kernel)
    (case l649 => decide +kernel)
    (case hb49 => exact fun us hl => match us, hl with | [_, _], _ => rfl)
    (case ga49 => k_is)
    (case gg49 => k_is)
    (case hdC49 => k_is)
    intro eN
    refine' KQ.step_exm1 eN ?a50 ?n50
    (case a50 => k_is)
    intro X
    refine' KQ.step_cls (x := "Between") KX G ?aC51 ?pg51 ?hd51 ?po51 ?sa51 ?mk51 ?kc51 ?n51
    (case aC51 => k_is); (case pg51 => k_is); (case hd51 => k_is); (case po51 => k_is); (case sa51 => k_is); (case mk51 => k_is); (case kc51 => k_is)
    intro cC_Between hm_Between mk_Between kc_Between
    refine' KQ.step_init (q := "Between.__init__") (st := KQ.s_Between___init__) ?a52 ?i52 ?l52 ?c52 ?k52 mk_Between kc_Between ?n52
    (case a52 => k_is); (case i52 => k_is); (case l52 => k_is); (case c52 => k_is); (case k52 => k_is)
    intro i_Between
    refine' KQ.step_meth (m := "choices") (q := "Between.choices") (st := KQ.s_Between_choices) cC_Between ?a53 ?i53 ?l53 ?c53 ?k53 ?n53
    (case a53 => k_is); (case i53 => k_is); (case l53 => k_is); (case c53 => k_is); (case k53 => k_is)
    intro m_Between_choices
    refine' KQ.step_meth (m := "choose") (q := "Between.choose") (st := KQ.s_Between_choose) cC_Between ?a54 ?i54 ?l54 ?c54 ?k54 ?n54
    (case a54 => k_is); (case i54 => k_is); (case l54 => k_is); (case c54 => k_is); (case k54 => k_is)
    intro m_Between_choose
    refine' KQ.step_noattr (x := "parting") cC_Between ?a55 ?n55
    (case a55 => k_is)
    intro n_Between_parting
    refine' KQ.step_noattr (x := "other") cC_Between ?a56 ?n56
    (case a56 => k_is)
    intro n_Between_other
    refine' KQ.step_noattr (x := "left") cC_Between ?a57 ?n57
    (case a57 => k_is)
    intro n_Between_left
    refine' KQ.step_noattr (x := "made") cC_Between ?a58 ?n58
    (case a58 => k_is)
    intro n_Between_made
    refine' KQ.step_noattr (x := "growths") cC_Between ?a59 ?n59
    (case a59 => k_is)
    intro n_Between_growths
    refine' KQ.step_noattr (x := "blocks") cC_Between ?a60 ?n60
    (case a60 => k_is)
    intro n_Between_blocks
    refine' KQ.step_noattr (x := "number") cC_Between ?a61 ?n61
    (case a61 => k_is)
    intro n_Between_number
    exact KQ.finish hmg d_law ⟨d_is_integer, d_is_tuple_within, d_first_wrong_block, d_need_parting, d_need_parting_of, d_need_two_partings, d_lies_within, d_growths, d_inner_blocks, d_first_doors, d_between_number, d_between_at, d_number_between, d__law_mixed, d__law_folded, d__law_draw, d__law_begun, d__law_like, d__law_is_int, d__law_numbered, d__law_partings, d__law_any_parting, d__law_product, d__law_below, d__law_coarser, d__law_is_finer, d__law_parting_counts, d__law_count, d__law_none_told, d__law_right_at, c_MOST_DOORS⟩ ⟨z_len, z_range, z_enumerate, z_zip, z_isinstance, z_int, z_bool, z_tuple, z_list, z_max, z_min, z_repr, z_set, z_sum, z_sorted⟩ eN X ⟨cC_Between, hm_Between, n_Between_parting, n_Between_other, n_Between_left, n_Between_made, n_Between_growths, n_Between_blocks, n_Between_number, i_Between, m_Between_choices, m_Between_choose⟩
#print axioms PySem.Challenge.cw_fittingdoors_k02_whole_partings_between_holds
