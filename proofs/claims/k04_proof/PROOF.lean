import PyProof.Rows.All
import Wide.All
import OpenK.AllK
import Wide.FinOn
import HandS.ForMost
import HandS.Exc
import HandS.IsInst
import HandS.Strs
import HandS.SetKeys
import HandS.Star
import HandS.Zip
import HandS.Conv
import HandS.Wide
import HandS.Style
import KE.DataMinMax
import KE.GoesNew
import KE.GoesMore
import KE.KDictKeyed
import PyProof.Rows.NestShow
import KE.DatumOrd
import KE.KDictZip
import HandS.TupLen
import HandS.SetFor
import HandS.TupAny
import HandS.Iter
import KE.BitLaws
import HandS.SortRule
import HandS.TupSets
import HandS.SortInts
import HandS.Deep
import PySem.Challenge.RW_fittingdoors_k04_whole_ways_and_moves
set_option Elab.async false
set_option linter.all false
set_option maxRecDepth 100000
set_option maxHeartbeats 8000000
/-! rules that the layer lacks: calls where no repr is going on; repr of data; max of a tuple; enumerate of a tuple -/
namespace KR
open PySem PySem.Spec PyProof.Rows L2

/-! ### defs called where no guard stands -/
structure FnG (P : Program) (w : World) (K : PySem.W.Frag) (mg : Str → Option Value) (base : Heap)
    (k : Nat) (f : Addr) (fd : FuncData) (ps : List Str) (sp : Sp) : Prop where
  len : ∀ vs H Q E, sp vs H Q E → vs.length = ps.length
  run : ∀ (A : Around) (outer : List Env) (s : Shared) (H : Hp) (args : Args) (us : List Value) (vs : List V) (Q : VK) (E : XK),
    A.guards = some [] → Room k A → Env0 P w K mg base A outer s H → BindsTo s fd args (ps.zip us) → Vals vs us → sp vs H Q E →
    codeAny (model P w) A (.call (.ref f) args) (CR CX0 outer P w H s Q E) s

theorem FnG.up {P : Program} {w : World} {K : PySem.W.Frag} {mg : Str → Option Value} {base : Heap} {j k : Nat} {f : Addr}
    {fd : FuncData} {ps : List Str} {sp : Sp} (F : FnG P w K mg base j f fd ps sp) (h : j ≤ k) : FnG P w K mg base k f fd ps sp :=
  ⟨F.len, fun A outer s H args us vs Q E hg hr => F.run A outer s H args us vs Q E hg (hr.mono h)⟩

theorem Fun.okG {P : Program} {w : World} {K : PySem.W.Frag} {mg : Str → Option Value} {base : Heap}
    {x qual : Str} {st : Stmt} {f : Addr} {fd : FuncData} {N ps : List Str} {k : Nat} {sp : Sp}
    (F : Fun K x qual st f fd) (S : FnScope N ps (defScope st)) (len : ∀ vs H Q E, sp vs H Q E → vs.length = ps.length)
    (body : ∀ (cdv : Value) (A : Around) (outer : List Env) (s : Shared) (H : Hp) (vs : List V) (Q : VK) (E : XK),
      (A.deeper (envOfC qual (defScope st) s.heap.objs.size f cdv)).guards = some [] →
      Room k (A.deeper (envOfC qual (defScope st) s.heap.objs.size f cdv)) → sp vs H Q E →
      ∃ t, PSs (cxOf CX0 P w K mg base N qual (defScope st) f cdv A outer s H E).nox (defBody st) t ∧
        t { nx := fun _ H' => Q .non H', rt := Q } (start N vs) H) : FnG P w K mg base (k + 1) f fd ps sp := by
  obtain ⟨oc, od, kV, doc, pm, an, cdv, ct, osl, rfl, lk, hcd⟩ := F.ex
  refine ⟨len, fun A outer s H args us vs Q E hg hr e0 hb r hsp => ?_⟩
  have hlen := len _ _ _ _ hsp
  have inS : K.In s.heap :=
    e0.mod.kin.keeps fun b o e => (e0.bs b o e).1
  have nolim : s.heap.NoLimit :=
    e0.mod.nolimit.keeps fun b o e => (e0.bs b o e).1
  have kinds : ∀ y ∈ ps.zip us, (defScope st).names.lookup y.1 = some .local ∨
      ((defScope st).names.lookup y.1 = some .cell ∧ ((cellsFrom (s.heap.objs.size + 1) (defScope st).names []).lookup y.1).isSome = true) := by
    rintro ⟨n, v⟩ hy
    rcases S.par n (List.of_mem_zip hy).1 with q | q
    · exact Or.inl q
    · exact Or.inr ⟨q, PySem.W.cellsFrom_some _ _ _ (Or.inl q)⟩
  refine codeAny_call_function hr.depth (inS _ _ lk) rfl S.co S.gen rfl
    (PySem.W.codeRec_of inS hcd) (hb _ _ _ _ ?_)
  refine wpAny_newFunctionEnv_cells S.kind kinds fun env he s1 x => ?_
  subst he
  refine ⟨nolim.keeps x.toInCall.keep, codeAny_func ?_⟩
  obtain ⟨t, ht, hq⟩ := body cdv A outer s H vs Q E hg (hr.deeper _) hsp
  have I : Inv (cxOf CX0 P w K mg base N qual (defScope st) f cdv A outer s H E) [] (start N vs) H s1 :=
    inv_start S hr.hd e0 hlen r x
  refine wpAny_mono (ht.nox.run [] s1 (start N vs) H _ I hq) (fun fl s' hs => ?_) (fun e s' hs => hs)
  have fin : ∀ {σ' : L2.St} {H' : Hp} {v : V} {u : Value}, Inv (cxOf CX0 P w K mg base N qual (defScope st) f cdv A outer s H E) [] σ' H' s' →
      RelV v u → Q v H' → CE outer P w H s Q u s' := by
    intro σ' H' v u J rv q
    exact ⟨v, H', J.os, J.bare, J.base, J.hok, rv, q⟩
  cases fl with
  | ret u =>
    obtain ⟨v, σ', H', J, rv, q⟩ := hs
    exact fin J rv q
  | next =>
    obtain ⟨σ', H', J, q⟩ := hs
    exact fin (v := V.non) (u := Value.none) J rfl q
  | brk =>
    obtain ⟨_, _, _, q⟩ := hs
    exact q.elim
  | cont =>
    obtain ⟨_, _, _, q⟩ := hs
    exact q.elim

section
variable {X : Cx} {k : Nat} {f : Addr} {fd : FuncData} {ps : List Str} {sp : Sp} {dvs : List V} {ds : List Value} {x : Str} {p pos : Pos} {e : Expr} {es : List Expr} {t : TA}

/-- a call where no guard stands -/
theorem pe_callG (F : FnG X.prog X.w X.K X.mg X.base k f fd ps sp) (gd : X.A.guards = some []) (hr : Room k X.A) (hg : Gl X x) (hm : X.mg x = some (.ref f))
    (hk : PySem.W.keepIn X.K (.ref f) = true) (hb : Binds X.K fd ps ds) (hd : Vals dvs ds) (ha : PA X (e :: es) t)
    (hdb : (x == ("__debug__" : Str)) = false := by decide)
    (he : starEach (e :: es) X.env = (false, eval e X.env) :: starEach es X.env := by rfl)
    (hpl : (backTo pos (starEach es X.env)).any (·.1) = false := by rfl) :
    PE X (.Call (.Name x p) (e :: es) [] pos) (tCall sp dvs E0 t) := by
  refine ⟨fun pins s σ H Q I h => ?_⟩
  refine wpAny_Call_Name_kw (ld_glob I hg hm ?_ hdb)
  refine PySem.W.callWith_K (h₀ := X.base) I.ok.mod.kin hk
    (thn (ha.run pos pins s σ H _ I h) fun us s1 ⟨vs, H1, I1, r, q⟩ => ⟨I1.kIn, ?_⟩) he hpl
  have r2 : Vals (vs ++ dvs) (us ++ ds) := r.append hd
  have hl : (us ++ ds).length = ps.length := by
    rw [← r2.length]
    exact F.len _ _ _ _ q
  refine wpAny_call (codeAny_mono (F.run X.A X.stack s1 H1 ⟨us, []⟩ (us ++ ds) (vs ++ dvs) Q E0 gd hr I1.env0
    (hb s1 us I1.kIn hl) r2 q) fun r s' hq => ?_)
  cases r with
  | error e => exact (show False from hq).elim
  | ok fl =>
    cases fl with
    | ret u => exact I1.after hq
    | next => exact (show False from hq).elim
    | brk => exact (show False from hq).elim
    | cont => exact (show False from hq).elim
end

/-! ### repr of data -/
def rRepr (K : PySem.W.Frag) : List V → Hp → VK → Prop := fun xs H Q => ∃ v d, xs = [v] ∧ Dp K H v d ∧
  isDisplay d = true ∧ d.showable = true ∧ d.hasDict = false ∧ d.depth ≤ 30 ∧ d.shown.length ≤ sizeLine ∧ Q (.str d.shown) H
theorem call_reprD {X : Cx} (gd : X.A.guards = some []) (hu : X.A.units + 64 < cLine) : CallR X (.builtin "repr") (rRepr X.K) := by
  intro pins s σ H xs us Q I r h
  obtain ⟨v, d, rfl, hd, hdisp, hs, hnd, hdep, hlen, q⟩ := h
  cases r with
  | cons r1 rr =>
    cases rr
    obtain ⟨as, rd⟩ := Dp.reads I d v _ hd r1
    obtain ⟨a, rfl⟩ := isRef_of_reads rd hdisp
    refine repr_of_reads' rd hs (PyData.noDict_hsm hnd) gd (by omega) (fun _ _ e => e) (fun h' u tk hk => ?_) hlen
    exact ⟨.str d.shown, H, I.kept hk, ⟨u, rfl⟩, q⟩

/-! ### the law's own call -/
theorem law_callG {P : Program} {w : World} {K : PySem.W.Frag} {mg mb : Str → Option Value} {k : Nat} {fa a : Addr} {fd : FuncData} {x : Str} {sp : Sp}
    {s₁ : Shared} {vs : List Value} {ns : List Int} (KX : K.In s₁.heap) (hns : s₁.heap.Ns mainGlobals mg) (hb : s₁.heap.Ns builtinsNs mb)
    (hbb : ∀ x : Str, x ≠ "__name__" → mb x = bootBuiltins x) (hlim : s₁.heap.NoLimit) (hg : s₁.gens = #[])
    (ha : s₁.heap.get? a = some { cls := .type "list", data := .seq vs.toArray }) (hi : IntsAre vs ns) (hl : ns.length ≤ sizeLine) (hr : Room k callerA)
    (F : ∀ base : Heap, K.In base → base.Ns mainGlobals mg → FnG P w K mg base k fa fd [x] sp)
    (hbind : ∀ (s : Shared) (u : Value), BindsTo s fd ⟨[u], []⟩ [(x, u)])
    (hsp : ∀ H : Hp, Only H → SqL K H a (ns.map V.int) → sp [.ref a] H (fun v _ => v = .bl true) fun _ _ _ => False) :
    codeAny (model P w) callerA (.call (.ref fa) ⟨[.ref a], []⟩)
      (fun r s' => r = .ok (.ret (.bool true)) ∧ OldK s₁.heap s'.heap ∧ s'.os = s₁.os ∧ AllBare s'.gens) s₁ := by
  have core : ∀ H : Hp, Only H → SqL K H a (ns.map V.int) → HOk P w H s₁.heap → (∀ b, H b ≠ none → b = a ∧ K.lookup b = none) →
      codeAny (model P w) callerA (.call (.ref fa) ⟨[.ref a], []⟩)
        (fun r s' => r = .ok (.ret (.bool true)) ∧ OldK s₁.heap s'.heap ∧ s'.os = s₁.os ∧ AllBare s'.gens) s₁ := by
    intro H hO hS hok hA
    have get1 : ∀ {b : Addr} {o : Obj}, s₁.heap.get? b = some o → H b = none → (hidT s₁.heap H).get? b = some o :=
      fun e n => hidT_get e n
    have freeD : ∀ {b : Addr} {o : Obj} {es : Array DictEntry} {ep : Nat}, s₁.heap.get? b = some o → o.data = .dict es ep → H b = none := by
      intro b o es ep e d
      apply Classical.byContradiction
      intro hne
      have eb := (hA b hne).1
      rw [eb, ha] at e
      cases e
      exact nomatch (show Data.seq vs.toArray _ = Data.dict es ep from d)
    have spaces : ∀ {b : Addr} {m : Str → Option Value}, s₁.heap.Ns b m → (hidT s₁.heap H).Ns b m := by
      rintro b m ⟨o, es, ep, e, d, r⟩
      exact ⟨o, es, ep, get1 e (freeD e d), d, r⟩
    have inB : K.In (hidT s₁.heap H) := by
      intro b o e
      refine get1 (KX b o e) (Classical.byContradiction fun hne => ?_)
      have := (hA b hne).2
      rw [e] at this
      cases this
    have hM : Mod K mg (hidT s₁.heap H) := by
      obtain ⟨mc, h1, h2⟩ := hlim
      exact ⟨inB, spaces hns, ⟨mb, spaces hb, hbb⟩, ⟨mc, spaces h1, h2⟩⟩
    have e0 : Env0 P w K mg (hidT s₁.heap H) callerA [] s₁ H :=
      ⟨rfl, hM, fun b o e => of_hidT e, Nat.le_of_eq (hidT_size _ _), trivial, fun b hb => (List.not_mem_nil hb).elim, hok, .of_eq hg⟩
    have run := (F _ inB (spaces hns)).run callerA [] s₁ H ⟨[.ref a], []⟩ [.ref a] [.ref a] _ _ (by first | rfl | decide) hr e0
      (hbind s₁ (.ref a)) (.cons rfl .nil) (hsp H hO hS)
    refine codeAny_mono run fun r s' h => ?_
    cases r with
    | error e => exact (show False from h).elim
    | ok fl =>
      cases fl with
      | next => exact (show False from h).elim
      | brk => exact (show False from h).elim
      | cont => exact (show False from h).elim
      | ret u =>
        obtain ⟨v, H', os, bare, un, hok', r', q⟩ := h
        obtain rfl : v = .bl true := q
        obtain rfl : u = Value.bool true := r'
        refine ⟨rfl, OldK.of_keep fun b o e => ?_, os, bare⟩
        rcases hO b with q | ⟨ob, xs, z⟩
        · exact un.keep b o e q (fun z => (List.not_mem_nil z).elim) (by simp)
        · have z2 := un.frzs b ob _ z
          obtain ⟨e1, _⟩ := hok b _ z
          obtain ⟨e2, _⟩ := hok' b _ z2
          rw [e] at e1
          cases e1
          exact e2
  have rv := vals_ints hi
  have lenV := hi.length
  cases hk : K.lookup a with
  | some o =>
    have e := KX a o hk
    rw [ha] at e
    cases e
    refine core (fun _ => none) (fun _ => Or.inl rfl) ?_ ?_ (fun b z => (z rfl).elim)
    · refine Or.inr ⟨_, vs.toArray, _, hk, rfl, rfl, rfl, ?_, ?_⟩
      · rw [List.size_toArray, lenV]
        exact hl
      · simpa using rv
    · intro b u z
      exact nomatch (show (none : Option HO) = some u from z)
  | none =>
    have only : ∀ b, (if b = a then some (HO.frz { cls := .type "list", data := .seq vs.toArray } (.lst (ns.map V.int))) else none) ≠ none → b = a := by
      intro b z
      exact Classical.byContradiction fun hb => z (if_neg hb)
    refine core (fun b => if b = a then some (.frz { cls := .type "list", data := .seq vs.toArray } (.lst (ns.map V.int))) else none) ?_ ?_ ?_ ?_
    · intro b
      by_cases hb : b = a
      · exact Or.inr ⟨_, _, if_pos hb⟩
      · exact Or.inl (if_neg hb)
    · exact Or.inl (Or.inr ⟨{ cls := .type "list", data := .seq vs.toArray }, if_pos rfl⟩)
    · intro b u z
      have hb := only b (by rw [show (if b = a then _ else _) = some u from z]; exact fun q => nomatch q)
      subst hb
      cases (if_pos rfl).symm.trans z
      exact ⟨ha, by rw [List.length_map]; exact hl, vs, _, rv, ha⟩
    · intro b z
      have hb := only b z
      exact ⟨hb, by rw [hb]; exact hk⟩

theorem walk_ofG {l : PySem.W.OpenLaw} {n k : Nat} {q : Program} {loose : List Str} {XP : (Str → Option Value) → Heap → Prop} {YP : World → Heap → Prop}
    {d : DefRec} {K : Params → PySem.W.Frag} {sp : World → Sp} {x : Str}
    (hn : l.most = some n) (hn2 : n ≤ sizeLine) (hdf : d.params.defaults = []) (hr : Room k callerA)
    (hY : ∀ (w : World) (h : Heap), YP w h → (K w.params).In h)
    (F : ∀ (w : World) (mg : Str → Option Value) (fa : Addr) (h : Heap), (K w.params).In h → h.Ns mainGlobals mg → mg d.name = some (.ref fa) →
      ∃ fd : FuncData, (∀ (s : Shared) (u : Value), BindsTo s fd ⟨[u], []⟩ [(x, u)]) ∧
        ∀ base : Heap, (K w.params).In base → base.Ns mainGlobals mg → FnG l.prog w (K w.params) mg base k fa fd [x] (sp w))
    (hsp : ∀ (w : World) (H : Hp) (a : Addr) (ns : List Int), ns.length ≤ n → Only H → SqL (K w.params) H a (ns.map V.int) →
      sp w [.ref a] H (fun v _ => v = .bl true) fun _ _ _ => False) :
    PySem.W.WalkO q loose XP YP l.row.toRowW d [] (fun f vs => PySem.call f vs) := by
  refine Att.attach_call hn hdf fun w s₀ s₁ mg mb fa o pm cd doc a vs ns G Y ho hd hcd hmg hobj hints hlen hg => ?_
  obtain ⟨fd, hb, hF⟩ := F w mg fa _ (hY w _ Y) G.T.g hmg
  exact law_callG (hY w _ Y) G.T.g G.T.b G.T.builtins G.T.nolimit hg hobj hints (Nat.le_trans hlen hn2) hr hF hb
    (fun H hO hS => hsp w H a ns hlen hO hS)
end KR
namespace KR
open PySem PySem.Spec PyProof.Rows L2

/-! ### max of a tuple of whole numbers -/
theorem dpAll_ints {K : PySem.W.Frag} {H : Hp} : ∀ ns : List Int, DpAll K H (ns.map V.int) (ns.map PyData.int)
  | [] => .nil
  | n :: ns => .cons (.int n) (dpAll_ints ns)
def rMaxT (K : PySem.W.Frag) : List V → Hp → VK → Prop := fun vs H Q => ∃ (a : Addr) (ns : List Int), vs = [V.ref a] ∧ SqT K H a (ns.map V.int) ∧ ns ≠ [] ∧
  ∀ m, m ∈ ns → (∀ y, y ∈ ns → y ≤ m) → Q (.int m) H
theorem maxOf_spec : ∀ (r : List Int) (x : Int), PySem.W.maxOf x r ∈ x :: r ∧ ∀ y ∈ x :: r, y ≤ PySem.W.maxOf x r
  | [], x => by
    refine ⟨List.mem_cons_self, fun y hy => ?_⟩
    rw [List.mem_singleton.mp hy]
    exact Int.le_refl _
  | z :: r, x => by
    have e : PySem.W.maxOf x (z :: r) = PySem.W.maxOf (if decide (x < z) = true then z else x) r := rfl
    rw [e]
    obtain ⟨h1, h2⟩ := maxOf_spec r (if decide (x < z) = true then z else x)
    have h3 : x ≤ (if decide (x < z) = true then z else x) ∧ z ≤ (if decide (x < z) = true then z else x) := by
      by_cases h : x < z
      · rw [if_pos (decide_eq_true h)]
        omega
      · rw [if_neg (by simpa using h)]
        omega
    have h4 := h2 _ List.mem_cons_self
    refine ⟨?_, fun y hy => ?_⟩
    · rcases List.mem_cons.mp h1 with q | q
      · rw [q]
        by_cases h : x < z
        · rw [if_pos (decide_eq_true h)]
          exact List.mem_cons_of_mem _ List.mem_cons_self
        · rw [if_neg (by simpa using h)]
          exact List.mem_cons_self
      · exact List.mem_cons_of_mem _ (List.mem_cons_of_mem _ q)
    · rcases List.mem_cons.mp hy with q | q
      · rw [q]
        omega
      · rcases List.mem_cons.mp q with q | q
        · rw [q]
          omega
        · exact h2 y (List.mem_cons_of_mem _ q)
theorem call_maxT {X : Cx} (hc : X.calm = true) (hu : X.A.units + 64 < cLine) : CallR X (.builtin "max") (rMaxT X.K) := by
  intro pins s σ H vs us Q I r h
  obtain ⟨a, ns, rfl, hs, hne, q⟩ := h
  obtain ⟨its, rv, hl, _⟩ := I.tuple hs
  rw [Vals.ref1 r]
  cases ns with
  | nil => exact (hne rfl).elim
  | cons x xs =>
    obtain ⟨as, rd⟩ := Dp.readsAll I ((x :: xs).map PyData.int) _ its (dpAll_ints (x :: xs)) rv
    refine PySem.W.max_tuple_datum (x := x) (xs := xs) (vs := its.toArray) (I.ok.hd hc) (show s.heap.IsTuple a its.toArray from hl) ⟨as, by rw [show its.toArray.toList = its by simp]; exact rd⟩ (by show X.A.units + 1 + 0 < cLine; omega) fun i v h' tk hv hh hk => ?_
    obtain ⟨bs, rr⟩ := hh
    obtain ⟨t, rfl⟩ : ∃ t, v = .int (PySem.W.maxOf x xs) t := by
      cases rr with
      | int _ t => exact ⟨t, rfl⟩
    obtain ⟨h1, h2⟩ := maxOf_spec xs x
    exact ⟨.int _, H, I.kept hk, ⟨_, rfl⟩, q _ h1 h2⟩

/-! ### enumerate of a tuple -/
def IteT (K : PySem.W.Frag) (a : Addr) : It where
  go := fun i H => ∃ (xs : List V) (x : V), SqT K H a xs ∧ xs[i]? = some x
  yld := fun i H v H' => ∃ T x, v = .ref T ∧ H T = none ∧ H' = upd H T (.tup [.int (i : Nat), x]) ∧ ∀ xs, SqT K H a xs → xs[i]? = some x
  stop := fun i H => ∃ xs : List V, SqT K H a xs ∧ xs.length ≤ i
theorem turn_enumT {P : Program} {w : World} {K : PySem.W.Frag} {elts : List Expr} {kk : Nat} {tpos : Pos} (a e it : Addr) (hea : a ≠ it) (hee : a ≠ e) :
    Turn P w K (.Tuple elts kk tpos) (IteT K a) [e, it] e
      (fun i h => (∃ old, IsEnum h e it ((i : Nat) : Int) old) ∧ h.IsTupleIter it a i ∧ e ≠ it) where
  mem := List.mem_cons_self
  obj := by
    rintro i h ⟨⟨old, he⟩, ⟨o, ho, hc, hd⟩, _⟩ b hb
    rcases List.mem_cons.mp hb with z | z
    · subst z
      exact ⟨_, he, fun v q => nomatch q⟩
    · cases List.mem_singleton.mp z
      exact ⟨o, ho, fun v q => by rw [hd] at q; cases q⟩
  keep := by
    rintro i h h' ⟨⟨old, he⟩, hi, hne⟩ k
    exact ⟨⟨old, k e List.mem_cons_self _ he⟩, hi.at fun o q => k it (List.mem_cons_of_mem _ List.mem_cons_self) o q, hne⟩
  item := by
    intro X hP hw hK hc i pins s σ H E I hf st hg
    subst hP hw hK
    obtain ⟨⟨old, he⟩, hit, hne⟩ := st
    obtain ⟨xs, x, hq, hx⟩ := hg
    obtain ⟨its, rv, p, hz⟩ := I.tuple hq
    obtain ⟨u, hu, ru⟩ := rv.get hx
    have hT : s.heap.IsTuple a its.toArray := p
    have hel : e < s.heap.objs.size := Heap.lt_size he
    have hil : it < s.heap.objs.size := by
      obtain ⟨_, q, _⟩ := hit
      exact Heap.lt_size q
    have hlt : i < its.toArray.size := by
      have := (List.getElem?_eq_some_iff.mp hu).1
      simpa using this
    have D := Draws.tuple (prog := X.prog) (w := X.w) (A := X.A.in1) (I.ok.hd hc) it a hea its.toArray
    have hef : e ∉ [it, a] := by
      intro hm
      rcases List.mem_cons.mp hm with z | z
      · exact hne z
      · exact hee (List.mem_singleton.mp z).symm
    refine wpAny_pyNext_enum_itemD D he ⟨hit, hT⟩ hlt hne hef fun x' h' tk hP ho hit' hT' hsz hk => ?_
    have ex : x' = u := by
      have h1 : its.toArray[i]? = some u := by simpa using hu
      rw [show its.toArray[i]? = some x' from hP] at h1
      exact Option.some.inj h1
    subst ex
    refine ⟨_, rfl, wpAny_letOwnedTupleGo_enum (s := { s with heap := h', toks := tk + 1 }) ho fun h'' he' sb => ?_⟩
    have hT2 : h''.get? s.heap.objs.size = some { cls := .type "tuple", data := .seq #[.int i tk, x'] } :=
      (sb.2 _ (Nat.ne_of_gt hel)).trans hT'
    have new : ObjOk X.prog X.w (upd H s.heap.objs.size (.tup [.int (i : Nat), x])) h'' s.heap.objs.size (.tup [.int (i : Nat), x]) :=
      ⟨show 2 ≤ sizeLine by decide, [.int i tk, x'], .cons ⟨_, rfl⟩ (.cons ru .nil), _, hT2, rfl, _, rfl⟩
    have I1 : Inv X pins σ (upd H s.heap.objs.size (.tup [.int (i : Nat), x])) { s with heap := h'', toks := tk + 1 } := by
      refine I.turnedNew (ch := [e, it]) (fun b ob hb q => ?_) hf (Nat.le_refl _) new
      have hbe : b ≠ e := fun z => hb (by rw [z]; exact List.mem_cons_self)
      have hbi : b ≠ it := fun z => hb (by rw [z]; exact List.mem_cons_of_mem _ List.mem_cons_self)
      exact (sb.2 b hbe).trans (hk b ob hbe hbi q)
    refine ⟨.ref s.heap.objs.size, _, I1, rfl, ⟨_, x, rfl, I.hok.fresh (Nat.le_refl _), rfl, fun ys hy => ?_⟩, ⟨⟨x', ?_⟩, ?_, hne⟩, fun b hb => ?_⟩
    · rw [I.tuple_inj hy hq]
      exact hx
    · rw [show ((i + 1 : Nat) : Int) = (i : Int) + 1 by omega]
      exact he'
    · exact hit'.1.at fun o q => (sb.2 it (Ne.symm hne)).trans q
    · have hb' : b < s.heap.objs.size := by
        rcases List.mem_cons.mp hb with z | z
        · rw [z]
          exact hel
        · rw [List.mem_singleton.mp z]
          exact hil
      rw [upd_ne (Nat.ne_of_lt hb')]
      exact (hf b hb).1
  done := by
    intro X hP hw hK hc i pins s σ H E I hf st hg
    subst hP hw hK
    obtain ⟨⟨old, he⟩, hit, hne⟩ := st
    obtain ⟨xs, hq, hx⟩ := hg
    obtain ⟨its, rv, p, hz⟩ := I.tuple hq
    obtain ⟨f0, f1, f2, f3, f4, f5⟩ := hf it (List.mem_cons_of_mem _ List.mem_cons_self)
    have hl := rv.length
    have hT : s.heap.IsTuple a its.toArray := p
    have hT0 : s.TypeIs (.ref e) "enumerate" := ⟨_, he, rfl⟩
    unfold pyNext
    refine wpAny_bind (wpAny_attempt (wpAny_callSpecial?_slot (name := Str.ofString "__next__") hT0 F.slot_enumerate_next
      (wpAny_call_entry F.slot_enumerate_next hT0 F.entry_enumerate_next ?_ (F.args_enumerate_next_1 _))))
    show wpAny _ _ (field (.ref e) 2 >>= _) _ _ s
    refine wpAny_bind (wpAny_field he rfl (x := .ref it) rfl ?_)
    refine wpAny_bind (wpAny_nextOf_tuple_end (A := X.A.in1) (I.ok.hd hc) hit hT ?_ fun h' x he' hx' => ?_)
    · simp
      omega
    · obtain ⟨o, ho, hcl⟩ := hx'
      refine wpAny_bind (wpAny_isInstance (T := "StopIteration") (b := true) ⟨o, ho, hcl⟩ isSubtype_stop ?_)
      exact wpAny_pure ⟨rfl, I.turned (t' := s.toks) (fun b o hb q => he' b o hb q) f0 f1 f3 f4 f5⟩
  self := fun A i s Q E st h => let ⟨⟨_, he⟩, _⟩ := st; wpAny_pyIter_enum he h
def iEnumT (K : PySem.W.Frag) (ta : TA) : TI := fun σ H R => ta σ H fun vs H1 => ∃ a xs, vs = [.ref a] ∧ SqT K H1 a xs ∧ R (IteT K a) H1
set_option maxHeartbeats 4000000 in
theorem meets_enumT (t : Addr) (items : Array Value) :
    Meets (Builtin.«enumerate.__new__» ⟨[.type "enumerate", .ref t], []⟩) (fun _ R s => s.heap.IsTuple t items ∧
      R (.ok (.ret (.ref (s.heap.push { cls := .type "tuple_iterator", data := .fields #[.ref t, .int 0 0] }).objs.size)))
        { s with heap := (s.heap.push { cls := .type "tuple_iterator", data := .fields #[.ref t, .int 0 0] }).push { cls := .type "enumerate", data := .fields #[.none, .bool false, .ref s.heap.objs.size, rawInt 0, .none, .none] } }) :=
  .of_wp fun prog w A R s h => by
    obtain ⟨hp, g, d, tk, os⟩ := s
    obtain ⟨h1, h⟩ := h
    have hsub := sub_enumerate
    have B := begins_tuple t items
    have q1 : ∀ {A' : Around} {E : Value → Shared → Prop} {Q : Value → Shared → Prop},
        Q (.ref hp.objs.size) ⟨hp.push { cls := .type "tuple_iterator", data := .fields #[.ref t, .int 0 0] }, g, d, tk, os⟩ → wpAny (model prog w) A' (pyIter (.ref t)) Q E ⟨hp, g, d, tk, os⟩ :=
      fun q => B.iter prog w _ _ ⟨hp, g, d, tk, os⟩ _ h1 q
    wp_walk using q1
    refine wpAny_stack_any fun st => wpAny_pure ?_
    split
    · rename_i c _ _ _ _ _
      cases (c == Value.type "enumerate")
      · wp_walk using q1
        exact ⟨_, rfl, h⟩
      · wp_walk using q1
        exact ⟨_, rfl, h⟩
    · wp_walk using q1
      exact ⟨_, rfl, h⟩
theorem call_enumT {prog : Program} {w : World} {A : Around} {E : Value → Shared → Prop} {s : Shared} {t : Addr} {items : Array Value} {Q : Value → Shared → Prop} (hT : s.heap.IsTuple t items)
    (h : ∀ h', IsEnum h' (s.heap.objs.size + 1) s.heap.objs.size 0 .none → h'.IsTupleIter s.heap.objs.size t 0 → h'.objs.size = s.heap.objs.size + 2 →
      (∀ b o, s.heap.get? b = some o → h'.get? b = some o) → Q (.ref (s.heap.objs.size + 1)) { s with heap := h' }) :
    wpAny (model prog w) A (call (.type "enumerate") [.ref t]) Q E s := by
  refine callType_new F.called_enumerate (by decide) (F.typeCall_enumerate_1 _) (F.newCall_enumerate_1 _) (fun obj => F.args_object_init_2 obj _) F.entry_enumerate_new
    (meets_enumT t items) ⟨hT, ?_⟩
  have hz : (s.heap.push { cls := .type "tuple_iterator", data := .fields #[.ref t, .int 0 0] }).objs.size = s.heap.objs.size + 1 := Heap.size_push ..
  show _ ∧ _
  rw [hz]
  have he : IsEnum ((s.heap.push { cls := .type "tuple_iterator", data := .fields #[.ref t, .int 0 0] }).push
      { cls := .type "enumerate", data := .fields #[.none, .bool false, .ref s.heap.objs.size, rawInt 0, .none, .none] }) (s.heap.objs.size + 1) s.heap.objs.size 0 .none := by
    have q := Heap.get?_push_size (s.heap.push { cls := .type "tuple_iterator", data := .fields #[.ref t, .int 0 0] })
      (o := { cls := .type "enumerate", data := .fields #[.none, .bool false, .ref s.heap.objs.size, rawInt 0, .none, .none] }) rfl
    rw [hz] at q
    exact q
  refine ⟨⟨_, he, rfl⟩, h _ he ⟨{ cls := .type "tuple_iterator", data := .fields #[.ref t, .int 0 0] }, Heap.get?_push_of_some _ (Heap.get?_push_size _ rfl), rfl, rfl⟩ (by rw [Heap.size_push, hz]) fun b o x => ?_⟩
  exact Heap.get?_push_of_some _ (Heap.get?_push_of_some _ x)
theorem pi_enumT {X : Cx} {e : Expr} {ta : TA} {p pos tpos : Pos} {elts : List Expr} {kk : Nat} (hg : Gl X "enumerate") (hm : X.mg "enumerate" = none)
    (ha : PA X [e] ta) (hs : starEach [e] X.env = [(false, eval e X.env)] := by rfl) :
    PI X (.Tuple elts kk tpos) (.Call (.Name "enumerate" p) [e] [] pos) (iEnumT X.K ta) := by
  refine ⟨fun pins s σ H R I h => ?_⟩
  refine Call_ (ld_blt I hg hm boot_enumerate (PyProof.Rows.callWith_type1
    (thn (ha.run pos pins s σ H _ I h) fun us s1 ⟨vs, H1, I1, r1, q1⟩ => ?_) hs rfl))
  obtain ⟨a, xs, ex, hq, q⟩ := q1
  subst ex
  rw [Vals.ref1 r1]
  obtain ⟨its, rv, p', hz⟩ := I1.tuple hq
  have hT : s1.heap.IsTuple a its.toArray := p'
  have hal : a < s1.heap.objs.size := by
    obtain ⟨o, ho, _⟩ := id hT
    exact Heap.lt_size ho
  refine call_enumT hT fun h' he hit hsz hk => wpAny_pyIter_enum he ?_
  have I2 : Inv X pins σ H1 { s1 with heap := h' } := I1.kept (t' := s1.toks) hk
  refine ⟨s1.heap.objs.size + 1, [s1.heap.objs.size + 1, s1.heap.objs.size], _, _, H1, rfl, I2,
    turn_enumT a (s1.heap.objs.size + 1) s1.heap.objs.size (Nat.ne_of_lt hal) (Nat.ne_of_lt (Nat.lt_succ_of_lt hal)), ⟨⟨.none, he⟩, hit, Nat.succ_ne_self _⟩, fun b hb => ?_, q⟩
  have hle : s1.heap.objs.size ≤ b := by
    rcases List.mem_cons.mp hb with z | z
    · rw [z]
      exact Nat.le_add_right _ _
    · rw [List.mem_singleton.mp z]
      exact Nat.le_refl _
  exact I1.fpOk hle (I1.hok.fresh hle)
end KR
/-! list(zip(t, u)) of two tuples -/
namespace KR
open PySem PySem.Spec PySem.W PyProof.Rows L2 RZ

section
variable {prog : Program} {w : World} {A : Around} {E : Value → Shared → Prop} {s : Shared}
theorem zipH_item {z TI TO T i1 i2 l1 l2 : Addr} {f : Bool} {oT : Obj} {k1 k2 : Nat} {xs ys : Array Value} {x y : Value} {Q : Option Value → Shared → Prop}
    (D : ZipApart z TI TO i1 i2 l1 l2) (hz : IsZipHeld s.heap z TI TO T f) (hT : s.heap.get? T = some oT) (hTI : IsPair s.heap TI (.ref i1) (.ref i2))
    (h1 : s.heap.IsTupleIter i1 l1 k1) (h2 : s.heap.IsTupleIter i2 l2 k2) (hl1 : s.heap.IsTuple l1 xs) (hl2 : s.heap.IsTuple l2 ys) (hx : xs[k1]? = some x) (hy : ys[k2]? = some y)
    (hQ : ∀ h', IsZipHeld h' z TI TO T true → h'.IsTupleIter i1 l1 (k1 + 1) → h'.IsTupleIter i2 l2 (k2 + 1) → IsPair h' s.heap.objs.size x y → h'.objs.size = s.heap.objs.size + 1 →
      (∀ c o, c ≠ z → c ≠ i1 → c ≠ i2 → s.heap.get? c = some o → h'.get? c = some o) → Q (some (.ref s.heap.objs.size)) { s with heap := h' }) :
    wpAny (model prog w) A (pyNext (.ref z)) Q E s := by
  have hTy : s.TypeIs (.ref z) "zip" := ⟨_, hz, rfl⟩
  unfold pyNext
  refine wpAny_bind (wpAny_attempt (wpAny_callSpecial?_slot (name := Str.ofString "__next__") hTy F.slot_zip_next
    (wpAny_call_entry F.slot_zip_next hTy F.entry_zip_next ?_ (F.args_zip_next_1 _))))
  show wpAny _ _ (field (.ref z) 2 >>= _) _ _ s
  refine wpAny_bind (wpAny_field hz rfl (x := .bool false) rfl ?_)
  show wpAny _ _ (field (.ref z) 3 >>= _) _ _ s
  refine wpAny_bind (wpAny_field hz rfl (x := .ref TI) rfl ?_)
  refine wpAny_bind (wpAny_seqItems hTI rfl ?_)
  show wpAny _ _ (Builtin.SmallTypes.ownedTupleIsFree (.ref z) >>= _) _ _ s
  refine wpAny_bind (wpAny_tupleHeld_zip hz hT fun g1 zz1 sb1 => ?_)
  simp only [Bool.false_eq_true, if_false]
  refine wpAny_bind ?_
  rw [← Array.forIn_toList]
  simp only [List.forIn_cons, List.forIn_nil]
  refine wpAny_bind (wpAny_bind (wpAny_holding ?_))
  show wpAny _ _ (Builtin.SmallTypes.nextOf (.ref i1) >>= _) _ _ { s with heap := g1 }
  refine wpAny_bind (wpAny_nextOf_tuple_item (s := { s with heap := g1 }) (h1.extBut sb1.extBut D.i1z) (hl1.extBut sb1.extBut D.l1z) hx fun g2 it2 sb2 => wpAny_pure ?_)
  refine wpAny_pure ?_
  refine wpAny_bind (wpAny_bind (wpAny_holding ?_))
  show wpAny _ _ (Builtin.SmallTypes.nextOf (.ref i2) >>= _) _ _ { s with heap := g2 }
  refine wpAny_bind (wpAny_nextOf_tuple_item (s := { s with heap := g2 }) ((h2.extBut sb1.extBut D.i2z).extBut sb2.extBut D.i12.symm)
    ((hl2.extBut sb1.extBut D.l2z).extBut sb2.extBut D.l2i1) hy fun g3 it3 sb3 => wpAny_pure ?_)
  refine wpAny_pure (wpAny_pure ?_)
  show wpAny _ _ (newTuple [x, y] >>= _) _ _ { s with heap := g3 }
  refine wpAny_bind (wpAny_newTuple ?_)
  have size3 : g3.objs.size = s.heap.objs.size := by rw [sb3.1, sb2.1, sb1.1]
  have zz3 : IsZipHeld g3 z TI TO T true := sb3.extBut _ _ D.i2z.symm (sb2.extBut _ _ D.i1z.symm zz1)
  have kp : ∀ c o, c ≠ z → c ≠ i1 → c ≠ i2 → s.heap.get? c = some o → g3.get? c = some o :=
    fun c o c1 c2 c3 e => sb3.extBut _ _ c3 (sb2.extBut _ _ c2 (sb1.extBut _ _ c1 e))
  have it1 : g3.IsTupleIter i1 l1 (k1 + 1) := it2.extBut sb3.extBut D.i12
  have pr : IsPair (g3.push { cls := .type "tuple", data := .seq #[x, y] }) g3.objs.size x y := Heap.get?_push_size _ rfl
  have sz4 : (g3.push { cls := .type "tuple", data := .seq #[x, y] }).objs.size = g3.objs.size + 1 := Heap.size_push ..
  refine wpAny_pure ⟨_, rfl, wpAny_pure ?_⟩
  show Q (some (.ref g3.objs.size)) _
  rw [size3] at pr sz4 ⊢
  exact hQ _ (Heap.get?_push_of_some _ zz3) (it1.at fun o e => Heap.get?_push_of_some _ e) (it3.at fun o e => Heap.get?_push_of_some _ e) pr sz4
    fun c o c1 c2 c3 e => Heap.get?_push_of_some _ (kp c o c1 c2 c3 e)
theorem zipH_end {z TI TO T i1 i2 l1 l2 : Addr} {f : Bool} {oT : Obj} {k1 : Nat} {xs : Array Value} {Q : Option Value → Shared → Prop} (hh : A.handled = none)
    (D : ZipApart z TI TO i1 i2 l1 l2) (hz : IsZipHeld s.heap z TI TO T f) (hT : s.heap.get? T = some oT) (hTI : IsPair s.heap TI (.ref i1) (.ref i2))
    (h1 : s.heap.IsTupleIter i1 l1 k1) (hl1 : s.heap.IsTuple l1 xs) (hx : xs[k1]? = none)
    (hQ : ∀ h', (∀ c o, c ≠ z → c ≠ i1 → s.heap.get? c = some o → h'.get? c = some o) → Q none { s with heap := h' }) : wpAny (model prog w) A (pyNext (.ref z)) Q E s := by
  have hTy : s.TypeIs (.ref z) "zip" := ⟨_, hz, rfl⟩
  unfold pyNext
  refine wpAny_bind (wpAny_attempt (wpAny_callSpecial?_slot (name := Str.ofString "__next__") hTy F.slot_zip_next
    (wpAny_call_entry F.slot_zip_next hTy F.entry_zip_next ?_ (F.args_zip_next_1 _))))
  show wpAny _ _ (field (.ref z) 2 >>= _) _ _ s
  refine wpAny_bind (wpAny_field hz rfl (x := .bool false) rfl ?_)
  show wpAny _ _ (field (.ref z) 3 >>= _) _ _ s
  refine wpAny_bind (wpAny_field hz rfl (x := .ref TI) rfl ?_)
  refine wpAny_bind (wpAny_seqItems hTI rfl ?_)
  show wpAny _ _ (Builtin.SmallTypes.ownedTupleIsFree (.ref z) >>= _) _ _ s
  refine wpAny_bind (wpAny_tupleHeld_zip hz hT fun g1 zz1 sb1 => ?_)
  simp only [Bool.false_eq_true, if_false]
  refine wpAny_bind ?_
  rw [← Array.forIn_toList]
  simp only [List.forIn_cons, List.forIn_nil]
  refine wpAny_bind (wpAny_bind (wpAny_holding ?_))
  show wpAny _ _ (Builtin.SmallTypes.nextOf (.ref i1) >>= _) _ _ { s with heap := g1 }
  refine wpAny_bind (wpAny_nextOf_tuple_end (s := { s with heap := g1 }) hh (h1.extBut sb1.extBut D.i1z) (hl1.extBut sb1.extBut D.l1z) hx fun g2 e sb2 he => ?_)
  obtain ⟨o, ho, hcl⟩ := he
  refine wpAny_bind (wpAny_isInstance (T := "StopIteration") (b := true) ⟨o, ho, hcl⟩ isSubtype_stop ?_)
  exact wpAny_pure (hQ g2 fun c o c1 c2 q => sb2 _ _ c2 (sb1.extBut _ _ c1 q))
end

section
variable {X : Cx} {pins : List (Addr × Obj)} {σ : L2.St}
/-- where the zip stands -/
def ZState (z TI TO i1 i2 a b S : Addr) (i : Nat) (h : Heap) : Prop :=
  IsPair h TI (.ref i1) (.ref i2) ∧ h.IsTupleIter i1 a i ∧ h.IsTupleIter i2 b i ∧
  ((IsZip h z TI TO .none ∧ ∃ u v, IsPair h TO u v) ∨
    ∃ T f oT, IsZipHeld h z TI TO T f ∧ h.get? T = some oT ∧ T ≠ S ∧ T ≠ z ∧ T ≠ i1 ∧ T ≠ i2 ∧ ∃ o2, h.get? TO = some o2)

theorem zl_loop {z TI TO i1 i2 a b S : Addr} {xs ys : List V} {R : Result → Shared → Prop} {H₀ : Hp} (D : ZipApart z TI TO i1 i2 a b) (hl : xs.length = ys.length) (hln : xs.length < sizeLine)
    (hS : S ∉ [z, TI, TO, i1, i2]) (hc : X.calm = true) (hS0 : H₀ S = none)
    (hR : ∀ (ts : List Addr) (H' : Hp) s', Inv X pins σ H' s' → Same H₀ H' → H' S = some (.lst (ts.map V.ref)) → ts.length = xs.length →
      (∀ (i : Nat) (t : Addr), ts[i]? = some t → H₀ t = none ∧ ∃ x y, xs[i]? = some x ∧ ys[i]? = some y ∧ H' t = some (.tup [x, y])) → R (.ok (.ret .none)) s') :
    ∀ (k i : Nat) (ts : List Addr) (H : Hp) (s : Shared), xs.length - i = k → i ≤ xs.length → ts.length = i → Inv X pins σ H s → Same H₀ H →
      SqT X.K H a xs → SqT X.K H b ys → H S = some (.lst (ts.map V.ref)) → (∀ c ∈ [z, TI, TO, i1, i2], FpOk X pins H c) →
      (∀ (i : Nat) (t : Addr), ts[i]? = some t → H₀ t = none ∧ ∃ x y, xs[i]? = some x ∧ ys[i]? = some y ∧ H t = some (.tup [x, y])) →
      ZState z TI TO i1 i2 a b S i s.heap → codeAny (model X.prog X.w) X.A.in1 (.builtin "list.extend.loop" ⟨[.ref S, .ref z, .none], []⟩) R s := by
  have Sz : S ≠ z := fun e => hS (by rw [e]; simp)
  have STI : S ≠ TI := fun e => hS (by rw [e]; simp)
  have STO : S ≠ TO := fun e => hS (by rw [e]; simp)
  have Si1 : S ≠ i1 := fun e => hS (by rw [e]; simp)
  have Si2 : S ≠ i2 := fun e => hS (by rw [e]; simp)
  intro k
  induction k with
  | zero =>
    intro i ts H s hk hi hts I sm qa qb eS fp tt st
    have e1 : i = xs.length := by omega
    obtain ⟨hTI, h1, h2, hz⟩ := st
    obtain ⟨its, rv, p1, _⟩ := I.tuple qa
    have l1 := rv.length
    have hend : its.toArray[i]? = none := by
      simp
      omega
    refine codeAny_builtin F.entry_extend_loop ?_
    rw [Around.under_plainId F.plain_extend_loop _]
    show wpAny _ _ (pyNext (.ref z) >>= _) _ _ s
    have fin : ∀ h' : Heap, (∀ c o, c ∉ [z, TI, TO, i1, i2] → s.heap.get? c = some o → h'.get? c = some o) → R (.ok (.ret .none)) { s with heap := h' } := by
      intro h' kp
      refine hR ts H _ (I.turnedL (t' := s.toks) (ch := [z, TI, TO, i1, i2]) kp fp) sm eS (by omega) tt
    rcases hz with ⟨hz, u, v, hTO⟩ | ⟨T, f, oT, hz, hT, n1, n2, n3, n4, o2, hO2⟩
    · obtain ⟨its2, rv2, p2, _⟩ := I.tuple qb
      refine wpAny_bind (pyNext_zipT_end (A := X.A.in1.in1) (I.ok.hd hc) D hz hTI hTO h1 h2 (show s.heap.IsTuple a its.toArray from p1) (show s.heap.IsTuple b its2.toArray from p2) (.inl hend) fun h' kp => ?_)
      exact wpAny_pure (fin h' fun c o hcm e => kp c o (fun q => hcm (by simp [q])) (fun q => hcm (by simp [q])) (fun q => hcm (by simp [q])) (fun q => hcm (by simp [q])) e)
    · refine wpAny_bind (zipH_end (A := X.A.in1.in1) (I.ok.hd hc) D hz hT hTI h1 (show s.heap.IsTuple a its.toArray from p1) hend fun h' kp => ?_)
      exact wpAny_pure (fin h' fun c o hcm e => kp c o (fun q => hcm (by simp [q])) (fun q => hcm (by simp [q])) e)
  | succ k ih =>
    intro i ts H s hk hi hts I sm qa qb eS fp tt st
    have hlt : i < xs.length := by omega
    have hlt2 : i < ys.length := by omega
    obtain ⟨hTI, h1, h2, hz⟩ := st
    obtain ⟨its, rv, p1, _⟩ := I.tuple qa
    obtain ⟨its2, rv2, p2, _⟩ := I.tuple qb
    have gx : xs[i]? = some xs[i] := List.getElem?_eq_getElem hlt
    have gy : ys[i]? = some ys[i] := List.getElem?_eq_getElem hlt2
    obtain ⟨u, hu, ru⟩ := rv.get gx
    obtain ⟨u2, hu2, ru2⟩ := rv2.get gy
    have au : its.toArray[i]? = some u := by simpa using hu
    have au2 : its2.toArray[i]? = some u2 := by simpa using hu2
    refine codeAny_builtin F.entry_extend_loop ?_
    rw [Around.under_plainId F.plain_extend_loop _]
    show wpAny _ _ (pyNext (.ref z) >>= _) _ _ s
    have lt : ∀ {c : Addr}, H c ≠ none → c < s.heap.objs.size := fun {c} hne => by
      cases q : H c with
      | none => exact (hne q).elim
      | some o => exact (I.hok c o q).lt
    have old5 : ∀ c ∈ [z, TI, TO, i1, i2], c < s.heap.objs.size → True := fun _ _ _ => trivial
    have new := I.hok.fresh (Nat.le_refl s.heap.objs.size)
    have go : ∀ h' : Heap, (∀ c o, c ∉ [z, TI, TO, i1, i2] → s.heap.get? c = some o → h'.get? c = some o) → IsPair h' s.heap.objs.size u u2 → h'.objs.size = s.heap.objs.size + 1 →
        (∀ c ∈ [z, TI, TO, i1, i2], c < s.heap.objs.size) → ZState z TI TO i1 i2 a b S (i + 1) h' →
        wpAny (model X.prog X.w) X.A.in1.in1 (updateSeq S (·.push (.ref s.heap.objs.size)) >>= fun _ => again (.builtin "list.extend.loop" ⟨[.ref S, .ref z, .none], []⟩))
          (fun fin s' => match fin with | .done f => R (.ok f) s' | .again c' => c'.quiet = true ∧ codeAny (model X.prog X.w) X.A.in1 c' R s') (fun e s' => R (.error e) s') { s with heap := h' } := by
      intro h' kp pr sz old st'
      have ob : ObjOk X.prog X.w (upd H s.heap.objs.size (.tup [xs[i], ys[i]])) h' s.heap.objs.size (.tup [xs[i], ys[i]]) :=
        ⟨show 2 ≤ sizeLine by decide, [u, u2], .cons ru (.cons ru2 .nil), _, pr, rfl, _, rfl⟩
      have I1 : Inv X pins σ (upd H s.heap.objs.size (.tup [xs[i], ys[i]])) { s with heap := h' } := I.turnedNew (t' := s.toks) kp fp (Nat.le_refl _) ob
      have nS : S ≠ s.heap.objs.size := ne_of_none eS new
      have eS1 : (upd H s.heap.objs.size (.tup [xs[i], ys[i]])) S = some (.lst (ts.map V.ref)) := by
        rw [upd_ne nS]
        exact eS
      obtain ⟨hz', its3, n3, ri, e3⟩ := I1.hok S _ eS1
      have l3 := ri.length
      rw [List.length_map] at l3
      have sm1 : Same H (upd H s.heap.objs.size (.tup [xs[i], ys[i]])) := fun c o e => by
        rw [upd_ne (ne_of_none e new)]
        exact e
      refine wpAny_bind (wpAny_updateSeq e3 rfl (wpAny_pure ⟨plainId_quiet F.plain_extend_loop _, ?_⟩) ?_)
      · have I2 : Inv X pins σ (upd (upd H s.heap.objs.size (.tup [xs[i], ys[i]])) S (.lst ((ts ++ [s.heap.objs.size]).map V.ref)))
            { s with heap := h'.update S (Obj.mapSeq (·.push (.ref s.heap.objs.size))) } := by
          have up := Heap.get?_update_self (Obj.mapSeq (·.push (Value.ref s.heap.objs.size))) e3 rfl
          refine I1.write (t' := s.toks) (by rw [eS1]; trivial) (.inl rfl) (fun c o hcS q => ?_) ⟨_, up⟩ ⟨?_, its3 ++ [.ref s.heap.objs.size], n3 + 1, ?_, ?_⟩
          · exact (Heap.get?_update_other _ _ (fun q' : S = c => hcS q'.symm)).trans q
          · rw [List.length_map, List.length_append]
            show ts.length + 1 ≤ sizeLine
            omega
          · rw [List.map_append]
            exact ri.append (.cons rfl .nil)
          · refine up.trans ?_
            simp [Obj.mapSeq]
        have keepS : ∀ c o, c ≠ S → h'.get? c = some o → (h'.update S (Obj.mapSeq (·.push (.ref s.heap.objs.size)))).get? c = some o :=
          fun c o hcS q => (Heap.get?_update_other _ _ (fun q' : S = c => hcS q'.symm)).trans q
        have sm2 : Same H₀ (upd (upd H s.heap.objs.size (.tup [xs[i], ys[i]])) S (.lst ((ts ++ [s.heap.objs.size]).map V.ref))) := fun c o e => by
          rw [upd_ne (fun q => by rw [q, hS0] at e; cases e)]
          exact sm1 c o (sm c o e)
        have seqs : ∀ (c : Addr) (vs : List V), c ≠ S → SqT X.K H c vs → SqT X.K (upd (upd H s.heap.objs.size (.tup [xs[i], ys[i]])) S (.lst ((ts ++ [s.heap.objs.size]).map V.ref))) c vs := by
          intro c vs hcS q
          rcases q with (q | ⟨o, q⟩) | q
          · exact .inl (.inl (by rw [upd_ne hcS]; exact sm1 _ _ q))
          · exact .inl (.inr ⟨o, by rw [upd_ne hcS]; exact sm1 _ _ q⟩)
          · exact .inr q
        have Sa : a ≠ S := fun q => by
          obtain ⟨o, ho, hcl, _⟩ := p1
          have := (I.hok S _ eS)
          obtain ⟨_, _, _, _, e⟩ := this
          rw [← q, ho] at e
          cases e
          exact nomatch (show Value.type "list" = Value.type "tuple" from hcl)
        have Sb : b ≠ S := fun q => by
          obtain ⟨o, ho, hcl, _⟩ := p2
          have := (I.hok S _ eS)
          obtain ⟨_, _, _, _, e⟩ := this
          rw [← q, ho] at e
          cases e
          exact nomatch (show Value.type "list" = Value.type "tuple" from hcl)
        refine ih (i + 1) (ts ++ [s.heap.objs.size]) _ _ (by omega) hlt (by rw [List.length_append, hts]; rfl) I2 sm2 (seqs a xs Sa qa) (seqs b ys Sb qb) upd_same (fun c hcm => ?_) (fun j t hj => ?_) ?_
        · have hcS : c ≠ S := fun q => hS (by rw [← q]; exact hcm)
          have f := fp c hcm
          refine ⟨?_, f.2⟩
          rw [upd_ne hcS, upd_ne (Nat.ne_of_lt (old c hcm))]
          exact f.1
        · by_cases hjl : j < ts.length
          · rw [List.getElem?_append_left hjl] at hj
            obtain ⟨q0, x, y, q1, q2, q3⟩ := tt j t hj
            refine ⟨q0, x, y, q1, q2, ?_⟩
            have htS : t ≠ S := fun q => by rw [q, eS] at q3; cases q3
            rw [upd_ne htS]
            exact sm1 _ _ q3
          · rw [List.getElem?_append_right (by omega)] at hj
            have hj0 : j - ts.length = 0 := by
              apply Classical.byContradiction
              intro q
              rw [List.getElem?_eq_none (by show 1 ≤ _; omega)] at hj
              cases hj
            rw [hj0] at hj
            cases hj
            have ej : j = i := by omega
            subst ej
            refine ⟨sm.free new, _, _, gx, gy, ?_⟩
            rw [upd_ne nS.symm, upd_same]
        · obtain ⟨s1, s2, s3, s4⟩ := st'
          refine ⟨keepS _ _ STI.symm s1, s2.at fun o e => keepS _ o Si1.symm e, s3.at fun o e => keepS _ o Si2.symm e, ?_⟩
          rcases s4 with ⟨s4, v1, v2, s5⟩ | ⟨T, f, oT, s4, s5, s6, s7⟩
          · exact .inl ⟨keepS _ _ Sz.symm s4, v1, v2, keepS _ _ STO.symm s5⟩
          · obtain ⟨m1, m2, m3, o2, m4⟩ := s7
            exact .inr ⟨T, f, oT, keepS _ _ Sz.symm s4, keepS _ _ s6 s5, s6, m1, m2, m3, o2, keepS _ _ STO.symm m4⟩
      · rw [List.size_toArray]
        omega
    have hil1 : i1 < s.heap.objs.size := by
      obtain ⟨_, q, _⟩ := h1
      exact Heap.lt_size q
    have hil2 : i2 < s.heap.objs.size := by
      obtain ⟨_, q, _⟩ := h2
      exact Heap.lt_size q
    have hSl : S < s.heap.objs.size := lt (by rw [eS]; exact fun q => nomatch q)
    rcases hz with ⟨hz, v1, v2, hTO⟩ | ⟨T, f, oT, hz, hT, n1, n2, n3, n4, o2, hO2⟩
    · have all5 : ∀ c ∈ [z, TI, TO, i1, i2], c < s.heap.objs.size := by
        intro c hcm
        simp only [List.mem_cons, List.not_mem_nil, or_false] at hcm
        rcases hcm with q | q | q | q | q
        · rw [q]; exact Heap.lt_size hz
        · rw [q]; exact Heap.lt_size hTI
        · rw [q]; exact Heap.lt_size hTO
        · rw [q]; exact hil1
        · rw [q]; exact hil2
      refine wpAny_bind (pyNext_zipT_item D hz hTI hTO h1 h2 (show s.heap.IsTuple a its.toArray from p1) (show s.heap.IsTuple b its2.toArray from p2) au au2 fun h' a1 a2 a3 a4 a5 a6 kp => ?_)
      refine go h' (fun c o hcm e => kp c o (fun q => hcm (by simp [q])) (fun q => hcm (by simp [q])) (fun q => hcm (by simp [q])) (fun q => hcm (by simp [q])) e) a5 a6 all5 ?_
      exact ⟨kp _ _ D.TIz D.TITO D.TIi1 D.TIi2 hTI, a3, a4, .inr ⟨s.heap.objs.size, false, _, a1, a5, Nat.ne_of_gt hSl, Nat.ne_of_gt (Heap.lt_size hz), Nat.ne_of_gt hil1, Nat.ne_of_gt hil2, _, a2⟩⟩
    · refine wpAny_bind (zipH_item D hz hT hTI h1 h2 (show s.heap.IsTuple a its.toArray from p1) (show s.heap.IsTuple b its2.toArray from p2) au au2 fun h' a1 a3 a4 a5 a6 kp => ?_)
      refine go h' (fun c o hcm e => kp c o (fun q => hcm (by simp [q])) (fun q => hcm (by simp [q])) (fun q => hcm (by simp [q])) e) a5 a6 ?_ ?_
      · intro c hcm
        simp only [List.mem_cons, List.not_mem_nil, or_false] at hcm
        rcases hcm with q | q | q | q | q
        · rw [q]; exact Heap.lt_size hz
        · rw [q]; exact Heap.lt_size hTI
        · rw [q]; exact Heap.lt_size hO2
        · rw [q]; exact hil1
        · rw [q]; exact hil2
      · exact ⟨kp _ _ D.TIz D.TIi1 D.TIi2 hTI, a3, a4, .inr ⟨T, true, oT, a1, kp _ _ n2 n3 n4 hT, n1, n2, n3, n4, o2, kp _ _ D.TOz D.TOi1 D.TOi2 hO2⟩⟩
end

theorem zip_nolen : typeLookup (.type "zip") "__len__" = pure none := by rw [typeLookup_type, builtinLookup_eq_fast]; kernel_rfl
theorem zip_nohint : typeLookup (.type "zip") "__length_hint__" = pure none := by rw [typeLookup_type, builtinLookup_eq_fast]; kernel_rfl

section
variable {X : Cx} {pins : List (Addr × Obj)} {σ : L2.St}
/-- what list(zip(t, u)) gives -/
def Zipped (xs ys : List V) (H : Hp) (Q : VK) : Prop := ∀ (l : Addr) (ts : List Addr) (H' : Hp), H l = none → Same H H' → H' l = some (.lst (ts.map V.ref)) → ts.length = xs.length →
  (∀ (i : Nat) (t : Addr), ts[i]? = some t → H t = none ∧ ∃ x y, xs[i]? = some x ∧ ys[i]? = some y ∧ H' t = some (.tup [x, y])) → Q (.ref l) H'
theorem call_lzip {z TI TO i1 i2 a b : Addr} {xs ys : List V} {H : Hp} {s : Shared} {Q : VK} (D : ZipApart z TI TO i1 i2 a b) (hl : xs.length = ys.length) (hln : xs.length < sizeLine)
    (hc : X.calm = true) (I : Inv X pins σ H s) (qa : SqT X.K H a xs) (qb : SqT X.K H b ys) (fp : ∀ c ∈ [z, TI, TO, i1, i2], FpOk X pins H c)
    (hz : IsZip s.heap z TI TO .none) (hTI : IsPair s.heap TI (.ref i1) (.ref i2)) (hTO : IsPair s.heap TO .none .none)
    (h1 : s.heap.IsTupleIter i1 a 0) (h2 : s.heap.IsTupleIter i2 b 0) (q : Zipped xs ys H Q) :
    wpAny (model X.prog X.w) X.A (call (.type "list") [.ref z]) (EP X pins σ Q) X.xe s := by
  have all5 : ∀ c ∈ [z, TI, TO, i1, i2], c < s.heap.objs.size := by
    intro c hcm
    simp only [List.mem_cons, List.not_mem_nil, or_false] at hcm
    rcases hcm with q | q | q | q | q
    · rw [q]; exact Heap.lt_size hz
    · rw [q]; exact Heap.lt_size hTI
    · rw [q]; exact Heap.lt_size hTO
    · rw [q]; obtain ⟨_, q', _⟩ := h1; exact Heap.lt_size q'
    · rw [q]; obtain ⟨_, q', _⟩ := h2; exact Heap.lt_size q'
  have hSf : s.heap.objs.size ∉ [z, TI, TO, i1, i2] := fun hm => Nat.lt_irrefl _ (all5 _ hm)
  have new := I.hok.fresh (Nat.le_refl s.heap.objs.size)
  refine callType_codes (Q₁ := fun obj s₁ => obj = .ref s.heap.objs.size ∧ s₁ = { s with heap := s.heap.push { cls := .type "list", data := .seq #[] } }) F.called_list (F.typeCall_list_1 _) F.entry_list_init
    (code_list_new _ ⟨rfl, rfl⟩) fun obj s₁ e => ?_
  obtain ⟨rfl, rfl⟩ := e
  have hS : (s.heap.push { cls := .type "list", data := .seq #[] }).get? s.heap.objs.size = some { cls := .type "list", data := .seq #[] } := Heap.get?_push_size _ rfl
  refine ⟨⟨_, hS, rfl⟩, F.args_list_init_2 _ _, ?_⟩
  have kp0 : ∀ c o, s.heap.get? c = some o → (s.heap.push { cls := .type "list", data := .seq #[] }).get? c = some o := fun c o e => Heap.get?_push_of_some _ e
  show wpAny _ _ (do let old ← Builtin.List.listItems (.ref s.heap.objs.size); Builtin.List.listUpdate (.ref s.heap.objs.size) (fun _ => #[]); letGo old.toList.reverse; Builtin.List.listExtendWith (.ref s.heap.objs.size) (.ref z) .none) _ _ _
  refine wpAny_bind ?_
  unfold Builtin.List.listItems
  refine wpAny_bind (wpAny_seqItems hS rfl (wpAny_pure ?_))
  show wpAny _ _ (updateSeq s.heap.objs.size (fun _ => #[]) >>= fun _ => letGo (#[] : Array Value).toList.reverse >>= fun _ => Builtin.List.listExtendWith (.ref s.heap.objs.size) (.ref z) .none) _ _ _
  refine wpAny_bind (wpAny_updateSeq hS rfl ?_)
  have hS2 := Heap.get?_update_self (Obj.mapSeq (fun _ => (#[] : Array Value))) hS rfl
  have kp1 : ∀ c o, s.heap.get? c = some o → ((s.heap.push { cls := .type "list", data := .seq #[] }).update s.heap.objs.size (Obj.mapSeq (fun _ => (#[] : Array Value)))).get? c = some o :=
    fun c o e => (Heap.get?_update_other _ _ (Nat.ne_of_gt (Heap.lt_size e))).trans (kp0 c o e)
  refine wpAny_bind (wpAny_letGo ?_)
  generalize ((s.heap.push { cls := .type "list", data := .seq #[] }).update s.heap.objs.size (Obj.mapSeq (fun _ => (#[] : Array Value)))) = g1 at hS2 kp1 ⊢
  have hTy : ({ s with heap := g1 } : Shared).TypeIs (.ref z) "zip" := ⟨_, kp1 _ _ hz, rfl⟩
  unfold Builtin.List.listExtendWith
  refine wpAny_bind (wpAny_typeOf hTy ?_)
  have n1 : Builtin.List.listSameRef (.ref s.heap.objs.size) (.ref z) = false := by
    simp [Builtin.List.listSameRef, Nat.ne_of_gt (Heap.lt_size hz)]
  have n2 : (Value.type "zip" == Value.type "list") = false := by decide
  have n3 : (Value.type "zip" == Value.type "tuple") = false := by decide
  simp only [n1, n2, n3, Bool.or_false, Bool.false_eq_true, if_false]
  refine wpAny_bind (wpAny_pyIter_zip (kp1 _ _ hz) ?_)
  refine wpAny_bind (wpAny_holding ?_)
  unfold Builtin.List.listLengthHint
  refine wpAny_bind (wpAny_specialOf hTy zip_nolen ?_)
  show wpAny _ _ (specialOf (Value.ref z) (Str.ofString "__length_hint__") >>= _) _ _ _
  refine wpAny_bind (wpAny_specialOf hTy zip_nohint ?_)
  refine wpAny_pure ?_
  show wpAny _ _ (rule "list.extend.makes-room" >>= fun _ => Builtin.List.listTouch (.ref s.heap.objs.size) >>= fun _ =>
    again (.builtin "list.extend.loop" ⟨[.ref s.heap.objs.size, .ref z, .none], []⟩)) _ _ _
  refine wpAny_bind (wpAny_rule ?_)
  refine wpAny_bind ?_
  show wpAny _ _ (updateSeq s.heap.objs.size (·.push .none) >>= fun _ => updateSeq s.heap.objs.size (·.pop)) _ _ _
  refine wpAny_bind (wpAny_updateSeq hS2 rfl ?_)
  have hS3 := Heap.get?_update_self (Obj.mapSeq (·.push Value.none)) hS2 rfl
  refine wpAny_updateSeq (hz := by seq_fits) hS3 rfl ?_
  have hS4 := Heap.get?_update_self (Obj.mapSeq (·.pop)) hS3 rfl
  have kp2 : ∀ c o, s.heap.get? c = some o → ((g1.update s.heap.objs.size (Obj.mapSeq (·.push Value.none))).update s.heap.objs.size (Obj.mapSeq (·.pop))).get? c = some o :=
    fun c o e => (Heap.get?_update_other _ _ (Nat.ne_of_gt (Heap.lt_size e))).trans ((Heap.get?_update_other _ _ (Nat.ne_of_gt (Heap.lt_size e))).trans (kp1 c o e))
  generalize ((g1.update s.heap.objs.size (Obj.mapSeq (·.push Value.none))).update s.heap.objs.size (Obj.mapSeq (·.pop))) = g2 at hS4 kp2 ⊢
  have I2 : Inv X pins σ (upd H s.heap.objs.size (.lst [])) { s with heap := g2 } := by
    refine I.laid (t' := s.toks) kp2 (Nat.le_refl _) ⟨Nat.zero_le _, [], _, .nil, hS4⟩
  have sm : Same H (upd H s.heap.objs.size (.lst [])) := fun c o e => by
    rw [upd_ne (ne_of_none e new)]
    exact e
  have sqt : ∀ (c : Addr) (vs : List V), SqT X.K H c vs → SqT X.K (upd H s.heap.objs.size (.lst [])) c vs := by
    intro c vs q
    rcases q with (q | ⟨o, q⟩) | q
    · exact .inl (.inl (sm _ _ q))
    · exact .inl (.inr ⟨o, sm _ _ q⟩)
    · exact .inr q
  refine wpAny_pure ⟨plainId_quiet F.plain_extend_loop _, zl_loop D hl hln hSf hc new (fun ts H' s' I' sm' eS len tt => ⟨rfl, .ref s.heap.objs.size, H', I', rfl, q _ ts H' new sm' eS len tt⟩)
    xs.length 0 [] _ _ (Nat.sub_zero _) (Nat.zero_le _) rfl I2 sm (sqt a xs qa) (sqt b ys qb) upd_same (fun c hcm => ?_) (fun i t h => by simp at h) ?_⟩
  · have f := fp c hcm
    refine ⟨?_, f.2⟩
    rw [upd_ne (Nat.ne_of_lt (all5 c hcm))]
    exact f.1
  · exact ⟨kp2 _ _ hTI, h1.at fun o e => kp2 _ o e, h2.at fun o e => kp2 _ o e, .inl ⟨kp2 _ _ hz, _, _, kp2 _ _ hTO⟩⟩

/-- list(zip(e, e2)), two tuples of one length -/
theorem pe_lzip {e e2 : Expr} {ta : TA} {p p2 pos pos2 : Pos} (hc : X.calm = true) (hg : Gl X "list") (hm : X.mg "list" = none) (hg2 : Gl X "zip") (hm2 : X.mg "zip" = none) (ha : PA X [e, e2] ta)
    (hs : starEach [e, e2] X.env = (false, eval e X.env) :: starEach [e2] X.env := by rfl) (hpl : (backTo pos2 (starEach [e2] X.env)).any (·.1) = false := by rfl)
    (hs1 : starEach [.Call (.Name "zip" p2) [e, e2] [] pos2] X.env = [(false, eval (.Call (.Name "zip" p2) [e, e2] [] pos2) X.env)] := by rfl) :
    PE X (.Call (.Name "list" p) [.Call (.Name "zip" p2) [e, e2] [] pos2] [] pos)
      (fun σ H Q => ta σ H fun vs H1 => ∃ a b xs ys, vs = [.ref a, .ref b] ∧ SqT X.K H1 a xs ∧ SqT X.K H1 b ys ∧ xs.length = ys.length ∧ xs.length < sizeLine ∧ Zipped xs ys H1 Q) := by
  refine ⟨fun pins s σ H Q I h => ?_⟩
  refine Call_ (ld_blt I hg hm boot_list (PyProof.Rows.callWith_type1 (args_cons (Call_ (ld_blt I hg2 hm2 PyProof.Rows.boot_zip (PyProof.Rows.callWith_type1
    (thn (ha.run pos2 pins s σ H _ I h) fun us s1 ⟨vs, H1, I1, r1, q1⟩ => ?_) hs hpl))) hs1) hs1 rfl))
  obtain ⟨a, b, xs, ys, ex, qa, qb, hl, hln, q⟩ := q1
  subst ex
  cases r1 with
  | cons r rr =>
    cases rr with
    | cons r' rr =>
      cases rr
      cases r
      cases r'
      obtain ⟨its, rv, p1, _⟩ := I1.tuple qa
      obtain ⟨its2, rv2, p2', _⟩ := I1.tuple qb
      obtain ⟨o1, ho1, _⟩ := id p1
      obtain ⟨o2, ho2, _⟩ := id p2'
      refine call_zipT (show s1.heap.IsTuple a its.toArray from p1) (show s1.heap.IsTuple b its2.toArray from p2') fun h' hz hTI hTO h1 h2 hsz hk => ?_
      have I2 : Inv X pins σ H1 { s1 with heap := h' } := I1.kept (t' := s1.toks) hk
      refine args_nil (call_lzip (PySem.W.ktu_apart s1.heap.objs.size a b (Heap.lt_size ho1) (Heap.lt_size ho2)) hl hln hc I2 qa qb (fun c hcm => ?_) hz hTI hTO h1 h2 q)
      have hle : s1.heap.objs.size ≤ c := by
        simp only [List.mem_cons, List.not_mem_nil, or_false] at hcm
        rcases hcm with z | z | z | z | z
        · rw [z]; exact Nat.le_add_right _ _
        · rw [z]; exact Nat.le_add_right _ _
        · rw [z]; exact Nat.le_add_right _ _
        · rw [z]; exact Nat.le_refl _
        · rw [z]; exact Nat.le_add_right _ _
      exact I1.fpOk hle (I1.hok.fresh hle)
end
end KR
/-! setdefault where the keys are tuples -/
namespace KR
open PySem PySem.Spec PyProof.Rows L2
section
variable {X : Cx} {pins : List (Addr × Obj)} {σ : L2.St} {H : Hp} {s : Shared} {a b : Addr} {d : V} {r : Value} {A : Around} {E : Value → Shared → Prop} {kvs : List (List L2.Key × V)} {k : List L2.Key}
theorem d_setdT {Q : Value → Shared → Prop} (hu : A.units + 1 < cLine) (I : Inv X pins σ H s) (e : H a = some (.dT kvs)) (eb : H b = some (.tup (k.map kV))) (rd : RelV d r) (l : kvs.length < sizeLine)
    (h1 : ∀ v, valV kvs k = some v → ∀ w' s', Inv X pins σ H s' → RelV v w' → Q w' s')
    (h2 : valV kvs k = none → ∀ s', Inv X pins σ (upd H a (.dT (putK kvs k d))) s' → Q r s') :
    wpAny (model X.prog X.w) A (call (.builtin "dict.setdefault") [.ref a, .ref b, r]) Q E s := by
  obtain ⟨z, hd, xs, rel, dd⟩ := dt_of I.hok e
  have hz : xs.length ≤ sizeLine := by
    rw [← Paired.length rel]
    exact z
  have vk := rel.val k
  refine call_setdefault_heap (hsz := hz) (tupleKind_room_in1 hu) (key_of I.hok eb) hd dd (fun p hp => ?_) (fun hn h' dd' hs => ?_)
  · rw [hp] at vk
    cases q0 : valV kvs k with
    | none =>
      rw [q0] at vk
      exact (show False from vk).elim
    | some v0 =>
      rw [q0] at vk
      exact h1 v0 q0 _ _ (I.tok _) vk
  · rw [hn] at vk
    cases q0 : valV kvs k with
    | some v0 =>
      rw [q0] at vk
      exact (show False from vk).elim
    | none =>
      have hl : (putK kvs k d).length ≤ sizeLine := by
        have := length_putK kvs k d
        omega
      refine h2 q0 _ ?_
      obtain ⟨q, es, ep, hq, g2, g3, g4, _, g5⟩ := dd'
      refine d_write I (by rw [e]; exact True.intro) hs ⟨q, hq⟩ ⟨hl, hd, _, (rel.put k eb rd).keeps fun c ys ec => ?_, q, es, ep, hq, g2, g3, g4, g5⟩
      rw [upd_ne (ne_of ec e (fun z => nomatch z))]
      exact ec
end
/-- d.setdefault(y, z), keys that are tuples -/
def tDSetT (td ty tx : TE) : TE := fun σ H Q => td σ H fun x H1 => ∃ a, x = .ref a ∧ IsD H1 a ∧ ty σ H1 fun y H2 => tx σ H2 fun z H3 =>
  ∃ (kvs : List (List L2.Key × V)) (k : List L2.Key) (b : Addr), H3 a = some (.dT kvs) ∧ y = .ref b ∧ H3 b = some (.tup (k.map kV)) ∧ kvs.length < sizeLine ∧
  (∀ v, valV kvs k = some v → Q v H3) ∧ (valV kvs k = none → Q z (upd H3 a (.dT (putK kvs k z))))
theorem pe_dsetdT {X : Cx} {o e f : Expr} {td ty tx : TE} {apos cpos : Pos} (hu : X.A.units + 1 < cLine) (ho : PE X o td) (he : PE X e ty) (hf : PE X f tx) (m : M2 X o "setdefault" apos e f cpos) :
    PE X (.Call (.Attribute o "setdefault" apos) [e, f] [] cpos) (tDSetT td ty tx) := by
  refine ⟨fun pins s σ H Q I h => ?_⟩
  refine wpAny_Call_method m.base m.few m.line PySem.F.plainAttrs_dict PySem.F.slot_dict_setdefault PySem.F.type_dict_setdefault
    (thn (ho.run pins s σ H _ I h) fun u s1 ⟨x, H1, I1, rx, a, ex, d, q1⟩ => ?_)
  subst ex
  obtain rfl : u = Value.ref a := rx
  obtain ⟨t1, t2, _⟩ := isD_at I1 d
  refine ⟨t1, t2, ?_⟩
  rw [m.trees]
  refine Calls.callWith_builtin rfl (Calls.evalArgs_plain (Calls.spliced_cons (thn (he.run pins s1 σ H1 _ I1 q1) fun iv s2 ⟨y, H2, I2, ry, q2⟩ =>
    Calls.spliced_cons (thn (hf.run pins s2 σ H2 _ I2 q2) fun fv s3 ⟨z, H3, I3, rz, kvs, k, b, ea, ey, eb, hl, q3, q4⟩ => Calls.spliced_nil ?_))))
  subst ey
  cases (show iv = Value.ref b from ry)
  exact d_setdT hu I3 ea eb rz hl (fun v hv w' s4 I4 rw' => ⟨v, _, I4, rw', q3 v hv⟩) fun hn s4 I4 => ⟨z, _, I4, rz, q4 hn⟩
end KR
/-! short words: a def by its name and promise -/
namespace KR
open PySem PySem.Spec PyProof.Rows L2

/-- the built-ins that the text does not hide -/
structure Bt (mg : Str → Option Value) : Prop where
  len : mg "len" = none
  range : mg "range" = none
  enumerate : mg "enumerate" = none
  zip : mg "zip" = none
  isinstance : mg "isinstance" = none
  int : mg "int" = none
  bool : mg "bool" = none
  tuple : mg "tuple" = none
  list : mg "list" = none
  max : mg "max" = none
  min : mg "min" = none
  repr : mg "repr" = none
  set : mg "set" = none
  sum : mg "sum" = none
  sorted : mg "sorted" = none
def Cst (mg : Str → Option Value) (x : Str) (v : Int) : Prop := ∃ t, mg x = some (.int v t)
def DefAt (K : PySem.W.Frag) (mg : Str → Option Value) (x : Str) (st : Stmt) : Prop := ∃ f fd, Fun K x x st f fd ∧ mg x = some (.ref f)
def Use (P : Program) (w : World) (K : PySem.W.Frag) (mg : Str → Option Value) (base : Heap) (x : Str) (k : Nat) (ps : List Str) (sp : Sp) : Prop :=
  ∃ f fd, FnOk P w K mg base CX0 k f fd ps sp ∧ mg x = some (.ref f) ∧ PySem.W.keepIn K (.ref f) = true ∧ Binds K fd ps []
def UseG (P : Program) (w : World) (K : PySem.W.Frag) (mg : Str → Option Value) (base : Heap) (x : Str) (k : Nat) (ps : List Str) (sp : Sp) : Prop :=
  ∃ f fd, FnG P w K mg base k f fd ps sp ∧ mg x = some (.ref f) ∧ PySem.W.keepIn K (.ref f) = true ∧ Binds K fd ps []

section
variable {P : Program} {w : World} {K : PySem.W.Frag} {mg : Str → Option Value} {base : Heap} {x : Str} {st : Stmt} {k : Nat} {ps : List Str} {sp : Sp}
theorem use_of (D : DefAt K mg x st) (ok : ∀ f fd, Fun K x x st f fd → FnOk P w K mg base CX0 k f fd ps sp)
    (h : ∀ (kV doc pm : Value) (an : Option Addr) (cdv ct : Value) (us : List Value), us.length = ps.length → bindArgs (PySem.W.fnOf x x (defArgs st) (defBody st) (defScope st) .none kV doc pm an cdv ct) ⟨us, []⟩ = pure (ps.zip us)) :
    Use P w K mg base x k ps sp := by
  obtain ⟨f, fd, F, hm⟩ := D
  exact ⟨f, fd, ok f fd F, hm, F.kp, F.binds h⟩
theorem use_ofG (D : DefAt K mg x st) (ok : ∀ f fd, Fun K x x st f fd → FnG P w K mg base k f fd ps sp)
    (h : ∀ (kV doc pm : Value) (an : Option Addr) (cdv ct : Value) (us : List Value), us.length = ps.length → bindArgs (PySem.W.fnOf x x (defArgs st) (defBody st) (defScope st) .none kV doc pm an cdv ct) ⟨us, []⟩ = pure (ps.zip us)) :
    UseG P w K mg base x k ps sp := by
  obtain ⟨f, fd, F, hm⟩ := D
  exact ⟨f, fd, ok f fd F, hm, F.kp, F.binds h⟩
end
section
variable {X : Cx} {x : Str} {j k : Nat} {ps : List Str} {sp : Sp} {e : Expr} {es : List Expr} {t : TA} {p pos : Pos} {v : Int}
theorem pe_use (u : Use X.prog X.w X.K X.mg X.base x j ps sp) (le : j ≤ k) (hr : Room k X.A) (hg : Gl X x) (ha : PA X (e :: es) t)
    (hdb : (x == ("__debug__" : Str)) = false := by decide) (he : starEach (e :: es) X.env = (false, eval e X.env) :: starEach es X.env := by rfl)
    (hpl : (backTo pos (starEach es X.env)).any (·.1) = false := by rfl) : PE X (.Call (.Name x p) (e :: es) [] pos) (tCall sp [] E0 t) := by
  obtain ⟨f, fd, F, hm, kp, b⟩ := u
  exact pe_call F (hr.mono le) hg hm kp b .nil pass0 ha hdb he hpl
theorem pe_useG (u : UseG X.prog X.w X.K X.mg X.base x j ps sp) (gd : X.A.guards = some []) (le : j ≤ k) (hr : Room k X.A) (hg : Gl X x) (ha : PA X (e :: es) t)
    (hdb : (x == ("__debug__" : Str)) = false := by decide) (he : starEach (e :: es) X.env = (false, eval e X.env) :: starEach es X.env := by rfl)
    (hpl : (backTo pos (starEach es X.env)).any (·.1) = false := by rfl) : PE X (.Call (.Name x p) (e :: es) [] pos) (tCall sp [] E0 t) := by
  obtain ⟨f, fd, F, hm, kp, b⟩ := u
  exact pe_callG F gd (hr.mono le) hg hm kp b .nil ha hdb he hpl
theorem pe_cst (hg : Gl X x) (h : Cst X.mg x v) (hd : (x == ("__debug__" : Str)) = false := by decide) : PE X (.Name x pos) (tC (.int v)) := by
  obtain ⟨t, h⟩ := h
  exact pe_glob hg h ⟨t, rfl⟩ hd
end
/-- seqs kept -/
theorem sameT {K : PySem.W.Frag} {H H' : Hp} {a : Addr} {xs : List V} (e : Same H H') (h : SqT K H a xs) : SqT K H' a xs := by
  rcases h with (h | ⟨o, h⟩) | h
  · exact .inl (.inl (e _ _ h))
  · exact .inl (.inr ⟨o, e _ _ h⟩)
  · exact .inr h
theorem same_new {H : Hp} {p : Addr} {o : HO} (h : H p = none) : Same H (upd H p o) := fun b x e => by
  rw [upd_ne (ne_of_none e h)]
  exact e
/-- an object that H does not know was changed -/
theorem same_mut {H H' : Hp} {p : Addr} {o : HO} (e : Same H H') (h : H p = none) : Same H (upd H' p o) := fun a u ha => by
  rw [upd_ne (ne_of_none ha h)]
  exact e a u ha
theorem sqT {K : PySem.W.Frag} {H : Hp} {a : Addr} {xs : List V} (h : H a = some (.tup xs)) : SqT K H a xs := .inl (.inl h)
theorem sqL {K : PySem.W.Frag} {H : Hp} {a : Addr} {xs : List V} (h : H a = some (.lst xs)) : SqL K H a xs := .inl (.inl h)
end KR
/-! loops over enumerate(tuple), over a tuple, over a range, by an invariant -/
namespace KR
open PySem PySem.Spec PyProof.Rows L2
theorem for_enumT {K : PySem.W.Frag} {a : Addr} {xs : List V} {g : TG} {tb : TS} {D : Ends} {σ : L2.St} {H : Hp} (Pv : Nat → L2.St → Hp → Prop) (h0 : Pv 0 σ H)
    (hq : ∀ i σ H, Pv i σ H → SqT K H a xs)
    (hs : ∀ (i : Nat) (x : V) (T : Addr) (σ : L2.St) (H : Hp), xs[i]? = some x → Pv i σ H → H T = none →
      g (.ref T) σ (upd H T (.tup [.int (i : Nat), x])) fun σ2 H2 => tb { D with nx := Pv (i + 1), ct := Pv (i + 1), bk := D.nx } σ2 H2)
    (hd : ∀ σ H, Pv xs.length σ H → D.nx σ H) :
    ∃ W : Nat → Nat → L2.St → Hp → Prop, (∃ m, W 0 m σ H) ∧ ∀ i m σ H, W i m σ H →
      ((IteT K a).stop i H ∧ D.nx σ H) ∨ ((IteT K a).go i H ∧ ∃ N : L2.St → Hp → Prop, (∀ σ' H', N σ' H' → ∃ m', m' < m ∧ W (i + 1) m' σ' H') ∧
        ∀ v H', (IteT K a).yld i H v H' → g v σ H' fun σ2 H2 => tb { D with nx := N, ct := N, bk := D.nx } σ2 H2) := by
  refine ⟨fun i m σ H => m = xs.length - i ∧ i ≤ xs.length ∧ Pv i σ H, ⟨xs.length, rfl, Nat.zero_le _, h0⟩, ?_⟩
  rintro i m σ H ⟨rfl, hi, p⟩
  have q := hq i σ H p
  by_cases hlt : i < xs.length
  · have hx : xs[i]? = some xs[i] := List.getElem?_eq_getElem hlt
    refine .inr ⟨⟨xs, _, q, hx⟩, Pv (i + 1), fun σ' H' p' => ⟨xs.length - (i + 1), by omega, rfl, hlt, p'⟩, fun v H' y => ?_⟩
    obtain ⟨T, x', rfl, hT, rfl, f1⟩ := y
    exact hs i x' T σ H (f1 xs q) p hT
  · have e : i = xs.length := by omega
    subst e
    exact .inl ⟨⟨xs, q, Nat.le_refl _⟩, hd σ H p⟩
theorem for_enumL {K : PySem.W.Frag} {a : Addr} {xs : List V} {g : TG} {tb : TS} {D : Ends} {σ : L2.St} {H : Hp} (Pv : Nat → L2.St → Hp → Prop) (h0 : Pv 0 σ H)
    (hq : ∀ i σ H, Pv i σ H → SqL K H a xs)
    (hs : ∀ (i : Nat) (x : V) (T : Addr) (σ : L2.St) (H : Hp), xs[i]? = some x → Pv i σ H → H T = none →
      g (.ref T) σ (upd H T (.tup [.int (i : Nat), x])) fun σ2 H2 => tb { D with nx := Pv (i + 1), ct := Pv (i + 1), bk := D.nx } σ2 H2)
    (hd : ∀ σ H, Pv xs.length σ H → D.nx σ H) :
    ∃ W : Nat → Nat → L2.St → Hp → Prop, (∃ m, W 0 m σ H) ∧ ∀ i m σ H, W i m σ H →
      ((Ite K a).stop i H ∧ D.nx σ H) ∨ ((Ite K a).go i H ∧ ∃ N : L2.St → Hp → Prop, (∀ σ' H', N σ' H' → ∃ m', m' < m ∧ W (i + 1) m' σ' H') ∧
        ∀ v H', (Ite K a).yld i H v H' → g v σ H' fun σ2 H2 => tb { D with nx := N, ct := N, bk := D.nx } σ2 H2) := by
  refine ⟨fun i m σ H => m = xs.length - i ∧ i ≤ xs.length ∧ Pv i σ H, ⟨xs.length, rfl, Nat.zero_le _, h0⟩, ?_⟩
  rintro i m σ H ⟨rfl, hi, p⟩
  have q := hq i σ H p
  by_cases hlt : i < xs.length
  · have hx : xs[i]? = some xs[i] := List.getElem?_eq_getElem hlt
    refine .inr ⟨⟨xs, _, q, hx⟩, Pv (i + 1), fun σ' H' p' => ⟨xs.length - (i + 1), by omega, rfl, hlt, p'⟩, fun v H' y => ?_⟩
    obtain ⟨T, x', rfl, hT, rfl, f1⟩ := y
    exact hs i x' T σ H (f1 xs q) p hT
  · have e : i = xs.length := by omega
    subst e
    exact .inl ⟨⟨xs, q, Nat.le_refl _⟩, hd σ H p⟩
/-- an item of a mapped list -/
theorem map_at {α β : Type} {f : α → β} {xs : List α} {i : Nat} {y : β} (h : (xs.map f)[i]? = some y) : ∃ x, xs[i]? = some x ∧ y = f x := by
  rw [List.getElem?_map] at h
  cases e : xs[i]? with
  | none =>
    rw [e] at h
    cases h
  | some x =>
    rw [e] at h
    exact ⟨x, rfl, (Option.some.inj h).symm⟩
theorem at_map {α β : Type} {f : α → β} {xs : List α} {i : Nat} {x : α} (h : xs[i]? = some x) : (xs.map f)[i]? = some (f x) := by
  rw [List.getElem?_map, h]
  rfl
/-- a seq's place -/
theorem atI_of {xs : List V} {i : Int} {j : Nat} {v : V} (e : i = (j : Int)) (h : xs[j]? = some v) : atI xs i = some v := at_of e h
end KR
/-! comprehensions of two clauses: a list, then a range -/
namespace KR
open PySem PySem.Spec PyProof.Rows L2
theorem in_range {lo : Int} {n : Nat} {g1 : TG} {tt1 : TT} {te : TE} {vs1 : List Nat} {σ2 : L2.St} {H4 : Hp} {D : Addr} {Nx : Hp → Prop} (Pw : Nat → Hp → Prop) (h0 : Pw 0 H4)
    (hs : ∀ j H, j < n → Pw j H → g1 (.int (lo + (j : Nat))) (wipe σ2 vs1) H fun σ3 H5 => wipe σ3 vs1 = wipe σ2 vs1 ∧ tt1 σ3 H5 fun b H6 =>
      if b = true then te σ3 H6 fun y H7 => ∃ acc, H7 D = some (.lst acc) ∧ acc.length < sizeLine ∧ Pw (j + 1) (upd H7 D (.lst (acc ++ [y]))) else Pw (j + 1) H6)
    (hd : ∀ H, Pw n H → Nx H) :
    ∃ W1 : Nat → Nat → Hp → Prop, (∃ m, W1 0 m H4) ∧ ∀ j k H, W1 j k H →
      ((Itr lo n).stop j H ∧ Nx H) ∨ ((Itr lo n).go j H ∧ ∃ Nx1 : Hp → Prop, (∀ H', Nx1 H' → ∃ k', k' < k ∧ W1 (j + 1) k' H') ∧
        ∀ x H', (Itr lo n).yld j H x H' → g1 x (wipe σ2 vs1) H' fun σ3 H5 => wipe σ3 vs1 = wipe σ2 vs1 ∧ tt1 σ3 H5 fun b H6 =>
          if b = true then te σ3 H6 fun y H7 => ∃ acc, H7 D = some (.lst acc) ∧ acc.length < sizeLine ∧ Nx1 (upd H7 D (.lst (acc ++ [y]))) else Nx1 H6) := by
  refine ⟨fun j k H => k = n - j ∧ j ≤ n ∧ Pw j H, ⟨n, by simp, Nat.zero_le _, h0⟩, ?_⟩
  rintro j k H ⟨rfl, hj, p⟩
  by_cases hlt : j < n
  · refine .inr ⟨hlt, Pw (j + 1), fun H' p' => ⟨n - (j + 1), by omega, rfl, hlt, p'⟩, fun x H' y => ?_⟩
    obtain ⟨e, y⟩ := y
    subst e y
    exact hs j _ hlt p
  · have e : j = n := by omega
    subst e
    exact .inl ⟨Nat.le_refl _, hd H p⟩
theorem lc2_list {K : PySem.W.Frag} {a : Addr} {xs : List V} {g : TG} {tt : TT} {wi1 : TI} {g1 : TG} {tt1 : TT} {te : TE} {vs vs1 : List Nat} {σ : L2.St} {H1 : Hp} {D : Addr} {Qd : Hp → Prop}
    (Pv : Nat → Hp → Prop) (h0 : Pv 0 (upd H1 D (.lst []))) (hl : ∀ i H, i ≤ xs.length → Pv i H → SqL K H a xs)
    (hs : ∀ i x H, xs[i]? = some x → Pv i H → g x (wipe σ vs) H fun σ2 H2 => wipe σ2 vs = wipe σ vs ∧ tt σ2 H2 fun b H3 =>
      if b = true then wi1 σ2 H3 fun J1 H4 => ∃ W1 : Nat → Nat → Hp → Prop, (∃ m, W1 0 m H4) ∧ ∀ j k H, W1 j k H →
        (J1.stop j H ∧ Pv (i + 1) H) ∨ (J1.go j H ∧ ∃ Nx1 : Hp → Prop, (∀ H', Nx1 H' → ∃ k', k' < k ∧ W1 (j + 1) k' H') ∧ ∀ x H', J1.yld j H x H' →
          g1 x (wipe σ2 vs1) H' fun σ3 H5 => wipe σ3 vs1 = wipe σ2 vs1 ∧ tt1 σ3 H5 fun b H6 =>
          if b = true then te σ3 H6 fun y H7 => ∃ acc, H7 D = some (.lst acc) ∧ acc.length < sizeLine ∧ Nx1 (upd H7 D (.lst (acc ++ [y]))) else Nx1 H6)
      else Pv (i + 1) H3) (hd : ∀ H, Pv xs.length H → Qd H) :
    ∃ W : Nat → Nat → Hp → Prop, (∃ m, W 0 m (upd H1 D (.lst []))) ∧ ∀ i m H, W i m H →
      ((Itl K a).stop i H ∧ Qd H) ∨ ((Itl K a).go i H ∧ ∃ Nx : Hp → Prop, (∀ H', Nx H' → ∃ m', m' < m ∧ W (i + 1) m' H') ∧ ∀ x H', (Itl K a).yld i H x H' →
        g x (wipe σ vs) H' fun σ2 H2 => wipe σ2 vs = wipe σ vs ∧ tt σ2 H2 fun b H3 =>
        if b = true then wi1 σ2 H3 fun J1 H4 => ∃ W1 : Nat → Nat → Hp → Prop, (∃ m, W1 0 m H4) ∧ ∀ j k H, W1 j k H →
          (J1.stop j H ∧ Nx H) ∨ (J1.go j H ∧ ∃ Nx1 : Hp → Prop, (∀ H', Nx1 H' → ∃ k', k' < k ∧ W1 (j + 1) k' H') ∧ ∀ x H', J1.yld j H x H' →
            g1 x (wipe σ2 vs1) H' fun σ3 H5 => wipe σ3 vs1 = wipe σ2 vs1 ∧ tt1 σ3 H5 fun b H6 =>
            if b = true then te σ3 H6 fun y H7 => ∃ acc, H7 D = some (.lst acc) ∧ acc.length < sizeLine ∧ Nx1 (upd H7 D (.lst (acc ++ [y]))) else Nx1 H6)
        else Nx H3) := by
  refine ⟨fun i m H => m = xs.length - i ∧ i ≤ xs.length ∧ Pv i H, ⟨xs.length, by simp, Nat.zero_le _, h0⟩, ?_⟩
  rintro i m H ⟨rfl, hi, p⟩
  have q := hl i H hi p
  by_cases hlt : i < xs.length
  · refine .inr ⟨⟨xs, xs[i], q, by simp [hlt]⟩, Pv (i + 1), fun H' p' => ⟨xs.length - (i + 1), by omega, rfl, hlt, p'⟩, fun x H' y => ?_⟩
    obtain ⟨e, y⟩ := y
    subst e
    exact hs i x _ (y xs q) p
  · have e : i = xs.length := by omega
    subst e
    exact .inl ⟨⟨xs, q, Nat.le_refl _⟩, hd H p⟩
end KR
/-! the rules with the written part told, for a comprehension's block -/
namespace KR
open PySem PySem.Spec PyProof.Rows L2
section
variable {X : Cx} {K : PySem.W.Frag} {tg l e e2 o : Expr} {tl te to : TE} {ta t : TA} {es : List Expr} {T id : String} {r : V → List V → Hp → VK → Prop} {name : Str}
theorem k_ixl (hK : X.K = K) : IxR X (rIxL K) := by
  subst hK
  exact ix_list
theorem k_ixt (hK : X.K = K) : IxR X (rIxT K) := by
  subst hK
  exact ix_tup
theorem k_list (hK : X.K = K) (hl : PE X l tl) : PI X tg l (iList K tl) := by
  subst hK
  exact pi_list hl
theorem k_tup (hK : X.K = K) (hl : PE X l tl) : PI X tg l (iTup K tl) := by
  subst hK
  exact pi_tup hl
theorem k_isi (hK : X.K = K) : CallR X (.builtin "isinstance") (rIsi K) := by
  subst hK
  exact call_isi
theorem k_slt (hK : X.K = K) : SlR X (rSlT K) := by
  subst hK
  exact sl_tup
theorem k_sll (hK : X.K = K) : SlR X (rSlL K) := by
  subst hK
  exact sl_list
theorem k_catT (hK : X.K = K) : OpR X (binaryOp .Add) (rCatT K) := by
  subst hK
  exact op_catT
theorem k_in (hK : X.K = K) : OpR X (compareOp .In) (rIn K false) := by
  subst hK
  exact op_in_seq
theorem k_notIn (hK : X.K = K) : OpR X (compareOp .NotIn) (rIn K true) := by
  subst hK
  exact op_notIn_seq
def rLenK (K : PySem.W.Frag) : List V → Hp → VK → Prop := fun xs H Q => ∃ p ys, xs = [.ref p] ∧ (SqL K H p ys ∨ SqT K H p ys) ∧ Q (.int ys.length) H
theorem k_len (hK : X.K = K) : CallR X (.builtin "len") (rLenK K) := by
  subst hK
  exact call_len_seq
def rListK (K : PySem.W.Frag) : List V → Hp → VK → Prop := fun xs H Q => ∃ p ys, xs = [.ref p] ∧ (SqL K H p ys ∨ SqT K H p ys) ∧ ∀ l, H l = none → Q (.ref l) (upd H l (.lst ys))
theorem k_listOf (hK : X.K = K) : CallR X (.type "list") (rListK K) := by
  subst hK
  exact call_list_of
def rTupK (K : PySem.W.Frag) : List V → Hp → VK → Prop := fun xs H Q => ∃ p ys, xs = [.ref p] ∧ ((SqL K H p ys ∧ ∀ l, H l = none → Q (.ref l) (upd H l (.tup ys))) ∨ (SqT K H p ys ∧ Q (.ref p) H))
theorem k_tupOf (hK : X.K = K) : CallR X (.type "tuple") (rTupK K) := by
  subst hK
  exact call_tuple_of
theorem k_eqD (hK : X.K = K) (hu : X.A.units + 64 < cLine) : OpR X (compareOp .Eq) (rEqD K) := by
  subst hK
  exact op_eqD hu
theorem k_neD (hK : X.K = K) (hu : X.A.units + 64 < cLine) : OpR X (compareOp .NotEq) (rNeD K) := by
  subst hK
  exact op_neD hu
theorem k_maxT (hK : X.K = K) (hc : X.calm = true) (hu : X.A.units + 64 < cLine) : CallR X (.builtin "max") (rMaxT K) := by
  subst hK
  exact call_maxT hc hu
theorem k_max (hK : X.K = K) (hc : X.calm = true) : CallR X (.builtin "max") (rMax K) := by
  subst hK
  exact cr_max hc
theorem k_sum (hK : X.K = K) (hc : X.calm = true) : CallR X (.builtin "sum") (rSum K) := by
  subst hK
  exact cr_sum hc
theorem k_repr (hK : X.K = K) (gd : X.A.guards = some []) (hu : X.A.units + 64 < cLine) : CallR X (.builtin "repr") (rRepr K) := by
  subst hK
  exact call_reprD gd hu
theorem k_enumT {p pos tpos : Pos} {elts : List Expr} {kk : Nat} (hK : X.K = K) (hg : Gl X "enumerate") (hm : X.mg "enumerate" = none) (ha : PA X [e] ta)
    (hs : starEach [e] X.env = [(false, eval e X.env)] := by rfl) : PI X (.Tuple elts kk tpos) (.Call (.Name "enumerate" p) [e] [] pos) (iEnumT K ta) := by
  subst hK
  exact pi_enumT hg hm ha hs
theorem k_enum {p pos tpos : Pos} {elts : List Expr} {kk : Nat} (hK : X.K = K) (hg : Gl X "enumerate") (hm : X.mg "enumerate" = none) (ha : PA X [e] ta)
    (hs : starEach [e] X.env = [(false, eval e X.env)] := by rfl) : PI X (.Tuple elts kk tpos) (.Call (.Name "enumerate" p) [e] [] pos) (iEnum K ta) := by
  subst hK
  exact pi_enum hg hm ha hs
theorem k_zip {p pos tpos : Pos} {elts : List Expr} {kk : Nat} (hK : X.K = K) (hg : Gl X "zip") (hm : X.mg "zip" = none) (ha : PA X [e, e2] ta)
    (hs : starEach [e, e2] X.env = (false, eval e X.env) :: starEach [e2] X.env := by rfl) (hpl : (backTo pos (starEach [e2] X.env)).any (·.1) = false := by rfl) :
    PI X (.Tuple elts kk tpos) (.Call (.Name "zip" p) [e, e2] [] pos) (RZ.iZipA K ta) := by
  subst hK
  exact RZ.pi_zipA hg hm ha hs hpl
def tLzip (K : PySem.W.Frag) (ta : TA) : TE := fun σ H Q => ta σ H fun vs H1 => ∃ a b xs ys, vs = [.ref a, .ref b] ∧ SqT K H1 a xs ∧ SqT K H1 b ys ∧ xs.length = ys.length ∧ xs.length < sizeLine ∧ Zipped xs ys H1 Q
theorem k_lzip {p p2 pos pos2 : Pos} (hK : X.K = K) (hc : X.calm = true) (hg : Gl X "list") (hm : X.mg "list" = none) (hg2 : Gl X "zip") (hm2 : X.mg "zip" = none) (ha : PA X [e, e2] ta)
    (hs : starEach [e, e2] X.env = (false, eval e X.env) :: starEach [e2] X.env := by rfl) (hpl : (backTo pos2 (starEach [e2] X.env)).any (·.1) = false := by rfl)
    (hs1 : starEach [.Call (.Name "zip" p2) [e, e2] [] pos2] X.env = [(false, eval (.Call (.Name "zip" p2) [e, e2] [] pos2) X.env)] := by rfl) :
    PE X (.Call (.Name "list" p) [.Call (.Name "zip" p2) [e, e2] [] pos2] [] pos) (tLzip K ta) := by
  subst hK
  exact pe_lzip hc hg hm hg2 hm2 ha hs hpl hs1
theorem k_bm {apos cpos : Pos} (hK : X.K = K) (pa : PlainAttrs T) (slot : Slot T name id) (hty : typeOf (.builtin id) = pure (.type "method_descriptor")) (hm : MtR X id r) (ho : PE X o to) (ha : PA X (e :: es) t)
    (hbase : attributeBase o name X.env (eval o X.env) = eval o X.env := by rfl)
    (hfew : ((backTo cpos (starEach (e :: es) X.env)).all (fun x => !x.1) && (backToKw cpos (keywordEach [] X.env)).all (fun x => x.1.isSome)
      && decide ((e :: es).length + ([] : List Keyword).length + (if ([] : List Keyword).isEmpty then 0 else 1) < 30)) = true := by rfl)
    (hline : (apos.endLine == cpos.line) = true := by rfl) (hs : starEach (e :: es) X.env = (false, eval e X.env) :: starEach es X.env := by rfl)
    (hplain : (backTo cpos (starEach es X.env)).any (·.1) = false := by rfl) : PE X (.Call (.Attribute o name apos) (e :: es) [] cpos) (tBM K T r to t) := by
  subst hK
  exact pe_bm pa slot hty hm ho ha hbase hfew hline hs hplain
theorem k_star {p : Pos} {e : Expr} (hK : X.K = K) (he : PE X e te) (hr : PA X es t) (hs : starEach (.Starred e p :: es) X.env = (true, eval e X.env) :: starEach es X.env := by rfl) : PA X (.Starred e p :: es) (StX.tStar K te t) := by
  subst hK
  exact StX.pa_star he hr hs
theorem k_fld {apos : Pos} {f : Str} (hK : X.K = K) (h : PE X o te) (hx : attributeBase o f X.env (eval o X.env) = eval o X.env) : PE X (.Attribute o f apos) (tFld K te f) := by
  subst hK
  exact pe_fld h hx
end
end KR
/-! methods and instances by their names -/
namespace KR
open PySem PySem.Spec PyProof.Rows L2
def MAt (K : PySem.W.Frag) (C : Addr) (m qual : Str) (st : Stmt) : Prop := ∃ f fd, Fun K m qual st f fd ∧ Meth K C m f
def IAt (K : PySem.W.Frag) (C : Addr) (qual : Str) (st : Stmt) : Prop := ∃ f fd, Fun K "__init__" qual st f fd ∧ Mk K C f
def MUse (P : Program) (w : World) (K : PySem.W.Frag) (mg : Str → Option Value) (base : Heap) (C : Addr) (m : Str) (k : Nat) (ps : List Str) (sp : Sp) : Prop :=
  ∃ f fd, FnOk P w K mg base CX0 k f fd ps sp ∧ Meth K C m f ∧ Binds K fd ps []
def KUse (P : Program) (w : World) (K : PySem.W.Frag) (mg : Str → Option Value) (base : Heap) (C : Addr) (x : Str) (k : Nat) (ps : List Str) (sp : Sp) : Prop :=
  ∃ f fd, FnOk P w K mg base CX0 k f fd ps sp ∧ Mk K C f ∧ mg x = some (.ref C) ∧ Binds K fd ps []
section
variable {P : Program} {w : World} {K : PySem.W.Frag} {mg : Str → Option Value} {base : Heap} {x m qual : Str} {st : Stmt} {k : Nat} {ps : List Str} {sp : Sp} {C : Addr}
theorem muse_of (D : MAt K C m qual st) (ok : ∀ f fd, Fun K m qual st f fd → FnOk P w K mg base CX0 k f fd ps sp)
    (h : ∀ (kV doc pm : Value) (an : Option Addr) (cdv ct : Value) (us : List Value), us.length = ps.length → bindArgs (PySem.W.fnOf m qual (defArgs st) (defBody st) (defScope st) .none kV doc pm an cdv ct) ⟨us, []⟩ = pure (ps.zip us)) :
    MUse P w K mg base C m k ps sp := by
  obtain ⟨f, fd, F, hm⟩ := D
  exact ⟨f, fd, ok f fd F, hm, F.binds h⟩
theorem kuse_of (D : IAt K C qual st) (hm : mg x = some (.ref C)) (ok : ∀ f fd, Fun K "__init__" qual st f fd → FnOk P w K mg base CX0 k f fd ps sp)
    (h : ∀ (kV doc pm : Value) (an : Option Addr) (cdv ct : Value) (us : List Value), us.length = ps.length → bindArgs (PySem.W.fnOf "__init__" qual (defArgs st) (defBody st) (defScope st) .none kV doc pm an cdv ct) ⟨us, []⟩ = pure (ps.zip us)) :
    KUse P w K mg base C x k ps sp := by
  obtain ⟨f, fd, F, mk⟩ := D
  exact ⟨f, fd, ok f fd F, mk, hm, F.binds h⟩
end
section
variable {X : Cx} {x m : Str} {j k : Nat} {ps : List Str} {sp : Sp} {o e : Expr} {es : List Expr} {ta : TE} {t : TA} {p pos apos : Pos} {C : Addr}
theorem pe_mUse {pl : Sem Bool} (he : PE X o ta) (c : Cls X.K C) (u : MUse X.prog X.w X.K X.mg X.base C m j ps sp) (le : j ≤ k) (hr : Room k X.A) (ha : PA X (e :: es) t)
    (hst : starEach (e :: es) X.env = (false, eval e X.env) :: starEach es X.env := by rfl) (hpl : (backTo pos (starEach es X.env)).any (·.1) = false := by rfl)
    (ht : eval (.Call (.Attribute o m apos) (e :: es) [] pos) X.env = (do
      let ov ← eval o X.env
      standAt apos.atName
      let (f, first) ← holding [ov] (getMethod ov m pl)
      callWith pos f first (backTo pos (starEach (e :: es) X.env)) (backToKw pos (keywordEach [] X.env))) := by rfl) :
    PE X (.Call (.Attribute o m apos) (e :: es) [] pos) (tMeth C m sp [] E0 ta t) := by
  obtain ⟨f, fd, F, hm, b⟩ := u
  exact pe_meth he c hm F (hr.mono le) b .nil pass0 ha hst hpl ht
theorem pe_kUse (u : KUse X.prog X.w X.K X.mg X.base C x j ps sp) (le : j + 1 ≤ k) (hr : Room k X.A) (hg : Gl X x) (ha : PA X (e :: es) t)
    (hdb : (x == ("__debug__" : Str)) = false := by decide) (he : starEach (e :: es) X.env = (false, eval e X.env) :: starEach es X.env := by rfl)
    (hpl : (backTo pos (starEach es X.env)).any (·.1) = false := by rfl) : PE X (.Call (.Name x p) (e :: es) [] pos) (tMake C sp [] E0 t) := by
  obtain ⟨f, fd, F, mk, hm, b⟩ := u
  exact pe_make mk F (hr.mono le) hg hm b .nil pass0 ha hdb he hpl
end
theorem ixN_nat {n j : Nat} {i : Int} (e : i = (j : Int)) (h : j < n) : ixN n i = some j := by
  subst e
  unfold ixN
  rw [if_pos (by omega), if_pos (by omega)]
  rfl
end KR
/-! partings: the mathematics -/
namespace KM
/-- blocks numbered as they are first met, m of them ahead -/
def Rg : Int → List Int → Prop
  | _, [] => True
  | m, x :: r => 0 ≤ x ∧ x ≤ m ∧ Rg (if x = m then m + 1 else m) r
/-- how many blocks, m of them ahead -/
def bc : Int → List Int → Int
  | m, [] => m
  | m, x :: r => bc (if x = m then m + 1 else m) r
structure Par (p : List Int) : Prop where
  ne : p ≠ []
  le : p.length ≤ 60
  rg : Rg 0 p
theorem bc_app : ∀ (m : Int) (xs ys : List Int), bc m (xs ++ ys) = bc (bc m xs) ys
  | _, [], _ => rfl
  | m, x :: xs, ys => bc_app (if x = m then m + 1 else m) xs ys
theorem rg_app : ∀ (m : Int) (xs ys : List Int), Rg m (xs ++ ys) ↔ Rg m xs ∧ Rg (bc m xs) ys
  | _, [], _ => ⟨fun h => ⟨trivial, h⟩, fun h => h.2⟩
  | m, x :: xs, ys => by
    show (0 ≤ x ∧ x ≤ m ∧ Rg _ (xs ++ ys)) ↔ (0 ≤ x ∧ x ≤ m ∧ Rg _ xs) ∧ _
    rw [rg_app]
    exact ⟨fun ⟨a, b, c, d⟩ => ⟨⟨a, b, c⟩, d⟩, fun ⟨⟨a, b, c⟩, d⟩ => ⟨a, b, c, d⟩⟩
theorem bc_ge : ∀ (m : Int) (xs : List Int), m ≤ bc m xs
  | _, [] => Int.le_refl _
  | m, x :: xs => by
    have h := bc_ge (if x = m then m + 1 else m) xs
    show m ≤ bc (if x = m then m + 1 else m) xs
    split at h <;> split <;> first | omega | contradiction
theorem bc_le : ∀ (m : Int) (xs : List Int), bc m xs ≤ m + xs.length
  | m, [] => by
    show m ≤ m + ((0 : Nat) : Int)
    omega
  | m, x :: xs => by
    have h := bc_le (if x = m then m + 1 else m) xs
    show bc (if x = m then m + 1 else m) xs ≤ m + ((xs.length + 1 : Nat) : Int)
    split at h <;> split <;> first | omega | contradiction
theorem rg_at {p : List Int} {i : Nat} {x : Int} (h : Rg 0 p) (hx : p[i]? = some x) : 0 ≤ x ∧ x ≤ bc 0 (p.take i) := by
  obtain ⟨hi, e⟩ := List.getElem?_eq_some_iff.mp hx
  have e2 : p = p.take i ++ (x :: p.drop (i + 1)) := by
    rw [← e, List.getElem_cons_drop, List.take_append_drop]
  rw [e2, rg_app] at h
  have h2 : 0 ≤ x ∧ x ≤ bc 0 (p.take i) ∧ Rg _ (p.drop (i + 1)) := h.2
  exact ⟨h2.1, h2.2.1⟩
theorem bc_take {p : List Int} {i : Nat} {x : Int} (hx : p[i]? = some x) : bc 0 (p.take (i + 1)) = if x = bc 0 (p.take i) then bc 0 (p.take i) + 1 else bc 0 (p.take i) := by
  rw [List.take_add_one, hx, bc_app]
  rfl
/-- all values lie below the number of blocks, each number below it is one -/
theorem rg_mem : ∀ (m : Int) (p : List Int), 0 ≤ m → Rg m p → (∀ x ∈ p, 0 ≤ x ∧ x < bc m p) ∧ ∀ y, m ≤ y → y < bc m p → y ∈ p
  | m, [], hm, _ => ⟨fun x hx => (nomatch hx), fun y h1 h2 => by
    have h2' : y < m := h2
    omega⟩
  | m, x :: r, hm, h => by
    obtain ⟨h0, h1, h2⟩ := h
    have hm2 : 0 ≤ (if x = m then m + 1 else m) := by split <;> omega
    obtain ⟨ih1, ih2⟩ := rg_mem (if x = m then m + 1 else m) r hm2 h2
    have e : bc m (x :: r) = bc (if x = m then m + 1 else m) r := rfl
    have g := bc_ge (if x = m then m + 1 else m) r
    rw [e]
    refine ⟨fun y hy => ?_, fun y h3 h4 => ?_⟩
    · rcases List.mem_cons.mp hy with q | q
      · subst q
        refine ⟨h0, ?_⟩
        split at g <;> split <;> first | omega | contradiction
      · exact ih1 y q
    · by_cases hy : x = y
      · rw [hy]
        exact List.mem_cons_self
      · refine List.mem_cons_of_mem _ (ih2 y ?_ h4)
        split <;> omega
theorem par_max {p : List Int} (h : Par p) {m : Int} (hm : m ∈ p) (hle : ∀ y ∈ p, y ≤ m) : m + 1 = bc 0 p := by
  obtain ⟨h1, h2⟩ := rg_mem 0 p (Int.le_refl _) h.rg
  have a := (h1 m hm).2
  have b0 := (h1 m hm).1
  by_cases e : m + 1 = bc 0 p
  · exact e
  · have := hle (bc 0 p - 1) (h2 _ (by omega) (by omega))
    omega
/-- two partings with the same kernel are one -/
theorem rg_unique : ∀ (n : Nat) (p q : List Int), p.length = n → q.length = n → Rg 0 p → Rg 0 q →
    (∀ (i j : Nat) (x y u v : Int), p[i]? = some x → p[j]? = some y → q[i]? = some u → q[j]? = some v → (x = y ↔ u = v)) → p = q ∧ bc 0 p = bc 0 q
  | 0, p, q, hp, hq, _, _, _ => by
    rw [List.eq_nil_of_length_eq_zero hp, List.eq_nil_of_length_eq_zero hq]
    exact ⟨rfl, rfl⟩
  | n + 1, p, q, hp, hq, rp, rq, h => by
    obtain ⟨p', x, rfl⟩ : ∃ p' x, p = p' ++ [x] := ⟨p.dropLast, p.getLast (by intro e; rw [e] at hp; cases hp), (List.dropLast_concat_getLast _).symm⟩
    obtain ⟨q', u, rfl⟩ : ∃ q' u, q = q' ++ [u] := ⟨q.dropLast, q.getLast (by intro e; rw [e] at hq; cases hq), (List.dropLast_concat_getLast _).symm⟩
    have lp : p'.length = n := by simpa using hp
    have lq : q'.length = n := by simpa using hq
    rw [rg_app] at rp rq
    have gp : ∀ {i : Nat} {z : Int}, p'[i]? = some z → (p' ++ [x])[i]? = some z := fun {i z} e => by
      have := (List.getElem?_eq_some_iff.mp e).1
      rw [List.getElem?_append_left this]
      exact e
    have gq : ∀ {i : Nat} {z : Int}, q'[i]? = some z → (q' ++ [u])[i]? = some z := fun {i z} e => by
      have := (List.getElem?_eq_some_iff.mp e).1
      rw [List.getElem?_append_left this]
      exact e
    obtain ⟨e1, e2⟩ := rg_unique n p' q' lp lq rp.1 rq.1 fun i j a b c d h1 h2 h3 h4 => h i j a b c d (gp h1) (gp h2) (gq h3) (gq h4)
    subst e1
    have lastp : (p' ++ [x])[n]? = some x := by
      rw [List.getElem?_append_right (by omega), lp]
      simp
    have lastq : (p' ++ [u])[n]? = some u := by
      rw [List.getElem?_append_right (by omega), lp]
      simp
    obtain ⟨x0, x1, _⟩ := rp.2
    obtain ⟨u0, u1, _⟩ := rq.2
    obtain ⟨m1, m2⟩ := rg_mem 0 p' (Int.le_refl _) rp.1
    have exu : x = u := by
      by_cases hx : x < bc 0 p'
      · obtain ⟨i, hi, ei⟩ := List.getElem_of_mem (m2 x x0 hx)
        have e3 : p'[i]? = some x := by rw [List.getElem?_eq_getElem hi, ei]
        exact ((h i n x x x u (gp e3) lastp (gq e3) lastq).mp rfl)
      · by_cases hu : u < bc 0 p'
        · obtain ⟨i, hi, ei⟩ := List.getElem_of_mem (m2 u u0 hu)
          have e3 : p'[i]? = some u := by rw [List.getElem?_eq_getElem hi, ei]
          exact ((h i n u x u u (gp e3) lastp (gq e3) lastq).mpr rfl).symm
        · omega
    subst exu
    exact ⟨rfl, rfl⟩

/-! ### numbering -/
variable {α : Type} [DecidableEq α]
def ins (ks : List α) (x : α) : List α := if x ∈ ks then ks else ks ++ [x]
def firsts (xs : List α) : List α := xs.foldl ins []
def num (xs : List α) : List Int := xs.map fun x => (((firsts xs).idxOf x : Nat) : Int)
theorem firsts_snoc (xs : List α) (x : α) : firsts (xs ++ [x]) = ins (firsts xs) x := by
  unfold firsts
  rw [List.foldl_append]
  rfl
theorem ins_nodup {ks : List α} (h : ks.Nodup) (x : α) : (ins ks x).Nodup := by
  unfold ins
  split
  · exact h
  · rename_i hx
    rw [List.nodup_append]
    refine ⟨h, by simp, fun a ha b hb => ?_⟩
    rw [List.mem_singleton.mp hb]
    intro e
    exact hx (e ▸ ha)
theorem mem_ins {ks : List α} {x y : α} : y ∈ ins ks x ↔ y ∈ ks ∨ y = x := by
  unfold ins
  split
  · rename_i hx
    exact ⟨Or.inl, fun h => h.elim id fun e => e ▸ hx⟩
  · rw [List.mem_append, List.mem_singleton]
theorem firsts_rec {P : List α → Prop} (h0 : P []) (hs : ∀ xs x, P xs → P (xs ++ [x])) : ∀ xs, P xs := by
  intro xs
  have : ∀ n (xs : List α), xs.length = n → P xs := by
    intro n
    induction n with
    | zero =>
      intro xs h
      rw [List.eq_nil_of_length_eq_zero h]
      exact h0
    | succ n ih =>
      intro xs h
      have hne : xs ≠ [] := by
        intro e
        rw [e] at h
        cases h
      rw [← List.dropLast_concat_getLast hne]
      exact hs _ _ (ih _ (by rw [List.length_dropLast, h]; rfl))
  exact this _ xs rfl
theorem firsts_nodup (xs : List α) : (firsts xs).Nodup := by
  refine firsts_rec (P := fun xs => (firsts xs).Nodup) (by exact List.nodup_nil) (fun xs x h => ?_) xs
  rw [firsts_snoc]
  exact ins_nodup h x
theorem mem_firsts {y : α} (xs : List α) : y ∈ firsts xs ↔ y ∈ xs := by
  refine firsts_rec (P := fun xs => y ∈ firsts xs ↔ y ∈ xs) (by exact Iff.rfl) (fun xs x h => ?_) xs
  rw [firsts_snoc, mem_ins, h, List.mem_append, List.mem_singleton]
theorem idx_ins {ks : List α} {x y : α} (hy : y ∈ ks) : (ins ks x).idxOf y = ks.idxOf y := by
  unfold ins
  split
  · rfl
  · rw [List.idxOf_append, if_pos hy]
theorem num_snoc (xs : List α) (x : α) : num (xs ++ [x]) = num xs ++ [if x ∈ firsts xs then (((firsts xs).idxOf x : Nat) : Int) else ((firsts xs).length : Int)] := by
  unfold num
  rw [List.map_append, firsts_snoc]
  congr 1
  · refine List.map_congr_left fun y hy => ?_
    rw [idx_ins ((mem_firsts xs).mpr hy)]
  · show [_] = [_]
    congr 1
    split
    · rename_i h
      show (((ins (firsts xs) x).idxOf x : Nat) : Int) = _
      rw [idx_ins h]
    · rename_i h
      show (((ins (firsts xs) x).idxOf x : Nat) : Int) = _
      unfold ins
      rw [if_neg h, List.idxOf_append, if_neg h]
      simp
theorem firsts_len (xs : List α) : ((firsts xs).length : Int) = bc 0 (num xs) ∧ Rg 0 (num xs) := by
  refine firsts_rec (P := fun xs => ((firsts xs).length : Int) = bc 0 (num xs) ∧ Rg 0 (num xs)) ⟨rfl, trivial⟩ (fun xs x h => ?_) xs
  obtain ⟨h1, h2⟩ := h
  rw [num_snoc, firsts_snoc, bc_app, rg_app, ← h1]
  unfold ins
  by_cases hx : x ∈ firsts xs
  · rw [if_pos hx, if_pos hx]
    have hl := List.idxOf_lt_length_of_mem hx
    refine ⟨?_, h2, ?_⟩
    · show _ = if _ then _ else _
      rw [if_neg (by omega)]
    · exact ⟨by omega, by omega, trivial⟩
  · rw [if_neg hx, if_neg hx]
    refine ⟨?_, h2, ?_⟩
    · show _ = if _ then _ else _
      rw [if_pos rfl, List.length_append]
      show ((_ + 1 : Nat) : Int) = _
      show _ = bc _ []
      show _ = (_ : Int) + 1
      omega
    · exact ⟨by omega, by omega, trivial⟩
theorem num_rg (xs : List α) : Rg 0 (num xs) := (firsts_len xs).2
theorem num_len (xs : List α) : (num xs).length = xs.length := by
  unfold num
  rw [List.length_map]
theorem num_get {xs : List α} {i : Nat} {x : α} (h : xs[i]? = some x) : (num xs)[i]? = some (((firsts xs).idxOf x : Nat) : Int) := by
  unfold num
  rw [List.getElem?_map, h]
  rfl
theorem num_ker {xs : List α} {i j : Nat} {x y : α} {u v : Int} (hi : xs[i]? = some x) (hj : xs[j]? = some y) (ui : (num xs)[i]? = some u) (vj : (num xs)[j]? = some v) : u = v ↔ x = y := by
  rw [num_get hi] at ui
  rw [num_get hj] at vj
  cases ui
  cases vj
  constructor
  · intro e
    have e' : (firsts xs).idxOf x = (firsts xs).idxOf y := by omega
    have hx := (mem_firsts xs).mpr (List.mem_of_getElem? hi)
    have hy := (mem_firsts xs).mpr (List.mem_of_getElem? hj)
    have a := List.getElem_idxOf (List.idxOf_lt_length_of_mem hx)
    have b := List.getElem_idxOf (List.idxOf_lt_length_of_mem hy)
    rw [← a, ← b]
    congr 1
  · intro e
    rw [e]
theorem num_par {xs : List α} (h : xs ≠ []) (hl : xs.length ≤ 60) : Par (num xs) :=
  ⟨fun e => h (List.eq_nil_of_length_eq_zero (by rw [← num_len xs, e]; rfl)), by rw [num_len]; exact hl, num_rg xs⟩
/-- a parting is told by its kernel -/
theorem num_is {xs : List α} {q : List Int} (hl : q.length = xs.length) (hq : Rg 0 q)
    (h : ∀ (i j : Nat) (x y : α) (u v : Int), xs[i]? = some x → xs[j]? = some y → q[i]? = some u → q[j]? = some v → (x = y ↔ u = v)) : num xs = q := by
  refine (rg_unique xs.length (num xs) q (num_len xs) hl (num_rg xs) hq fun i j a b u v h1 h2 h3 h4 => ?_).1
  have li := (List.getElem?_eq_some_iff.mp h1).1
  have lj := (List.getElem?_eq_some_iff.mp h2).1
  rw [num_len] at li lj
  have gi : xs[i]? = some xs[i] := List.getElem?_eq_getElem li
  have gj : xs[j]? = some xs[j] := List.getElem?_eq_getElem lj
  rw [num_ker gi gj h1 h2]
  exact h i j _ _ u v gi gj h3 h4
end KM
namespace KM
/-! doors by block; all partings -/
def doorsOf (p : List Int) (b : Int) : List Int := (p.zipIdx.filter fun q => decide (q.1 = b)).map fun q => ((q.2 : Nat) : Int)
theorem doorsOf_snoc (p : List Int) (x b : Int) : doorsOf (p ++ [x]) b = doorsOf p b ++ (if x = b then [((p.length : Nat) : Int)] else []) := by
  unfold doorsOf
  rw [List.zipIdx_append, List.filter_append, List.map_append]
  by_cases h : x = b
  · simp [h]
  · simp [h]
theorem doorsOf_len (p : List Int) (b : Int) : (doorsOf p b).length ≤ p.length := by
  unfold doorsOf
  rw [List.length_map]
  refine Nat.le_trans (List.length_filter_le _ _) ?_
  rw [List.length_zipIdx]
  exact Nat.le_refl _
theorem doorsOf_small (p : List Int) (b : Int) : ∀ x ∈ doorsOf p b, 0 ≤ x ∧ x < p.length := by
  intro x hx
  unfold doorsOf at hx
  obtain ⟨q, hq, rfl⟩ := List.mem_map.mp hx
  have h1 := (List.mem_filter.mp hq).1
  have h2 := List.mem_zipIdx h1
  omega
/-- a row and one door more, into each block and a new one -/
def ext (row : List Int) : List (List Int) := (List.range (bc 0 row + 1).toNat).map fun b => row ++ [((b : Nat) : Int)]
def allP : Nat → List (List Int)
  | 0 => [[0]]
  | n + 1 => (allP n).flatMap ext
theorem allP_ok : ∀ (n : Nat), ∀ r ∈ allP n, Rg 0 r ∧ r.length = n + 1
  | 0, r, h => by
    rw [List.mem_singleton.mp h]
    exact ⟨⟨Int.le_refl _, Int.le_refl _, trivial⟩, rfl⟩
  | n + 1, r, h => by
    obtain ⟨q, hq, hr⟩ := List.mem_flatMap.mp h
    obtain ⟨b, hb, rfl⟩ := List.mem_map.mp hr
    obtain ⟨h1, h2⟩ := allP_ok n q hq
    have hb := List.mem_range.mp hb
    have := bc_ge 0 q
    refine ⟨?_, by rw [List.length_append, h2]; rfl⟩
    rw [rg_app]
    exact ⟨h1, by omega, by omega, trivial⟩
theorem allP_count : ∀ n : Fin 8, (allP n.val).length ≤ 4140 := by decide +kernel
theorem ext_len (row : List Int) : (ext row).length = (bc 0 row + 1).toNat := by
  unfold ext
  rw [List.length_map, List.length_range]
theorem flat_take {α β : Type} (f : α → List β) {xs : List α} {i : Nat} {x : α} (h : xs[i]? = some x) : (xs.take (i + 1)).flatMap f = (xs.take i).flatMap f ++ f x := by
  rw [List.take_add_one, h]
  simp
theorem flat_le {α β : Type} (f : α → List β) {xs : List α} {i : Nat} {x : α} (h : xs[i]? = some x) : ((xs.take i).flatMap f).length + (f x).length ≤ (xs.flatMap f).length := by
  have e : xs = xs.take (i + 1) ++ xs.drop (i + 1) := (List.take_append_drop _ _).symm
  have e2 : (xs.flatMap f).length = ((xs.take (i + 1)).flatMap f).length + ((xs.drop (i + 1)).flatMap f).length := by
    conv => lhs; rw [e]
    rw [List.flatMap_append, List.length_append]
  rw [e2, flat_take f h, List.length_append]
  omega
theorem ext_take {row : List Int} {j : Nat} (hj : j < (bc 0 row + 1).toNat) : (ext row).take (j + 1) = (ext row).take j ++ [row ++ [((j : Nat) : Int)]] := by
  have h : (ext row)[j]? = some (row ++ [((j : Nat) : Int)]) := by
    unfold ext
    rw [List.getElem?_map, List.getElem?_range hj]
    rfl
  rw [List.take_add_one, h]
  rfl
end KM
namespace KM
/-! ### clumps: roots -/
def up (hs : List Nat) (x : Nat) : Nat := hs.getD x x
def Dn (hs : List Nat) : Prop := ∀ x, up hs x ≤ x
def rt (hs : List Nat) : Nat → Nat → Nat
  | 0, x => x
  | f + 1, x => if up hs x = x then x else rt hs f (up hs x)
/-- more fuel changes nothing -/
theorem rt_more {hs : List Nat} (h : Dn hs) : ∀ (f x k : Nat), x ≤ f → rt hs (f + k) x = rt hs f x := by
  intro f
  induction f with
  | zero =>
    intro x k hx
    have e0 : x = 0 := by omega
    subst e0
    have e : up hs 0 = 0 := by have := h 0; omega
    cases k with
    | zero => rfl
    | succ k =>
      show rt hs (0 + (k + 1)) 0 = 0
      rw [Nat.zero_add]
      show (if up hs 0 = 0 then 0 else _) = 0
      rw [if_pos e]
  | succ f ih =>
    intro x k hx
    rw [show f + 1 + k = (f + k) + 1 by omega]
    show (if up hs x = x then x else rt hs (f + k) (up hs x)) = (if up hs x = x then x else rt hs f (up hs x))
    have hx0 := h x
    by_cases e : up hs x = x
    · rw [if_pos e, if_pos e]
    · rw [if_neg e, if_neg e, ih _ k (by omega)]
def root (hs : List Nat) (x : Nat) : Nat := rt hs x x
theorem root_fuel {hs : List Nat} (h : Dn hs) {f x : Nat} (hx : x ≤ f) : rt hs f x = root hs x := by
  have := rt_more h x x (f - x) (Nat.le_refl _)
  rw [show x + (f - x) = f by omega] at this
  exact this
theorem root_at {hs : List Nat} (h : Dn hs) (x : Nat) : root hs x = if up hs x = x then x else root hs (up hs x) := by
  have hx0 := h x
  cases x with
  | zero =>
    rw [if_pos (by omega)]
    rfl
  | succ x =>
    show (if up hs (x + 1) = x + 1 then x + 1 else rt hs x (up hs (x + 1))) = _
    by_cases e : up hs (x + 1) = x + 1
    · rw [if_pos e, if_pos e]
    · rw [if_neg e, if_neg e, root_fuel h (by omega)]
theorem root_self {hs : List Nat} (h : Dn hs) {x : Nat} (e : up hs x = x) : root hs x = x := by
  rw [root_at h, if_pos e]
theorem root_up {hs : List Nat} (h : Dn hs) (x : Nat) : root hs (up hs x) = root hs x := by
  rw [root_at h x]
  by_cases e : up hs x = x
  · rw [if_pos e, e, root_self h e]
  · rw [if_neg e]
theorem root_le {hs : List Nat} (h : Dn hs) : ∀ (n x : Nat), x ≤ n → root hs x ≤ x ∧ up hs (root hs x) = root hs x
  | 0, x, hx => by
    have e0 : x = 0 := by omega
    subst e0
    have e : up hs 0 = 0 := by have := h 0; omega
    rw [root_self h e]
    exact ⟨Nat.le_refl _, e⟩
  | n + 1, x, hx => by
    have hx0 := h x
    by_cases e : up hs x = x
    · rw [root_self h e]
      exact ⟨Nat.le_refl _, e⟩
    · have ih := root_le h n (up hs x) (by omega)
      rw [root_up h] at ih
      exact ⟨by omega, ih.2⟩
theorem up_root {hs : List Nat} (h : Dn hs) (x : Nat) : up hs (root hs x) = root hs x := (root_le h x x (Nat.le_refl _)).2
theorem root_le' {hs : List Nat} (h : Dn hs) (x : Nat) : root hs x ≤ x := (root_le h x x (Nat.le_refl _)).1
theorem up_set {hs : List Nat} {x v y : Nat} (hx : x < hs.length) : up (hs.set x v) y = if y = x then v else up hs y := by
  unfold up
  rw [List.getD_eq_getElem?_getD, List.getElem?_set, List.getD_eq_getElem?_getD]
  by_cases e : x = y
  · subst e
    simp [hx]
  · have e2 : ¬ y = x := fun q => e q.symm
    simp [e, e2]
theorem dn_set {hs : List Nat} (h : Dn hs) {x v : Nat} (hx : x < hs.length) (hv : v ≤ x) : Dn (hs.set x v) := fun y => by
  rw [up_set hx]
  split
  · omega
  · exact h y
/-- a shorter way: the roots stay -/
theorem root_halve {hs : List Nat} (h : Dn hs) {x : Nat} (hx : x < hs.length) : ∀ (n y : Nat), y ≤ n → root (hs.set x (up hs (up hs x))) y = root hs y := by
  have hv : up hs (up hs x) ≤ x := Nat.le_trans (h _) (h x)
  have h2 := dn_set h hx hv
  intro n
  induction n with
  | zero =>
    intro y hy
    have e0 : y = 0 := by omega
    subst e0
    have a := root_le' h 0
    have b := root_le' h2 0
    omega
  | succ n ih =>
    intro y hy
    rw [root_at h2, up_set hx]
    by_cases e : y = x
    · subst e
      rw [if_pos rfl]
      by_cases e2 : up hs (up hs y) = y
      · have e3 : up hs y = y := by
          have := h (up hs y)
          have := h y
          omega
        rw [if_pos e2, root_self h e3]
      · have lt : up hs (up hs y) < y := by
          have := h (up hs y)
          have := h y
          omega
        rw [if_neg e2, ih _ (by omega), root_up h, root_up h]
    · rw [if_neg e]
      have hy0 := h y
      by_cases e2 : up hs y = y
      · rw [if_pos e2, root_self h e2]
      · rw [if_neg e2, ih _ (by omega), root_up h]
/-- two roots made one -/
theorem root_unite {hs : List Nat} (h : Dn hs) {a b : Nat} (hb : b < hs.length) (ea : up hs a = a) (eb : up hs b = b) (lt : a < b) : ∀ (n y : Nat), y ≤ n → root (hs.set b a) y = if root hs y = b then a else root hs y := by
  have h2 := dn_set h hb (Nat.le_of_lt lt)
  intro n
  induction n with
  | zero =>
    intro y hy
    have e0 : y = 0 := by omega
    subst e0
    have p := root_le' h 0
    have q := root_le' h2 0
    rw [if_neg (by omega)]
    omega
  | succ n ih =>
    intro y hy
    rw [root_at h2, up_set hb]
    by_cases e : y = b
    · subst e
      rw [if_pos rfl, if_neg (by omega), ih _ (by omega), root_self h ea, root_self h eb, if_neg (by omega), if_pos rfl]
    · rw [if_neg e]
      have hy0 := h y
      by_cases e2 : up hs y = y
      · rw [if_pos e2, root_self h e2, if_neg e]
      · rw [if_neg e2, ih _ (by omega), root_up h]
/-! ### what is glued together -/
def J (R : Nat → Nat → Prop) (a b x y : Nat) : Prop := R x y ∨ (R x a ∧ R b y) ∨ (R x b ∧ R a y)
def glue (ts : List (Nat × Nat)) : Nat → Nat → Prop := ts.foldl (fun R t => J R t.1 t.2) Eq
theorem glue_snoc (ts : List (Nat × Nat)) (t : Nat × Nat) : glue (ts ++ [t]) = J (glue ts) t.1 t.2 := by
  unfold glue
  rw [List.foldl_append]
  rfl
structure Eqv (R : Nat → Nat → Prop) : Prop where
  refl : ∀ x, R x x
  symm : ∀ x y, R x y → R y x
  trans : ∀ x y z, R x y → R y z → R x z
theorem J_eqv {R : Nat → Nat → Prop} (h : Eqv R) (a b : Nat) : Eqv (J R a b) := by
  refine ⟨fun x => .inl (h.refl x), fun x y q => ?_, fun x y z q1 q2 => ?_⟩
  · rcases q with q | ⟨q, r⟩ | ⟨q, r⟩
    · exact .inl (h.symm _ _ q)
    · exact .inr (.inr ⟨h.symm _ _ r, h.symm _ _ q⟩)
    · exact .inr (.inl ⟨h.symm _ _ r, h.symm _ _ q⟩)
  · have t := h.trans
    have s := h.symm
    rcases q1 with q1 | ⟨q1, r1⟩ | ⟨q1, r1⟩ <;> rcases q2 with q2 | ⟨q2, r2⟩ | ⟨q2, r2⟩
    · exact .inl (t _ _ _ q1 q2)
    · exact .inr (.inl ⟨t _ _ _ q1 q2, r2⟩)
    · exact .inr (.inr ⟨t _ _ _ q1 q2, r2⟩)
    · exact .inr (.inl ⟨q1, t _ _ _ r1 q2⟩)
    · exact .inr (.inl ⟨q1, r2⟩)
    · exact .inl (t _ _ _ q1 r2)
    · exact .inr (.inr ⟨q1, t _ _ _ r1 q2⟩)
    · exact .inl (t _ _ _ q1 r2)
    · exact .inr (.inr ⟨q1, r2⟩)
theorem glue_eqv (ts : List (Nat × Nat)) : Eqv (glue ts) := by
  refine firsts_rec' (P := fun ts => Eqv (glue ts)) ⟨fun _ => rfl, fun _ _ h => Eq.symm h, fun _ _ _ h1 h2 => Eq.trans h1 h2⟩ (fun ts t h => ?_) ts
  rw [glue_snoc]
  exact J_eqv h _ _
where
  firsts_rec' {α : Type} {P : List α → Prop} (h0 : P []) (hs : ∀ xs x, P xs → P (xs ++ [x])) : ∀ xs, P xs := by
    intro xs
    have : ∀ n (xs : List α), xs.length = n → P xs := by
      intro n
      induction n with
      | zero =>
        intro xs h
        rw [List.eq_nil_of_length_eq_zero h]
        exact h0
      | succ n ih =>
        intro xs h
        have hne : xs ≠ [] := by
          intro e
          rw [e] at h
          cases h
        rw [← List.dropLast_concat_getLast hne]
        exact hs _ _ (ih _ (by rw [List.length_dropLast, h]; rfl))
    exact this _ xs rfl
/-- the roots behind a tie -/
theorem tie_roots {hs hs' : List Nat} {R : Nat → Nat → Prop} {a b : Nat} (e : Eqv R) (h : ∀ x y, root hs x = root hs y ↔ R x y)
    (h' : ∀ y, root hs' y = if root hs y = max (root hs a) (root hs b) then min (root hs a) (root hs b) else root hs y) (x y : Nat) : root hs' x = root hs' y ↔ J R a b x y := by
  unfold J
  rw [h' x, h' y, ← h x y, ← h x a, ← h b y, ← h x b, ← h a y]
  generalize root hs x = rx
  generalize root hs y = ry
  generalize root hs a = ra
  generalize root hs b = rb
  rcases Nat.lt_trichotomy ra rb with g | g | g
  · rw [Nat.max_eq_right (by omega), Nat.min_eq_left (by omega)]
    split <;> split <;> omega
  · subst g
    rw [Nat.max_self, Nat.min_self]
    split <;> split <;> omega
  · rw [Nat.max_eq_left (by omega), Nat.min_eq_right (by omega)]
    split <;> split <;> omega
/-- labels behind a tie -/
theorem tie_labels {L L' : Nat → Int} {R : Nat → Nat → Prop} {a b : Nat} {S : Nat → Prop} (h : ∀ x y, S x → S y → (L x = L y ↔ R x y)) (sa : S a) (sb : S b)
    (h' : ∀ y, S y → L' y = if L y = L b then L a else L y) (x y : Nat) (sx : S x) (sy : S y) : L' x = L' y ↔ J R a b x y := by
  unfold J
  rw [h' x sx, h' y sy, ← h x y sx sy, ← h x a sx sa, ← h b y sb sy, ← h x b sx sb, ← h a y sa sy]
  generalize L x = rx
  generalize L y = ry
  generalize L a = ra
  generalize L b = rb
  split <;> split <;> omega
theorem up_range (n x : Nat) : up (List.range n) x = x := by
  unfold up
  rw [List.getD_eq_getElem?_getD]
  by_cases h : x < n
  · rw [List.getElem?_range h]
    rfl
  · rw [List.getElem?_eq_none (by rw [List.length_range]; omega)]
    rfl
theorem dn_range (n : Nat) : Dn (List.range n) := fun x => by
  rw [up_range]
  exact Nat.le_refl _
theorem root_range (n x : Nat) : root (List.range n) x = x := root_self (dn_range n) (up_range n x)
end KM
namespace KQ
open PySem PySem.Spec PyProof.Rows L2 KR
def topS (i : Nat) : Stmt := PySem.Challenge.pw_fittingdoors_k04_whole_ways_and_moves.main.body.getD i (.Pass ⟨0, 0, 0, 0⟩)
section
variable {P : Program} {w : World} {K : PySem.W.Frag} {mg : Str → Option Value} {base : Heap}
abbrev s_is_integer : Stmt := topS 6
theorem sc_is_integer : FnScope ["value"] ["value"] (defScope s_is_integer) := ⟨rfl, rfl, rfl, by decide +kernel, rfl, by decide +kernel, by decide +kernel⟩
def spIsInteger : Sp := fun vs H Q _ => ∃ i : Int, vs = [.int i] ∧ Q (.bl true) H
theorem ok_is_integer (D : DefAt K mg "is_integer" s_is_integer) (T : Bt mg) : Use P w K mg base "is_integer" 1 ["value"] spIsInteger := by
  refine use_of D (fun f fd F => F.ok sc_is_integer (fun vs H Q E h => ?_) (fun cdv A outer s H vs Q E hr h => ?_)) (fun _ _ _ _ _ _ us hl => match us, hl with | [_], _ => rfl)
  · obtain ⟨i, rfl, _⟩ := h
    rfl
  · obtain ⟨i, rfl, q⟩ := h
    refine ⟨_, (pss_one (ps_ret (pe_and (pe_callB (k_isi (K := K) rfl) (by rfl) T.isinstance (by decide +kernel) (pa_cons (pv 0) (pa_cons (pe_bltn (v := .ty "int") (by rfl) T.int (by decide +kernel) rfl) pa_nil))) (pe_one (pe_not (pe_callB (k_isi (K := K) rfl) (by rfl) T.isinstance (by decide +kernel) (pa_cons (pv 0) (pa_cons (pe_bltn (v := .ty "bool") (by rfl) T.bool (by decide +kernel) rfl) pa_nil)))))))), ?_⟩
    refine ⟨_, rfl, _, _, _, _, true, rfl, .ty _, .base (.int i), kit_ty (by decide +kernel), true, rfl, iteT ?_⟩
    exact ⟨_, rfl, _, _, _, _, false, rfl, .ty _, .base (.int i), kit_ty (by decide +kernel), _, rfl, q⟩
abbrev s_is_integer_within : Stmt := topS 7
theorem sc_is_integer_within : FnScope ["value", "least", "most"] ["value", "least", "most"] (defScope s_is_integer_within) := ⟨rfl, rfl, rfl, by decide +kernel, rfl, by decide +kernel, by decide +kernel⟩
def spIntW : Sp := fun vs H Q _ => ∃ i lo hi : Int, vs = [.int i, .int lo, .int hi] ∧ Q (.bl (decide (lo ≤ i ∧ i ≤ hi))) H
theorem ok_is_integer_within (D : DefAt K mg "is_integer_within" s_is_integer_within) (T : Bt mg) (u_is_integer : Use P w K mg base "is_integer" 1 ["value"] spIsInteger) :
    Use P w K mg base "is_integer_within" 2 ["value", "least", "most"] spIntW := by
  refine use_of D (fun f fd F => F.ok sc_is_integer_within (fun vs H Q E h => ?_) (fun cdv A outer s H vs Q E hr h => ?_)) (fun _ _ _ _ _ _ us hl => match us, hl with | [_, _, _], _ => rfl)
  · obtain ⟨i, lo, hi, rfl, _⟩ := h
    rfl
  · obtain ⟨i, lo, hi, rfl, q⟩ := h
    refine ⟨_, (pss_one (ps_ret (pe_and (pe_use u_is_integer (by decide) hr (by rfl) (pa_cons (pv 0) pa_nil)) (pe_one (pe_chain op_le op_le (pv 1) (pv 0) (pv 2)))))), ?_⟩
    refine ⟨_, rfl, i, rfl, true, rfl, iteT ?_⟩
    refine ⟨_, rfl, _, rfl, lo, i, rfl, rfl, _, rfl, ?_⟩
    by_cases h1 : lo ≤ i
    · rw [decide_eq_true h1]
      refine iteT ⟨_, rfl, i, hi, rfl, rfl, ?_⟩
      have e : decide (lo ≤ i ∧ i ≤ hi) = decide (i ≤ hi) := by simp [h1]
      rw [e] at q
      exact q
    · rw [decide_eq_false h1]
      refine iteF ?_
      have e : decide (lo ≤ i ∧ i ≤ hi) = false := by simp [h1]
      rw [e] at q
      exact q
abbrev s_is_tuple_within : Stmt := topS 8
theorem sc_is_tuple_within : FnScope ["value", "least", "most"] ["value", "least", "most"] (defScope s_is_tuple_within) := ⟨rfl, rfl, rfl, by decide +kernel, rfl, by decide +kernel, by decide +kernel⟩
def spTupW (K : PySem.W.Frag) : Sp := fun vs H Q _ => ∃ (a : Addr) (xs : List V) (lo hi : Int), vs = [.ref a, .int lo, .int hi] ∧ SqT K H a xs ∧ TyX K H (.ref a) (.type "tuple") ∧ Q (.bl (decide (lo ≤ xs.length ∧ (xs.length : Int) ≤ hi))) H
theorem ok_is_tuple_within (D : DefAt K mg "is_tuple_within" s_is_tuple_within) (T : Bt mg) :
    Use P w K mg base "is_tuple_within" 1 ["value", "least", "most"] (spTupW K) := by
  refine use_of D (fun f fd F => F.ok sc_is_tuple_within (fun vs H Q E h => ?_) (fun cdv A outer s H vs Q E hr h => ?_)) (fun _ _ _ _ _ _ us hl => match us, hl with | [_, _, _], _ => rfl)
  · obtain ⟨a, xs, lo, hi, rfl, _⟩ := h
    rfl
  · obtain ⟨a, xs, lo, hi, rfl, hs, ht, q⟩ := h
    refine ⟨_, (pss_one (ps_ret (pe_and (pe_callB (k_isi (K := K) rfl) (by rfl) T.isinstance (by decide +kernel) (pa_cons (pv 0) (pa_cons (pe_bltn (v := .ty "tuple") (by rfl) T.tuple (by decide +kernel) rfl) pa_nil))) (pe_one (pe_chain op_le op_le (pv 1) (pe_callB (k_len (K := K) rfl) (by rfl) T.len PySem.boot_len (pa_cons (pv 0) pa_nil)) (pv 2)))))), ?_⟩
    refine ⟨_, rfl, _, _, _, _, true, rfl, .ty _, ht, kit_ty (by decide +kernel), true, rfl, iteT ?_⟩
    refine ⟨_, rfl, _, rfl, a, xs, rfl, .inr hs, lo, _, rfl, rfl, _, rfl, ?_⟩
    by_cases h1 : lo ≤ (xs.length : Int)
    · rw [decide_eq_true h1]
      refine iteT ⟨_, rfl, _, hi, rfl, rfl, ?_⟩
      have e : decide (lo ≤ (xs.length : Int) ∧ (xs.length : Int) ≤ hi) = decide ((xs.length : Int) ≤ hi) := by simp [h1]
      rw [e] at q
      exact q
    · rw [decide_eq_false h1]
      refine iteF ?_
      have e : decide (lo ≤ (xs.length : Int) ∧ (xs.length : Int) ≤ hi) = false := by simp [h1]
      rw [e] at q
      exact q
end
end KQ
namespace KQ
open PySem PySem.Spec PyProof.Rows L2 KR KM
section
variable {P : Program} {w : World} {K : PySem.W.Frag} {mg : Str → Option Value} {base : Heap}
/-- a tuple of whole numbers stands at a -/
def TI (H : Hp) (a : Addr) (p : List Int) : Prop := H a = some (.tup (p.map V.int))
theorem TI.mono {H H' : Hp} {a : Addr} {p : List Int} (h : TI H a p) (e : Same H H') : TI H' a p := e _ _ h
theorem TI.ty {H : Hp} {a : Addr} {p : List Int} (h : TI H a p) : TyX K H (.ref a) (.type "tuple") := .base (.tup h)
theorem TI.seq {H : Hp} {a : Addr} {p : List Int} (h : TI H a p) : SqT K H a (p.map V.int) := .inl (.inl h)
abbrev s_first_wrong_block : Stmt := topS 11
theorem sc_first_wrong_block : FnScope ["blocks", "many", "place", "block"] ["blocks"] (defScope s_first_wrong_block) := ⟨rfl, rfl, rfl, by decide +kernel, rfl, by decide +kernel, by decide +kernel⟩
def spFwb : Sp := fun vs H Q _ => ∃ a p, vs = [.ref a] ∧ TI H a p ∧ Par p ∧ ∀ H', Same H H' → Q .non H'
theorem ok_first_wrong_block (D : DefAt K mg "first_wrong_block" s_first_wrong_block) (T : Bt mg) :
    Use P w K mg base "first_wrong_block" 3 ["blocks"] spFwb := by
  refine use_of D (fun f fd F => F.ok sc_first_wrong_block (fun vs H Q E h => ?_) (fun cdv A outer s H vs Q E hr h => ?_)) (fun _ _ _ _ _ _ us hl => match us, hl with | [_], _ => rfl)
  · obtain ⟨a, p, rfl, _⟩ := h
    rfl
  · obtain ⟨a, p, rfl, hp, par, q⟩ := h
    refine ⟨_, (pss_cons (ps_set (i := 1) sc_first_wrong_block.nd rfl (Or.inl rfl) pe_int)
      (pss_cons (ps_for PassesOwn.never rfl (k_enumT (K := K) rfl (by rfl) T.enumerate (pa_cons (pv 0) pa_nil)) (pg_tup rfl (pgs_cons (pg_name (i := 2) sc_first_wrong_block.nd rfl (Or.inl rfl)) (pgs_cons (pg_name (i := 3) sc_first_wrong_block.nd rfl (Or.inl rfl)) pgs_nil)))
      (pss_cons (ps_if (PW.pt (pw_or (pt_not (pt_val (pe_callB (k_isi (K := K) rfl) (by rfl) T.isinstance (by decide +kernel) (pa_cons (pv 3) (pa_cons (pe_bltn (v := .ty "int") (by rfl) T.int (by decide +kernel) rfl) pa_nil))))) (pw_or (pt_val (pe_callB (k_isi (K := K) rfl) (by rfl) T.isinstance (by decide +kernel) (pa_cons (pv 3) (pa_cons (pe_bltn (v := .ty "bool") (by rfl) T.bool (by decide +kernel) rfl) pa_nil)))) (pw_or (pt_cmpR op_lt (pv 3) pe_int (nomark _)) (pw_or1 (pt_cmpR op_gt (pv 3) (pv 1) (nomark _))))))) (pss_one (ps_ret (pv 2))) pss_nil)
      (pss_one (ps_if (pt_cmpR op_eq (pv 3) (pv 1) (nomark _)) (pss_one (ps_aug (i := 1) sc_first_wrong_block.nd rfl (Or.inl rfl) pe_int ip_add)) pss_nil))))
      (pss_one (ps_ret pe_non)))), ?_⟩
    refine ⟨_, rfl, a, _, rfl, hp.seq, for_enumT (K := K) (a := a) (xs := p.map V.int)
      (fun i σ H1 => ∃ y2 y3, σ = [some (.ref a), some (.int (bc 0 (p.take i))), y2, y3] ∧ Same H H1)
      ⟨none, none, rfl, Same.refl H⟩ (fun i σ H1 ⟨_, _, _, sm⟩ => (hp.mono sm).seq) ?_ ?_⟩
    · rintro i v T1 σ H1 hi ⟨y2, y3, rfl, sm⟩ hT
      obtain ⟨x, hx, rfl⟩ := map_at hi
      obtain ⟨x0, x1⟩ := rg_at par.rg hx
      refine ⟨T1, _, rfl, .inl (.inl upd_same), rfl, _, _, rfl, _, [], rfl, rfl, ?_⟩
      refine ⟨_, rfl, _, _, _, _, true, rfl, .ty _, .base (.int x), kit_ty (by decide +kernel), true, rfl, iteF ?_⟩
      refine ⟨_, rfl, _, _, _, _, false, rfl, .ty _, .base (.int x), kit_ty (by decide +kernel), false, rfl, iteF ?_⟩
      refine ⟨_, rfl, x, 0, rfl, rfl, _, rfl, ?_⟩
      rw [decide_eq_false (show ¬ x < 0 by omega)]
      refine iteF ⟨_, rfl, _, rfl, x, bc 0 (p.take i), rfl, rfl, _, rfl, ?_⟩
      rw [decide_eq_false (show ¬ x > bc 0 (p.take i) by omega)]
      refine iteF ?_
      · refine ⟨_, rfl, _, rfl, rfl, _, rfl, ite2 (fun e => ?_) (fun e => ?_)⟩
        · have e' : x = bc 0 (p.take i) := V.int.inj (of_decide_eq_true e)
          refine ⟨_, rfl, _, _, rfl, rfl, ?_⟩
          refine ⟨some (.int (i : Nat)), some (.int x), ?_, sm.trans (same_new hT)⟩
          rw [bc_take hx, if_pos e']
          rfl
        · have e' : ¬ x = bc 0 (p.take i) := fun z => e (decide_eq_true (by rw [z]))
          refine ⟨some (.int (i : Nat)), some (.int x), ?_, sm.trans (same_new hT)⟩
          rw [bc_take hx, if_neg e']
          rfl
    · rintro σ H1 ⟨y2, y3, rfl, sm⟩
      exact q H1 sm
def spIsPar : Sp := fun vs H Q _ => ∃ a p, vs = [.ref a] ∧ TI H a p ∧ Par p ∧ ∀ H', Same H H' → Q (.bl true) H'
theorem par_le {p : List Int} (h : Par p) : decide ((1 : Int) ≤ ((p.map V.int).length : Int) ∧ ((p.map V.int).length : Int) ≤ 60) = true := by
  refine decide_eq_true ?_
  rw [List.length_map]
  have h1 := h.le
  have h2 : p.length ≠ 0 := fun e => h.ne (List.eq_nil_of_length_eq_zero e)
  omega
abbrev s_need_parting : Stmt := topS 12
theorem sc_need_parting : FnScope ["parting", "place"] ["parting"] (defScope s_need_parting) := ⟨rfl, rfl, rfl, by decide +kernel, rfl, by decide +kernel, by decide +kernel⟩
def spNeed : Sp := fun vs H Q _ => ∃ a p, vs = [.ref a] ∧ TI H a p ∧ Par p ∧ ∀ H', Same H H' → Q (.ref a) H'
theorem ok_need_parting (D : DefAt K mg "need_parting" s_need_parting) (T : Bt mg) (c_MOST_DOORS : Cst mg "MOST_DOORS" 60) (u_is_tuple_within : Use P w K mg base "is_tuple_within" 1 ["value", "least", "most"] (spTupW K))
    (u_first_wrong_block : Use P w K mg base "first_wrong_block" 3 ["blocks"] spFwb) : Use P w K mg base "need_parting" 4 ["parting"] spNeed := by
  refine use_of D (fun f fd F => F.ok sc_need_parting (fun vs H Q E h => ?_) (fun cdv A outer s H vs Q E hr h => ?_)) (fun _ _ _ _ _ _ us hl => match us, hl with | [_], _ => rfl)
  · obtain ⟨a, p, rfl, _⟩ := h
    rfl
  · obtain ⟨a, p, rfl, hp, par, q⟩ := h
    refine ⟨_, (pss_cons (ps_if (pt_not (pt_val (pe_use u_is_tuple_within (by decide) hr (by rfl) (pa_cons (pv 0) (pa_cons pe_int (pa_cons (pe_cst (by rfl) c_MOST_DOORS) pa_nil)))))) (pss_one ps_never) pss_nil)
      (pss_cons (ps_set (i := 1) sc_need_parting.nd rfl (Or.inl rfl) (pe_use u_first_wrong_block (by decide) hr (by rfl) (pa_cons (pv 0) pa_nil)))
      (pss_cons (ps_if (pt_cmpR op_notN (pv 1) pe_non (nomark _)) (pss_one ps_never) pss_nil)
      (pss_one (ps_ret (pe_callTy (k_tupOf (K := K) rfl) (by rfl) T.tuple (by decide +kernel) (pa_cons (pv 0) pa_nil))))))), ?_⟩
    refine ⟨_, rfl, a, _, _, _, rfl, hp.seq, hp.ty, true, ?_, iteF ?_⟩
    · rw [par_le par]
    · refine ⟨_, rfl, a, p, rfl, hp, par, fun H1 sm => ?_⟩
      refine ⟨_, rfl, rfl, _, rfl, iteF ?_⟩
      exact ⟨_, rfl, a, _, rfl, .inr ⟨(hp.mono sm).seq, q H1 sm⟩⟩
abbrev s_need_parting_of : Stmt := topS 13
theorem sc_need_parting_of : FnScope ["parting", "doors"] ["parting", "doors"] (defScope s_need_parting_of) := ⟨rfl, rfl, rfl, by decide +kernel, rfl, by decide +kernel, by decide +kernel⟩
def spNeedOf : Sp := fun vs H Q _ => ∃ a p, vs = [.ref a, .int (p.length : Int)] ∧ TI H a p ∧ Par p ∧ ∀ H', Same H H' → Q (.ref a) H'
theorem ok_need_parting_of (D : DefAt K mg "need_parting_of" s_need_parting_of) (T : Bt mg) (u_need_parting : Use P w K mg base "need_parting" 4 ["parting"] spNeed) :
    Use P w K mg base "need_parting_of" 5 ["parting", "doors"] spNeedOf := by
  refine use_of D (fun f fd F => F.ok sc_need_parting_of (fun vs H Q E h => ?_) (fun cdv A outer s H vs Q E hr h => ?_)) (fun _ _ _ _ _ _ us hl => match us, hl with | [_, _], _ => rfl)
  · obtain ⟨a, p, rfl, _⟩ := h
    rfl
  · obtain ⟨a, p, rfl, hp, par, q⟩ := h
    refine ⟨_, (pss_cons (ps_expr (pe_use u_need_parting (by decide) hr (by rfl) (pa_cons (pv 0) pa_nil)))
      (pss_cons (ps_if (pt_cmpR op_ne (pe_callB (k_len (K := K) rfl) (by rfl) T.len PySem.boot_len (pa_cons (pv 0) pa_nil)) (pv 1) (nomark _)) (pss_one ps_never) pss_nil)
      (pss_one (ps_ret (pe_callTy (k_tupOf (K := K) rfl) (by rfl) T.tuple (by decide +kernel) (pa_cons (pv 0) pa_nil)))))), ?_⟩
    refine ⟨_, rfl, a, p, rfl, hp, par, fun H1 sm => ?_⟩
    refine ⟨_, rfl, a, _, rfl, .inr (hp.mono sm).seq, _, rfl, rfl, _, rfl, ?_⟩
    rw [List.length_map, decide_eq_true rfl]
    refine iteF ?_
    exact ⟨_, rfl, a, _, rfl, .inr ⟨(hp.mono sm).seq, q H1 sm⟩⟩
abbrev s_need_two_partings : Stmt := topS 14
theorem sc_need_two_partings : FnScope ["parting", "other"] ["parting", "other"] (defScope s_need_two_partings) := ⟨rfl, rfl, rfl, by decide +kernel, rfl, by decide +kernel, by decide +kernel⟩
def spTwo : Sp := fun vs H Q _ => ∃ a b p r, vs = [.ref a, .ref b] ∧ TI H a p ∧ TI H b r ∧ Par p ∧ Par r ∧ p.length = r.length ∧ ∀ H', Same H H' → Q .non H'
theorem ok_need_two_partings (D : DefAt K mg "need_two_partings" s_need_two_partings) (T : Bt mg) (u_need_parting : Use P w K mg base "need_parting" 4 ["parting"] spNeed)
    (u_need_parting_of : Use P w K mg base "need_parting_of" 5 ["parting", "doors"] spNeedOf) : Use P w K mg base "need_two_partings" 6 ["parting", "other"] spTwo := by
  refine use_of D (fun f fd F => F.ok sc_need_two_partings (fun vs H Q E h => ?_) (fun cdv A outer s H vs Q E hr h => ?_)) (fun _ _ _ _ _ _ us hl => match us, hl with | [_, _], _ => rfl)
  · obtain ⟨a, b, p, r, rfl, _⟩ := h
    rfl
  · obtain ⟨a, b, p, r, rfl, hp, hb, par, parb, hl, q⟩ := h
    refine ⟨_, (pss_cons (ps_expr (pe_use u_need_parting (by decide) hr (by rfl) (pa_cons (pv 0) pa_nil)))
      (pss_one (ps_expr (pe_use u_need_parting_of (by decide) hr (by rfl) (pa_cons (pv 1) (pa_cons (pe_callB (k_len (K := K) rfl) (by rfl) T.len PySem.boot_len (pa_cons (pv 0) pa_nil)) pa_nil)))))), ?_⟩
    refine ⟨_, rfl, a, p, rfl, hp, par, fun H1 sm => ?_⟩
    refine ⟨_, rfl, _, rfl, a, _, rfl, .inr (hp.mono sm).seq, b, r, ?_, hb.mono sm, parb, fun H2 sm2 => q H2 (sm.trans sm2)⟩
    rw [List.length_map, hl]
    rfl
abbrev s_block_count : Stmt := topS 16
theorem sc_block_count : FnScope ["parting"] ["parting"] (defScope s_block_count) := ⟨rfl, rfl, rfl, by decide +kernel, rfl, by decide +kernel, by decide +kernel⟩
def spCount : Sp := fun vs H Q _ => ∃ a p, vs = [.ref a] ∧ TI H a p ∧ Par p ∧ Q (.int (bc 0 p)) H
theorem ok_block_count (D : DefAt K mg "block_count" s_block_count) (T : Bt mg) : Use P w K mg base "block_count" 1 ["parting"] spCount := by
  refine use_of D (fun f fd F => F.ok sc_block_count (fun vs H Q E h => ?_) (fun cdv A outer s H vs Q E hr h => ?_)) (fun _ _ _ _ _ _ us hl => match us, hl with | [_], _ => rfl)
  · obtain ⟨a, p, rfl, _⟩ := h
    rfl
  · obtain ⟨a, p, rfl, hp, par, q⟩ := h
    refine ⟨_, (pss_one (ps_ret (pe_op op_add (pe_callB (k_maxT (K := K) rfl rfl hr.units) (by rfl) T.max (by decide +kernel) (pa_cons (pv 0) pa_nil)) pe_int))), ?_⟩
    refine ⟨_, rfl, a, p, rfl, hp.seq, par.ne, fun m hm hle => ?_⟩
    refine ⟨_, _, rfl, rfl, ?_⟩
    show Q (.int (m + 1)) H
    rw [par_max par hm hle]
    exact q
def spSize : Sp := fun vs H Q _ => ∃ a p, vs = [.ref a] ∧ TI H a p ∧ Par p ∧ ∀ H', Same H H' → Q (.int (bc 0 p)) H'
end
end KQ
namespace KQ
open PySem PySem.Spec PyProof.Rows L2 KR KM
/-! ### a dict of the first ones' places -/
section
variable {α κ : Type} [DecidableEq α] [DecidableEq κ]
def dg (f : α → κ) (ks : List α) : List (κ × V) := ks.zipIdx.map fun p => (f p.1, V.int ((p.2 : Nat) : Int))
theorem dg_len (f : α → κ) (ks : List α) : (dg f ks).length = ks.length := by
  unfold dg
  rw [List.length_map, List.length_zipIdx]
theorem dg_snoc (f : α → κ) (ks : List α) (x : α) : dg f (ks ++ [x]) = dg f ks ++ [(f x, V.int ((ks.length : Nat) : Int))] := by
  unfold dg
  rw [List.zipIdx_append, List.map_append]
  simp
theorem dg_any {f : α → κ} (hf : ∀ a b, f a = f b → a = b) (ks : List α) (x : α) : ((dg f ks).any fun kv => decide (kv.1 = f x)) = decide (x ∈ ks) := by
  refine firsts_rec (P := fun ks => ((dg f ks).any fun kv => decide (kv.1 = f x)) = decide (x ∈ ks)) (by simp [dg]) (fun ks y h => ?_) ks
  rw [dg_snoc, List.any_append, h]
  simp only [List.any_cons, List.any_nil, Bool.or_false, List.mem_append, List.mem_singleton]
  by_cases e : x = y
  · subst e
    simp
  · have e2 : f y ≠ f x := fun q => e (hf _ _ q).symm
    simp [e, e2]
theorem dg_val {f : α → κ} (hf : ∀ a b, f a = f b → a = b) (ks : List α) (x : α) (h : ks.Nodup) :
    valV (dg f ks) (f x) = if x ∈ ks then some (V.int ((ks.idxOf x : Nat) : Int)) else none := by
  refine firsts_rec (P := fun ks => ks.Nodup → valV (dg f ks) (f x) = if x ∈ ks then some (V.int ((ks.idxOf x : Nat) : Int)) else none) (fun _ => rfl) (fun ks y ih hn => ?_) ks h
  rw [List.nodup_append] at hn
  have ih := ih hn.1
  have hy : y ∉ ks := fun hm => hn.2.2 y hm y (List.mem_singleton.mpr rfl) rfl
  unfold valV at ih ⊢
  rw [dg_snoc, List.find?_append, Option.map_or, ih]
  by_cases hx : x ∈ ks
  · rw [if_pos hx, if_pos (List.mem_append_left _ hx), List.idxOf_append, if_pos hx]
    rfl
  · rw [if_neg hx]
    by_cases e : x = y
    · subst e
      rw [if_pos (List.mem_append_right _ (List.mem_singleton.mpr rfl)), List.idxOf_append, if_neg hx]
      simp
    · have e2 : f y ≠ f x := fun q => e (hf _ _ q).symm
      rw [if_neg (by simp [hx, e])]
      simp [e2]
theorem dg_put {f : α → κ} (hf : ∀ a b, f a = f b → a = b) (ks : List α) (x : α) (hx : x ∉ ks) : putK (dg f ks) (f x) (V.int ((ks.length : Nat) : Int)) = dg f (ks ++ [x]) := by
  unfold putK
  rw [if_neg (by rw [dg_any hf]; simp [hx]), dg_snoc]
end
def kI (x : Int) : L2.Key := Sum.inl x
theorem kI_inj : ∀ a b, kI a = kI b → a = b := fun _ _ e => Sum.inl.inj e
def kP (x : Int × Int) : List L2.Key := [Sum.inl x.1, Sum.inl x.2]
theorem kP_inj : ∀ a b, kP a = kP b → a = b := fun a b e => by
  unfold kP at e
  simp only [List.cons.injEq, Sum.inl.injEq, and_true] at e
  exact Prod.ext e.1 e.2
theorem take_snoc {α : Type} {xs : List α} {i : Nat} {x : α} (h : xs[i]? = some x) : xs.take (i + 1) = xs.take i ++ [x] := by
  rw [List.take_add_one, h]
  rfl
theorem small_of {n : Nat} (h : n ≤ 100000) : n < sizeLine := Nat.lt_of_le_of_lt h (by decide)
/-- one more: what comes, where the key is there, where it isn't -/
theorem num_old {α : Type} [DecidableEq α] {xs : List α} {x : α} (h : x ∈ firsts xs) : num (xs ++ [x]) = num xs ++ [(((firsts xs).idxOf x : Nat) : Int)] ∧ firsts (xs ++ [x]) = firsts xs := by
  rw [num_snoc, firsts_snoc, if_pos h]
  exact ⟨rfl, if_pos h⟩
theorem num_new {α : Type} [DecidableEq α] {xs : List α} {x : α} (h : x ∉ firsts xs) : num (xs ++ [x]) = num xs ++ [((firsts xs).length : Int)] ∧ firsts (xs ++ [x]) = firsts xs ++ [x] := by
  rw [num_snoc, firsts_snoc, if_neg h]
  exact ⟨rfl, if_neg h⟩
theorem firsts_le {α : Type} [DecidableEq α] (xs : List α) : (firsts xs).length ≤ xs.length := by
  refine firsts_rec (P := fun xs => (firsts xs).length ≤ xs.length) (Nat.le_refl _) (fun xs x h => ?_) xs
  rw [firsts_snoc]
  unfold ins
  split
  · rw [List.length_append]
    omega
  · rw [List.length_append, List.length_append]
    show _ + 1 ≤ _ + 1
    omega
section
variable {P : Program} {w : World} {K : PySem.W.Frag} {mg : Str → Option Value} {base : Heap}
abbrev s_numbered : Stmt := topS 15
theorem sc_numbered : FnScope ["blocks", "numbers", "block"] ["blocks"] (defScope s_numbered) := ⟨rfl, rfl, rfl, by decide +kernel, rfl, by decide +kernel, by decide +kernel⟩
/-- numbered of whole numbers: a tuple (b = true), a list -/
def spNumT : Sp := fun vs H Q _ => ∃ a xs, vs = [.ref a] ∧ TI H a xs ∧ xs.length ≤ 1000 ∧ ∀ H' p, Same H H' → TI H' p (num xs) → Q (.ref p) H'
def spNumL : Sp := fun vs H Q _ => ∃ (a : Addr) (xs : List Int), vs = [.ref a] ∧ H a = some (.lst (xs.map V.int)) ∧ xs.length ≤ 1000 ∧ ∀ H' p, Same H H' → TI H' p (num xs) → Q (.ref p) H'
/-- of pairs -/
def PairsAt (H : Hp) (ts : List Addr) (xs : List (Int × Int)) : Prop := ts.length = xs.length ∧ ∀ (i : Nat) (t : Addr), ts[i]? = some t → ∃ x, xs[i]? = some x ∧ H t = some (.tup [.int x.1, .int x.2])
def spNumP : Sp := fun vs H Q _ => ∃ (a : Addr) (ts : List Addr) (xs : List (Int × Int)), vs = [.ref a] ∧ H a = some (.lst (ts.map V.ref)) ∧ PairsAt H ts xs ∧ xs.length ≤ 1000 ∧ ∀ H' p, Same H H' → TI H' p (num xs) → Q (.ref p) H'
theorem ok_numberedT (D : DefAt K mg "numbered" s_numbered) (T : Bt mg) : Use P w K mg base "numbered" 1 ["blocks"] spNumT := by
  refine use_of D (fun f fd F => F.ok sc_numbered (fun vs H Q E h => ?_) (fun cdv A outer s H vs Q E hr h => ?_)) (fun _ _ _ _ _ _ us hl => match us, hl with | [_], _ => rfl)
  · obtain ⟨a, p, rfl, _⟩ := h
    rfl
  · obtain ⟨a, xs, rfl, hp, hl, q⟩ := h
    refine ⟨_, (pss_cons (ps_set (i := 1) sc_numbered.nd rfl (Or.inr rfl) pe_dnewK)
      (pss_one (ps_ret (pe_callTy (k_tupOf (K := K) rfl) (by rfl) T.tuple (by decide +kernel) (pa_cons (pe_lc (own := [("block", 2)]) rfl sc_numbered.nd (k_tup (K := K) rfl (pv 0)) (blkOk_by (N := ["blocks", "numbers", "block"]) (sc := defScope s_numbered) (by decide +kernel)) (fun _ _ _ _ _ => (pg_name (i := 2) sc_numbered.nd rfl (Or.inl rfl))) (fun _ _ _ _ _ => pts_nil) (fun _ _ _ _ _ => (pe_dsetd (pv 1) (pv 2) (pe_callB call_lenD (by rfl) T.len PySem.boot_len (pa_cons (pv 1) pa_nil)) ⟨by rfl, by rfl, by rfl, by rfl⟩))) pa_nil))))), ?_⟩
    refine fun d nd => ?_
    have s0 : Same H (upd H d (.dK [])) := same_new nd
    refine ⟨_, rfl, a, rfl, ⟨_, (hp.mono s0).seq⟩, fun L nL => ?_⟩
    have s1 : Same H (upd (upd H d (.dK [])) L (.lst [])) := s0.trans (same_new nL)
    have ndL : d ≠ L := fun e => by rw [e, upd_same] at nL; cases nL
    refine lc_tup (K := K) (a := a) (xs := xs.map V.int) (fun i H1 => Same H H1 ∧ H1 d = some (.dK (dg kI (firsts (xs.take i)))) ∧ H1 L = some (.lst ((num (xs.take i)).map V.int)))
      ⟨s1, ?_, ?_⟩ (fun i H1 _ ⟨sm, _, _⟩ => (hp.mono sm).seq) ?_ ?_
    · rw [upd_ne ndL, upd_same]
      rfl
    · rw [upd_same]
      rfl
    · rintro i v H1 hi ⟨sm, ed, eL⟩
      obtain ⟨x, hx, rfl⟩ := map_at hi
      refine ⟨rfl, ?_⟩
      refine ⟨_, rfl, d, rfl, .inl ⟨_, .inl ed⟩, _, rfl, _, rfl, d, _, rfl, ed, _, kI x, ed, rfl, ?_, fun v hv => ?_, fun hn => ?_⟩
      · rw [dg_len]
        have := firsts_le (xs.take i)
        rw [List.length_take] at this
        exact small_of (by omega)
      · rw [dg_val kI_inj _ _ (firsts_nodup _)] at hv
        by_cases hm : x ∈ firsts (xs.take i)
        · rw [if_pos hm] at hv
          cases hv
          obtain ⟨e1, e2⟩ := num_old hm
          refine ⟨_, eL, ?_, ?_⟩
          · rw [List.length_map, num_len, List.length_take]
            exact small_of (by omega)
          · rw [take_snoc hx, e1, e2]
            refine ⟨same_mut sm (s0.free nL), ?_, ?_⟩
            · rw [upd_ne ndL]
              exact ed
            · rw [upd_same, List.map_append]
              rfl
        · rw [if_neg hm] at hv
          cases hv
      · rw [dg_val kI_inj _ _ (firsts_nodup _)] at hn
        by_cases hm : x ∈ firsts (xs.take i)
        · rw [if_pos hm] at hn
          cases hn
        · obtain ⟨e1, e2⟩ := num_new hm
          rw [dg_len]
          refine ⟨_, by rw [upd_ne ndL.symm]; exact eL, ?_, ?_⟩
          · rw [List.length_map, num_len, List.length_take]
            exact small_of (by omega)
          · rw [take_snoc hx, e1, e2]
            refine ⟨same_mut (same_mut sm nd) (s0.free nL), ?_, ?_⟩
            · rw [upd_ne ndL, upd_same, dg_put kI_inj _ _ hm]
            · rw [upd_same, List.map_append]
              rfl
    · rintro H1 ⟨sm, ed, eL⟩
      refine ⟨L, _, rfl, .inl ⟨.inl (.inl eL), fun l hl => ?_⟩⟩
      refine q _ l (sm.trans (same_new hl)) ?_
      show upd H1 l _ l = _
      rw [upd_same, List.length_map, List.take_length]
end
end KQ
namespace KQ
open PySem PySem.Spec PyProof.Rows L2 KR KM
section
variable {P : Program} {w : World} {K : PySem.W.Frag} {mg : Str → Option Value} {base : Heap}
theorem ok_numberedL (D : DefAt K mg "numbered" s_numbered) (T : Bt mg) : Use P w K mg base "numbered" 1 ["blocks"] spNumL := by
  refine use_of D (fun f fd F => F.ok sc_numbered (fun vs H Q E h => ?_) (fun cdv A outer s H vs Q E hr h => ?_)) (fun _ _ _ _ _ _ us hl => match us, hl with | [_], _ => rfl)
  · obtain ⟨a, p, rfl, _⟩ := h
    rfl
  · obtain ⟨a, xs, rfl, hp, hl, q⟩ := h
    refine ⟨_, (pss_cons (ps_set (i := 1) sc_numbered.nd rfl (Or.inr rfl) pe_dnewK)
      (pss_one (ps_ret (pe_callTy (k_tupOf (K := K) rfl) (by rfl) T.tuple (by decide +kernel) (pa_cons (pe_lc (own := [("block", 2)]) rfl sc_numbered.nd (k_list (K := K) rfl (pv 0)) (blkOk_by (N := ["blocks", "numbers", "block"]) (sc := defScope s_numbered) (by decide +kernel)) (fun _ _ _ _ _ => (pg_name (i := 2) sc_numbered.nd rfl (Or.inl rfl))) (fun _ _ _ _ _ => pts_nil) (fun _ _ _ _ _ => (pe_dsetd (pv 1) (pv 2) (pe_callB call_lenD (by rfl) T.len PySem.boot_len (pa_cons (pv 1) pa_nil)) ⟨by rfl, by rfl, by rfl, by rfl⟩))) pa_nil))))), ?_⟩
    refine fun d nd => ?_
    have s0 : Same H (upd H d (.dK [])) := same_new nd
    refine ⟨_, rfl, a, rfl, ⟨_, .inl (.inl (s0 _ _ hp))⟩, fun L nL => ?_⟩
    have s1 : Same H (upd (upd H d (.dK [])) L (.lst [])) := s0.trans (same_new nL)
    have ndL : d ≠ L := fun e => by rw [e, upd_same] at nL; cases nL
    refine lc_list (K := K) (a := a) (xs := xs.map V.int) (fun i H1 => Same H H1 ∧ H1 d = some (.dK (dg kI (firsts (xs.take i)))) ∧ H1 L = some (.lst ((num (xs.take i)).map V.int)))
      ⟨s1, ?_, ?_⟩ (fun i H1 _ ⟨sm, _, _⟩ => .inl (.inl (sm _ _ hp))) ?_ ?_
    · rw [upd_ne ndL, upd_same]
      rfl
    · rw [upd_same]
      rfl
    · rintro i v H1 hi ⟨sm, ed, eL⟩
      obtain ⟨x, hx, rfl⟩ := map_at hi
      refine ⟨rfl, ?_⟩
      refine ⟨_, rfl, d, rfl, .inl ⟨_, .inl ed⟩, _, rfl, _, rfl, d, _, rfl, ed, _, kI x, ed, rfl, ?_, fun v hv => ?_, fun hn => ?_⟩
      · rw [dg_len]
        have := firsts_le (xs.take i)
        rw [List.length_take] at this
        exact small_of (by omega)
      · rw [dg_val kI_inj _ _ (firsts_nodup _)] at hv
        by_cases hm : x ∈ firsts (xs.take i)
        · rw [if_pos hm] at hv
          cases hv
          obtain ⟨e1, e2⟩ := num_old hm
          refine ⟨_, eL, ?_, ?_⟩
          · rw [List.length_map, num_len, List.length_take]
            exact small_of (by omega)
          · rw [take_snoc hx, e1, e2]
            refine ⟨same_mut sm (s0.free nL), ?_, ?_⟩
            · rw [upd_ne ndL]
              exact ed
            · rw [upd_same, List.map_append]
              rfl
        · rw [if_neg hm] at hv
          cases hv
      · rw [dg_val kI_inj _ _ (firsts_nodup _)] at hn
        by_cases hm : x ∈ firsts (xs.take i)
        · rw [if_pos hm] at hn
          cases hn
        · obtain ⟨e1, e2⟩ := num_new hm
          rw [dg_len]
          refine ⟨_, by rw [upd_ne ndL.symm]; exact eL, ?_, ?_⟩
          · rw [List.length_map, num_len, List.length_take]
            exact small_of (by omega)
          · rw [take_snoc hx, e1, e2]
            refine ⟨same_mut (same_mut sm nd) (s0.free nL), ?_, ?_⟩
            · rw [upd_ne ndL, upd_same, dg_put kI_inj _ _ hm]
            · rw [upd_same, List.map_append]
              rfl
    · rintro H1 ⟨sm, ed, eL⟩
      refine ⟨L, _, rfl, .inl ⟨.inl (.inl eL), fun l hl => ?_⟩⟩
      refine q _ l (sm.trans (same_new hl)) ?_
      show upd H1 l _ l = _
      rw [upd_same, List.length_map, List.take_length]
theorem ok_numberedP (D : DefAt K mg "numbered" s_numbered) (T : Bt mg) : Use P w K mg base "numbered" 1 ["blocks"] spNumP := by
  refine use_of D (fun f fd F => F.ok sc_numbered (fun vs H Q E h => ?_) (fun cdv A outer s H vs Q E hr h => ?_)) (fun _ _ _ _ _ _ us hl => match us, hl with | [_], _ => rfl)
  · obtain ⟨a, ts, p, rfl, _⟩ := h
    rfl
  · obtain ⟨a, ts, xs, rfl, hp, ⟨pl, pt⟩, hl, q⟩ := h
    refine ⟨_, (pss_cons (ps_set (i := 1) sc_numbered.nd rfl (Or.inr rfl) pe_dnewT)
      (pss_one (ps_ret (pe_callTy (k_tupOf (K := K) rfl) (by rfl) T.tuple (by decide +kernel) (pa_cons (pe_lc (own := [("block", 2)]) rfl sc_numbered.nd (k_list (K := K) rfl (pv 0)) (blkOk_by (N := ["blocks", "numbers", "block"]) (sc := defScope s_numbered) (by decide +kernel)) (fun _ _ _ _ _ => (pg_name (i := 2) sc_numbered.nd rfl (Or.inl rfl))) (fun _ _ _ _ _ => pts_nil) (fun _ _ _ _ _ => (pe_dsetdT (hu_of hr) (pv 1) (pv 2) (pe_callB call_len_dT (by rfl) T.len PySem.boot_len (pa_cons (pv 1) pa_nil)) ⟨by rfl, by rfl, by rfl, by rfl⟩))) pa_nil))))), ?_⟩
    refine fun d nd => ?_
    have s0 : Same H (upd H d (.dT [])) := same_new nd
    refine ⟨_, rfl, a, rfl, ⟨_, .inl (.inl (s0 _ _ hp))⟩, fun L nL => ?_⟩
    have s1 : Same H (upd (upd H d (.dT [])) L (.lst [])) := s0.trans (same_new nL)
    have ndL : d ≠ L := fun e => by rw [e, upd_same] at nL; cases nL
    refine lc_list (K := K) (a := a) (xs := ts.map V.ref) (fun i H1 => Same H H1 ∧ H1 d = some (.dT (dg kP (firsts (xs.take i)))) ∧ H1 L = some (.lst ((num (xs.take i)).map V.int)))
      ⟨s1, ?_, ?_⟩ (fun i H1 _ ⟨sm, _, _⟩ => .inl (.inl (sm _ _ hp))) ?_ ?_
    · rw [upd_ne ndL, upd_same]
      rfl
    · rw [upd_same]
      rfl
    · rintro i v H1 hi ⟨sm, ed, eL⟩
      obtain ⟨t, ht, rfl⟩ := map_at hi
      obtain ⟨x, hx, et⟩ := pt i t ht
      have et1 : H1 t = some (.tup ((kP x).map kV)) := sm _ _ et
      refine ⟨rfl, ?_⟩
      refine ⟨_, rfl, d, rfl, .inr ⟨_, .inl ed⟩, _, rfl, _, rfl, d, _, rfl, ed, _, kP x, t, ed, rfl, et1, ?_, fun v hv => ?_, fun hn => ?_⟩
      · rw [dg_len]
        have := firsts_le (xs.take i)
        rw [List.length_take] at this
        exact small_of (by omega)
      · rw [dg_val kP_inj _ _ (firsts_nodup _)] at hv
        by_cases hm : x ∈ firsts (xs.take i)
        · rw [if_pos hm] at hv
          cases hv
          obtain ⟨e1, e2⟩ := num_old hm
          refine ⟨_, eL, ?_, ?_⟩
          · rw [List.length_map, num_len, List.length_take]
            exact small_of (by omega)
          · rw [take_snoc hx, e1, e2]
            refine ⟨same_mut sm (s0.free nL), ?_, ?_⟩
            · rw [upd_ne ndL]
              exact ed
            · rw [upd_same, List.map_append]
              rfl
        · rw [if_neg hm] at hv
          cases hv
      · rw [dg_val kP_inj _ _ (firsts_nodup _)] at hn
        by_cases hm : x ∈ firsts (xs.take i)
        · rw [if_pos hm] at hn
          cases hn
        · obtain ⟨e1, e2⟩ := num_new hm
          rw [dg_len]
          refine ⟨_, by rw [upd_ne ndL.symm]; exact eL, ?_, ?_⟩
          · rw [List.length_map, num_len, List.length_take]
            exact small_of (by omega)
          · rw [take_snoc hx, e1, e2]
            refine ⟨same_mut (same_mut sm nd) (s0.free nL), ?_, ?_⟩
            · rw [upd_ne ndL, upd_same, dg_put kP_inj _ _ hm]
            · rw [upd_same, List.map_append]
              rfl
    · rintro H1 ⟨sm, ed, eL⟩
      refine ⟨L, _, rfl, .inl ⟨.inl (.inl eL), fun l hl => ?_⟩⟩
      refine q _ l (sm.trans (same_new hl)) ?_
      show upd H1 l _ l = _
      rw [upd_same, List.length_map, pl, List.take_length]
def spPof : Sp := fun vs H Q _ => ∃ a xs, vs = [.ref a] ∧ TI H a xs ∧ xs ≠ [] ∧ xs.length ≤ 60 ∧ ∀ H' p, Same H H' → TI H' p (num xs) → Q (.ref p) H'
/-- unlike doors below many -/
structure Drs (ds : List Int) (many : Int) : Prop where
  ne : ds ≠ []
  le : ds.length ≤ 60
  nd : ds.Nodup
  at_ : ∀ d ∈ ds, 0 ≤ d ∧ d < many
def spDrs : Sp := fun vs H Q _ => ∃ a ds many, vs = [.ref a, .int many] ∧ TI H a ds ∧ Drs ds many ∧ ∀ H', Same H H' → Q .non H'
end
end KQ
namespace KQ
open PySem PySem.Spec PyProof.Rows L2 KR KM StX
section
variable {P : Program} {w : World} {K : PySem.W.Frag} {mg : Str → Option Value} {base : Heap}
/-- a list of tuples of whole numbers; a tuple of such -/
def LT (H : Hp) (a : Addr) (xss : List (List Int)) : Prop := ∃ ts : List Addr, H a = some (.lst (ts.map V.ref)) ∧ ts.length = xss.length ∧ ∀ (i : Nat) (t : Addr), ts[i]? = some t → ∃ xs, xss[i]? = some xs ∧ TI H t xs
def TT (H : Hp) (a : Addr) (xss : List (List Int)) : Prop := ∃ ts : List Addr, H a = some (.tup (ts.map V.ref)) ∧ ts.length = xss.length ∧ ∀ (i : Nat) (t : Addr), ts[i]? = some t → ∃ xs, xss[i]? = some xs ∧ TI H t xs
theorem TT.mono {H H' : Hp} {a : Addr} {xss : List (List Int)} (h : TT H a xss) (e : Same H H') : TT H' a xss := by
  obtain ⟨ts, h1, h2, h3⟩ := h
  exact ⟨ts, e _ _ h1, h2, fun i t ht => let ⟨xs, q1, q2⟩ := h3 i t ht; ⟨xs, q1, q2.mono e⟩⟩
theorem LT.mono {H H' : Hp} {a : Addr} {xss : List (List Int)} (h : LT H a xss) (e : Same H H') : LT H' a xss := by
  obtain ⟨ts, h1, h2, h3⟩ := h
  exact ⟨ts, e _ _ h1, h2, fun i t ht => let ⟨xs, q1, q2⟩ := h3 i t ht; ⟨xs, q1, q2.mono e⟩⟩
def pick (p ds : List Int) : List Int := ds.map fun d => p.getD d.toNat 0
theorem get_of {p : List Int} {d : Int} (h0 : 0 ≤ d) (h1 : d < p.length) : p[d.toNat]? = some (p.getD d.toNat 0) := by
  have h : d.toNat < p.length := by omega
  rw [List.getElem?_eq_getElem h, List.getD_eq_getElem?_getD, List.getElem?_eq_getElem h]
  rfl
def spSome : Sp := fun vs H Q _ => ∃ a b p ds, vs = [.ref a, .ref b] ∧ TI H a p ∧ TI H b ds ∧ Par p ∧ Drs ds p.length ∧ ∀ H' r, Same H H' → TI H' r (num (pick p ds)) → Q (.ref r) H'
/-- the rows: a list of lists -/
def Rows (H : Hp) (a : Addr) (p : List Int) (many : Nat) : Prop := ∃ rs : List Addr, H a = some (.lst (rs.map V.ref)) ∧ rs.length = many ∧ rs.Nodup ∧ ∀ (b : Nat) (t : Addr), rs[b]? = some t → H t = some (.lst ((doorsOf p b).map V.int))
def spRows : Sp := fun vs H Q _ => ∃ a p, vs = [.ref a] ∧ TI H a p ∧ Par p ∧ ∀ H' l, Same H H' → Rows H' l p (bc 0 p).toNat → Q (.ref l) H'
end
end KQ
namespace KQ
open PySem PySem.Spec PyProof.Rows L2 KR KM StX
section
variable {P : Program} {w : World} {K : PySem.W.Frag} {mg : Str → Option Value} {base : Heap}
def blockList (p : List Int) : List (List Int) := (List.range (bc 0 p).toNat).map fun b => doorsOf p ((b : Nat) : Int)
theorem blockList_at {p : List Int} {b : Nat} (h : b < (bc 0 p).toNat) : (blockList p)[b]? = some (doorsOf p b) := by
  unfold blockList
  rw [List.getElem?_map, List.getElem?_range h]
  rfl
def spBlocks : Sp := fun vs H Q _ => ∃ a p, vs = [.ref a] ∧ TI H a p ∧ Par p ∧ ∀ H' r, Same H H' → TT H' r (blockList p) → Q (.ref r) H'
def besideP (p r : List Int) : List Int := p ++ r.map fun b => bc 0 p + b
def spBeside : Sp := fun vs H Q _ => ∃ a b p r, vs = [.ref a, .ref b] ∧ TI H a p ∧ TI H b r ∧ Par p ∧ Par r ∧ p.length + r.length ≤ 60 ∧ ∀ H' t, Same H H' → TI H' t (besideP p r) → Q (.ref t) H'
/-- two doors in one block of the one are in one block of the other -/
def Finer (p r : List Int) : Prop := ∀ (i j : Nat) (x y z : Int), p[i]? = some x → p[j]? = some x → r[i]? = some y → r[j]? = some z → y = z
def spLies : Sp := fun vs H Q _ => ∃ a b p r, vs = [.ref a, .ref b] ∧ TI H a p ∧ TI H b r ∧ p.length = r.length ∧ p.length ≤ 60 ∧ ∀ H' c, Same H H' → (c = true ↔ Finer p r) → Q (.bl c) H'
/-- what the dict knows: each block of the one so far with that of the other at its first door -/
def Known (p r : List Int) (i : Nat) (kvs : List (L2.Key × V)) : Prop := kvs.length ≤ i ∧ ∀ x : Int, (∀ v, valV kvs (kI x) = some v → ∃ (j : Nat) (y : Int), j < i ∧ p[j]? = some x ∧ r[j]? = some y ∧ v = .int y) ∧
  (valV kvs (kI x) = none → ∀ j, j < i → p[j]? ≠ some x)
theorem valV_put {κ : Type} [DecidableEq κ] (kvs : List (κ × V)) (k k' : κ) (v : V) (h : valV kvs k = none) : valV (putK kvs k v) k' = if k' = k then some v else valV kvs k' := by
  have hn : (kvs.any fun kv => decide (kv.1 = k)) = false := by
    unfold valV at h
    rw [Option.map_eq_none_iff, List.find?_eq_none] at h
    rw [List.any_eq_false]
    exact h
  unfold putK
  rw [if_neg (by rw [hn]; exact Bool.false_ne_true)]
  unfold valV
  rw [List.find?_append, Option.map_or]
  by_cases e : k' = k
  · subst e
    rw [if_pos rfl]
    unfold valV at h
    rw [h]
    simp
  · rw [if_neg e]
    have e2 : ¬ k = k' := fun q => e q.symm
    simp [e2]
theorem putK_len {κ : Type} [DecidableEq κ] (kvs : List (κ × V)) (k : κ) (v : V) : (putK kvs k v).length ≤ kvs.length + 1 := length_putK kvs k v
end
end KQ
namespace KQ
open PySem PySem.Spec PyProof.Rows L2 KR KM StX
section
variable {P : Program} {w : World} {K : PySem.W.Frag} {mg : Str → Option Value} {base : Heap}
def spFiner : Sp := fun vs H Q _ => ∃ a b p r, vs = [.ref a, .ref b] ∧ TI H a p ∧ TI H b r ∧ Par p ∧ Par r ∧ p.length = r.length ∧ ∀ H' c, Same H H' → (c = true ↔ Finer p r) → Q (.bl c) H'
def spBelow : Sp := fun vs H Q _ => ∃ a b p r, vs = [.ref a, .ref b] ∧ TI H a p ∧ TI H b r ∧ Par p ∧ Par r ∧ p.length = r.length ∧ ∀ H' t, Same H H' → TI H' t (num (p.zip r)) → Q (.ref t) H'
theorem zipped_pairs {p r : List Int} {H H' : Hp} {ts : List Addr} (hl : p.length = r.length) (tl : ts.length = (p.map V.int).length)
    (tt : ∀ (i : Nat) (t : Addr), ts[i]? = some t → H t = none ∧ ∃ x y, (p.map V.int)[i]? = some x ∧ (r.map V.int)[i]? = some y ∧ H' t = some (.tup [x, y])) : PairsAt H' ts (p.zip r) := by
  refine ⟨?_, fun i t ht => ?_⟩
  · rw [tl, List.length_map, List.length_zip]
    omega
  · obtain ⟨_, x, y, h1, h2, h3⟩ := tt i t ht
    obtain ⟨x', hx, rfl⟩ := map_at h1
    obtain ⟨y', hy, rfl⟩ := map_at h2
    refine ⟨(x', y'), ?_, h3⟩
    rw [List.getElem?_zip_eq_some]
    exact ⟨hx, hy⟩
def spPofD : Sp := fun vs H Q _ => ∃ n : Nat, vs = [.int ((n + 1 : Nat) : Int)] ∧ n < 8 ∧ ∀ H' t, Same H H' → TT H' t (allP n) → Q (.ref t) H'
end
end KQ
namespace KQ
open PySem PySem.Spec PyProof.Rows L2 KR KM StX
section
variable {P : Program} {w : World} {K : PySem.W.Frag} {mg : Str → Option Value} {base : Heap}
/-! ### clumps -/
def cf (l : Addr) (m : Int) : List (Str × V) := putF "many" (.int m) (putF "heads" (.ref l) [])
theorem hm_ne : ¬ (("heads" : Str) = "many") := by decide +kernel
theorem cf_heads (l : Addr) (m : Int) : (cf l m).lookup ("heads" : Str) = some (.ref l) := by
  unfold cf
  rw [lookup_putF, if_neg hm_ne, lookup_putF, if_pos rfl]
theorem cf_many (l : Addr) (m : Int) : (cf l m).lookup ("many" : Str) = some (.int m) := by
  unfold cf
  rw [lookup_putF, if_pos rfl]
theorem cf_no (l : Addr) (m : Int) {x : Str} (h1 : ¬ x = "many") (h2 : ¬ x = "heads") : (cf l m).lookup x = none := by
  unfold cf
  rw [lookup_putF, if_neg h1, lookup_putF, if_neg h2]
  rfl
theorem cf_eq (l : Addr) (m : Int) : cf l m = ([("heads", V.ref l), ("many", V.int m)] : List (Str × V)) := by
  show (if ("heads" : Str) = "many" then [(("heads" : Str), V.int m)] else (("heads" : Str), V.ref l) :: putF "many" (V.int m) []) = _
  rw [if_neg hm_ne]
  rfl
theorem cf_put (l : Addr) (m m' : Int) : putF "many" (.int m') (cf l m) = cf l m' := by
  rw [cf_eq, cf_eq]
  show (if ("heads" : Str) = "many" then _ else (("heads" : Str), V.ref l) :: (if ("many" : Str) = "many" then [(("many" : Str), V.int m')] else _)) = _
  rw [if_neg hm_ne, if_pos rfl]
def hv (hs : List Nat) : List V := hs.map fun n => V.int ((n : Nat) : Int)
/-- clumps stand at o, their heads in the list at l -/
def CAt (C : Addr) (H : Hp) (o l : Addr) (hs : List Nat) (m : Int) : Prop := (∃ dx, H o = some (.ins C dx (cf l m))) ∧ H l = some (.lst (hv hs))
def But (l : Addr) (H H' : Hp) : Prop := ∀ b u, H b = some u → b ≠ l → H' b = some u
theorem hv_at {hs : List Nat} {x : Nat} (h : x < hs.length) : (hv hs)[x]? = some (.int ((up hs x : Nat) : Int)) := by
  unfold hv up
  rw [List.getElem?_map, List.getElem?_eq_getElem h, List.getD_eq_getElem?_getD, List.getElem?_eq_getElem h]
  rfl
theorem hv_set (hs : List Nat) (x v : Nat) : (hv hs).set x (.int ((v : Nat) : Int)) = hv (hs.set x v) := by
  unfold hv
  rw [List.map_set]
theorem hv_len (hs : List Nat) : (hv hs).length = hs.length := List.length_map ..
theorem rgV_hv (n : Nat) : rgV 0 ((n : Nat) : Int) = hv (List.range n) := by
  unfold rgV hv
  rw [show (((n : Nat) : Int) - 0).toNat = n by omega]
  refine List.map_congr_left fun x _ => ?_
  show V.int (0 + _) = _
  rw [Int.zero_add]
def spInit (C : Addr) : Sp := fun vs H Q _ => ∃ (o dx : Addr) (n : Nat), vs = [.ref o, .int ((n : Nat) : Int)] ∧ H o = some (.ins C dx []) ∧ n ≤ 1000 ∧
  ∀ H' l, CAt C H' o l (List.range n) n → H l = none → But o H H' → Q .non H'
def spHead (C : Addr) : Sp := fun vs H Q _ => ∃ (o l : Addr) (hs : List Nat) (m : Int) (x : Nat), vs = [.ref o, .int ((x : Nat) : Int)] ∧ CAt C H o l hs m ∧ Dn hs ∧ x < hs.length ∧
  ∀ H' hs', CAt C H' o l hs' m → Dn hs' → hs'.length = hs.length → (∀ y, root hs' y = root hs y) → But l H H' → Q (.int ((root hs x : Nat) : Int)) H'
def spUnite (C : Addr) : Sp := fun vs H Q _ => ∃ (o l : Addr) (hs : List Nat) (m : Int) (a b : Nat), vs = [.ref o, .int ((a : Nat) : Int), .int ((b : Nat) : Int)] ∧ CAt C H o l hs m ∧ Dn hs ∧ a < hs.length ∧ b < hs.length ∧
  ∀ H' hs', CAt C H' o l hs' (if root hs a = root hs b then m else m - 1) → Dn hs' → hs'.length = hs.length →
    (∀ y, root hs' y = if root hs y = max (root hs a) (root hs b) then min (root hs a) (root hs b) else root hs y) → (∀ c u, H c = some u → c ≠ l → c ≠ o → H' c = some u) → Q (.bl (!decide (root hs a = root hs b))) H'
end
end KQ
namespace KQ
open PySem PySem.Spec PyProof.Rows L2 KR KM StX
section
variable {P : Program} {w : World} {K : PySem.W.Frag} {mg : Str → Option Value} {base : Heap}
def tiesOf (p r : List Int) : List (Nat × Nat) := (p.zip r).map fun q => (q.1.toNat, (bc 0 p + q.2).toNat)
theorem ties_at {p r : List Int} {i : Nat} {x y : Int} (hx : p[i]? = some x) (hy : r[i]? = some y) : (tiesOf p r)[i]? = some (x.toNat, (bc 0 p + y).toNat) := by
  unfold tiesOf
  refine at_map (x := (x, y)) ?_
  rw [List.getElem?_zip_eq_some]
  exact ⟨hx, hy⟩
theorem ties_len {p r : List Int} (h : p.length = r.length) : (tiesOf p r).length = p.length := by
  unfold tiesOf
  rw [List.length_map, List.length_zip]
  omega
def spAbove : Sp := fun vs H Q _ => ∃ a b p r, vs = [.ref a, .ref b] ∧ TI H a p ∧ TI H b r ∧ Par p ∧ Par r ∧ p.length = r.length ∧
  ∀ H' t (L : Nat → Int), Same H H' → (∀ x y, L x = L y ↔ glue (tiesOf p r) x y) → TI H' t (num (p.map fun b => L b.toNat)) → Q (.ref t) H'
end
end KQ
namespace KQ
open PySem PySem.Spec PyProof.Rows L2 KR KM StX
section
variable {P : Program} {w : World} {K : PySem.W.Frag} {mg : Str → Option Value} {base : Heap}
theorem nb {i : Int} {b : Nat} (h0 : 0 ≤ i) (h : i < 2 ^ b) : i.natAbs < 2 ^ b := by
  have : ((i.natAbs : Nat) : Int) < ((2 ^ b : Nat) : Int) := by
    rw [Int.natAbs_of_nonneg h0]
    push_cast
    exact h
  omega
theorem fm {i j : Int} (h : 0 < j) : 0 ≤ i.fmod j ∧ i.fmod j < j := ⟨Int.fmod_nonneg_of_pos _ h, Int.fmod_lt_of_pos _ h⟩
abbrev s__law_mixed : Stmt := topS 30
theorem sc__law_mixed : FnScope ["cell", "n", "blend"] ["cell", "n"] (defScope s__law_mixed) := ⟨rfl, rfl, rfl, by decide +kernel, rfl, by decide +kernel, by decide +kernel⟩
def spMixed : Sp := fun vs H Q _ => ∃ c n, vs = [.int c, .int n] ∧ 0 ≤ c ∧ c < 2 ^ 40 ∧ 0 ≤ n ∧ n < 2 ^ 24 ∧ ∀ r, 0 ≤ r → r < 2 ^ 31 → Q (.int r) H
theorem ok_mixed (D : DefAt K mg "_law_mixed" s__law_mixed) (T : Bt mg) : Use P w K mg base "_law_mixed" 1 ["cell", "n"] spMixed := by
  refine use_of D (fun f fd F => F.ok sc__law_mixed (fun vs H Q E h => ?_) (fun cdv A outer s H vs Q E hr h => ?_)) (fun _ _ _ _ _ _ us hl => match us, hl with | [_, _], _ => rfl)
  · obtain ⟨c, n, rfl, _⟩ := h
    rfl
  · obtain ⟨c, n, rfl, c0, c1, n0, n1, q⟩ := h
    refine ⟨_, (pss_cons (ps_set (i := 2) sc__law_mixed.nd rfl (Or.inl rfl) (pe_op op_add (pe_op op_add (pe_op op_modN (pe_callTy call_int1 (by rfl) T.int (by decide +kernel) (pa_cons (pe_op op_mulW (pe_op op_mulW (pv 0) (pe_op op_add pe_int (pe_op op_mulW pe_int (pv 1)))) pe_int) pa_nil)) pe_int) (pe_op op_mulW (pe_op op_mulW pe_int (pv 1)) (pv 1))) (pe_op op_mulW pe_int (pv 1))))
      (pss_one (ps_ret (pe_op op_fdivW (pe_op op_modN (pe_callTy call_int1 (by rfl) T.int (by decide +kernel) (pa_cons (pe_op op_mulW (pv 2) pe_int) pa_nil)) pe_int) pe_int)))), ?_⟩
    have e2 : (2 : Int) ^ 24 = 16777216 := by decide
    have hn : n.natAbs < 2 ^ 24 := nb n0 n1
    have hc : c.natAbs < 2 ^ 40 := nb c0 c1
    have h1 : (2 * n).natAbs < 2 ^ (2 + 24) := wide_lt (by decide) hn
    have h2 : (1 + 2 * n).natAbs < 2 ^ 27 := nb (by omega) (by omega)
    have h3 : (c * (1 + 2 * n)).natAbs < 2 ^ (40 + 27) := wide_lt hc h2
    have h4 : (7919 * n).natAbs < 2 ^ (13 + 24) := wide_lt (by decide) hn
    have h5 : (7919 * n * n).natAbs < 2 ^ (37 + 24) := wide_lt h4 hn
    have h6 : (104729 * n).natAbs < 2 ^ (17 + 24) := wide_lt (by decide) hn
    have f1 := fm (i := c * (1 + 2 * n) * 48271) (j := 2147483647) (by decide)
    generalize hX : (c * (1 + 2 * n) * 48271).fmod 2147483647 = X at f1
    have e3 : (2 : Nat) ^ (37 + 24) = 2305843009213693952 := by decide
    have e4 : (2 : Nat) ^ (17 + 24) = 2199023255552 := by decide
    have e5 : (2 : Nat) ^ 70 = 1180591620717411303424 := by decide
    have h7 : (X + 7919 * n * n + 104729 * n).natAbs < 2 ^ 70 := by
      generalize 7919 * n * n = u at *
      generalize 104729 * n = v at *
      omega
    generalize hY : X + 7919 * n * n + 104729 * n = Y at h7
    have f2 := fm (i := Y * 69621) (j := 2147483629) (by decide)
    generalize hZ : (Y * 69621).fmod 2147483629 = Z at f2
    subst hZ hY hX
    refine ⟨_, rfl, _, rfl, 2, n, rfl, rfl, wide_mul (by decide : (2 : Int).natAbs < 2 ^ 2) hn (by decide) (by decide) (by decide), 1, 2 * n, rfl, rfl, c, 1 + 2 * n, rfl, rfl, wide_mul hc h2 (by decide) (by decide) (by decide), ?_⟩
    refine ⟨c * (1 + 2 * n), 48271, rfl, rfl, wide_mul h3 (by decide : (48271 : Int).natAbs < 2 ^ 16) (by decide) (by decide) (by decide), .inl ⟨_, rfl, ?_⟩⟩
    refine ⟨_, 2147483647, rfl, rfl, (show (2147483647 : Int) ≠ 0 by decide), ?_⟩
    refine ⟨_, rfl, 7919, n, rfl, rfl, wide_mul (by decide : (7919 : Int).natAbs < 2 ^ 13) hn (by decide) (by decide) (by decide), _, rfl, 7919 * n, n, rfl, rfl, wide_mul h4 hn (by decide) (by decide) (by decide), ?_⟩
    refine ⟨_, _, rfl, rfl, _, rfl, 104729, n, rfl, rfl, wide_mul (by decide : (104729 : Int).natAbs < 2 ^ 17) hn (by decide) (by decide) (by decide), _, _, rfl, rfl, ?_⟩
    refine ⟨_, rfl, _, 69621, rfl, rfl, wide_mul h7 (by decide : (69621 : Int).natAbs < 2 ^ 17) (by decide) (by decide) (by decide), .inl ⟨_, rfl, ?_⟩⟩
    refine ⟨_, 2147483629, rfl, rfl, (show (2147483629 : Int) ≠ 0 by decide), _, 7, rfl, rfl, wide_div (by decide) (by decide : (7 : Int).natAbs < 2 ^ 3) (by decide) (by decide), ?_⟩
    exact q _ (by omega) (by omega)
theorem depth0 : ∀ (ns : List Int), PyData.depthAll (ns.map .int) = 0
  | [] => rfl
  | n :: r => by simp only [List.map, PyData.depthAll, PyData.depth, depth0 r]; rfl
theorem lay0 : ∀ (ns : List Int), PyData.canLayAll0 (ns.map .int) = true
  | [] => rfl
  | n :: r => by simp only [List.map, PyData.canLayAll0, PyData.canLay0, lay0 r, Bool.and_self]
theorem shaped_ints (ns : List Int) : SeqAt.shaped (.list (ns.map .int)) = true := by
  unfold SeqAt.shaped
  simp only [PyData.canLay0, lay0, PyData.depth, depth0]
  rfl
theorem eqv_nil (ns : List Int) : (!PyData.eqv (.list (ns.map .int)) (.list [])) = !ns.isEmpty := by
  cases ns <;> rfl
abbrev s__law_draw : Stmt := topS 32
theorem sc__law_draw : FnScope ["m", "limit", "n", "lot", "here", "cell"] ["m", "limit"] (defScope s__law_draw) := ⟨rfl, rfl, rfl, by decide +kernel, rfl, by decide +kernel, by decide +kernel⟩
/-- the state of the draws: the dict, its lists, at most b draws so far -/
structure MS (H : Hp) (m c g : Addr) (b : Int) : Prop where
  ex : ∃ (cs gs : List Int) (n : Int), H m = some (.dK [(.inr "cells", .ref c), (.inr "great", .ref g), (.inr "spot", .int n)]) ∧ H c = some (.lst (cs.map V.int)) ∧ H g = some (.lst (gs.map V.int)) ∧
    cs.length = 64 ∧ (∀ x ∈ cs, 0 ≤ x ∧ x < 2147483647) ∧ c ≠ g ∧ gs.length ≤ 63 ∧ 0 ≤ n ∧ n ≤ b
/-- all but m and g stays -/
def Kept (H H' : Hp) (m g : Addr) : Prop := ∀ a u, H a = some u → a ≠ m → a ≠ g → H' a = some u
def spDraw : Sp := fun vs H Q _ => ∃ m c g b limit, vs = [.ref m, .int limit] ∧ MS H m c g b ∧ b ≤ 1000000 ∧ 1 ≤ limit ∧ limit ≤ 2 ^ 30 ∧ ∀ H' d, Kept H H' m g → MS H' m c g (b + 1) → 0 ≤ d → d < limit → Q (.int d) H'
theorem ok_draw (D : DefAt K mg "_law_draw" s__law_draw) (T : Bt mg) (u__law_mixed : Use P w K mg base "_law_mixed" 1 ["cell", "n"] spMixed) : Use P w K mg base "_law_draw" 2 ["m", "limit"] spDraw := by
  refine use_of D (fun f fd F => F.ok sc__law_draw (fun vs H Q E h => ?_) (fun cdv A outer s H vs Q E hr h => ?_)) (fun _ _ _ _ _ _ us hl => match us, hl with | [_, _], _ => rfl)
  · obtain ⟨m, c, g, b, limit, rfl, _⟩ := h
    rfl
  · obtain ⟨m, c, g, b, limit, rfl, ⟨cs, gs, n, hm, hc, hg, lc, rc, cg, lg, n0, n1⟩, b1, l1, l2, q⟩ := h
    refine ⟨_, (pss_cons (ps_set (i := 2) sc__law_draw.nd rfl (Or.inl rfl) (pe_dget (hu_of hr) (pv 0) pe_str (fun _ _ => rfl)))
      (pss_cons (ps_dput (hu_of hr) (pv 0) pe_str (pe_op op_add (pv 2) pe_int) rfl)
      (pss_cons (ps_if (pt_cmpR (k_neD (K := K) rfl hr.units) (pe_dget (hu_of hr) (pv 0) pe_str (fun _ _ => rfl)) (pe_lst pa_nil) (nomark _)) (pss_cons (ps_set (i := 3) sc__law_draw.nd rfl (Or.inl rfl) (pe_dget (hu_of hr) (pv 0) pe_str (fun _ _ => rfl)))
      (pss_cons (ps_set (i := 4) sc__law_draw.nd rfl (Or.inl rfl) (pe_op op_modN (pe_callTy call_int1 (by rfl) T.int (by decide +kernel) (pa_cons (pv 2) pa_nil)) (pe_callB (k_len (K := K) rfl) (by rfl) T.len PySem.boot_len (pa_cons (pv 3) pa_nil))))
      (pss_cons (ps_set (i := 5) sc__law_draw.nd rfl (Or.inl rfl) (pe_ix (k_ixl (K := K) rfl) (pv 3) (pv 4) (fun _ _ => rfl)))
      (pss_one (ps_if (pt_cmpR op_gt (pv 5) pe_int (nomark _)) (pss_cons (ps_asg (pe_op op_fdivW (pv 5) (pv 1)) (pg_sub (pv 3) (pv 4) set_list))
      (pss_one (ps_ret (pe_op op_modN (pe_callTy call_int1 (by rfl) T.int (by decide +kernel) (pa_cons (pv 5) pa_nil)) (pv 1))))) pss_nil))))) pss_nil)
      (pss_cons (ps_set (i := 3) sc__law_draw.nd rfl (Or.inl rfl) (pe_dget (hu_of hr) (pv 0) pe_str (fun _ _ => rfl)))
      (pss_one (ps_ret (pe_op op_modN (pe_callTy call_int1 (by rfl) T.int (by decide +kernel) (pa_cons (pe_use u__law_mixed (by decide) hr (by rfl) (pa_cons (pe_use u__law_mixed (by decide) hr (by rfl) (pa_cons (pe_op op_add (pe_ix (k_ixl (K := K) rfl) (pv 3) (pe_op op_modN (pe_callTy call_int1 (by rfl) T.int (by decide +kernel) (pa_cons (pv 2) pa_nil)) pe_int) (fun _ _ => rfl)) (pe_op op_mulW pe_int (pe_op op_fdivW (pv 2) pe_int))) (pa_cons (pv 2) pa_nil))) (pa_cons (pe_op op_add (pv 2) pe_int) pa_nil))) pa_nil)) (pv 1)))))))), ?_⟩
    have mc : m ≠ c := fun e => by rw [e, hc] at hm; cases hm
    have mg' : m ≠ g := fun e => by rw [e, hg] at hm; cases hm
    have e2 : (2 : Int) ^ 30 = 1073741824 := by decide
    refine ⟨_, rfl, m, _, rfl, .k (k := .inr "spot") hm, ?_⟩
    refine ⟨_, rfl, _, _, rfl, rfl, _, rfl, m, _, rfl, .k (k := .inr "spot") hm (small_of (Nat.le_of_ble_eq_true rfl)), ?_⟩
    rw [show putK [((.inr "cells" : L2.Key), V.ref c), (.inr "great", .ref g), (.inr "spot", .int n)] (.inr "spot") (V.int (n + 1)) = [(.inr "cells", .ref c), (.inr "great", .ref g), (.inr "spot", .int (n + 1))] from rfl]
    generalize hH1 : upd H m (.dK [((.inr "cells" : L2.Key), V.ref c), (.inr "great", .ref g), (.inr "spot", .int (n + 1))]) = H1
    have hm1 : H1 m = some (.dK [((.inr "cells" : L2.Key), V.ref c), (.inr "great", .ref g), (.inr "spot", .int (n + 1))]) := by rw [← hH1, upd_same]
    have hc1 : H1 c = some (.lst (cs.map V.int)) := by rw [← hH1, upd_ne mc.symm]; exact hc
    have hg1 : H1 g = some (.lst (gs.map V.int)) := by rw [← hH1, upd_ne mg'.symm]; exact hg
    have k1 : Kept H H1 m g := fun a u ha na _ => by rw [← hH1, upd_ne na]; exact ha
    refine ⟨_, rfl, m, _, rfl, .k (k := .inr "great") hm1, Nat.zero_le _, fun p np => ?_⟩
    have npg : p ≠ g := fun e => by rw [e, hg1] at np; cases np
    have npm : p ≠ m := fun e => by rw [e, hm1] at np; cases np
    have npc : p ≠ c := fun e => by rw [e, hc1] at np; cases np
    have hm2 : (upd H1 p (.lst [])) m = some (.dK [((.inr "cells" : L2.Key), V.ref c), (.inr "great", .ref g), (.inr "spot", .int (n + 1))]) := by rw [upd_ne npm.symm]; exact hm1
    have hc2 : (upd H1 p (.lst [])) c = some (.lst (cs.map V.int)) := by rw [upd_ne npc.symm]; exact hc1
    have hg2 : (upd H1 p (.lst [])) g = some (.lst (gs.map V.int)) := by rw [upd_ne npg.symm]; exact hg1
    have k2 : Kept H (upd H1 p (.lst [])) m g := fun a u ha na nb => by rw [upd_ne (ne_of_none (k1 a u ha na nb) np)]; exact k1 a u ha na nb
    refine ⟨.list (gs.map PyData.int), .list [], .lst (sqL hg2) (dpAll_ints gs), .lst (sqL (xs := []) upd_same) .nil, shaped_ints gs, rfl, _, rfl, ?_⟩
    rw [eqv_nil]
    generalize hH2 : upd H1 p (.lst []) = H2 at *
    have fin : ∀ H3, (∀ a u, H2 a = some u → a ≠ g → H3 a = some u) → (∃ gs' : List Int, H3 g = some (.lst (gs'.map V.int)) ∧ gs'.length = gs.length) → Kept H H3 m g ∧ MS H3 m c g (b + 1) := by
      intro H3 h3 ⟨gs', hg3, lg3⟩
      exact ⟨fun a u ha na nb => h3 a u (k2 a u ha na nb) nb, ⟨cs, gs', n + 1, h3 _ _ hm2 mg', h3 _ _ hc2 cg, hg3, lc, rc, cg, by omega, by omega, by omega⟩⟩
    have fin2 := fin H2 (fun a u ha _ => ha) ⟨gs, hg2, rfl⟩
    have f64 := fm (i := n) (j := 64) (by decide)
    have hat : ∃ x, cs[(n.fmod 64).toNat]? = some x ∧ 0 ≤ x ∧ x < 2147483647 := by
      have hl : (n.fmod 64).toNat < cs.length := by omega
      exact ⟨_, List.getElem?_eq_getElem hl, rc _ (List.getElem_mem hl)⟩
    obtain ⟨x, hx, x0, x1⟩ := hat
    have hd : 0 ≤ n / 64 ∧ n / 64 ≤ n := ⟨by omega, by omega⟩
    have e24 : (2 : Int) ^ 24 = 16777216 := by decide
    have e40 : (2 : Int) ^ 40 = 1099511627776 := by decide
    have e31 : (2 : Int) ^ 31 = 2147483648 := by decide
    cases gs with
    | nil =>
      refine ⟨_, rfl, m, _, rfl, .k (k := .inr "cells") hm2, ?_⟩
      refine ⟨_, rfl, _, rfl, .inl ⟨n, rfl, n, 64, rfl, rfl, (show (64 : Int) ≠ 0 by decide), c, _, n.fmod 64, V.int x, rfl, rfl, sqL hc2, atI_of (j := (n.fmod 64).toNat) (by omega) (at_map hx), ?_⟩⟩
      refine ⟨_, rfl, n, 64, rfl, rfl, wide_div (by decide) (by decide : (64 : Int).natAbs < 2 ^ 7) (by decide) (by decide), 31, n / 64, rfl, rfl, wide_mul (by decide : (31 : Int).natAbs < 2 ^ 5) (nb (b := 24) (by omega) (by omega)) (by decide) (by decide) (by decide), x, 31 * (n / 64), rfl, rfl, _, rfl, ?_⟩
      refine ⟨x + 31 * (n / 64), n, rfl, by omega, by omega, by omega, by omega, fun r r0 r1 => ⟨_, rfl, n, 7, rfl, rfl, r, n + 7, rfl, r0, by omega, by omega, by omega, fun r2 r3 r4 => .inl ⟨r2, rfl, _, rfl, r2, limit, rfl, rfl, (show limit ≠ 0 by omega), ?_⟩⟩⟩
      exact q _ _ fin2.1 fin2.2 (fm (by omega)).1 (fm (by omega)).2
    | cons g0 gr =>
      have fG := fm (i := n) (j := (((g0 :: gr).length : Nat) : Int)) (by rw [List.length_cons]; omega)
      have hat2 : ∃ y, (g0 :: gr)[(n.fmod ((g0 :: gr).length : Nat)).toNat]? = some y := ⟨_, List.getElem?_eq_getElem (by omega)⟩
      obtain ⟨y, hy⟩ := hat2
      refine ⟨_, rfl, m, _, rfl, .k (k := .inr "great") hm2, ?_⟩
      refine ⟨_, rfl, .inl ⟨n, rfl, _, rfl, g, _, rfl, .inl (sqL hg2), n, _, rfl, rfl, ?_, ?_⟩⟩
      · rw [List.length_map, List.length_cons]
        omega
      rw [List.length_map]
      refine ⟨_, rfl, _, rfl, g, _, _, V.int y, rfl, rfl, sqL hg2, atI_of (j := (n.fmod ((g0 :: gr).length : Nat)).toNat) (by omega) (at_map hy), ?_⟩
      refine ⟨_, rfl, y, 0, rfl, rfl, _, rfl, ?_⟩
      by_cases hpos : 0 < y
      · rw [decide_eq_true hpos]
        refine ⟨_, rfl, _, rfl, y, limit, rfl, rfl, wide_div (by omega) (nb (b := 31) (by omega) (by omega)) (by decide) (by decide), _, rfl, _, rfl, g, _, _, (n.fmod ((g0 :: gr).length : Nat)).toNat, rfl, rfl, hg2, ?_, ?_⟩
        · unfold ixN
          rw [List.length_map, if_pos fG.1, if_pos fG.2]
        refine ⟨_, rfl, .inl ⟨y, rfl, _, rfl, y, limit, rfl, rfl, (show limit ≠ 0 by omega), ?_⟩⟩
        have fin3 := fin (upd H2 g (.lst (((g0 :: gr).map V.int).set (n.fmod ((g0 :: gr).length : Nat)).toNat (V.int (y / limit))))) (fun a u ha na => by rw [upd_ne na]; exact ha)
          ⟨(g0 :: gr).set (n.fmod ((g0 :: gr).length : Nat)).toNat (y / limit), by rw [upd_same, List.map_set], by rw [List.length_set]⟩
        exact q _ _ fin3.1 fin3.2 (fm (by omega)).1 (fm (by omega)).2
      · rw [decide_eq_false hpos]
        refine ⟨_, rfl, m, _, rfl, .k (k := .inr "cells") hm2, ?_⟩
        refine ⟨_, rfl, _, rfl, .inl ⟨n, rfl, n, 64, rfl, rfl, (show (64 : Int) ≠ 0 by decide), c, _, n.fmod 64, V.int x, rfl, rfl, sqL hc2, atI_of (j := (n.fmod 64).toNat) (by omega) (at_map hx), ?_⟩⟩
        refine ⟨_, rfl, n, 64, rfl, rfl, wide_div (by decide) (by decide : (64 : Int).natAbs < 2 ^ 7) (by decide) (by decide), 31, n / 64, rfl, rfl, wide_mul (by decide : (31 : Int).natAbs < 2 ^ 5) (nb (b := 24) (by omega) (by omega)) (by decide) (by decide) (by decide), x, 31 * (n / 64), rfl, rfl, _, rfl, ?_⟩
        refine ⟨x + 31 * (n / 64), n, rfl, by omega, by omega, by omega, by omega, fun r r0 r1 => ⟨_, rfl, n, 7, rfl, rfl, r, n + 7, rfl, r0, by omega, by omega, by omega, fun r2 r3 r4 => .inl ⟨r2, rfl, _, rfl, r2, limit, rfl, rfl, (show limit ≠ 0 by omega), ?_⟩⟩⟩
        exact q _ _ fin2.1 fin2.2 (fm (by omega)).1 (fm (by omega)).2
end
end KQ
namespace KQ
open PySem PySem.Spec PyProof.Rows L2 KR KM StX
section
variable {P : Program} {w : World} {K : PySem.W.Frag} {mg : Str → Option Value} {base : Heap}
theorem sameSL {K : PySem.W.Frag} {H H' : Hp} {a : Addr} {xs : List V} (e : Same H H') (h : SqL K H a xs) : SqL K H' a xs := by
  rcases h with (h | ⟨o, h⟩) | h
  · exact .inl (.inl (e _ _ h))
  · exact .inl (.inr ⟨o, e _ _ h⟩)
  · exact .inr h
def Cells (cs : List Int) : Prop := cs.length = 64 ∧ ∀ x ∈ cs, 0 ≤ x ∧ x < 2147483647
theorem Cells.set {cs : List Int} (h : Cells cs) (j : Nat) {v : Int} (h0 : 0 ≤ v) (h1 : v < 2147483647) : Cells (cs.set j v) := by
  refine ⟨by rw [List.length_set]; exact h.1, fun x hx => ?_⟩
  rcases List.mem_or_eq_of_mem_set hx with hx | rfl
  · exact h.2 x hx
  · exact ⟨h0, h1⟩
theorem Cells.at_ {cs : List Int} (h : Cells cs) {j : Nat} (hj : j < 64) : ∃ x, cs[j]? = some x ∧ 0 ≤ x ∧ x < 2147483647 :=
  ⟨_, List.getElem?_eq_getElem (by rw [h.1]; exact hj), h.2 _ (List.getElem_mem _)⟩
theorem ixN_of {n : Nat} {i : Int} (h0 : 0 ≤ i) (h1 : i < (n : Int)) : ixN n i = some i.toNat := by
  unfold ixN
  rw [if_pos h0, if_pos h1]
abbrev s__law_folded : Stmt := topS 31
theorem sc__law_folded : FnScope ["script", "found", "n", "cell"] ["script"] (defScope s__law_folded) := ⟨rfl, rfl, rfl, by decide +kernel, rfl, by decide +kernel, by decide +kernel⟩
def spFolded (K : PySem.W.Frag) : Sp := fun vs H Q _ => ∃ (a : Addr) (ns : List Int), vs = [.ref a] ∧ SqL K H a (ns.map V.int) ∧ ns.length ≤ 63 ∧
  ∀ H' l cs, Same H H' → H l = none → H' l = some (.lst (List.map V.int cs)) → Cells cs → Q (.ref l) H'
theorem ok_folded (D : DefAt K mg "_law_folded" s__law_folded) (T : Bt mg) : Use P w K mg base "_law_folded" 1 ["script"] (spFolded K) := by
  refine use_of D (fun f fd F => F.ok sc__law_folded (fun vs H Q E h => ?_) (fun cdv A outer s H vs Q E hr h => ?_)) (fun _ _ _ _ _ _ us hl => match us, hl with | [_], _ => rfl)
  · obtain ⟨a, ns, rfl, _⟩ := h
    rfl
  · obtain ⟨a, ns, rfl, hs, hl, q⟩ := h
    refine ⟨_, (pss_cons (ps_setLc (i := 1) (own := [("n", 2)]) rfl sc__law_folded.nd rfl rfl (sw_true rfl rfl rfl (by decide +kernel)) (pi_range1 (by rfl) T.range (pa_cons pe_int pa_nil)) (blkOk_by (N := ["script", "found", "n", "cell"]) (sc := defScope s__law_folded) (by decide +kernel)) (fun _ _ _ _ _ => (pg_name (i := 2) sc__law_folded.nd rfl (Or.inl rfl))) (fun _ _ _ _ _ => pts_nil) (fun _ _ _ _ _ => (pe_op op_add pe_int (pv 2))))
      (pss_cons (ps_for PassesOwn.never rfl (k_enum (K := K) rfl (by rfl) T.enumerate (pa_cons (pv 0) pa_nil)) (pg_tup rfl (pgs_cons (pg_name (i := 2) sc__law_folded.nd rfl (Or.inl rfl)) (pgs_cons (pg_name (i := 3) sc__law_folded.nd rfl (Or.inl rfl)) pgs_nil)))
      (pss_one (ps_asg (pe_op op_modN (pe_callTy call_int1 (by rfl) T.int (by decide +kernel) (pa_cons (pe_op op_add (pe_op op_mulW (pe_ix (k_ixl (K := K) rfl) (pv 1) (pe_op op_modN (pe_callTy call_int1 (by rfl) T.int (by decide +kernel) (pa_cons (pv 2) pa_nil)) pe_int) (fun _ _ => rfl)) pe_int) (pv 3)) pa_nil)) pe_int) (pg_sub (pv 1) (pe_op op_modN (pe_callTy call_int1 (by rfl) T.int (by decide +kernel) (pa_cons (pv 2) pa_nil)) pe_int) set_list))))
      (pss_cons (ps_for PassesOwn.never rfl (pi_range2 (by rfl) T.range (pa_cons pe_int (pa_cons pe_int pa_nil))) (pg_name (i := 2) sc__law_folded.nd rfl (Or.inl rfl))
      (pss_one (ps_asg (pe_op op_modN (pe_callTy call_int1 (by rfl) T.int (by decide +kernel) (pa_cons (pe_op op_add (pe_ix (k_ixl (K := K) rfl) (pv 1) (pv 2) (fun _ _ => rfl)) (pe_op op_mulW (pe_ix (k_ixl (K := K) rfl) (pv 1) (pe_op op_sub (pv 2) pe_int) (fun _ _ => rfl)) pe_int)) pa_nil)) pe_int) (pg_sub (pv 1) (pv 2) set_list))))
      (pss_one (ps_ret (pv 1)))))), ?_⟩
    refine ⟨_, rfl, by decide, by decide, fun L nL => ?_⟩
    refine lc_range (fun i H1 => Same H H1 ∧ H1 L = some (.lst (((List.range i).map fun k => (17 + (k : Nat) : Int)).map V.int))) ⟨same_new nL, upd_same⟩ ?_ ?_
    · rintro i H1 hi ⟨sm, eL⟩
      refine ⟨rfl, _, rfl, _, _, rfl, rfl, _, eL, ?_, same_mut sm nL, ?_⟩
      · rw [List.length_map, List.length_map, List.length_range]
        exact small_of (by omega)
      · rw [upd_same, List.range_succ, List.map_append, List.map_append, Int.zero_add]
        rfl
    · rintro H1 ⟨sm, eL⟩
      refine ⟨_, rfl, a, _, rfl, sameSL sm hs, for_enumL (K := K) (a := a) (xs := ns.map V.int)
        (fun i σ H2 => ∃ y2 y3, σ = [some (.ref a), some (.ref L), y2, y3] ∧ Same H H2 ∧ ∃ cs, H2 L = some (.lst (List.map V.int cs)) ∧ Cells cs)
        ⟨none, none, rfl, sm, _, eL, ?_⟩ (fun i σ H2 ⟨_, _, _, sm, _⟩ => sameSL sm hs) ?_ ?_⟩
      · refine ⟨by rw [List.length_map, List.length_range]; rfl, fun x hx => ?_⟩
        obtain ⟨k, hk, rfl⟩ := List.mem_map.mp hx
        have := List.mem_range.mp hk
        have e : ((64 : Int)).toNat = 64 := rfl
        omega
      · rintro i v T1 σ H2 hi ⟨y2, y3, rfl, sm, cs, eL, ok⟩ hT
        obtain ⟨x, hx, rfl⟩ := map_at hi
        have nTL : T1 ≠ L := fun e => by rw [e, eL] at hT; cases hT
        have eL2 : (upd H2 T1 (.tup [.int (i : Nat), .int x])) L = some (.lst (cs.map V.int)) := by rw [upd_ne nTL.symm]; exact eL
        have f64 := fm (i := ((i : Nat) : Int)) (j := 64) (by decide)
        obtain ⟨y, hy, y0, y1⟩ := ok.at_ (j := (((i : Nat) : Int).fmod 64).toNat) (by omega)
        refine ⟨T1, _, rfl, .inl (.inl upd_same), rfl, _, _, rfl, _, [], rfl, rfl, ?_⟩
        refine ⟨_, rfl, _, rfl, .inl ⟨_, rfl, _, 64, rfl, rfl, (show (64 : Int) ≠ 0 by decide), L, _, _, V.int y, rfl, rfl, sqL eL2, atI_of (j := (((i : Nat) : Int).fmod 64).toNat) (by omega) (at_map hy), ?_⟩⟩
        refine ⟨y, 48271, rfl, rfl, wide_mul (nb (b := 31) y0 (by omega)) (by decide : (48271 : Int).natAbs < 2 ^ 16) (by decide) (by decide) (by decide), _, rfl, y * 48271, x, rfl, rfl, .inl ⟨_, rfl, ?_⟩⟩
        refine ⟨_, 2147483647, rfl, rfl, (show (2147483647 : Int) ≠ 0 by decide), _, rfl, _, rfl, .inl ⟨_, rfl, _, 64, rfl, rfl, (show (64 : Int) ≠ 0 by decide), L, _, _, (((i : Nat) : Int).fmod 64).toNat, rfl, rfl, eL2, ?_, ?_⟩⟩
        · rw [List.length_map, ok.1]
          exact ixN_of f64.1 f64.2
        have fz := fm (i := y * 48271 + x) (j := 2147483647) (by decide)
        refine ⟨some (.int (i : Nat)), some (.int x), rfl, same_mut (same_new hT |> sm.trans) nL, cs.set (((i : Nat) : Int).fmod 64).toNat _, ?_, ok.set _ fz.1 fz.2⟩
        rw [upd_same, List.map_set]
      · rintro σ H2 ⟨y2, y3, rfl, sm, cs, eL, ok⟩
        refine ⟨1, 64, rfl, by decide, for_range (lo := 1) (n := ((64 : Int) - 1).toNat)
          (fun i σ H3 => ∃ y2, σ = [some (.ref a), some (.ref L), y2, y3] ∧ Same H H3 ∧ ∃ cs, H3 L = some (.lst (List.map V.int cs)) ∧ Cells cs)
          ⟨y2, rfl, sm, cs, eL, ok⟩ ?_ ?_⟩
        · rintro i σ H3 hi ⟨y2, rfl, sm, cs, eL, ok⟩
          have hi63 : i < 63 := hi
          obtain ⟨x, hx, x0, x1⟩ := ok.at_ (j := i + 1) (by omega)
          obtain ⟨y, hy, y0, y1⟩ := ok.at_ (j := i) (by omega)
          refine ⟨_, rfl, _, rfl, L, _, 1 + (i : Nat), V.int x, rfl, rfl, sqL eL, atI_of (j := i + 1) (by omega) (at_map hx), ?_⟩
          refine ⟨_, rfl, _, rfl, _, _, rfl, rfl, L, _, 1 + (i : Nat) - 1, V.int y, rfl, rfl, sqL eL, atI_of (j := i) (by omega) (at_map hy), ?_⟩
          refine ⟨y, 16807, rfl, rfl, wide_mul (nb (b := 31) y0 (by omega)) (by decide : (16807 : Int).natAbs < 2 ^ 15) (by decide) (by decide) (by decide), x, y * 16807, rfl, rfl, .inl ⟨_, rfl, ?_⟩⟩
          refine ⟨_, 2147483647, rfl, rfl, (show (2147483647 : Int) ≠ 0 by decide), _, rfl, _, rfl, L, _, 1 + (i : Nat), i + 1, rfl, rfl, eL, ?_, ?_⟩
          · rw [List.length_map, ok.1]
            exact ixN_nat (by omega) (by omega)
          have fz := fm (i := x + y * 16807) (j := 2147483647) (by decide)
          refine ⟨_, rfl, same_mut sm nL, cs.set (i + 1) _, ?_, ok.set _ fz.1 fz.2⟩
          rw [upd_same, List.map_set]
        · rintro σ H3 ⟨y2, rfl, sm, cs, eL, ok⟩
          exact ⟨_, rfl, q _ _ _ sm nL eL ok⟩
abbrev s__law_begun : Stmt := topS 33
theorem sc__law_begun : FnScope ["script", "m", "cell"] ["script"] (defScope s__law_begun) := ⟨rfl, rfl, rfl, by decide +kernel, rfl, by decide +kernel, by decide +kernel⟩
def spBegun (K : PySem.W.Frag) : Sp := fun vs H Q _ => ∃ (a : Addr) (ns : List Int), vs = [.ref a] ∧ SqL K H a (ns.map V.int) ∧ ns.length ≤ 63 ∧
  ∀ H' m c g, MS H' m c g 0 → Q (.ref m) H'
theorem ok_begun (D : DefAt K mg "_law_begun" s__law_begun) (T : Bt mg) (u__law_folded : Use P w K mg base "_law_folded" 1 ["script"] (spFolded K)) : Use P w K mg base "_law_begun" 2 ["script"] (spBegun K) := by
  refine use_of D (fun f fd F => F.ok sc__law_begun (fun vs H Q E h => ?_) (fun cdv A outer s H vs Q E hr h => ?_)) (fun _ _ _ _ _ _ us hl => match us, hl with | [_], _ => rfl)
  · obtain ⟨a, ns, rfl, _⟩ := h
    rfl
  · obtain ⟨a, ns, rfl, hs, hl, q⟩ := h
    refine ⟨_, (pss_cons (ps_set (i := 1) sc__law_begun.nd rfl (Or.inl rfl) (pe_disp (pps_cons pe_str (pe_use u__law_folded (by decide) hr (by rfl) (pa_cons (pv 0) pa_nil)) (pps_cons pe_str (pe_lst pa_nil) (pps_cons pe_str pe_int pps_nil))) (by rfl) (by rfl) (fun z => by cases z) (by decide)))
      (pss_cons (ps_dput (hu_of hr) (pv 1) pe_str (pe_lc (own := [("cell", 2)]) rfl sc__law_begun.nd (k_list (K := K) rfl (pv 0)) (blkOk_by (N := ["script", "m", "cell"]) (sc := defScope s__law_begun) (by decide +kernel)) (fun _ _ _ _ _ => (pg_name (i := 2) sc__law_begun.nd rfl (Or.inl rfl))) (fun _ _ _ _ _ => pts_nil) (fun _ _ _ _ _ => (pe_ifExp (pt_cmpR op_ge (pv 2) (pe_op op_pow pe_int pe_int) (nomark _)) (pv 2) pe_int))) rfl)
      (pss_one (ps_ret (pv 1))))), ?_⟩
    refine fun m nm => ⟨_, rfl, a, ns, rfl, sameSL (same_new nm) hs, hl, fun H1 c cs s1 nc hc ok => ⟨Nat.zero_le _, fun g ng => ?_⟩⟩
    have mc : m ≠ c := fun e => by rw [← e, upd_same] at nc; cases nc
    have hm1 : H1 m = some (.dK []) := s1 _ _ upd_same
    have mg1 : m ≠ g := fun e => by rw [e, ng] at hm1; cases hm1
    have cg : c ≠ g := fun e => by rw [e, ng] at hc; cases hc
    refine ⟨by rw [upd_ne mg1]; exact hm1, [(.inr "cells", .ref c), (.inr "great", .ref g), (.inr "spot", .int 0)], rfl, Nat.le_of_ble_eq_true rfl, ?_⟩
    rw [show mergeK [] [((.inr "cells" : L2.Key), V.ref c), (.inr "great", .ref g), (.inr "spot", .int 0)] = [(.inr "cells", .ref c), (.inr "great", .ref g), (.inr "spot", .int 0)] from rfl]
    generalize hH2 : upd (upd H1 g (.lst [])) m (.dK [((.inr "cells" : L2.Key), V.ref c), (.inr "great", .ref g), (.inr "spot", .int 0)]) = H2
    have hm2 : H2 m = some (.dK [((.inr "cells" : L2.Key), V.ref c), (.inr "great", .ref g), (.inr "spot", .int 0)]) := by rw [← hH2, upd_same]
    have hc2 : H2 c = some (.lst (cs.map V.int)) := by rw [← hH2, upd_ne mc.symm, upd_ne cg]; exact hc
    have hs2 : SqL K H2 a (ns.map V.int) := by
      refine sameSL (fun b u hb => ?_) hs
      have h1 : H1 b = some u := (Same.trans (same_new nm) s1) b u hb
      rw [← hH2, upd_ne (ne_of_none hb nm), upd_ne (ne_of_none h1 ng)]
      exact h1
    refine ⟨_, rfl, a, rfl, ⟨_, hs2⟩, fun L nL => ?_⟩
    have Lm : L ≠ m := fun e => by rw [e, hm2] at nL; cases nL
    have Lc : L ≠ c := fun e => by rw [e, hc2] at nL; cases nL
    refine lc_list (K := K) (a := a) (xs := ns.map V.int) (fun i H3 => Same H2 H3 ∧ ∃ gs : List Int, H3 L = some (.lst (gs.map V.int)) ∧ gs.length = i) ⟨same_new nL, [], upd_same, rfl⟩
      (fun i H3 _ ⟨sm, _⟩ => sameSL sm hs2) ?_ ?_
    · rintro i v H3 hi ⟨sm, gs, eL, lg⟩
      obtain ⟨x, hx, rfl⟩ := map_at hi
      have hi63 : i < ns.length := (List.getElem?_eq_some_iff.mp hx).1
      have put : ∀ y : Int, ∃ acc, H3 L = some (.lst acc) ∧ acc.length < sizeLine ∧ (Same H2 (upd H3 L (.lst (acc ++ [V.int y]))) ∧ ∃ gs : List Int, upd H3 L (.lst (acc ++ [V.int y])) L = some (.lst (gs.map V.int)) ∧ gs.length = i + 1) := fun y =>
        ⟨_, eL, by rw [List.length_map]; exact small_of (by omega), same_mut sm nL, gs ++ [y], by rw [upd_same, List.map_append]; rfl, by rw [List.length_append, lg]; rfl⟩
      refine ⟨rfl, _, rfl, 10, 18, rfl, rfl, ⟨by decide, by decide, by decide⟩, x, _, rfl, rfl, _, rfl, ?_⟩
      by_cases hx2 : (10 : Int) ^ (18 : Int).toNat ≤ x
      · rw [decide_eq_true hx2]
        exact ⟨_, rfl, put x⟩
      · rw [decide_eq_false hx2]
        exact put 0
    · rintro H3 ⟨sm, gs, eL, lg⟩
      rw [List.length_map] at lg
      have hm3 := sm _ _ hm2
      refine ⟨_, rfl, m, _, rfl, .k (k := .inr "great") hm3 (small_of (Nat.le_of_ble_eq_true rfl)), ?_⟩
      rw [show putK [((.inr "cells" : L2.Key), V.ref c), (.inr "great", .ref g), (.inr "spot", .int 0)] (.inr "great") (V.ref L) = [(.inr "cells", .ref c), (.inr "great", .ref L), (.inr "spot", .int 0)] from rfl]
      refine ⟨_, rfl, q _ m c L ⟨cs, gs, 0, upd_same, ?_, ?_, ok.1, ok.2, Lc.symm, by omega, Int.le_refl _, Int.le_refl _⟩⟩
      · rw [upd_ne mc.symm]
        exact sm _ _ hc2
      · rw [upd_ne Lm]
        exact eL
end
end KQ
namespace KQ
open PySem PySem.Spec PyProof.Rows L2 KR KM StX
/-! ### data that repr shows in short -/
structure Nc (k W : Nat) (d : PyData) : Prop where
  sh : d.showable = true
  nd : d.hasDict = false
  dp : d.depth ≤ k
  lf : d.leavesShort 13 = true
  wt : d.weight ≤ W
structure NcA (k W : Nat) (ds : List PyData) : Prop where
  sh : PyData.showableAll ds = true
  nd : PyData.hasDictAll ds = false
  dp : PyData.depthAll ds ≤ k
  lf : PyData.leavesShortAll 13 ds = true
  wt : PyData.weightAll ds ≤ W
theorem Nc.le {k W k' W' : Nat} {d : PyData} (h : Nc k W d) (h1 : k ≤ k') (h2 : W ≤ W') : Nc k' W' d := ⟨h.sh, h.nd, Nat.le_trans h.dp h1, h.lf, Nat.le_trans h.wt h2⟩
theorem NcA.le {k W k' W' : Nat} {d : List PyData} (h : NcA k W d) (h1 : k ≤ k') (h2 : W ≤ W') : NcA k' W' d := ⟨h.sh, h.nd, Nat.le_trans h.dp h1, h.lf, Nat.le_trans h.wt h2⟩
theorem nc_nat : ∀ i : Fin 1024, Nc 0 10 (.int ((i.val : Nat) : Int)) := fun i => by
  have e : ((i.val : Int)).natAbs = i.val := rfl
  have hlog : i.val.log2 < 10 := by
    by_cases h0 : i.val = 0
    · rw [h0]
      decide
    · exact (Nat.log2_lt h0).2 (by have := i.isLt; omega)
  refine ⟨?_, rfl, Nat.le_refl _, ?_, ?_⟩
  · simp only [PyData.showable, e]
    exact decide_eq_true (by omega)
  · simp only [PyData.leavesShort]
    exact decide_eq_true (PyData.shown_int_le (by have := i.isLt; rw [e]; omega))
  · simp only [PyData.weight, e]
    split <;> omega
theorem nc_int {i : Int} (h0 : 0 ≤ i) (h1 : i < 1024) : Nc 0 10 (.int i) := by
  have h := nc_nat ⟨i.toNat, by omega⟩
  have e : ((i.toNat : Nat) : Int) = i := by omega
  rw [show (((⟨i.toNat, by omega⟩ : Fin 1024).val : Nat) : Int) = i from e] at h
  exact h
theorem nc_bool (b : Bool) : Nc 0 0 (.bool b) := ⟨rfl, rfl, Nat.le_refl _, rfl, Nat.le_refl _⟩
theorem nc_nil (k : Nat) : NcA k 0 [] := ⟨rfl, rfl, Nat.zero_le _, rfl, Nat.le_refl _⟩
theorem nc_cons {k W1 W2 : Nat} {d : PyData} {ds : List PyData} (h : Nc k W1 d) (hs : NcA k W2 ds) : NcA k (W1 + 1 + W2) (d :: ds) := by
  refine ⟨?_, ?_, ?_, ?_, ?_⟩
  · simp only [PyData.showableAll, h.sh, hs.sh]; rfl
  · simp only [PyData.hasDictAll, h.nd, hs.nd]; rfl
  · have a := h.dp
    have b := hs.dp
    simp only [PyData.depthAll]
    exact Nat.max_le.mpr ⟨a, b⟩
  · simp only [PyData.leavesShortAll, h.lf, hs.lf]; rfl
  · have a := h.wt
    have b := hs.wt
    simp only [PyData.weightAll]
    omega
theorem nc_all {k W : Nat} : ∀ {ds : List PyData}, (∀ d ∈ ds, Nc k W d) → NcA k ((W + 1) * ds.length) ds
  | [], _ => (nc_nil k).le (Nat.le_refl _) (Nat.zero_le _)
  | d :: ds, h => by
    refine (nc_cons (h d List.mem_cons_self) (nc_all fun x hx => h x (List.mem_cons_of_mem _ hx))).le (Nat.le_refl _) ?_
    rw [List.length_cons, Nat.mul_add]
    omega
theorem nc_tup {k W : Nat} {ds : List PyData} (h : NcA k W ds) : Nc (k + 1) W (.tuple ds) := by
  refine ⟨by simp only [PyData.showable, h.sh], by simp only [PyData.hasDict, h.nd], ?_, by simp only [PyData.leavesShort, h.lf], by simp only [PyData.weight]; exact h.wt⟩
  have := h.dp
  simp only [PyData.depth]
  omega
theorem nc_lst {k W : Nat} {ds : List PyData} (h : NcA k W ds) : Nc (k + 1) W (.list ds) := by
  refine ⟨by simp only [PyData.showable, h.sh], by simp only [PyData.hasDict, h.nd], ?_, by simp only [PyData.leavesShort, h.lf], by simp only [PyData.weight]; exact h.wt⟩
  have := h.dp
  simp only [PyData.depth]
  omega
theorem nc_ints {p : List Int} (h : ∀ x ∈ p, 0 ≤ x ∧ x < 1024) : NcA 0 (11 * p.length) (p.map PyData.int) := by
  have := nc_all (k := 0) (W := 10) (ds := p.map PyData.int) (fun d hd => by
    obtain ⟨x, hx, rfl⟩ := List.mem_map.mp hd
    exact nc_int (h x hx).1 (h x hx).2)
  rw [List.length_map] at this
  exact this
section
variable {P : Program} {w : World} {K : PySem.W.Frag} {mg : Str → Option Value} {base : Heap}
theorem dp_ti {H : Hp} {a : Addr} {p : List Int} (h : TI H a p) : Dp K H (.ref a) (.tuple (p.map PyData.int)) := .tup (h.seq) (dpAll_ints p)
abbrev s__law_like : Stmt := topS 34
theorem sc__law_like : FnScope ["got", "due"] ["got", "due"] (defScope s__law_like) := ⟨rfl, rfl, rfl, by decide +kernel, rfl, by decide +kernel, by decide +kernel⟩
def spLike (K : PySem.W.Frag) : Sp := fun vs H Q _ => ∃ x y d, vs = [x, y] ∧ Dp K H x d ∧ Dp K H y d ∧ isDisplay d = true ∧ Nc 20 (2 ^ 20) d ∧ Q (.bl true) H
theorem ok_like (D : DefAt K mg "_law_like" s__law_like) (T : Bt mg) : UseG P w K mg base "_law_like" 1 ["got", "due"] (spLike K) := by
  refine use_ofG D (fun f fd F => Fun.okG F sc__law_like (fun vs H Q E h => ?_) (fun cdv A outer s H vs Q E gd hr h => ?_)) (fun _ _ _ _ _ _ us hl => match us, hl with | [_, _], _ => rfl)
  · obtain ⟨x, y, d, rfl, _⟩ := h
    rfl
  · obtain ⟨x, y, d, rfl, hx, hy, dis, nc, q⟩ := h
    refine ⟨_, (pss_one (ps_ret (pe_cmpR op_eq (pe_callB (k_repr (K := K) rfl gd hr.units) (by rfl) T.repr (by decide +kernel) (pa_cons (pv 0) pa_nil)) (pe_callB (k_repr (K := K) rfl gd hr.units) (by rfl) T.repr (by decide +kernel) (pa_cons (pv 1) pa_nil)) (nomark _)))), ?_⟩
    have hl := PyData.shown_fits (B := 13) (by decide) (by decide) nc.lf nc.wt
    have dp : d.depth ≤ 30 := Nat.le_trans nc.dp (by decide)
    refine ⟨_, rfl, x, d, rfl, hx, dis, nc.sh, nc.nd, dp, hl, _, rfl, y, d, rfl, hy, dis, nc.sh, nc.nd, dp, hl, ?_⟩
    refine ⟨rfl, ?_⟩
    rw [decide_eq_true rfl]
    exact q
theorem Kept.trans {H H1 H2 : Hp} {m g : Addr} (h : Kept H H1 m g) (h2 : Kept H1 H2 m g) : Kept H H2 m g := fun a u ha na nb => h2 a u (h a u ha na nb) na nb
theorem Kept.of {H H' : Hp} {m g : Addr} (h : Same H H') : Kept H H' m g := fun a u ha _ _ => h a u ha
theorem MS.mono {H H' : Hp} {m c g : Addr} {b : Int} (h : MS H m c g b) (s : Same H H') : MS H' m c g b := by
  obtain ⟨cs, gs, n, h1, h2, h3, r⟩ := h
  exact ⟨cs, gs, n, s _ _ h1, s _ _ h2, s _ _ h3, r⟩
theorem MS.le {H : Hp} {m c g : Addr} {b b' : Int} (h : MS H m c g b) (l : b ≤ b') : MS H m c g b' := by
  obtain ⟨cs, gs, n, h1, h2, h3, h4, h5, h6, h7, h8, h9⟩ := h
  exact ⟨cs, gs, n, h1, h2, h3, h4, h5, h6, h7, h8, by omega⟩
/-- the state stays where another object is changed -/
theorem MS.put {H : Hp} {m c g : Addr} {b : Int} (h : MS H m c g b) {a : Addr} {o : HO} (n1 : a ≠ m) (n2 : a ≠ c) (n3 : a ≠ g) : MS (L2.upd H a o) m c g b := by
  obtain ⟨cs, gs, n, h1, h2, h3, r⟩ := h
  exact ⟨cs, gs, n, by rw [upd_ne n1.symm]; exact h1, by rw [upd_ne n2.symm]; exact h2, by rw [upd_ne n3.symm]; exact h3, r⟩
theorem MS.ne {H : Hp} {m c g : Addr} {b : Int} (h : MS H m c g b) {a : Addr} (n : H a = none) : a ≠ m ∧ a ≠ c ∧ a ≠ g := by
  obtain ⟨cs, gs, k, h1, h2, h3, r⟩ := h
  exact ⟨ne_of_none h1 n |>.symm, ne_of_none h2 n |>.symm, ne_of_none h3 n |>.symm⟩
theorem kept_mut {H H' : Hp} {m g p : Addr} {o : HO} (e : Kept H H' m g) (h : H p = none) : Kept H (L2.upd H' p o) m g := fun a u ha na nb => by
  rw [upd_ne (ne_of_none ha h)]
  exact e a u ha na nb
theorem Kept.ti {H H' : Hp} {m c g a : Addr} {b : Int} {p : List Int} (h : Kept H H' m g) (s : MS H m c g b) (t : TI H a p) : TI H' a p := by
  obtain ⟨cs, gs, k, h1, h2, h3, r⟩ := s
  refine h a _ t (fun e => ?_) (fun e => ?_)
  · have t' : H a = _ := t
    rw [e, h1] at t'
    cases t'
  · have t' : H a = _ := t
    rw [e, h3] at t'
    cases t'
theorem erase_perm {α : Type} : ∀ {ls : List α} {k : Nat} {x : α}, ls[k]? = some x → ([x] ++ ls.eraseIdx k).Perm ls
  | [], k, x, h => by simp at h
  | a :: r, 0, x, h => by
    obtain rfl : a = x := Option.some.inj h
    exact List.Perm.refl _
  | a :: r, k + 1, x, h => by
    have h' : r[k]? = some x := h
    exact (List.Perm.swap a x _).trans (List.Perm.cons a (erase_perm h'))
theorem erase_map {α β : Type} (f : α → β) : ∀ (ls : List α) (k : Nat), (ls.map f).eraseIdx k = (ls.eraseIdx k).map f
  | [], k => by simp
  | a :: r, 0 => rfl
  | a :: r, k + 1 => by
    show f a :: (r.map f).eraseIdx k = f a :: (r.eraseIdx k).map f
    rw [erase_map f r k]
abbrev s__law_order : Stmt := topS 37
theorem sc__law_order : FnScope ["m", "many", "left", "turn"] ["m", "many"] (defScope s__law_order) := ⟨rfl, rfl, rfl, by decide +kernel, rfl, by decide +kernel, by decide +kernel⟩
def spOrder : Sp := fun vs H Q _ => ∃ m c g b many, vs = [.ref m, .int many] ∧ MS H m c g b ∧ b ≤ 100000 ∧ 1 ≤ many ∧ many ≤ 64 ∧
  ∀ H' l (ds : List Int), Kept H H' m g → MS H' m c g (b + many) → H' l = some (.lst (ds.map V.int)) → H l = none → ds.length = many.toNat → ds.Nodup → (∀ d ∈ ds, 0 ≤ d ∧ d < many) → Q (.ref l) H'
theorem ok_order (D : DefAt K mg "_law_order" s__law_order) (T : Bt mg) (u__law_draw : Use P w K mg base "_law_draw" 2 ["m", "limit"] spDraw) : Use P w K mg base "_law_order" 3 ["m", "many"] spOrder := by
  refine use_of D (fun f fd F => F.ok sc__law_order (fun vs H Q E h => ?_) (fun cdv A outer s H vs Q E hr h => ?_)) (fun _ _ _ _ _ _ us hl => match us, hl with | [_, _], _ => rfl)
  · obtain ⟨m, c, g, b, many, rfl, _⟩ := h
    rfl
  · obtain ⟨m, c, g, b, many, rfl, ms, hb, m1, m2, q⟩ := h
    refine ⟨_, (pss_cons (ps_set (i := 2) sc__law_order.nd rfl (Or.inr rfl) (pe_listRg rfl (by rfl) T.list (prg_1 (by rfl) T.range (pv 1))))
      (pss_one (ps_ret (pe_lc (own := [("turn", 3)]) rfl sc__law_order.nd (pi_range1 (by rfl) T.range (pa_cons (pv 1) pa_nil)) (blkOk_by (N := ["m", "many", "left", "turn"]) (sc := defScope s__law_order) (by decide +kernel)) (fun _ _ _ _ _ => (pg_name (i := 3) sc__law_order.nd rfl (Or.inl rfl))) (fun _ _ _ _ _ => pts_nil) (fun _ _ _ _ _ => (k_bm (K := K) rfl PySem.F.plainAttrs_list PySem.F.slot_list_pop PySem.F.type_list_pop mt_popAt (pv 2) (pa_cons (pe_use u__law_draw (by decide) hr (by rfl) (pa_cons (pv 0) (pa_cons (pe_callB (k_len (K := K) rfl) (by rfl) T.len PySem.boot_len (pa_cons (pv 2) pa_nil)) pa_nil))) pa_nil))))))), ?_⟩
    obtain ⟨mn, rfl⟩ : ∃ n : Nat, many = (n : Int) := ⟨many.toNat, by omega⟩
    refine ⟨_, rfl, _, rfl, RgOk.of_le (by omega) (by omega) (by omega) (by omega), fun l nl => ?_⟩
    rw [rgV_hv]
    refine ⟨_, rfl, _, rfl, by omega, by omega, fun L nL => ?_⟩
    have lL : l ≠ L := fun e => by rw [← e, upd_same] at nL; cases nL
    have nL0 : H L = none := (same_new nl).free nL
    have ms1 : MS (upd (upd H l (.lst (hv (List.range mn)))) L (.lst [])) m c g b := (ms.mono (same_new nl)).mono (same_new nL)
    refine lc_range (fun i H1 => Kept H H1 m g ∧ MS H1 m c g (b + (i : Nat)) ∧ ∃ os ls : List Nat, H1 l = some (.lst (hv ls)) ∧ H1 L = some (.lst (hv os)) ∧ os.length = i ∧ (os ++ ls).Perm (List.range mn))
      ⟨kept_mut (Kept.of (same_new nl)) nL0, by simpa using ms1, [], List.range mn, by rw [upd_ne lL, upd_same], by rw [upd_same]; rfl, rfl, List.Perm.refl _⟩ ?_ ?_
    · rintro i H1 hi ⟨kp, ms2, os, ls, el, eL, ol, pm⟩
      have hlen : ls.length = mn - i := by
        have := pm.length_eq
        rw [List.length_append, ol, List.length_range] at this
        omega
      have himn : i < mn := by omega
      refine ⟨rfl, _, rfl, .inl ⟨rfl, _, .inl (.inl el)⟩, _, rfl, _, rfl, l, _, rfl, .inl (sqL el), m, c, g, _, _, rfl, ms2, by omega, ?_, ?_, fun H2 d k2 ms3 d0 d1 => ?_⟩
      · unfold hv
        rw [List.length_map]
        omega
      · unfold hv
        rw [List.length_map]
        omega
      have hvl : (hv ls).length = ls.length := by unfold hv; rw [List.length_map]
      rw [hvl] at d1
      obtain ⟨x, hx⟩ : ∃ x, ls[d.toNat]? = some x := ⟨_, List.getElem?_eq_getElem (by omega)⟩
      have lm : l ≠ m ∧ l ≠ g := by
        have := ms.ne nl
        exact ⟨this.1, this.2.2⟩
      have Lm : L ≠ m ∧ L ≠ g := by
        have := ms.ne nL0
        exact ⟨this.1, this.2.2⟩
      have el2 := k2 l _ el lm.1 lm.2
      have eL2 := k2 L _ eL Lm.1 Lm.2
      refine ⟨l, hv ls, d, d.toNat, .int ((x : Nat) : Int), rfl, rfl, el2, by omega, by omega, ?_, at_map hx, ?_⟩
      · have := (ixN_seq (ixN_of (n := ls.length) d0 d1)).1
        rw [hvl]
        exact this
      refine ⟨_, by rw [upd_ne lL.symm]; exact eL2, ?_, ?_⟩
      · unfold hv
        rw [List.length_map]
        exact small_of (by omega)
      refine ⟨kept_mut (kept_mut (kp.trans k2) nl) nL0, ?_, os ++ [x], ls.eraseIdx d.toNat, ?_, ?_, ?_, ?_⟩
      · have := ms3
        have n1 := ms.ne nl
        have n2 := ms.ne nL0
        rw [show b + ((i + 1 : Nat) : Int) = b + (i : Nat) + 1 by omega]
        exact (ms3.put n1.1 n1.2.1 n1.2.2).put n2.1 n2.2.1 n2.2.2
      · rw [upd_ne lL, upd_same]
        unfold hv
        rw [erase_map]
      · rw [upd_same]
        unfold hv
        rw [List.map_append]
        rfl
      · rw [List.length_append, ol]
        rfl
      · rw [List.append_assoc]
        exact (List.Perm.append_left os (erase_perm hx)).trans pm
    · rintro H1 ⟨kp, ms2, os, ls, el, eL, ol, pm⟩
      have l0 : ls = [] := by
        have := pm.length_eq
        rw [List.length_append, ol, List.length_range] at this
        exact List.length_eq_zero_iff.mp (by omega)
      subst l0
      rw [List.append_nil] at pm
      rw [show ((((mn : Nat) : Int)).toNat : Nat) = mn by omega] at ms2
      refine q H1 L (os.map fun x => ((x : Nat) : Int)) kp ms2 ?_ nL0 ?_ ?_ ?_
      · rw [eL, List.map_map]
        rfl
      · rw [List.length_map, ol]
      · exact List.pairwise_map.mpr ((pm.nodup_iff.mpr List.nodup_range).imp fun h e => h (by omega))
      · intro d hd
        obtain ⟨x, hx, rfl⟩ := List.mem_map.mp hd
        have := List.mem_range.mp (pm.mem_iff.mp hx)
        omega
end
end KQ
namespace KQ
open PySem PySem.Spec PyProof.Rows L2 KR KM StX
theorem dg_new {α κ : Type} [DecidableEq α] [DecidableEq κ] {f : α → κ} (hf : ∀ a b, f a = f b → a = b) {ks : List α} {x : α} (h : ks.Nodup) (hx : x ∉ ks) : valV (dg f (ks ++ [x])) (f x) = some (V.int ((ks.length : Nat) : Int)) := by
  have hn : (ks ++ [x]).Nodup := by
    rw [List.nodup_append]
    refine ⟨h, by simp, fun a ha b hb e => ?_⟩
    rw [List.mem_singleton.mp hb] at e
    exact hx (e ▸ ha)
  rw [dg_val hf _ _ hn, if_pos (by simp), List.idxOf_append, if_neg hx]
  simp
section
variable {P : Program} {w : World} {K : PySem.W.Frag} {mg : Str → Option Value} {base : Heap}
abbrev s__law_numbered : Stmt := topS 38
theorem sc__law_numbered : FnScope ["labels", "spots", "found", "label"] ["labels"] (defScope s__law_numbered) := ⟨rfl, rfl, rfl, by decide +kernel, rfl, by decide +kernel, by decide +kernel⟩
theorem ok_lnumL (D : DefAt K mg "_law_numbered" s__law_numbered) (T : Bt mg) : Use P w K mg base "_law_numbered" 1 ["labels"] spNumL := by
  refine use_of D (fun f fd F => F.ok sc__law_numbered (fun vs H Q E h => ?_) (fun cdv A outer s H vs Q E hr h => ?_)) (fun _ _ _ _ _ _ us hl => match us, hl with | [_], _ => rfl)
  · obtain ⟨a, p, rfl, _⟩ := h
    rfl
  · obtain ⟨a, xs, rfl, hp, hl, q⟩ := h
    refine ⟨_, (pss_cons (ps_par (i := 1) (j := 2) rfl sc__law_numbered.nd rfl rfl (by decide) rfl rfl (pa_cons pe_dnewK (pa_cons (pe_lst pa_nil) pa_nil)) (by rfl))
      (pss_cons (ps_for PassesOwn.never rfl (k_list (K := K) rfl (pv 0)) (pg_name (i := 3) sc__law_numbered.nd rfl (Or.inl rfl))
      (pss_cons (ps_if (pt_cmp (pc_dnotin (hu_of hr) (pv 3) (pv 1))) (pss_one (ps_dput (hu_of hr) (pv 1) (pv 3) (pe_callB call_lenD (by rfl) T.len PySem.boot_len (pa_cons (pv 1) pa_nil)) rfl)) pss_nil)
      (pss_one (ps_expr (k_bm (K := K) rfl PySem.F.plainAttrs_list PySem.F.slot_list_append PySem.F.type_list_append mt_append (pv 2) (pa_cons (pe_dget (hu_of hr) (pv 1) (pv 3) (fun _ _ => rfl)) pa_nil))))))
      (pss_one (ps_ret (pe_callTy (k_tupOf (K := K) rfl) (by rfl) T.tuple (by decide +kernel) (pa_cons (pv 2) pa_nil)))))), ?_⟩
    refine fun d nd => ⟨Nat.zero_le _, fun L nL => ?_⟩
    have s0 : Same H (upd H d (.dK [])) := same_new nd
    have s1 : Same H (upd (upd H d (.dK [])) L (.lst [])) := s0.trans (same_new nL)
    have nL0 : H L = none := s0.free nL
    have ndL : d ≠ L := fun e => by rw [e, upd_same] at nL; cases nL
    refine ⟨_, _, rfl, ?_⟩
    refine ⟨_, rfl, a, rfl, ⟨_, sqL (s1 _ _ hp)⟩, for_list (K := K) (a := a) (xs := xs.map V.int)
      (fun i σ H1 => ∃ y3, σ = [some (.ref a), some (.ref d), some (.ref L), y3] ∧ Same H H1 ∧ H1 d = some (.dK (dg kI (firsts (xs.take i)))) ∧ H1 L = some (.lst ((num (xs.take i)).map V.int)))
      ⟨none, rfl, s1, ?_, ?_⟩ (fun i σ H1 _ ⟨_, _, sm, _⟩ => sqL (sm _ _ hp)) ?_ ?_⟩
    · rw [upd_ne ndL, upd_same]
      rfl
    · rw [upd_same]
      rfl
    · rintro i v σ H1 hi ⟨y3, rfl, sm, ed, eL⟩
      obtain ⟨x, hx, rfl⟩ := map_at hi
      have small : ((num (xs.take i)).map V.int).length < sizeLine := by
        rw [List.length_map, num_len, List.length_take]
        exact small_of (by omega)
      have small2 : (dg kI (firsts (xs.take i))).length < sizeLine := by
        rw [dg_len]
        have := firsts_le (xs.take i)
        rw [List.length_take] at this
        exact small_of (by omega)
      by_cases hm : x ∈ firsts (xs.take i)
      · obtain ⟨e1, e2⟩ := num_old hm
        have gv : DGet H1 d (V.int x) (some (V.int (((firsts (xs.take i)).idxOf x : Nat) : Int))) := by
          have := DGet.k (k := kI x) ed
          rw [dg_val kI_inj _ _ (firsts_nodup _), if_pos hm] at this
          exact this
        refine ⟨_, rfl, _, rfl, d, _, rfl, gv, _, rfl, _, rfl, .inl ⟨rfl, _, .inl (.inl eL)⟩, _, rfl, _, rfl, d, _, rfl, gv, L, _, _, rfl, rfl, eL, small, some (.int x), rfl, same_mut sm nL0, ?_, ?_⟩
        · rw [upd_ne ndL, take_snoc hx, e2]
          exact ed
        · rw [upd_same, take_snoc hx, e1, List.map_append]
          rfl
      · obtain ⟨e1, e2⟩ := num_new hm
        have gv : DGet H1 d (V.int x) none := by
          have := DGet.k (k := kI x) ed
          rw [dg_val kI_inj _ _ (firsts_nodup _), if_neg hm] at this
          exact this
        have ed2 : (upd H1 d (.dK (putK (dg kI (firsts (xs.take i))) (kI x) (.int (((firsts (xs.take i)).length : Nat) : Int))))) d = some (.dK (dg kI (firsts (xs.take i) ++ [x]))) := by
          rw [upd_same, dg_put kI_inj _ _ hm]
        have gv2 : DGet (upd H1 d (.dK (putK (dg kI (firsts (xs.take i))) (kI x) (.int (((firsts (xs.take i)).length : Nat) : Int))))) d (V.int x) (some (V.int (((firsts (xs.take i)).length : Nat) : Int))) := by
          have := DGet.k (k := kI x) ed2
          rw [dg_new kI_inj (firsts_nodup _) hm] at this
          exact this
        have eL2 : (upd H1 d (.dK (putK (dg kI (firsts (xs.take i))) (kI x) (.int (((firsts (xs.take i)).length : Nat) : Int))))) L = some (.lst ((num (xs.take i)).map V.int)) := by
          rw [upd_ne ndL.symm]
          exact eL
        refine ⟨_, rfl, _, rfl, d, _, rfl, gv, _, rfl, _, rfl, d, _, rfl, ed, ?_⟩
        rw [dg_len]
        refine ⟨_, rfl, _, rfl, d, _, rfl, DPut.k (k := kI x) ed small2, ?_⟩
        refine ⟨_, rfl, .inl ⟨rfl, _, .inl (.inl eL2)⟩, _, rfl, _, rfl, d, _, rfl, gv2, L, _, _, rfl, rfl, eL2, small, some (.int x), rfl, same_mut (same_mut sm nd) nL0, ?_, ?_⟩
        · rw [upd_ne ndL, ed2, take_snoc hx, e2]
        · rw [upd_same, take_snoc hx, e1, List.map_append]
          rfl
    · rintro σ H1 ⟨y3, rfl, sm, ed, eL⟩
      refine ⟨_, rfl, L, _, rfl, .inl ⟨.inl (.inl eL), fun l hl => ?_⟩⟩
      refine q _ l (sm.trans (same_new hl)) ?_
      show upd H1 l _ l = _
      rw [upd_same, List.length_map, List.take_length]
theorem ok_lnumP (D : DefAt K mg "_law_numbered" s__law_numbered) (T : Bt mg) : Use P w K mg base "_law_numbered" 1 ["labels"] spNumP := by
  refine use_of D (fun f fd F => F.ok sc__law_numbered (fun vs H Q E h => ?_) (fun cdv A outer s H vs Q E hr h => ?_)) (fun _ _ _ _ _ _ us hl => match us, hl with | [_], _ => rfl)
  · obtain ⟨a, ts, xs, rfl, _⟩ := h
    rfl
  · obtain ⟨a, ts, xs, rfl, hp, pa, hl, q⟩ := h
    refine ⟨_, (pss_cons (ps_par (i := 1) (j := 2) rfl sc__law_numbered.nd rfl rfl (by decide) rfl rfl (pa_cons pe_dnewT (pa_cons (pe_lst pa_nil) pa_nil)) (by rfl))
      (pss_cons (ps_for PassesOwn.never rfl (k_list (K := K) rfl (pv 0)) (pg_name (i := 3) sc__law_numbered.nd rfl (Or.inl rfl))
      (pss_cons (ps_if (pt_cmp (pc_dnotin (hu_of hr) (pv 3) (pv 1))) (pss_one (ps_dput (hu_of hr) (pv 1) (pv 3) (pe_callB call_len_dT (by rfl) T.len PySem.boot_len (pa_cons (pv 1) pa_nil)) rfl)) pss_nil)
      (pss_one (ps_expr (k_bm (K := K) rfl PySem.F.plainAttrs_list PySem.F.slot_list_append PySem.F.type_list_append mt_append (pv 2) (pa_cons (pe_dget (hu_of hr) (pv 1) (pv 3) (fun _ _ => rfl)) pa_nil))))))
      (pss_one (ps_ret (pe_callTy (k_tupOf (K := K) rfl) (by rfl) T.tuple (by decide +kernel) (pa_cons (pv 2) pa_nil)))))), ?_⟩
    refine fun d nd => ⟨Nat.zero_le _, fun L nL => ?_⟩
    have s0 : Same H (upd H d (.dT [])) := same_new nd
    have s1 : Same H (upd (upd H d (.dT [])) L (.lst [])) := s0.trans (same_new nL)
    have nL0 : H L = none := s0.free nL
    have ndL : d ≠ L := fun e => by rw [e, upd_same] at nL; cases nL
    refine ⟨_, _, rfl, ?_⟩
    refine ⟨_, rfl, a, rfl, ⟨_, sqL (s1 _ _ hp)⟩, for_list (K := K) (a := a) (xs := ts.map V.ref)
      (fun i σ H1 => ∃ y3, σ = [some (.ref a), some (.ref d), some (.ref L), y3] ∧ Same H H1 ∧ H1 d = some (.dT (dg kP (firsts (xs.take i)))) ∧ H1 L = some (.lst ((num (xs.take i)).map V.int)))
      ⟨none, rfl, s1, ?_, ?_⟩ (fun i σ H1 _ ⟨_, _, sm, _⟩ => sqL (sm _ _ hp)) ?_ ?_⟩
    · rw [upd_ne ndL, upd_same]
      rfl
    · rw [upd_same]
      rfl
    · rintro i v σ H1 hi ⟨y3, rfl, sm, ed, eL⟩
      obtain ⟨t, ht, rfl⟩ := map_at hi
      obtain ⟨x, hx, et0⟩ := pa.2 i t ht
      have et : H1 t = some (.tup ((kP x).map kV)) := sm _ _ et0
      have etd : ∀ o : HO, (upd H1 d o) t = some (.tup ((kP x).map kV)) := fun o => by rw [upd_ne (fun e => by rw [e, nd] at et0; cases et0)]; exact et
      have small : ((num (xs.take i)).map V.int).length < sizeLine := by
        rw [List.length_map, num_len, List.length_take]
        exact small_of (by omega)
      have small2 : (dg kP (firsts (xs.take i))).length < sizeLine := by
        rw [dg_len]
        have := firsts_le (xs.take i)
        rw [List.length_take] at this
        exact small_of (by omega)
      by_cases hm : x ∈ firsts (xs.take i)
      · obtain ⟨e1, e2⟩ := num_old hm
        have gv : DGet H1 d (V.ref t) (some (V.int ((@List.idxOf (Int × Int) instBEqOfDecidableEq x (firsts (xs.take i)) : Nat) : Int))) := by
          have := DGet.t (k := kP x) ed et
          rw [dg_val kP_inj _ _ (firsts_nodup _), if_pos hm] at this
          exact this
        refine ⟨_, rfl, _, rfl, d, _, rfl, gv, _, rfl, _, rfl, .inl ⟨rfl, _, .inl (.inl eL)⟩, _, rfl, _, rfl, d, _, rfl, gv, L, _, _, rfl, rfl, eL, small, some (.ref t), rfl, same_mut sm nL0, ?_, ?_⟩
        · rw [upd_ne ndL, take_snoc hx, e2]
          exact ed
        · rw [upd_same, take_snoc hx, e1, List.map_append]
          rfl
      · obtain ⟨e1, e2⟩ := num_new hm
        have gv : DGet H1 d (V.ref t) none := by
          have := DGet.t (k := kP x) ed et
          rw [dg_val kP_inj _ _ (firsts_nodup _), if_neg hm] at this
          exact this
        have ed2 : (upd H1 d (.dT (putK (dg kP (firsts (xs.take i))) (kP x) (.int (((firsts (xs.take i)).length : Nat) : Int))))) d = some (.dT (dg kP (firsts (xs.take i) ++ [x]))) := by
          rw [upd_same, dg_put kP_inj _ _ hm]
        have gv2 : DGet (upd H1 d (.dT (putK (dg kP (firsts (xs.take i))) (kP x) (.int (((firsts (xs.take i)).length : Nat) : Int))))) d (V.ref t) (some (V.int (((firsts (xs.take i)).length : Nat) : Int))) := by
          have := DGet.t (k := kP x) ed2 (etd _)
          rw [dg_new kP_inj (firsts_nodup _) hm] at this
          exact this
        have eL2 : (upd H1 d (.dT (putK (dg kP (firsts (xs.take i))) (kP x) (.int (((firsts (xs.take i)).length : Nat) : Int))))) L = some (.lst ((num (xs.take i)).map V.int)) := by
          rw [upd_ne ndL.symm]
          exact eL
        refine ⟨_, rfl, _, rfl, d, _, rfl, gv, _, rfl, _, rfl, d, _, rfl, ed, ?_⟩
        rw [dg_len]
        refine ⟨_, rfl, _, rfl, d, _, rfl, DPut.t (k := kP x) ed et small2, ?_⟩
        refine ⟨_, rfl, .inl ⟨rfl, _, .inl (.inl eL2)⟩, _, rfl, _, rfl, d, _, rfl, gv2, L, _, _, rfl, rfl, eL2, small, some (.ref t), rfl, same_mut (same_mut sm nd) nL0, ?_, ?_⟩
        · rw [upd_ne ndL, ed2, take_snoc hx, e2]
        · rw [upd_same, take_snoc hx, e1, List.map_append]
          rfl
    · rintro σ H1 ⟨y3, rfl, sm, ed, eL⟩
      refine ⟨_, rfl, L, _, rfl, .inl ⟨.inl (.inl eL), fun l hl => ?_⟩⟩
      refine q _ l (sm.trans (same_new hl)) ?_
      show upd H1 l _ l = _
      rw [upd_same, List.length_map, pa.1, List.take_length]
end
end KQ
namespace KQ
open PySem PySem.Spec PyProof.Rows L2 KR KM StX
section
variable {P : Program} {w : World} {K : PySem.W.Frag} {mg : Str → Option Value} {base : Heap}
theorem Kept.free {H H1 : Hp} {m g L : Addr} (h : Kept H H1 m g) (n : H1 L = none) (n1 : L ≠ m) (n2 : L ≠ g) : H L = none := by
  cases e : H L with
  | none => rfl
  | some u =>
    rw [h L u e n1 n2] at n
    cases n
abbrev s__law_any_parting : Stmt := topS 42
theorem sc__law_any_parting : FnScope ["m", "many", "cap", "turn"] ["m", "many"] (defScope s__law_any_parting) := ⟨rfl, rfl, rfl, by decide +kernel, rfl, by decide +kernel, by decide +kernel⟩
def spAny : Sp := fun vs H Q _ => ∃ m c g b many, vs = [.ref m, .int many] ∧ MS H m c g b ∧ b ≤ 100000 ∧ 1 ≤ many ∧ many ≤ 60 ∧
  ∀ H' t p, Kept H H' m g → MS H' m c g (b + 1 + many) → TI H' t p → Par p → p.length = many.toNat → Q (.ref t) H'
theorem ok_any (D : DefAt K mg "_law_any_parting" s__law_any_parting) (T : Bt mg) (u__law_draw : Use P w K mg base "_law_draw" 2 ["m", "limit"] spDraw)
    (u__law_numbered : Use P w K mg base "_law_numbered" 1 ["labels"] spNumL) : Use P w K mg base "_law_any_parting" 3 ["m", "many"] spAny := by
  refine use_of D (fun f fd F => F.ok sc__law_any_parting (fun vs H Q E h => ?_) (fun cdv A outer s H vs Q E hr h => ?_)) (fun _ _ _ _ _ _ us hl => match us, hl with | [_, _], _ => rfl)
  · obtain ⟨m, c, g, b, many, rfl, _⟩ := h
    rfl
  · obtain ⟨m, c, g, b, many, rfl, ms, hb, m1, m2, q⟩ := h
    refine ⟨_, (pss_cons (ps_set (i := 2) sc__law_any_parting.nd rfl (Or.inr rfl) (pe_op op_add pe_int (pe_use u__law_draw (by decide) hr (by rfl) (pa_cons (pv 0) (pa_cons (pv 1) pa_nil)))))
      (pss_one (ps_ret (pe_use u__law_numbered (by decide) hr (by rfl) (pa_cons (pe_lc (own := [("turn", 3)]) rfl sc__law_any_parting.nd (pi_range1 (by rfl) T.range (pa_cons (pv 1) pa_nil)) (blkOk_by (N := ["m", "many", "cap", "turn"]) (sc := defScope s__law_any_parting) (by decide +kernel)) (fun _ _ _ _ _ => (pg_name (i := 3) sc__law_any_parting.nd rfl (Or.inl rfl))) (fun _ _ _ _ _ => pts_nil) (fun _ _ _ _ _ => (pe_use u__law_draw (by decide) hr (by rfl) (pa_cons (pv 0) (pa_cons (pv 2) pa_nil))))) pa_nil))))), ?_⟩
    refine ⟨_, rfl, _, rfl, m, c, g, b, many, rfl, ms, by omega, by omega, by omega, fun H1 d k1 ms1 d0 d1 => ⟨1, d, rfl, rfl, ?_⟩⟩
    refine ⟨_, rfl, _, rfl, by omega, by omega, fun L nL => ?_⟩
    have Ln := ms1.ne nL
    have nLH := k1.free nL Ln.1 Ln.2.2
    refine lc_range (fun i H2 => (∃ xs : List Int, H2 L = some (.lst (xs.map V.int)) ∧ xs.length = i) ∧ Kept H H2 m g ∧ MS H2 m c g (b + 1 + (i : Nat)))
      ⟨⟨[], upd_same, rfl⟩, kept_mut k1 nLH, by simpa using ms1.put Ln.1 Ln.2.1 Ln.2.2⟩ ?_ ?_
    · rintro i H2 hi ⟨⟨xs, eL, lx⟩, k2, ms2⟩
      refine ⟨rfl, _, rfl, _, rfl, m, c, g, _, _, rfl, ms2, by omega, by omega, by omega, fun H3 e k3 ms3 e0 e1 => ?_⟩
      have eL3 := k3 L _ eL Ln.1 Ln.2.2
      refine ⟨_, eL3, ?_, ⟨xs ++ [e], ?_, ?_⟩, ?_, ?_⟩
      · rw [List.length_map, lx]
        exact small_of (by omega)
      · rw [upd_same, List.map_append]
        rfl
      · rw [List.length_append, lx]
        rfl
      · exact kept_mut (k2.trans k3) nLH
      · rw [show b + 1 + ((i + 1 : Nat) : Int) = b + 1 + (i : Nat) + 1 by omega]
        exact ms3.put Ln.1 Ln.2.1 Ln.2.2
    · rintro H2 ⟨⟨xs, eL, lx⟩, k2, ms2⟩
      refine ⟨L, xs, rfl, eL, by omega, fun H3 t s3 ht => ?_⟩
      refine q H3 t (num xs) (k2.trans (Kept.of s3)) ?_ ht (num_par ?_ (by omega)) (by rw [num_len, lx])
      · have := ms2.mono s3
        rw [show (((many.toNat : Nat)) : Int) = many by omega] at this
        exact this
      · intro e
        rw [e] at lx
        simp at lx
        omega
def spCoarser : Sp := fun vs H Q _ => ∃ m c g b a p, vs = [.ref m, .ref a] ∧ MS H m c g b ∧ b ≤ 100000 ∧ TI H a p ∧ Par p ∧
  ∀ H' t r, Kept H H' m g → MS H' m c g (b + 61) → TI H' t r → Par r → r.length = p.length → Q (.ref t) H'
def Gd (p r : List Int) (s t : Nat) : Prop := p[s]? = p[t]? → r[s]? = r[t]?
theorem finer_gd {p r : List Int} (hl : p.length = r.length) : Finer p r ↔ ∀ t, t < p.length → ∀ s, s < t → Gd p r s t := by
  constructor
  · intro h t ht s hs e
    have hp := List.getElem?_eq_getElem ht
    have hr : r[t]? = some _ := List.getElem?_eq_getElem (by omega)
    have hr2 : r[s]? = some _ := List.getElem?_eq_getElem (by omega)
    rw [hp] at e
    rw [hr, hr2, h s t _ _ _ e hp hr2 hr]
  · intro h i j x y z hi hj yi zj
    have li := (List.getElem?_eq_some_iff.mp hi).1
    have lj := (List.getElem?_eq_some_iff.mp hj).1
    rcases Nat.lt_trichotomy i j with c | c | c
    · have := h j lj i c (by rw [hi, hj])
      rw [yi, zj] at this
      exact Option.some.inj this
    · subst c
      rw [yi] at zj
      exact Option.some.inj zj
    · have := h i li j c (by rw [hi, hj])
      rw [yi, zj] at this
      exact (Option.some.inj this).symm
def spLFiner : Sp := fun vs H Q _ => ∃ a b p r, vs = [.ref a, .ref b] ∧ TI H a p ∧ TI H b r ∧ p.length ≤ 60 ∧ p.length = r.length ∧ ∀ H' c, Same H H' → (c = true ↔ Finer p r) → Q (.bl c) H'
end
end KQ
namespace KQ
open PySem PySem.Spec PyProof.Rows L2 KR KM StX
section
variable {P : Program} {w : World} {K : PySem.W.Frag} {mg : Str → Option Value} {base : Heap}
/-- tuples of whole numbers, in their order -/
def Its (H : Hp) (ts : List Addr) (xss : List (List Int)) : Prop := ts.length = xss.length ∧ ∀ (i : Nat) (t : Addr), ts[i]? = some t → ∃ xs, xss[i]? = some xs ∧ TI H t xs
theorem Its.mono {H H' : Hp} {ts : List Addr} {xss : List (List Int)} (h : Its H ts xss) (s : Same H H') : Its H' ts xss := ⟨h.1, fun i t ht => let ⟨xs, a, b⟩ := h.2 i t ht; ⟨xs, a, b.mono s⟩⟩
theorem Its.put {H : Hp} {ts : List Addr} {xss : List (List Int)} {L : Addr} {xs : List V} {o : HO} (h : Its H ts xss) (e : H L = some (.lst xs)) : Its (upd H L o) ts xss := ⟨h.1, fun i t ht => by
  obtain ⟨ys, a, b⟩ := h.2 i t ht
  refine ⟨ys, a, ?_⟩
  have b' : H t = some (.tup (ys.map V.int)) := b
  show upd H L o t = _
  rw [upd_ne (fun q => by rw [q, e] at b'; cases b')]
  exact b'⟩
theorem Its.app {H : Hp} {ts us : List Addr} {xss yss : List (List Int)} (h : Its H ts xss) (g : Its H us yss) : Its H (ts ++ us) (xss ++ yss) := by
  refine ⟨by rw [List.length_append, List.length_append, h.1, g.1], fun i t ht => ?_⟩
  by_cases hi : i < ts.length
  · rw [List.getElem?_append_left hi] at ht
    obtain ⟨xs, a, b⟩ := h.2 i t ht
    exact ⟨xs, by rw [List.getElem?_append_left (by rw [← h.1]; exact hi)]; exact a, b⟩
  · rw [List.getElem?_append_right (by omega)] at ht
    obtain ⟨xs, a, b⟩ := g.2 _ t ht
    refine ⟨xs, ?_, b⟩
    rw [List.getElem?_append_right (by rw [← h.1]; omega), ← h.1]
    exact a
theorem Its.nil {H : Hp} : Its H [] [] := ⟨rfl, fun i t ht => by simp at ht⟩
theorem Its.one {H : Hp} {t : Addr} {xs : List Int} (h : TI H t xs) : Its H [t] [xs] := ⟨rfl, fun i u hu => by
  match i, hu with
  | 0, hu =>
    obtain rfl : t = u := Option.some.inj hu
    exact ⟨xs, rfl, h⟩
  | i + 1, hu => simp at hu⟩
theorem Its.lt {H : Hp} {l : Addr} {ts : List Addr} {xss : List (List Int)} (h : Its H ts xss) (e : H l = some (.lst (ts.map V.ref))) : LT H l xss := ⟨ts, e, h.1, h.2⟩
abbrev s__law_partings : Stmt := topS 39
theorem sc__law_partings : FnScope ["many", "rows", "turn", "longer", "row", "block"] ["many"] (defScope s__law_partings) := ⟨rfl, rfl, rfl, by decide +kernel, rfl, by decide +kernel, by decide +kernel⟩
def spLParts : Sp := fun vs H Q _ => ∃ n : Nat, vs = [.int ((n + 1 : Nat) : Int)] ∧ n < 8 ∧ ∀ H' l, Same H H' → LT H' l (allP n) → Q (.ref l) H'
theorem ok_lparts (D : DefAt K mg "_law_partings" s__law_partings) (T : Bt mg) : Use P w K mg base "_law_partings" 1 ["many"] spLParts := by
  refine use_of D (fun f fd F => F.ok sc__law_partings (fun vs H Q E h => ?_) (fun cdv A outer s H vs Q E hr h => ?_)) (fun _ _ _ _ _ _ us hl => match us, hl with | [_], _ => rfl)
  · obtain ⟨n, rfl, _⟩ := h
    rfl
  · obtain ⟨n, rfl, hn, q⟩ := h
    refine ⟨_, (pss_cons (ps_set (i := 1) sc__law_partings.nd rfl (Or.inl rfl) (pe_lst (pa_cons (pe_tup (pa_cons pe_int pa_nil)) pa_nil)))
      (pss_cons (ps_for PassesOwn.never rfl (pi_range1 (by rfl) T.range (pa_cons (pe_op op_sub (pv 0) pe_int) pa_nil)) (pg_name (i := 2) sc__law_partings.nd rfl (Or.inl rfl))
      (pss_cons (ps_set (i := 3) sc__law_partings.nd rfl (Or.inl rfl) (pe_lst pa_nil))
      (pss_cons (ps_for PassesOwn.never rfl (k_list (K := K) rfl (pv 1)) (pg_name (i := 4) sc__law_partings.nd rfl (Or.inr rfl))
      (pss_one (ps_expr (k_bm (K := K) rfl PySem.F.plainAttrs_list PySem.F.slot_list_extend PySem.F.type_list_extend mt_extend (pv 3) (pa_cons (pe_lc (own := [("block", 5)]) rfl sc__law_partings.nd (pi_range1 (by rfl) T.range (pa_cons (pe_op op_add (pe_callB (k_maxT (K := K) rfl rfl hr.units) (by rfl) T.max (by decide +kernel) (pa_cons (pv 4) pa_nil)) pe_int) pa_nil)) (blkOk_by (N := ["many", "rows", "turn", "longer", "row", "block"]) (sc := defScope s__law_partings) (by decide +kernel)) (fun _ _ _ _ _ => (pg_name (i := 5) sc__law_partings.nd rfl (Or.inl rfl))) (fun _ _ _ _ _ => pts_nil) (fun _ _ _ _ _ => (pe_op (k_catT (K := K) rfl) (pv 4) (pe_tup (pa_cons (pv 5) pa_nil))))) pa_nil)))))
      (pss_one (ps_set (i := 1) sc__law_partings.nd rfl (Or.inl rfl) (pv 3))))))
      (pss_one (ps_ret (pv 1))))), ?_⟩
    refine ⟨by show 1 ≤ sizeLine; decide, fun t0 n0 => ⟨by show 1 ≤ sizeLine; decide, fun l0 nl0 => ?_⟩⟩
    have nt0 : t0 ≠ l0 := fun e => by rw [← e, upd_same] at nl0; cases nl0
    have s0 : Same H (upd (upd H t0 (.tup [.int 0])) l0 (.lst [.ref t0])) := (same_new n0).trans (same_new nl0)
    refine ⟨_, rfl, _, _, rfl, rfl, _, rfl, by omega, by omega, for_range (lo := 0) (n := (((n + 1 : Nat) : Int) - 1).toNat)
      (fun i σ H1 => ∃ l y2 y3 y4, σ = [some (.int ((n + 1 : Nat) : Int)), some (.ref l), y2, y3, y4, none] ∧ Same H H1 ∧ ∃ ts, H1 l = some (.lst (ts.map V.ref)) ∧ Its H1 ts (allP i))
      ⟨l0, none, none, none, rfl, s0, [t0], upd_same, Its.one ?_⟩ ?_ ?_⟩
    · show upd _ l0 _ t0 = _
      rw [upd_ne nt0, upd_same]
      rfl
    · rintro i σ H1 hi ⟨l, y2, y3, y4, rfl, sm, ts, el, it⟩
      have hi8 : i + 1 < 8 := by omega
      have cnt := allP_count ⟨i + 1, hi8⟩
      have e9 : ((allP i).flatMap ext).length ≤ 4140 := cnt
      refine ⟨Nat.zero_le _, fun L nL => ⟨_, rfl, l, rfl, ⟨_, sqL (same_new nL _ _ el)⟩, for_list (K := K) (a := l) (xs := ts.map V.ref)
        (fun k σ H2 => ∃ y4, σ = [some (.int ((n + 1 : Nat) : Int)), some (.ref l), some (.int (0 + (i : Nat))), some (.ref L), y4, none] ∧ Same H1 H2 ∧ ∃ us, H2 L = some (.lst (us.map V.ref)) ∧ Its H2 us (((allP i).take k).flatMap ext))
        ⟨y4, rfl, same_new nL, [], upd_same, Its.nil⟩ (fun k σ H2 _ ⟨_, _, s2, _⟩ => sqL (s2 _ _ el)) ?_ ?_⟩⟩
      · rintro k v σ H2 hk ⟨y4, rfl, s2, us, eL, iu⟩
        obtain ⟨t, ht, rfl⟩ := map_at hk
        obtain ⟨row, hrow, et⟩ := it.2 k t ht
        obtain ⟨rg, rl⟩ := allP_ok i row (List.mem_of_getElem? hrow)
        have et2 : TI H2 t row := et.mono s2
        have rne : row ≠ [] := fun e => by rw [e] at rl; cases rl
        have rpar : Par row := ⟨rne, by omega, rg⟩
        have b0 := bc_ge 0 row
        have b1 := bc_le 0 row
        refine ⟨_, rfl, .inl ⟨rfl, _, .inl (.inl eL)⟩, ?_⟩
        refine ⟨_, rfl, t, row, rfl, et2.seq, rne, fun m hm hle => ?_⟩
        have em := par_max rpar hm hle
        refine ⟨_, _, rfl, rfl, (m + 2 : Int), rfl, by omega, by omega, fun C nC => ?_⟩
        have en : (m + 2).toNat = (bc 0 row + 1).toNat := by omega
        have fl := flat_le ext hrow
        rw [ext_len] at fl
        refine lc_range (fun j H3 => Same H2 H3 ∧ ∃ cs, H3 C = some (.lst (cs.map V.ref)) ∧ Its H3 cs ((ext row).take j)) ⟨same_new nC, [], upd_same, Its.nil⟩ ?_ ?_
        · rintro j H3 hj ⟨s3, cs, eC, ic⟩
          have hj2 : j < (bc 0 row + 1).toNat := by omega
          have et3 : TI H3 t row := et2.mono s3
          refine ⟨rfl, _, rfl, _, rfl, by show 1 ≤ sizeLine; decide, fun c nc => ?_⟩
          have et4 : TI (upd H3 c (.tup [.int (0 + (j : Nat))])) t row := et3.mono (same_new nc)
          refine ⟨t, c, _, _, rfl, rfl, et4.seq, .inl (.inl upd_same), ?_, ?_, fun e => (by cases e), fun _ d nd => ?_⟩
          · intro e
            exact rne (List.map_eq_nil_iff.mp e)
          · rw [List.length_map]
            exact Nat.le_of_lt (small_of (by show row.length + 1 ≤ _; omega))
          · have ncC : c ≠ C := fun e => by rw [e, eC] at nc; cases nc
            have eC4 : upd H3 c (.tup [.int (0 + (j : Nat))]) C = some (.lst (cs.map V.ref)) := by rw [upd_ne ncC.symm]; exact eC
            have ndC : d ≠ C := fun e => by rw [e, eC4] at nd; cases nd
            have s34 : Same H3 (upd (upd H3 c (.tup [.int (0 + (j : Nat))])) d (.tup (row.map V.int ++ [.int (0 + (j : Nat))]))) := (same_new nc).trans (same_new nd)
            have lc' := ic.1
            rw [List.length_take, ext_len] at lc'
            refine ⟨_, s34 _ _ eC, ?_, same_mut (s3.trans s34) nC, cs ++ [d], ?_, ?_⟩
            · rw [List.length_map]
              exact small_of (by omega)
            · rw [upd_same, List.map_append]
              rfl
            · rw [ext_take hj2]
              refine Its.app ((ic.mono s34).put (s34 _ _ eC)) (Its.one ?_)
              show upd _ C _ d = _
              rw [upd_ne ndC, upd_same, List.map_append, show (0 : Int) + (j : Nat) = (j : Nat) by omega]
              rfl
        · rintro H3 ⟨s3, cs, eC, ic⟩
          rw [show (ext row).take (m + 2).toNat = ext row from List.take_of_length_le (by rw [ext_len]; omega)] at ic
          have l1 := ic.1
          have l2 := iu.1
          rw [ext_len] at l1
          have eL3 := s3 _ _ eL
          have nCL : C ≠ L := fun e => by rw [e, eL] at nC; cases nC
          refine ⟨L, C, _, _, rfl, rfl, eL3, eC, ?_, some (.ref t), rfl, same_mut (s2.trans s3) nL, us ++ cs, ?_, ?_⟩
          · rw [List.length_map, List.length_map]
            exact Nat.le_of_lt (small_of (by omega))
          · rw [upd_same, List.map_append]
          · rw [flat_take ext hrow]
            exact ((iu.mono s3).put eL3).app (ic.put eL3)
      · rintro σ H2 ⟨y4, rfl, s2, us, eL, iu⟩
        refine ⟨_, rfl, L, some (.int (0 + (i : Nat))), some (.ref L), y4, rfl, sm.trans s2, us, eL, ?_⟩
        rw [List.length_map, it.1, List.take_length] at iu
        exact iu
    · rintro σ H1 ⟨l, y2, y3, y4, rfl, sm, ts, el, it⟩
      have e : (((n + 1 : Nat) : Int) - 1).toNat = n := by omega
      rw [e] at it
      exact ⟨_, rfl, q H1 l sm (it.lt el)⟩
end
end KQ
namespace KQ
open PySem PySem.Spec PyProof.Rows L2 KR KM StX
section
variable {P : Program} {w : World} {K : PySem.W.Frag} {mg : Str → Option Value} {base : Heap}
def LabOf (L : List Int) (x : Nat) : Int := L.getD x 0
def spHung : Sp := fun vs H Q _ => ∃ a b p r, vs = [.ref a, .ref b] ∧ TI H a p ∧ TI H b r ∧ Par p ∧ Par r ∧ p.length = r.length ∧
  ∀ H' t l cl (ls : List Int), Same H H' → H' t = some (.tup [.ref l, cl]) → H' l = some (.lst (ls.map V.int)) → ls.length = (bc 0 p + bc 0 r).toNat →
    (∀ x y, x < ls.length → y < ls.length → (LabOf ls x = LabOf ls y ↔ glue (tiesOf p r) x y)) → Q (.ref t) H'
end
end KQ
namespace KQ
open PySem PySem.Spec PyProof.Rows L2 KR KM
/-- lists of one kernel number alike -/
theorem num_congr {α β : Type} [DecidableEq α] [DecidableEq β] {xs : List α} {ys : List β} (hl : ys.length = xs.length)
    (h : ∀ (i j : Nat) (x y : α) (u v : β), xs[i]? = some x → xs[j]? = some y → ys[i]? = some u → ys[j]? = some v → (x = y ↔ u = v)) : num xs = num ys := by
  refine num_is (by rw [num_len, hl]) (num_rg ys) fun i j x y u v hi hj ui vj => ?_
  have li := (List.getElem?_eq_some_iff.mp hi).1
  have lj := (List.getElem?_eq_some_iff.mp hj).1
  have yi : ys[i]? = some _ := List.getElem?_eq_getElem (by omega)
  have yj : ys[j]? = some _ := List.getElem?_eq_getElem (by omega)
  rw [num_ker yi yj ui vj]
  exact h i j x y _ _ hi hj yi yj
/-- ties and glue -/
theorem glue_mem {t : Nat × Nat} : ∀ {ts : List (Nat × Nat)}, t ∈ ts → glue ts t.1 t.2 := by
  intro ts
  have : ∀ n (ts : List (Nat × Nat)), ts.length = n → t ∈ ts → glue ts t.1 t.2 := by
    intro n
    induction n with
    | zero => intro ts hl ht; rw [List.eq_nil_of_length_eq_zero hl] at ht; cases ht
    | succ n ih =>
      intro ts hl ht
      have hne : ts ≠ [] := fun e => by rw [e] at hl; cases hl
      rw [← List.dropLast_concat_getLast hne] at ht ⊢
      rw [glue_snoc]
      rcases List.mem_append.mp ht with ht | ht
      · exact .inl (ih _ (by rw [List.length_dropLast, hl]; rfl) ht)
      · rw [List.mem_singleton.mp ht]
        exact .inr (.inl ⟨(glue_eqv _).refl _, (glue_eqv _).refl _⟩)
  exact this _ ts rfl
theorem glue_map {φ : Nat → Nat} : ∀ (ts : List (Nat × Nat)) (R R' : Nat → Nat → Prop), (∀ x y, R' (φ x) (φ y) ↔ R x y) →
    ∀ x y, (ts.map fun t => (φ t.2, φ t.1)).foldl (fun R t => J R t.1 t.2) R' (φ x) (φ y) ↔ ts.foldl (fun R t => J R t.1 t.2) R x y
  | [], R, R', h, x, y => h x y
  | t :: ts, R, R', h, x, y => by
    refine glue_map ts (J R t.1 t.2) (J R' (φ t.2) (φ t.1)) (fun a b => ?_) x y
    unfold J
    rw [h, h, h, h, h]
    constructor
    · rintro (q | q | q)
      · exact .inl q
      · exact .inr (.inr q)
      · exact .inr (.inl q)
    · rintro (q | q | q)
      · exact .inl q
      · exact .inr (.inr q)
      · exact .inr (.inl q)
theorem zip_swap : ∀ (p r : List Int), r.zip p = (p.zip r).map fun q => (q.2, q.1)
  | [], [] => rfl
  | [], _ :: _ => rfl
  | _ :: _, [] => rfl
  | a :: p, b :: r => by
    rw [List.zip_cons_cons, List.zip_cons_cons, List.map_cons, zip_swap p r]
section
variable {p r : List Int}
theorem zip_at {i : Nat} {x y : Int} (hx : p[i]? = some x) (hy : r[i]? = some y) : (p.zip r)[i]? = some (x, y) := by
  rw [List.getElem?_zip_eq_some]
  exact ⟨hx, hy⟩
theorem tie_at {i : Nat} {x y : Int} (hx : p[i]? = some x) (hy : r[i]? = some y) : glue (tiesOf p r) x.toNat (bc 0 p + y).toNat :=
  glue_mem (t := (x.toNat, (bc 0 p + y).toNat)) (List.mem_of_getElem? (ties_at hx hy))
/-- the blocks of the one and of the other, named the other way about -/
def flip (P R x : Nat) : Nat := if x < P then R + x else if x < P + R then x - P else x
theorem flip_inj {P R x y : Nat} : flip P R x = flip P R y ↔ x = y := by
  unfold flip
  split <;> split <;> (try split) <;> (try split) <;> omega
theorem glue_flip (hp : Rg 0 p) (hr : Rg 0 r) (x y : Nat) :
    glue (tiesOf r p) (flip (bc 0 p).toNat (bc 0 r).toNat x) (flip (bc 0 p).toNat (bc 0 r).toNat y) ↔ glue (tiesOf p r) x y := by
  have e : tiesOf r p = (tiesOf p r).map fun t => (flip (bc 0 p).toNat (bc 0 r).toNat t.2, flip (bc 0 p).toNat (bc 0 r).toNat t.1) := by
    unfold tiesOf
    rw [List.map_map, zip_swap p r, List.map_map]
    refine List.map_congr_left fun q hq => ?_
    have h1 := (rg_mem 0 p (Int.le_refl _) hp).1 q.1 (List.of_mem_zip hq).1
    have h2 := (rg_mem 0 r (Int.le_refl _) hr).1 q.2 (List.of_mem_zip hq).2
    have e1 : flip (bc 0 p).toNat (bc 0 r).toNat (bc 0 p + q.2).toNat = q.2.toNat := by
      unfold flip
      rw [if_neg (by omega), if_pos (by omega)]
      omega
    have e2 : flip (bc 0 p).toNat (bc 0 r).toNat q.1.toNat = (bc 0 r + q.1).toNat := by
      unfold flip
      rw [if_pos (by omega)]
      omega
    show (q.2.toNat, (bc 0 r + q.1).toNat) = (_, _)
    rw [e1, e2]
  rw [e]
  exact glue_map (tiesOf p r) Eq Eq (fun _ _ => flip_inj) x y
/-- above of the one and the other, either way -/
theorem above_flip (hp : Rg 0 p) (hr : Rg 0 r) (hl : p.length = r.length) {L L' : Nat → Int} (h : ∀ x y, L x = L y ↔ glue (tiesOf p r) x y) (h' : ∀ x y, L' x = L' y ↔ glue (tiesOf r p) x y) :
    num (r.map fun b => L' b.toNat) = num (p.map fun b => L b.toNat) := by
  refine num_congr (by rw [List.length_map, List.length_map, hl]) fun i j x y u v hx hy hu hv => ?_
  obtain ⟨x, hx', rfl⟩ := map_at hx
  obtain ⟨y, hy', rfl⟩ := map_at hy
  obtain ⟨u, hu', rfl⟩ := map_at hu
  obtain ⟨v, hv', rfl⟩ := map_at hv
  rw [h, h']
  have a1 := (rg_mem 0 r (Int.le_refl _) hr).1 x (List.mem_of_getElem? hx')
  have a2 := (rg_mem 0 r (Int.le_refl _) hr).1 y (List.mem_of_getElem? hy')
  have f : ∀ z : Int, 0 ≤ z → z < bc 0 r → flip (bc 0 p).toNat (bc 0 r).toNat (bc 0 p + z).toNat = z.toNat := by
    intro z z0 z1
    have := bc_ge 0 p
    unfold flip
    rw [if_neg (by omega), if_pos (by omega)]
    omega
  rw [← f x a1.1 a1.2, ← f y a2.1 a2.2, glue_flip hp hr]
  have E := glue_eqv (tiesOf p r)
  have t1 := tie_at hu' hx'
  have t2 := tie_at hv' hy'
  constructor
  · intro q
    exact E.trans _ _ _ t1 (E.trans _ _ _ q (E.symm _ _ t2))
  · intro q
    exact E.trans _ _ _ (E.symm _ _ t1) (E.trans _ _ _ q t2)
/-- above by labels -/
theorem above_labels (hp : Rg 0 p) {L : Nat → Int} {ls : List Int} (hlen : bc 0 p ≤ ls.length) (h : ∀ x y, L x = L y ↔ glue (tiesOf p r) x y)
    (hg : ∀ x y, x < ls.length → y < ls.length → (LabOf ls x = LabOf ls y ↔ glue (tiesOf p r) x y)) : num (p.map fun b => LabOf ls b.toNat) = num (p.map fun b => L b.toNat) := by
  refine num_congr (by rw [List.length_map, List.length_map]) fun i j x y u v hx hy hu hv => ?_
  obtain ⟨x, hx', rfl⟩ := map_at hx
  obtain ⟨y, hy', rfl⟩ := map_at hy
  obtain ⟨u, hu', rfl⟩ := map_at hu
  obtain ⟨v, hv', rfl⟩ := map_at hv
  rw [hx'] at hu'
  rw [hy'] at hv'
  obtain rfl := Option.some.inj hu'
  obtain rfl := Option.some.inj hv'
  have a1 := (rg_mem 0 p (Int.le_refl _) hp).1 x (List.mem_of_getElem? hx')
  have a2 := (rg_mem 0 p (Int.le_refl _) hp).1 y (List.mem_of_getElem? hy')
  rw [hg x.toNat y.toNat (by omega) (by omega), h]
theorem num_at {α : Type} [DecidableEq α] {xs : List α} {i j : Nat} {x y : α} {u v : Int} (hi : xs[i]? = some x) (hj : xs[j]? = some y) (ui : (num xs)[i]? = some u) (vj : (num xs)[j]? = some v) (e : x = y) : u = v :=
  (num_ker hi hj ui vj).mpr e
theorem at_some {α : Type} {xs : List α} {i : Nat} (h : i < xs.length) : ∃ x, xs[i]? = some x := ⟨_, List.getElem?_eq_getElem h⟩
theorem finer_above1 {L : Nat → Int} : Finer p (num (p.map fun b => L b.toNat)) := by
  intro i j x y z hi hj yi zj
  exact num_at (at_map (f := fun b : Int => L b.toNat) hi) (at_map hj) yi zj rfl
theorem finer_above2 (hl : p.length = r.length) {L : Nat → Int} (h : ∀ x y, L x = L y ↔ glue (tiesOf p r) x y) : Finer r (num (p.map fun b => L b.toNat)) := by
  intro i j x y z hi hj yi zj
  have li := (List.getElem?_eq_some_iff.mp hi).1
  have lj := (List.getElem?_eq_some_iff.mp hj).1
  obtain ⟨u, hu⟩ := at_some (xs := p) (i := i) (by omega)
  obtain ⟨v, hv⟩ := at_some (xs := p) (i := j) (by omega)
  refine num_at (at_map (f := fun b : Int => L b.toNat) hu) (at_map hv) yi zj ((h _ _).mpr ?_)
  have E := glue_eqv (tiesOf p r)
  exact E.trans _ _ _ (tie_at hu hi) (E.symm _ _ (tie_at hv hj))
theorem finer_below1 (hl : p.length = r.length) : Finer (num (p.zip r)) p := by
  intro i j x y z hi hj yi zj
  have li := (List.getElem?_eq_some_iff.mp yi).1
  have lj := (List.getElem?_eq_some_iff.mp zj).1
  obtain ⟨u, hu⟩ := at_some (xs := r) (i := i) (by omega)
  obtain ⟨v, hv⟩ := at_some (xs := r) (i := j) (by omega)
  have := (num_ker (zip_at yi hu) (zip_at zj hv) hi hj).mp rfl
  exact (Prod.mk.inj this).1
theorem finer_below2 (hl : p.length = r.length) : Finer (num (p.zip r)) r := by
  intro i j x y z hi hj yi zj
  have li := (List.getElem?_eq_some_iff.mp yi).1
  have lj := (List.getElem?_eq_some_iff.mp zj).1
  obtain ⟨u, hu⟩ := at_some (xs := p) (i := i) (by omega)
  obtain ⟨v, hv⟩ := at_some (xs := p) (i := j) (by omega)
  have := (num_ker (zip_at hu yi) (zip_at hv zj) hi hj).mp rfl
  exact (Prod.mk.inj this).2
end
/-- codes of blocks -/
def Code (b v : Int) : Prop := ∃ d s : Int, 0 ≤ d ∧ (s = 1 ∨ s = -1) ∧ v = (d * 61 + b) * s
theorem code_inj {b b' v : Int} (h : Code b v) (h' : Code b' v) (b0 : 0 ≤ b) (b1 : b < 61) (c0 : 0 ≤ b') (c1 : b' < 61) : b = b' := by
  obtain ⟨d, s, d0, hs, e⟩ := h
  obtain ⟨d', s', d0', hs', e'⟩ := h'
  rcases hs with rfl | rfl <;> rcases hs' with rfl | rfl <;> omega
theorem num_codes {p xs : List Int} (hp : Rg 0 p) (p60 : p.length ≤ 60) (hl : xs.length = p.length) (h : ∀ (i : Nat) (x v : Int), p[i]? = some x → xs[i]? = some v → Code x v)
    (hf : ∀ (i j : Nat) (x u v : Int), p[i]? = some x → p[j]? = some x → xs[i]? = some u → xs[j]? = some v → u = v) : num xs = p := by
  refine num_is hl.symm hp fun i j x y u v hx hy hu hv => ⟨fun e => ?_, fun e => ?_⟩
  · have a1 := (rg_mem 0 p (Int.le_refl _) hp).1 u (List.mem_of_getElem? hu)
    have a2 := (rg_mem 0 p (Int.le_refl _) hp).1 v (List.mem_of_getElem? hv)
    have g := bc_le 0 p
    subst e
    exact code_inj (h i u x hu hx) (h j v x hv hy) a1.1 (by omega) a2.1 (by omega)
  · subst e
    exact hf i j u x y hu hv hx hy
end KQ
namespace KM
/-! ### heads that lead to roots, in any order -/
structure Wood (hs : List Nat) (ρ d : Nat → Nat) : Prop where
  root : ∀ x, up hs (ρ x) = ρ x
  self : ∀ x, up hs x = x → ρ x = x
  step : ∀ x, ρ (up hs x) = ρ x
  down : ∀ x, up hs x ≠ x → d (up hs x) < d x
  lt : ∀ x, x < hs.length → up hs x < hs.length
  rlt : ∀ x, x < hs.length → ρ x < hs.length
theorem wood_range (n : Nat) : Wood (List.range n) id (fun _ => 0) :=
  ⟨fun x => up_range n x, fun _ _ => rfl, fun x => up_range n x, fun x h => absurd (up_range n x) h, fun x h => by rw [up_range]; exact h, fun _ h => h⟩
theorem wood_unite {hs : List Nat} {ρ d : Nat → Nat} (w : Wood hs ρ d) {a b : Nat} (ha : a < hs.length) (hb : b < hs.length) (ea : up hs a = a) (eb : up hs b = b) (ne : a ≠ b) :
    Wood (hs.set b a) (fun y => if ρ y = b then a else ρ y) (fun y => d y + if ρ y = b then d a + 1 else 0) := by
  have ra := w.self a ea
  have rb := w.self b eb
  refine ⟨fun x => ?_, fun x => ?_, fun x => ?_, fun x => ?_, fun x hx => ?_, fun x hx => ?_⟩
  · show up (hs.set b a) (if ρ x = b then a else ρ x) = if ρ x = b then a else ρ x
    rw [up_set hb]
    by_cases e : ρ x = b
    · rw [if_pos e, if_neg ne, ea]
    · rw [if_neg e, if_neg e, w.root]
  · rw [up_set hb]
    show _ → (if ρ x = b then a else ρ x) = x
    by_cases e : x = b
    · rw [if_pos e]
      intro z
      exact absurd (z.trans e) ne
    · rw [if_neg e]
      intro z
      rw [w.self x z, if_neg e]
  · show (if ρ (up (hs.set b a) x) = b then a else ρ (up (hs.set b a) x)) = if ρ x = b then a else ρ x
    rw [up_set hb]
    by_cases e : x = b
    · subst e
      rw [if_pos rfl, ra, if_neg ne, rb, if_pos rfl]
    · rw [if_neg e, w.step]
  · show _ → d (up (hs.set b a) x) + (if ρ (up (hs.set b a) x) = b then d a + 1 else 0) < d x + (if ρ x = b then d a + 1 else 0)
    rw [up_set hb]
    by_cases e : x = b
    · subst e
      rw [if_pos rfl, ra, if_neg ne, rb, if_pos rfl]
      intro _
      omega
    · rw [if_neg e, w.step]
      intro z
      have := w.down x z
      omega
  · rw [List.length_set] at hx ⊢
    rw [up_set hb]
    split
    · exact ha
    · exact w.lt x hx
  · rw [List.length_set] at hx ⊢
    show (if ρ x = b then a else ρ x) < hs.length
    split
    · exact ha
    · exact w.rlt x hx
theorem wood_tie {ρ : Nat → Nat} {R : Nat → Nat → Prop} {a b : Nat} (h : ∀ x y, ρ x = ρ y ↔ R x y) (x y : Nat) :
    ((if ρ x = ρ b then ρ a else ρ x) = if ρ y = ρ b then ρ a else ρ y) ↔ J R a b x y := by
  unfold J
  rw [← h x y, ← h x a, ← h b y, ← h x b, ← h a y]
  generalize ρ x = rx
  generalize ρ y = ry
  generalize ρ a = ra
  generalize ρ b = rb
  split <;> split <;> omega
end KM
namespace KQ
open PySem PySem.Spec PyProof.Rows L2 KR KM StX
section
variable {P : Program} {w : World} {K : PySem.W.Frag} {mg : Str → Option Value} {base : Heap}
/-- no door closes a ring with doors ahead of it -/
def RingAt (p r : List Int) (i : Nat) : Prop := ∃ x y, p[i]? = some x ∧ r[i]? = some y ∧ glue ((tiesOf p r).take i) x.toNat (bc 0 p + y).toNat
def NoRing (p r : List Int) : Prop := ∀ i, ¬ RingAt p r i
theorem ring_lt {p r : List Int} {i : Nat} (h : RingAt p r i) : i < p.length := by
  obtain ⟨x, y, hx, _⟩ := h
  exact (List.getElem?_eq_some_iff.mp hx).1
abbrev s_has_no_ring : Stmt := topS 18
theorem sc_has_no_ring : FnScope ["parting", "other", "many", "heads", "low", "high"] ["parting", "other"] (defScope s_has_no_ring) := ⟨rfl, rfl, rfl, by decide +kernel, rfl, by decide +kernel, by decide +kernel⟩
def spNoRing : Sp := fun vs H Q _ => ∃ a b p r, vs = [.ref a, .ref b] ∧ TI H a p ∧ TI H b r ∧ Par p ∧ Par r ∧ p.length = r.length ∧
  ∀ H' c, Same H H' → (c = true ↔ NoRing p r) → Q (.bl c) H'
theorem ok_has_no_ring (D : DefAt K mg "has_no_ring" s_has_no_ring) (T : Bt mg) (u_block_count : Use P w K mg base "block_count" 1 ["parting"] spCount) : Use P w K mg base "has_no_ring" 3 ["parting", "other"] spNoRing := by
  refine use_of D (fun f fd F => F.ok sc_has_no_ring (fun vs H Q E h => ?_) (fun cdv A outer s H vs Q E hr h => ?_)) (fun _ _ _ _ _ _ us hl => match us, hl with | [_, _], _ => rfl)
  · obtain ⟨a, b, p, r, rfl, _⟩ := h
    rfl
  · obtain ⟨a, b, p, r, rfl, hp, hb, par, parb, hl, q⟩ := h
    refine ⟨_, (pss_cons (ps_set (i := 2) sc_has_no_ring.nd rfl (Or.inl rfl) (pe_use u_block_count (by decide) hr (by rfl) (pa_cons (pv 0) pa_nil)))
      (pss_cons (ps_set (i := 3) sc_has_no_ring.nd rfl (Or.inl rfl) (pe_listRg rfl (by rfl) T.list (prg_1 (by rfl) T.range (pe_op op_add (pv 2) (pe_use u_block_count (by decide) hr (by rfl) (pa_cons (pv 1) pa_nil))))))
      (pss_cons (ps_for PassesOwn.never rfl (k_zip (K := K) rfl (by rfl) T.zip (pa_cons (pv 0) (pa_cons (pv 1) pa_nil))) (pg_tup rfl (pgs_cons (pg_name (i := 4) sc_has_no_ring.nd rfl (Or.inl rfl)) (pgs_cons (pg_name (i := 5) sc_has_no_ring.nd rfl (Or.inl rfl)) pgs_nil)))
      (pss_cons (ps_aug (i := 5) sc_has_no_ring.nd rfl (Or.inl rfl) (pv 2) ip_add)
      (pss_cons (ps_while PassesOwn.never (pt_cmpR op_ne (pe_ix (k_ixl (K := K) rfl) (pv 3) (pv 4) (fun _ _ => rfl)) (pv 4) (nomark _)) (pss_one (ps_set (i := 4) sc_has_no_ring.nd rfl (Or.inl rfl) (pe_ix (k_ixl (K := K) rfl) (pv 3) (pv 4) (fun _ _ => rfl)))))
      (pss_cons (ps_while PassesOwn.never (pt_cmpR op_ne (pe_ix (k_ixl (K := K) rfl) (pv 3) (pv 5) (fun _ _ => rfl)) (pv 5) (nomark _)) (pss_one (ps_set (i := 5) sc_has_no_ring.nd rfl (Or.inl rfl) (pe_ix (k_ixl (K := K) rfl) (pv 3) (pv 5) (fun _ _ => rfl)))))
      (pss_cons (ps_if (pt_cmpR op_eq (pv 4) (pv 5) (nomark _)) (pss_one (ps_ret pe_bl)) pss_nil)
      (pss_one (ps_asg (pv 4) (pg_sub (pv 3) (pv 5) set_list))))))))
      (pss_one (ps_ret pe_bl))))), ?_⟩
    have g0 := bc_ge 0 p
    have g1 := bc_le 0 p
    have g2 := par.le
    have g3 := bc_ge 0 r
    have g4 := bc_le 0 r
    have g5 := parb.le
    refine ⟨_, rfl, a, p, rfl, hp, par, ?_⟩
    refine ⟨_, rfl, _, rfl, b, r, rfl, hb, parb, bc 0 p, bc 0 r, rfl, rfl, _, rfl, RgOk.of_le (by omega) (by omega) (by omega) (by omega), fun l nl => ?_⟩
    have s2 : Same H (upd H l (.lst (rgV 0 (bc 0 p + bc 0 r)))) := same_new nl
    have el2 : (upd H l (.lst (rgV 0 (bc 0 p + bc 0 r)))) l = some (.lst (hv (List.range (bc 0 p + bc 0 r).toNat))) := by
      rw [upd_same, ← rgV_hv, show (((bc 0 p + bc 0 r).toNat : Nat) : Int) = bc 0 p + bc 0 r by omega]
    refine ⟨_, rfl, _, rfl, a, b, _, _, rfl, .inr ⟨(hp.mono s2).seq, (hb.mono s2).seq, ?_⟩⟩
    refine RZ.for_zipT (K := K) (a := a) (b := b) (xs := p.map V.int) (ys := r.map V.int) (by rw [List.length_map, List.length_map, hl])
      (fun i σ H3 => ∃ y4 y5, σ = [some (.ref a), some (.ref b), some (.int (bc 0 p)), some (.ref l), y4, y5] ∧ Same H H3 ∧ (∀ j, j < i → ¬ RingAt p r j) ∧ ∃ hs ρ d, H3 l = some (.lst (hv hs)) ∧ Wood hs ρ d ∧ hs.length = (bc 0 p + bc 0 r).toNat ∧
        ∀ x y, ρ x = ρ y ↔ glue ((tiesOf p r).take i) x y)
      ⟨none, none, rfl, s2, fun j hj => absurd hj (Nat.not_lt_zero _), List.range (bc 0 p + bc 0 r).toNat, _, _, el2, wood_range _, List.length_range, fun x y => Iff.rfl⟩
      (fun i σ H3 ⟨_, _, _, sm, _⟩ => ⟨(hp.mono sm).seq, (hb.mono sm).seq⟩) ?_ ?_
    · rintro i v1 v2 T1 σ H3 hi1 hi2 ⟨y4, y5, rfl, sm, nr, hs, ρ, d, el3, wd, hlen, hgl⟩ hT
      obtain ⟨x, hx, rfl⟩ := map_at hi1
      obtain ⟨y, hy, rfl⟩ := map_at hi2
      obtain ⟨x0, x1⟩ := (rg_mem 0 p (Int.le_refl _) par.rg).1 x (List.mem_of_getElem? hx)
      obtain ⟨y0, y1⟩ := (rg_mem 0 r (Int.le_refl _) parb.rg).1 y (List.mem_of_getElem? hy)
      refine ⟨T1, _, rfl, .inl (.inl upd_same), rfl, _, _, rfl, _, [], rfl, rfl, ?_⟩
      have el4 : (upd H3 T1 (.tup [.int x, .int y])) l = some (.lst (hv hs)) := by rw [upd_ne (ne_of_none el3 hT)]; exact el3
      refine ⟨_, rfl, _, rfl, y, bc 0 p, rfl, rfl, ?_⟩
      have hyh : y + bc 0 p = (((bc 0 p + y).toNat : Nat) : Int) := by omega
      have hxh : x = ((x.toNat : Nat) : Int) := by omega
      generalize hX : x.toNat = xn at hxh
      generalize hY : (bc 0 p + y).toNat = yn at hyh
      have hxn : xn < hs.length := by omega
      have hyn : yn < hs.length := by omega
      refine ⟨fun g σ H4 => ∃ z : Nat, σ = [some (.ref a), some (.ref b), some (.int (bc 0 p)), some (.ref l), some (.int ((z : Nat) : Int)), some (.int ((yn : Nat) : Int))] ∧ g = d z ∧ ρ z = ρ xn ∧ z < hs.length ∧
        H4 = upd H3 T1 (.tup [.int x, .int y]), ⟨_, xn, by rw [← hxh, ← hyh]; rfl, rfl, rfl, hxn, rfl⟩, ?_⟩
      rintro g σ H4 ⟨z, rfl, rfl, hz, hzl, rfl⟩
      have az := hv_at hzl
      refine ⟨_, rfl, _, rfl, l, hv hs, ((z : Nat) : Int), .int ((up hs z : Nat) : Int), rfl, rfl, .inl (.inl el4), atI_of rfl az, _, rfl, rfl, _, rfl, ite2 (fun e => ?_) (fun e => ?_)⟩
      · have ne : up hs z ≠ z := by
          intro e2
          rw [e2, decide_eq_true rfl] at e
          cases e
        refine ⟨_, fun σ' H' n => n, ?_⟩
        refine ⟨_, rfl, _, rfl, l, hv hs, ((z : Nat) : Int), .int ((up hs z : Nat) : Int), rfl, rfl, .inl (.inl el4), atI_of rfl az, ?_⟩
        exact ⟨d (up hs z), wd.down z ne, up hs z, rfl, rfl, by rw [wd.step]; exact hz, wd.lt z hzl, rfl⟩
      · have ez : up hs z = z := by
          apply Classical.byContradiction
          intro ne
          refine e ?_
          rw [decide_eq_false (fun z => ne (by have := V.int.inj z; omega))]
          rfl
        have rz := wd.self z ez
        refine ⟨fun g σ H4 => ∃ u : Nat, σ = [some (.ref a), some (.ref b), some (.int (bc 0 p)), some (.ref l), some (.int ((z : Nat) : Int)), some (.int ((u : Nat) : Int))] ∧ g = d u ∧ ρ u = ρ yn ∧ u < hs.length ∧
          H4 = upd H3 T1 (.tup [.int x, .int y]), ⟨_, yn, rfl, rfl, rfl, hyn, rfl⟩, ?_⟩
        rintro g σ H4 ⟨u, rfl, rfl, hu, hul, rfl⟩
        have au := hv_at hul
        refine ⟨_, rfl, _, rfl, l, hv hs, ((u : Nat) : Int), .int ((up hs u : Nat) : Int), rfl, rfl, .inl (.inl el4), atI_of rfl au, _, rfl, rfl, _, rfl, ite2 (fun e => ?_) (fun e => ?_)⟩
        · have ne : up hs u ≠ u := by
            intro e2
            rw [e2, decide_eq_true rfl] at e
            cases e
          refine ⟨_, fun σ' H' n => n, ?_⟩
          refine ⟨_, rfl, _, rfl, l, hv hs, ((u : Nat) : Int), .int ((up hs u : Nat) : Int), rfl, rfl, .inl (.inl el4), atI_of rfl au, ?_⟩
          exact ⟨d (up hs u), wd.down u ne, up hs u, rfl, rfl, by rw [wd.step]; exact hu, wd.lt u hul, rfl⟩
        · have eu : up hs u = u := by
            apply Classical.byContradiction
            intro ne
            refine e ?_
            rw [decide_eq_false (fun z => ne (by have := V.int.inj z; omega))]
            rfl
          have ru := wd.self u eu
          refine ⟨_, rfl, _, rfl, rfl, _, rfl, ite2 (fun e2 => ?_) (fun e2 => ?_)⟩
          · have e3 : z = u := by have := V.int.inj (of_decide_eq_true e2); omega
            refine q _ false (fun c v hc => same_new hT c v (sm c v hc)) ⟨fun z => absurd z (by decide), fun nring => ?_⟩
            refine absurd ⟨x, y, hx, hy, (hgl _ _).mp ?_⟩ (nring i)
            rw [hX, hY, ← hz, ← hu, e3]
          · have e3 : z ≠ u := fun e4 => e2 (decide_eq_true (by rw [e4]))
            refine ⟨_, rfl, _, rfl, _, rfl, l, _, _, _, rfl, rfl, el4, ixN_nat rfl (by rw [hv_len]; exact hul), ?_⟩
            rw [hv_set]
            refine ⟨_, _, rfl, fun c v hc => by rw [upd_ne (ne_of_none hc nl)]; exact same_new hT c v (sm c v hc), fun j hj => ?_, hs.set u z, _, _, upd_same, wood_unite wd hzl hul ez eu e3, by rw [List.length_set]; exact hlen, fun v1 v2 => ?_⟩
            · by_cases ej : j = i
              · rintro ⟨x', y', hx', hy', hg'⟩
                subst ej
                rw [hx] at hx'
                rw [hy] at hy'
                obtain rfl := Option.some.inj hx'
                obtain rfl := Option.some.inj hy'
                have := (hgl _ _).mpr hg'
                rw [hX, hY, ← hz, ← hu, rz, ru] at this
                exact e3 this
              · exact nr j (by omega)
            · rw [take_snoc (ties_at hx hy), glue_snoc]
              have := wood_tie (a := xn) (b := yn) hgl v1 v2
              rw [← hz, ← hu, rz, ru] at this
              rw [hX, hY]
              exact this
    · rintro σ H3 ⟨y4, y5, rfl, sm, nr, _⟩
      rw [List.length_map] at nr
      exact q H3 true sm ⟨fun _ i hi => nr i (ring_lt hi) hi, fun _ => rfl⟩
abbrev s_meets : Stmt := topS 19
theorem sc_meets : FnScope ["parting", "other"] ["parting", "other"] (defScope s_meets) := ⟨rfl, rfl, rfl, by decide +kernel, rfl, by decide +kernel, by decide +kernel⟩
def Tree (p r : List Int) : Prop := bc 0 p + bc 0 r = p.length + 1 ∧ NoRing p r
def spMeets : Sp := fun vs H Q _ => ∃ a b p r, vs = [.ref a, .ref b] ∧ TI H a p ∧ TI H b r ∧ Par p ∧ Par r ∧ p.length = r.length ∧ ∀ H' c, Same H H' → (c = true ↔ Tree p r) → Q (.bl c) H'
theorem ok_meets (D : DefAt K mg "meets" s_meets) (T : Bt mg) (u_block_count : Use P w K mg base "block_count" 1 ["parting"] spCount) (u_has_no_ring : Use P w K mg base "has_no_ring" 3 ["parting", "other"] spNoRing) :
    Use P w K mg base "meets" 4 ["parting", "other"] spMeets := by
  refine use_of D (fun f fd F => F.ok sc_meets (fun vs H Q E h => ?_) (fun cdv A outer s H vs Q E hr h => ?_)) (fun _ _ _ _ _ _ us hl => match us, hl with | [_, _], _ => rfl)
  · obtain ⟨a, b, p, r, rfl, _⟩ := h
    rfl
  · obtain ⟨a, b, p, r, rfl, hp, hb, par, parb, hl, q⟩ := h
    refine ⟨_, (pss_cons (ps_if (pt_cmpR op_ne (pe_op op_add (pe_use u_block_count (by decide) hr (by rfl) (pa_cons (pv 0) pa_nil)) (pe_use u_block_count (by decide) hr (by rfl) (pa_cons (pv 1) pa_nil))) (pe_op op_add (pe_callB (k_len (K := K) rfl) (by rfl) T.len PySem.boot_len (pa_cons (pv 0) pa_nil)) pe_int) (nomark _)) (pss_one (ps_ret pe_bl)) pss_nil)
      (pss_one (ps_ret (pe_use u_has_no_ring (by decide) hr (by rfl) (pa_cons (pv 0) (pa_cons (pv 1) pa_nil)))))), ?_⟩
    refine ⟨_, rfl, a, p, rfl, hp, par, ⟨_, rfl, b, r, rfl, hb, parb, _, _, rfl, rfl, _, rfl, a, _, rfl, .inr hp.seq, _, _, rfl, rfl, rfl, _, rfl, ?_⟩⟩
    rw [List.length_map]
    by_cases e : bc 0 p + bc 0 r = p.length + 1
    · rw [decide_eq_true (congrArg V.int e)]
      exact ⟨_, rfl, _, rfl, a, b, p, r, rfl, hp, hb, par, parb, hl, fun H' c s hc => q H' c s (hc.trans ⟨fun h => ⟨e, h⟩, fun h => h.2⟩)⟩
    · rw [decide_eq_false (fun z => e (V.int.inj z))]
      exact q H false (fun _ _ z => z) ⟨fun z => absurd z (by decide), fun z => absurd z.1 e⟩
end
end KQ
namespace KM
/-- how many unlike items -/
def dcount (xs : List Int) : Nat := (firsts xs).length
theorem sub_len {α : Type} [DecidableEq α] : ∀ {xs ys : List α}, xs.Nodup → (∀ x ∈ xs, x ∈ ys) → xs.length ≤ ys.length
  | [], _, _, _ => Nat.zero_le _
  | x :: xs, ys, h, s => by
    have hx := s x List.mem_cons_self
    rw [List.nodup_cons] at h
    have e := List.length_erase_of_mem hx
    have l := List.length_pos_of_mem hx
    have := sub_len (xs := xs) (ys := ys.erase x) h.2 fun y hy => (List.mem_erase_of_ne (fun q : y = x => h.1 (by rw [← q]; exact hy))).mpr (s y (List.mem_cons_of_mem _ hy))
    rw [List.length_cons]
    omega
theorem same_len {α : Type} [DecidableEq α] {xs ys : List α} (h : xs.Nodup) (g : ys.Nodup) (e : ∀ x, x ∈ xs ↔ x ∈ ys) : xs.length = ys.length :=
  Nat.le_antisymm (sub_len h fun x hx => (e x).mp hx) (sub_len g fun x hx => (e x).mpr hx)
/-- one of two unlike items put for the other -/
theorem dcount_merge {xs : List Int} {u v : Int} (hu : u ∈ xs) (hv : v ∈ xs) (n : u ≠ v) : dcount (xs.map fun z => if z = v then u else z) + 1 = dcount xs := by
  unfold dcount
  have hv' : v ∈ firsts xs := (mem_firsts xs).mpr hv
  have l := List.length_pos_of_mem hv'
  have e := List.length_erase_of_mem hv'
  have := same_len (firsts_nodup (xs.map fun z => if z = v then u else z)) ((firsts_nodup xs).erase v) (fun x => by
    rw [mem_firsts, (firsts_nodup xs).mem_erase_iff, mem_firsts, List.mem_map]
    constructor
    · rintro ⟨z, hz, rfl⟩
      by_cases q : z = v
      · rw [if_pos q]
        exact ⟨n, hu⟩
      · rw [if_neg q]
        exact ⟨q, hz⟩
    · rintro ⟨q, hx⟩
      exact ⟨x, hx, by rw [if_neg q]⟩)
  omega
theorem dcount_range (n : Nat) : dcount ((List.range n).map fun k => ((k : Nat) : Int)) = n := by
  unfold dcount
  have nd : ((List.range n).map fun k => ((k : Nat) : Int)).Nodup := List.pairwise_map.mpr (List.nodup_range.imp fun h e => h (by omega))
  rw [same_len (firsts_nodup _) nd fun x => mem_firsts _, List.length_map, List.length_range]
/-- lists of the same items -/
theorem dcount_same {xs ys : List Int} (h : ∀ x, x ∈ xs ↔ x ∈ ys) : dcount xs = dcount ys :=
  same_len (firsts_nodup _) (firsts_nodup _) fun x => by rw [mem_firsts, mem_firsts, h]
theorem dcount_num (xs : List Int) : ((dcount xs : Nat) : Int) = bc 0 (num xs) := (firsts_len xs).1
end KM
namespace KQ
open PySem PySem.Spec PyProof.Rows L2 KR KM StX
section
variable {P : Program} {w : World} {K : PySem.W.Frag} {mg : Str → Option Value} {base : Heap}
/-- what the door says that closes the first ring, with the doors ahead of i -/
def ClosedBy (p r : List Int) (i : Nat) (cl : V) : Prop := (cl = .non ∧ ∀ j, j < i → ¬ RingAt p r j) ∨ ∃ n : Nat, cl = .int ((n : Nat) : Int) ∧ n < i ∧ RingAt p r n ∧ ∀ j, j < n → ¬ RingAt p r j
theorem closed_next {p r : List Int} {i : Nat} {cl : V} (h : ClosedBy p r i cl) (n : ¬ RingAt p r i) : ClosedBy p r (i + 1) cl := by
  rcases h with ⟨e, h⟩ | ⟨k, e, hk, h1, h2⟩
  · refine .inl ⟨e, fun j hj => ?_⟩
    by_cases q : j = i
    · rw [q]
      exact n
    · exact h j (by omega)
  · exact .inr ⟨k, e, by omega, h1, h2⟩
def spHung2 : Sp := fun vs H Q _ => ∃ a b p r, vs = [.ref a, .ref b] ∧ TI H a p ∧ TI H b r ∧ Par p ∧ Par r ∧ p.length = r.length ∧
  ∀ H' t l cl (ls : List Int), Same H H' → H' t = some (.tup [.ref l, cl]) → H' l = some (.lst (ls.map V.int)) → ls.length = (bc 0 p + bc 0 r).toNat →
    (∀ x y, x < ls.length → y < ls.length → (LabOf ls x = LabOf ls y ↔ glue (tiesOf p r) x y)) → ClosedBy p r p.length cl → (cl = .non → dcount ls + p.length = ls.length) → (∀ x ∈ ls, 0 ≤ x ∧ x < ls.length) → Q (.ref t) H'
end
end KQ
namespace KQ
open PySem PySem.Spec PyProof.Rows L2 KR KM StX
/-- labels of blocks of the one (the first sh) and of those put on so far, i doors of the order ds being done -/
structure Met (p ds ls : List Int) (sh i q : Nat) : Prop where
  len : ls.length = sh + q
  c1 : ∀ j d x, j < i → ds[j]? = some d → p[d.toNat]? = some x → ∃ k, k < q ∧ ls[sh + k]? = ls[x.toNat]?
  c2 : ∀ b b', b < sh → b' < sh → b ≠ b' → ls[b]? = ls[b']? → ∃ k, k < q ∧ ls[sh + k]? = ls[b]?
/-- an order of all doors -/
structure Ord (ds : List Int) (n : Nat) : Prop where
  len : ds.length = n
  nd : ds.Nodup
  at_ : ∀ d ∈ ds, 0 ≤ d ∧ d < n
theorem Ord.all {ds : List Int} {n : Nat} (h : Ord ds n) {d : Int} (d0 : 0 ≤ d) (d1 : d < n) : d ∈ ds := by
  apply Classical.byContradiction
  intro hn
  have nd : (d :: ds).Nodup := List.nodup_cons.mpr ⟨hn, h.nd⟩
  have := sub_len (ys := (List.range n).map fun k => ((k : Nat) : Int)) nd fun x hx => by
    have hb : 0 ≤ x ∧ x < n := by
      rcases List.mem_cons.mp hx with rfl | hx
      · exact ⟨d0, d1⟩
      · exact h.at_ x hx
    exact List.mem_map.mpr ⟨x.toNat, List.mem_range.mpr (by omega), by omega⟩
  rw [List.length_cons, h.len, List.length_map, List.length_range] at this
  omega
theorem met_some {p ds ls : List Int} {sh i q : Nat} (par : Par p) (hsh : (sh : Int) = bc 0 p) (o : Ord ds p.length) (M : Met p ds ls sh i q) {d x own : Int} (hd : ds[i]? = some d) (hx : p[d.toNat]? = some x)
    (ho : ls[x.toNat]? = some own) (hq : ∀ k, k < q → ls[sh + k]? = some own) : dcount ls + (i + 1) ≤ p.length + 1 := by
  have him := (List.getElem?_eq_some_iff.mp hd).1
  rw [o.len] at him
  have own_in : own ∈ firsts ls := (mem_firsts ls).mpr (List.mem_of_getElem? ho)
  have e1 := List.length_erase_of_mem own_in
  have l1 := List.length_pos_of_mem own_in
  have := sub_len (xs := (firsts ls).erase own) (ys := (ds.drop (i + 1)).map fun d => ls.getD (p.getD d.toNat 0).toNat 0) ((firsts_nodup ls).erase own) fun z hz => by
    obtain ⟨zn, hz⟩ := ((firsts_nodup ls).mem_erase_iff).mp hz
    obtain ⟨b, hb⟩ := List.mem_iff_getElem?.mp ((mem_firsts ls).mp hz)
    have hbl := (List.getElem?_eq_some_iff.mp hb).1
    rw [M.len] at hbl
    have hbs : b < sh := by
      apply Classical.byContradiction
      intro hn
      have := hq (b - sh) (by omega)
      rw [show sh + (b - sh) = b by omega, hb] at this
      exact zn (Option.some.inj this)
    have hbp := (rg_mem 0 p (Int.le_refl _) par.rg).2 ((b : Nat) : Int) (by omega) (by omega)
    obtain ⟨j, hj⟩ := List.mem_iff_getElem?.mp hbp
    have hjl := (List.getElem?_eq_some_iff.mp hj).1
    obtain ⟨t, ht⟩ := List.mem_iff_getElem?.mp (o.all (d := ((j : Nat) : Int)) (by omega) (by omega))
    have htp : p[(((j : Nat) : Int)).toNat]? = some ((b : Nat) : Int) := by rw [Int.toNat_natCast]; exact hj
    have hti : i < t := by
      rcases Nat.lt_trichotomy t i with c | c | c
      · obtain ⟨k, hk, e⟩ := M.c1 t _ _ c ht htp
        rw [hq k hk, Int.toNat_natCast, hb] at e
        exact absurd (Option.some.inj e).symm zn
      · subst c
        rw [hd] at ht
        obtain rfl := Option.some.inj ht
        rw [hx] at htp
        obtain rfl := Option.some.inj htp
        rw [Int.toNat_natCast, hb] at ho
        exact absurd (Option.some.inj ho) zn
      · exact c
    refine List.mem_map.mpr ⟨((j : Nat) : Int), List.mem_iff_getElem?.mpr ⟨t - (i + 1), ?_⟩, ?_⟩
    · rw [List.getElem?_drop, show i + 1 + (t - (i + 1)) = t by omega]
      exact ht
    · rw [List.getD_eq_getElem?_getD, List.getD_eq_getElem?_getD, htp]
      show (ls[(((b : Nat) : Int)).toNat]?).getD 0 = z
      rw [Int.toNat_natCast, hb]
      rfl
  rw [List.length_map, List.length_drop, o.len] at this
  unfold dcount
  omega
theorem met_new {p ds ls : List Int} {sh i q : Nat} (hsh : ∀ x ∈ p, 0 ≤ x ∧ x < (sh : Int)) (M : Met p ds ls sh i q) {d x own : Int} (hd : ds[i]? = some d) (hx : p[d.toNat]? = some x)
    (ho : ls[x.toNat]? = some own) : Met p ds (ls ++ [own]) sh (i + 1) (q + 1) := by
  have low : ∀ k, k < sh + q → (ls ++ [own])[k]? = ls[k]? := fun k hk => List.getElem?_append_left (by rw [M.len]; exact hk)
  have top : (ls ++ [own])[sh + q]? = some own := by
    rw [List.getElem?_append_right (by rw [M.len]; exact Nat.le_refl _), M.len, Nat.sub_self]
    rfl
  refine ⟨by rw [List.length_append, M.len]; rfl, fun j e y hj he hy => ?_, fun b b' hb hb' n e => ?_⟩
  · have hys := hsh y (List.mem_of_getElem? hy)
    rw [low y.toNat (by omega)]
    by_cases c : j = i
    · subst c
      rw [hd] at he
      obtain rfl := Option.some.inj he
      rw [hx] at hy
      obtain rfl := Option.some.inj hy
      exact ⟨q, by omega, by rw [top, ho]⟩
    · obtain ⟨k, hk, e⟩ := M.c1 j e y (by omega) he hy
      exact ⟨k, by omega, by rw [low _ (by omega)]; exact e⟩
  · rw [low _ (by omega), low _ (by omega)] at e
    obtain ⟨k, hk, e⟩ := M.c2 b b' hb hb' n e
    exact ⟨k, by omega, by rw [low _ (by omega), low _ (by omega)]; exact e⟩
theorem met_glue {p ds ls : List Int} {sh i q : Nat} (hsh : ∀ x ∈ p, 0 ≤ x ∧ x < (sh : Int)) (M : Met p ds ls sh i q) {d x own two : Int} {k : Nat} (hd : ds[i]? = some d) (hx : p[d.toNat]? = some x)
    (ho : ls[x.toNat]? = some own) (hk : k < q) (ht : ls[sh + k]? = some two) (n : own ≠ two) : Met p ds (ls.map fun z => if z = two then own else z) sh (i + 1) q := by
  have mp : ∀ a, (ls.map fun z => if z = two then own else z)[a]? = (ls[a]?).map fun z => if z = two then own else z := fun a => List.getElem?_map
  have keep : ∀ a b : Nat, ls[a]? = ls[b]? → (ls.map fun z => if z = two then own else z)[a]? = (ls.map fun z => if z = two then own else z)[b]? := fun a b e => by rw [mp, mp, e]
  have tw : ∀ a : Nat, ls[a]? = some own ∨ ls[a]? = some two → (ls.map fun z => if z = two then own else z)[a]? = some own := fun a e => by
    rw [mp]
    rcases e with e | e
    · rw [e]
      show some (if own = two then own else own) = _
      rw [if_neg n]
    · rw [e]
      show some (if two = two then own else two) = _
      rw [if_pos rfl]
  refine ⟨by rw [List.length_map, M.len], fun j e y hj he hy => ?_, fun b b' hb hb' nb e => ?_⟩
  · by_cases c : j = i
    · subst c
      rw [hd] at he
      obtain rfl := Option.some.inj he
      rw [hx] at hy
      obtain rfl := Option.some.inj hy
      exact ⟨k, hk, by rw [tw _ (.inr ht), tw _ (.inl ho)]⟩
    · obtain ⟨k2, hk2, e⟩ := M.c1 j e y (by omega) he hy
      exact ⟨k2, hk2, keep _ _ e⟩
  · by_cases c : ls[b]? = ls[b']?
    · obtain ⟨k2, hk2, e2⟩ := M.c2 b b' hb hb' nb c
      exact ⟨k2, hk2, keep _ _ e2⟩
    · obtain ⟨u, hu⟩ := at_some (xs := ls) (i := b) (by rw [M.len]; omega)
      obtain ⟨v, hv⟩ := at_some (xs := ls) (i := b') (by rw [M.len]; omega)
      rw [mp, mp, hu, hv] at e
      have e : (if u = two then own else u) = (if v = two then own else v) := Option.some.inj e
      refine ⟨k, hk, ?_⟩
      rw [tw _ (.inr ht)]
      by_cases c1 : u = two
      · rw [tw b (.inr (by rw [hu, c1]))]
      · rw [if_neg c1] at e
        by_cases c2 : v = two
        · rw [if_pos c2] at e
          rw [tw b (.inl (by rw [hu, e]))]
        · rw [if_neg c2] at e
          exact absurd (by rw [hu, hv, e]) c
end KQ
namespace KQ
open PySem PySem.Spec PyProof.Rows L2 KR KM StX
theorem ints_of {vs : List V} (h : ∀ j, j < vs.length → ∃ v, vs[j]? = some (.int v)) : ∃ rs : List Int, vs = rs.map V.int := by
  induction vs with
  | nil => exact ⟨[], rfl⟩
  | cons v vs ih =>
    obtain ⟨x, hx⟩ := h 0 (by rw [List.length_cons]; omega)
    obtain rfl : v = .int x := Option.some.inj hx
    obtain ⟨rs, rfl⟩ := ih fun j hj => h (j + 1) (by rw [List.length_cons]; omega)
    exact ⟨x :: rs, rfl⟩
theorem ifs_fact {b : Bool} {t u : TS} {D : Ends} {σ : L2.St} {H : Hp} (Fact : Hp → Prop) (h1 : b = true → ∀ D : Ends, (∀ H', Fact H' → D.nx σ H') → t D σ H) (h2 : b = false → ∀ D : Ends, (∀ H', Fact H' → D.nx σ H') → u D σ H)
    (k : ∀ H', Fact H' → D.nx σ H') : if b = true then t D σ H else u D σ H := by
  cases b
  · exact h2 rfl D k
  · exact h1 rfl D k
section
variable {P : Program} {w : World} {K : PySem.W.Frag} {mg : Str → Option Value} {base : Heap}
abbrev s__law_of : Stmt := topS 35
theorem sc__law_of : FnScope ["m", "some"] ["m", "some"] (defScope s__law_of) := ⟨rfl, rfl, rfl, by decide +kernel, rfl, by decide +kernel, by decide +kernel⟩
def spOf : Sp := fun vs H Q _ => ∃ m c g b l xs, vs = [.ref m, .ref l] ∧ MS H m c g b ∧ b ≤ 1000000 ∧ H l = some (.lst (xs.map V.int)) ∧ l ≠ g ∧ xs ≠ [] ∧ xs.length ≤ 1000000 ∧
  ∀ H' x, Kept H H' m g → MS H' m c g (b + 1) → x ∈ xs → Q (.int x) H'
theorem ok_of (D : DefAt K mg "_law_of" s__law_of) (T : Bt mg) (u__law_draw : Use P w K mg base "_law_draw" 2 ["m", "limit"] spDraw) : Use P w K mg base "_law_of" 3 ["m", "some"] spOf := by
  refine use_of D (fun f fd F => F.ok sc__law_of (fun vs H Q E h => ?_) (fun cdv A outer s H vs Q E hr h => ?_)) (fun _ _ _ _ _ _ us hl => match us, hl with | [_, _], _ => rfl)
  · obtain ⟨m, c, g, b, l, xs, rfl, _⟩ := h
    rfl
  · obtain ⟨m, c, g, b, l, xs, rfl, ms, hb, el, lg, ne, hle, q⟩ := h
    refine ⟨_, (pss_one (ps_ret (pe_ix (k_ixl (K := K) rfl) (pv 1) (pe_use u__law_draw (by decide) hr (by rfl) (pa_cons (pv 0) (pa_cons (pe_callB (k_len (K := K) rfl) (by rfl) T.len PySem.boot_len (pa_cons (pv 1) pa_nil)) pa_nil))) (fun _ _ => rfl)))), ?_⟩
    have lm : l ≠ m := by
      obtain ⟨cs, gs, k, h1, h2, h3, r⟩ := ms
      intro e
      rw [e, h1] at el
      cases el
    have pos := List.length_pos_iff.mpr ne
    refine ⟨_, rfl, _, rfl, _, rfl, l, _, rfl, .inl (sqL el), m, c, g, b, _, rfl, ms, hb, ?_, ?_, fun H1 d k1 ms1 d0 d1 => ?_⟩
    · rw [List.length_map]
      omega
    · rw [List.length_map]
      omega
    rw [List.length_map] at d1
    obtain ⟨x, hx⟩ := at_some (xs := xs) (i := d.toNat) (by omega)
    exact ⟨l, _, d, .int x, rfl, rfl, sqL (k1 _ _ el lm lg), atI_of (j := d.toNat) (by omega) (at_map hx), q H1 x k1 ms1 (List.mem_of_getElem? hx)⟩
abbrev s__law_met : Stmt := topS 43
theorem sc__law_met : FnScope ["m", "parting", "many", "shift", "labels", "blocks", "left", "pieces", "at", "own", "picks", "block", "two", "label"] ["m", "parting"] (defScope s__law_met) := ⟨rfl, rfl, rfl, by decide +kernel, rfl, by decide +kernel, by decide +kernel⟩
def spMetL : Sp := fun vs H Q _ => ∃ m c g b a p, vs = [.ref m, .ref a] ∧ MS H m c g b ∧ b ≤ 100000 ∧ TI H a p ∧ Par p ∧
  ∀ H' t r, Kept H H' m g → MS H' m c g (b + 120) → TI H' t r → Par r → r.length = p.length → Q (.ref t) H'
theorem ok_met (D : DefAt K mg "_law_met" s__law_met) (T : Bt mg) (u__law_of : Use P w K mg base "_law_of" 3 ["m", "some"] spOf) (u__law_order : Use P w K mg base "_law_order" 3 ["m", "many"] spOrder)
    (u__law_numbered : Use P w K mg base "_law_numbered" 1 ["labels"] spNumL) : Use P w K mg base "_law_met" 4 ["m", "parting"] spMetL := by
  refine use_of D (fun f fd F => F.ok sc__law_met (fun vs H Q E h => ?_) (fun cdv A outer s H vs Q E hr h => ?_)) (fun _ _ _ _ _ _ us hl => match us, hl with | [_, _], _ => rfl)
  · obtain ⟨m, c, g, b, a, p, rfl, _⟩ := h
    rfl
  · obtain ⟨m, c, g, b, a, p, rfl, ms, hb, hp, par, q⟩ := h
    refine ⟨_, (pss_cons (ps_asg (pe_tup (pa_cons (pe_callB (k_len (K := K) rfl) (by rfl) T.len PySem.boot_len (pa_cons (pv 1) pa_nil)) (pa_cons (pe_op op_add (pe_callB (k_maxT (K := K) rfl rfl hr.units) (by rfl) T.max (by decide +kernel) (pa_cons (pv 1) pa_nil)) pe_int) pa_nil))) (pg_tup rfl (pgs_cons (pg_name (i := 2) sc__law_met.nd rfl (Or.inl rfl)) (pgs_cons (pg_name (i := 3) sc__law_met.nd rfl (Or.inr rfl)) pgs_nil))))
      (pss_cons (ps_asg (pe_tup (pa_cons (pe_listRg rfl (by rfl) T.list (prg_1 (by rfl) T.range (pv 3))) (pa_cons (pe_op op_rep (pe_lst (pa_cons pe_non pa_nil)) (pv 2)) pa_nil))) (pg_tup rfl (pgs_cons (pg_name (i := 4) sc__law_met.nd rfl (Or.inr rfl)) (pgs_cons (pg_name (i := 5) sc__law_met.nd rfl (Or.inl rfl)) pgs_nil))))
      (pss_cons (ps_par (i := 6) (j := 7) rfl sc__law_met.nd rfl rfl (by decide) rfl rfl (pa_cons (pv 2) (pa_cons (pv 3) pa_nil)) (by rfl))
      (pss_cons (ps_for PassesOwn.never rfl (k_list (K := K) rfl (pe_use u__law_order (by decide) hr (by rfl) (pa_cons (pv 0) (pa_cons (pv 2) pa_nil)))) (pg_name (i := 8) sc__law_met.nd rfl (Or.inl rfl))
      (pss_cons (ps_set (i := 6) sc__law_met.nd rfl (Or.inl rfl) (pe_op op_sub (pv 6) pe_int))
      (pss_cons (ps_set (i := 9) sc__law_met.nd rfl (Or.inr rfl) (pe_ix (k_ixl (K := K) rfl) (pv 4) (pe_ix (k_ixt (K := K) rfl) (pv 1) (pv 8) (fun _ _ => rfl)) (fun _ _ => rfl)))
      (pss_cons (ps_setLc (i := 10) (own := [("block", 11)]) rfl sc__law_met.nd rfl rfl (sw_true rfl rfl rfl (by decide +kernel)) (pi_range1 (by rfl) T.range (pa_cons (pe_op op_sub (pe_callB (k_len (K := K) rfl) (by rfl) T.len PySem.boot_len (pa_cons (pv 4) pa_nil)) (pv 3)) pa_nil)) (blkOk_by (N := ["m", "parting", "many", "shift", "labels", "blocks", "left", "pieces", "at", "own", "picks", "block", "two", "label"]) (sc := defScope s__law_met) (by decide +kernel)) (fun _ _ _ _ _ => (pg_name (i := 11) sc__law_met.nd rfl (Or.inl rfl))) (fun _ _ _ _ _ => (pts_one (pt_cmpR op_ne (pe_ix (k_ixl (K := K) rfl) (pv 4) (pe_op op_add (pv 3) (pv 11)) (fun _ _ => rfl)) (pv 9) (nomark _)))) (fun _ _ _ _ _ => (pv 11)))
      (pss_cons (ps_if (pt_cmpR op_ge (pv 6) (pe_op op_sub (pv 7) pe_int) (nomark _)) (pss_one (ps_expr (k_bm (K := K) rfl PySem.F.plainAttrs_list PySem.F.slot_list_append PySem.F.type_list_append mt_append (pv 10) (pa_cons (pe_op op_sub (pe_callB (k_len (K := K) rfl) (by rfl) T.len PySem.boot_len (pa_cons (pv 4) pa_nil)) (pv 3)) pa_nil)))) pss_nil)
      (pss_cons (ps_set (i := 11) sc__law_met.nd rfl (Or.inl rfl) (pe_use u__law_of (by decide) hr (by rfl) (pa_cons (pv 0) (pa_cons (pv 10) pa_nil))))
      (pss_cons (ps_asg (pv 11) (pg_sub (pv 5) (pv 8) set_list))
      (pss_one (ps_if (pt_cmpR op_eq (pe_op op_add (pv 3) (pv 11)) (pe_callB (k_len (K := K) rfl) (by rfl) T.len PySem.boot_len (pa_cons (pv 4) pa_nil)) (nomark _)) (pss_one (ps_expr (k_bm (K := K) rfl PySem.F.plainAttrs_list PySem.F.slot_list_append PySem.F.type_list_append mt_append (pv 4) (pa_cons (pv 9) pa_nil)))) (pss_cons (ps_asg (pe_tup (pa_cons (pe_ix (k_ixl (K := K) rfl) (pv 4) (pe_op op_add (pv 3) (pv 11)) (fun _ _ => rfl)) (pa_cons (pe_op op_sub (pv 7) pe_int) pa_nil))) (pg_tup rfl (pgs_cons (pg_name (i := 12) sc__law_met.nd rfl (Or.inr rfl)) (pgs_cons (pg_name (i := 7) sc__law_met.nd rfl (Or.inl rfl)) pgs_nil))))
      (pss_one (ps_set (i := 4) sc__law_met.nd rfl (Or.inr rfl) (pe_lc (own := [("label", 13)]) rfl sc__law_met.nd (k_list (K := K) rfl (pv 4)) (blkOk_by (N := ["m", "parting", "many", "shift", "labels", "blocks", "left", "pieces", "at", "own", "picks", "block", "two", "label"]) (sc := defScope s__law_met) (by decide +kernel)) (fun _ _ _ _ _ => (pg_name (i := 13) sc__law_met.nd rfl (Or.inl rfl))) (fun _ _ _ _ _ => pts_nil) (fun _ _ _ _ _ => (pe_ifExp (pt_cmpR op_eq (pv 13) (pv 12) (nomark _)) (pv 9) (pv 13))))))))))))))))
      (pss_one (ps_ret (pe_use u__law_numbered (by decide) hr (by rfl) (pa_cons (pv 5) pa_nil)))))))), ?_⟩
    have g0 := bc_ge 0 p
    have g1 := bc_le 0 p
    have g2 := par.le
    have mem := (rg_mem 0 p (Int.le_refl _) par.rg).1
    have pos := List.length_pos_iff.mpr par.ne
    refine ⟨_, rfl, a, _, rfl, .inr hp.seq, _, rfl, a, p, rfl, hp.seq, par.ne, fun mx hm hle => ⟨_, _, rfl, rfl, ?_⟩⟩
    rw [List.length_map]
    have em := par_max par hm hle
    have mx0 := mem mx hm
    refine ⟨by show 2 ≤ sizeLine; decide, fun T0 nT0 => ?_⟩
    refine ⟨T0, _, rfl, .inl (.inl upd_same), rfl, _, _, rfl, _, [], rfl, rfl, ?_⟩
    have s0 : Same H (upd H T0 (.tup [.int ((p.length : Nat) : Int), .int (mx + 1)])) := same_new nT0
    generalize upd H T0 (.tup [.int ((p.length : Nat) : Int), .int (mx + 1)]) = Ha at s0
    refine ⟨_, rfl, _, rfl, RgOk.of_le (by omega) (by omega) (by omega) (by omega), fun l nl => ?_⟩
    refine ⟨by show 1 ≤ sizeLine; decide, fun w0 nw0 => ?_⟩
    obtain ⟨sh, hsh⟩ : ∃ n : Nat, mx + 1 = (n : Int) := ⟨(mx + 1).toNat, by omega⟩
    refine ⟨_, rfl, w0, _, _, rfl, rfl, upd_same, by omega, by omega, ?_, fun bl nbl => ?_⟩
    · show 1 * _ ≤ sizeLine
      rw [Nat.one_mul]
      exact Nat.le_of_lt (small_of (by omega))
    refine ⟨by show 2 ≤ sizeLine; decide, fun T1 nT1 => ?_⟩
    refine ⟨T1, _, rfl, .inl (.inl upd_same), rfl, _, _, rfl, _, [], rfl, rfl, ?_⟩
    have rep : (List.replicate (((p.length : Nat) : Int)).toNat [V.non]).flatten = List.replicate p.length V.non := by
      rw [Int.toNat_natCast]
      induction p.length with
      | zero => rfl
      | succ n ih =>
        rw [List.replicate_succ, List.flatten_cons, ih]
        rfl
    rw [rep, hsh, rgV_hv]
    have lbl : l ≠ bl := fun e => by
      rw [← e, upd_ne (fun z => by rw [← z, upd_same] at nw0; cases nw0), upd_same] at nbl
      cases nbl
    have e1 : Same (upd Ha l (.lst (hv (List.range sh)))) (upd (upd (upd (upd Ha l (.lst (hv (List.range sh)))) w0 (.lst [.non])) bl (.lst (List.replicate p.length V.non))) T1 (.tup [.ref l, .ref bl])) := by
      rw [hsh, rgV_hv] at nw0 nbl nT1
      rw [rep] at nT1
      exact ((same_new nw0).trans (same_new nbl)).trans (same_new nT1)
    have ebl : (upd (upd (upd (upd Ha l (.lst (hv (List.range sh)))) w0 (.lst [.non])) bl (.lst (List.replicate p.length V.non))) T1 (.tup [.ref l, .ref bl])) bl = some (.lst (List.replicate p.length V.non)) := by
      rw [hsh, rgV_hv, rep] at nT1
      rw [upd_ne (ne_of_none upd_same nT1), upd_same]
    have el := e1 l _ upd_same
    have s1 : Same H (upd (upd (upd (upd Ha l (.lst (hv (List.range sh)))) w0 (.lst [.non])) bl (.lst (List.replicate p.length V.non))) T1 (.tup [.ref l, .ref bl])) := (s0.trans (same_new nl)).trans e1
    have nlH : H l = none := s0.free nl
    have nblH : H bl = none := by
      rw [hsh, rgV_hv] at nw0 nbl
      exact ((s0.trans (same_new nl)).trans (same_new nw0)).free nbl
    generalize (upd (upd (upd (upd Ha l (.lst (hv (List.range sh)))) w0 (.lst [.non])) bl (.lst (List.replicate p.length V.non))) T1 (.tup [.ref l, .ref bl])) = Hb at s1 el ebl e1
    clear e1 nT1 nbl nw0 nl s0 nT0
    have ms1 := ms.mono s1
    have ln := ms.ne nlH
    have bln := ms.ne nblH
    refine ⟨_, rfl, _, rfl, _, _, rfl, ?_⟩
    refine ⟨_, rfl, _, rfl, m, c, g, b, ((p.length : Nat) : Int), rfl, ms1, by omega, by omega, by omega, fun H2 dl ds k2 ms2 edl ndl lds nds rds => ?_⟩
    have k02 : Kept H H2 m g := (Kept.of s1).trans k2
    have el2 := k2 _ _ el ln.1 ln.2.2
    have ebl2 := k2 _ _ ebl bln.1 bln.2.2
    have dln := ms1.ne ndl
    have ndlH : H dl = none := s1.free ndl
    have ord : Ord ds p.length := ⟨by rw [lds, Int.toNat_natCast], nds, rds⟩
    have dll : dl ≠ l := fun e => by rw [e, el] at ndl; cases ndl
    have dlb : dl ≠ bl := fun e => by rw [e, ebl] at ndl; cases ndl
    refine ⟨dl, rfl, ⟨_, sqL edl⟩, for_list (K := K) (a := dl) (xs := ds.map V.int)
      (fun i σ H3 => ∃ (l : Addr) (pc lf : Int) (y8 y9 y10 y11 y12 : Option V), σ = [some (.ref m), some (.ref a), some (.int ((p.length : Nat) : Int)), some (.int (mx + 1)), some (.ref l), some (.ref bl), some (.int lf), some (.int pc), y8, y9, y10, y11, y12, none] ∧
        Kept H H3 m g ∧ MS H3 m c g (b + (p.length : Nat) + (i : Nat)) ∧ H3 dl = some (.lst (ds.map V.int)) ∧ l ≠ bl ∧ l ≠ dl ∧ H l = none ∧ ∃ ls q vs, H3 l = some (.lst (List.map V.int ls)) ∧ Met p ds ls sh i q ∧ q ≤ i ∧ ((dcount ls : Nat) : Int) = pc ∧ lf = (p.length : Nat) - (i : Nat) ∧ pc - 1 ≤ lf ∧
        H3 bl = some (.lst vs) ∧ vs.length = p.length ∧ ∀ j d, j < i → ds[j]? = some d → ∃ v, vs[d.toNat]? = some (.int v))
      ⟨l, mx + 1, ((p.length : Nat) : Int), none, none, none, none, none, rfl, k02, by simpa using ms2, edl, lbl, dll.symm, nlH, (List.range sh).map fun n => ((n : Nat) : Int), 0, List.replicate p.length V.non, ?_, ?_, Nat.le_refl _, ?_, by omega, by omega, ebl2, List.length_replicate, fun j d hj => absurd hj (Nat.not_lt_zero _)⟩
      (fun i σ H3 _ ⟨_, _, _, _, _, _, _, _, _, _, _, ed, _⟩ => sqL ed) ?_ ?_⟩
    · rw [el2]
      unfold hv
      rw [List.map_map]
      rfl
    · refine ⟨by rw [List.length_map, List.length_range]; rfl, fun j d x hj => absurd hj (Nat.not_lt_zero _), fun b b' hb hb' n e => ?_⟩
      rw [at_map (List.getElem?_range hb), at_map (List.getElem?_range hb')] at e
      have := Option.some.inj e
      omega
    · rw [dcount_range]
      omega
    · rintro i v σ H3 hi ⟨l, pc, lf, y8, y9, y10, y11, y12, rfl, k3, ms3, edl3, lbl, ldl, nlH, ls, q', vs, el3, M, qi, hpc, hlf, hle3, ebl3, lvs, hvs⟩
      obtain ⟨d, hd, rfl⟩ := map_at hi
      have hdn := ord.at_ d (List.mem_of_getElem? hd)
      have him := (List.getElem?_eq_some_iff.mp hd).1
      rw [ord.len] at him
      have shp : ∀ x ∈ p, 0 ≤ x ∧ x < (sh : Int) := fun x hx => by have := mem x hx; omega
      obtain ⟨x, hx⟩ := at_some (xs := p) (i := d.toNat) (by omega)
      have hxm := shp x (List.mem_of_getElem? hx)
      obtain ⟨own, ho⟩ := at_some (xs := ls) (i := x.toNat) (by rw [M.len]; omega)
      have hp3 := k3.ti ms hp
      have ln := ms.ne nlH
      refine ⟨_, rfl, _, _, rfl, rfl, ?_⟩
      refine ⟨_, rfl, _, rfl, _, rfl, a, _, d, .int x, rfl, rfl, hp3.seq, atI_of (j := d.toNat) (by omega) (at_map hx), l, _, x, .int own, rfl, rfl, sqL el3, atI_of (j := x.toNat) (by omega) (at_map ho), ?_⟩
      refine ⟨_, rfl, l, _, rfl, .inl (sqL el3), _, rfl, _, _, rfl, rfl, _, rfl, ?_⟩
      rw [List.length_map, M.len, show (((sh + q' : Nat)) : Int) - (mx + 1) = ((q' : Nat) : Int) by omega]
      refine ⟨by omega, by omega, fun N nN => ?_⟩
      refine lc_range (fun k H4 => Same H3 H4 ∧ ∃ pk : List Int, H4 N = some (.lst (pk.map V.int)) ∧ pk.length ≤ k ∧ (∀ z ∈ pk, ∃ k' : Nat, z = (k' : Int) ∧ k' < q' ∧ ls[sh + k']? ≠ some own) ∧ (pk = [] → ∀ k', k' < k → ls[sh + k']? = some own))
        ⟨same_new nN, [], upd_same, Nat.le_refl _, fun z hz => (by cases hz), fun _ k' hk' => absurd hk' (Nat.not_lt_zero _)⟩ ?_ ?_
      · rintro k H4 hk ⟨s4, pk, eN, lpk, hpk, hnil⟩
        rw [Int.toNat_natCast] at hk
        obtain ⟨v, hv⟩ := at_some (xs := ls) (i := sh + k) (by rw [M.len]; omega)
        refine ⟨rfl, _, rfl, _, rfl, _, rfl, _, _, rfl, rfl, l, _, mx + 1 + (0 + (k : Nat)), .int v, rfl, rfl, sqL (s4 _ _ el3), atI_of (j := sh + k) (by omega) (at_map hv), _, rfl, rfl, _, rfl, ?_⟩
        by_cases e : v = own
        · rw [decide_eq_true (congrArg V.int e)]
          refine ⟨s4, pk, eN, by omega, hpk, fun hn k' hk' => ?_⟩
          by_cases c : k' = k
          · rw [c, hv, e]
          · exact hnil hn k' (by omega)
        · rw [decide_eq_false (fun z => e (V.int.inj z))]
          refine ⟨_, rfl, _, eN, ?_, same_mut s4 nN, pk ++ [(0 + (k : Nat) : Int)], ?_, ?_, fun z hz => ?_, fun hn => ?_⟩
          · rw [List.length_map]
            exact small_of (by omega)
          · rw [upd_same, List.map_append]
            rfl
          · rw [List.length_append]
            show pk.length + 1 ≤ k + 1
            omega
          · rcases List.mem_append.mp hz with hz | hz
            · exact hpk z hz
            · rw [List.mem_singleton.mp hz]
              refine ⟨k, by omega, hk, ?_⟩
              rw [hv]
              exact fun z => e (Option.some.inj z)
          · simp at hn
      rintro H4 ⟨s4, pk, eN, lpk, hpk, hnil⟩
      rw [Int.toNat_natCast] at lpk hnil
      have Nn := (ms3.ne nN)
      have nNH : H N = none := k3.free nN Nn.1 Nn.2.2
      have el4 := s4 _ _ el3
      refine ⟨_, rfl, _, rfl, _, _, rfl, rfl, _, _, rfl, rfl, _, rfl, ?_⟩
      refine ifs_fact (fun H5 => Same H3 H5 ∧ ∃ pk : List Int, H5 N = some (.lst (pk.map V.int)) ∧ pk ≠ [] ∧ pk.length ≤ 100 ∧ ∀ z ∈ pk, (∃ k' : Nat, z = (k' : Int) ∧ k' < q' ∧ ls[sh + k']? ≠ some own) ∨ (z = ((q' : Nat) : Int) ∧ pc - 1 ≤ lf - 1)) ?_ ?_ ?_
      · intro hle D kD
        refine ⟨_, rfl, .inl ⟨rfl, _, .inl (.inl eN)⟩, _, rfl, l, _, rfl, .inl (sqL el4), _, rfl, _, _, rfl, rfl, ?_⟩
        rw [List.length_map, M.len]
        refine ⟨N, _, _, rfl, rfl, eN, ?_, kD _ ⟨same_mut s4 nN, pk ++ [((q' : Nat) : Int)], ?_, ?_, ?_, fun z hz => ?_⟩⟩
        · rw [List.length_map]
          exact small_of (by omega)
        · rw [upd_same, List.map_append]
          exact congrArg (fun t => some (HO.lst (pk.map V.int ++ [V.int t]))) (show (((sh + q' : Nat)) : Int) - (mx + 1) = ((q' : Nat) : Int) by omega)
        · simp
        · rw [List.length_append]
          show pk.length + 1 ≤ 100
          omega
        · rcases List.mem_append.mp hz with hz | hz
          · exact .inl (hpk z hz)
          · exact .inr ⟨List.mem_singleton.mp hz, of_decide_eq_true hle⟩
      · intro hle D kD
        refine kD _ ⟨s4, pk, eN, fun hn => ?_, by omega, fun z hz => .inl (hpk z hz)⟩
        have := met_some par (by omega) ord M hd hx ho (hnil hn)
        have hle := of_decide_eq_false hle
        omega
      rintro H5 ⟨s5, pk, eN, nepk, lpk, hpk⟩
      have ms5 := ms3.mono s5
      refine ⟨_, rfl, _, rfl, m, c, g, _, N, pk, rfl, ms5, by omega, eN, Nn.2.2, nepk, by omega, fun H6 z k6 ms6 hz => ?_⟩
      have k36 : Kept H H6 m g := (k3.trans (Kept.of s5)).trans k6
      have bln := ms.ne nblH
      have dln' := ms.ne ndlH
      have el6 := k6 _ _ (s5 _ _ el3) ln.1 ln.2.2
      have ebl6 := k6 _ _ (s5 _ _ ebl3) bln.1 bln.2.2
      have edl6 := k6 _ _ (s5 _ _ edl3) dln'.1 dln'.2.2
      refine ⟨_, rfl, _, rfl, _, rfl, bl, _, d, d.toNat, rfl, rfl, ebl6, by rw [lvs]; exact ixN_of hdn.1 (by omega), ?_⟩
      have el7 : (upd H6 bl (.lst (vs.set d.toNat (.int z)))) l = some (.lst (ls.map V.int)) := by rw [upd_ne lbl]; exact el6
      have ebl7 : (upd H6 bl (.lst (vs.set d.toNat (.int z)))) bl = some (.lst (vs.set d.toNat (.int z))) := upd_same
      have edl7 : (upd H6 bl (.lst (vs.set d.toNat (.int z)))) dl = some (.lst (ds.map V.int)) := by rw [upd_ne dlb]; exact edl6
      have k7 : Kept H (upd H6 bl (.lst (vs.set d.toNat (.int z)))) m g := kept_mut k36 nblH
      have ms7 : MS (upd H6 bl (.lst (vs.set d.toNat (.int z)))) m c g (b + (p.length : Nat) + (i : Nat) + 1) := ms6.put bln.1 bln.2.1 bln.2.2
      have hvs7 : ∀ j e, j < i + 1 → ds[j]? = some e → ∃ v, (vs.set d.toNat (.int z))[e.toNat]? = some (.int v) := by
        intro j e hj he
        have hen := ord.at_ e (List.mem_of_getElem? he)
        by_cases c : e = d
        · subst c
          exact ⟨z, by rw [List.getElem?_set_self (by omega)]⟩
        · rw [List.getElem?_set_ne (by omega)]
          by_cases cj : j = i
          · rw [cj, hd] at he
            exact absurd (Option.some.inj he).symm c
          · exact hvs j e (by omega) he
      have lv7 : (vs.set d.toNat (V.int z)).length = p.length := by rw [List.length_set]; exact lvs
      generalize upd H6 bl (.lst (vs.set d.toNat (.int z))) = H7 at el7 ebl7 edl7 k7 ms7
      generalize vs.set d.toNat (.int z) = vs7 at ebl7 hvs7 lv7
      refine ⟨_, rfl, _, rfl, _, _, rfl, rfl, _, rfl, l, _, rfl, .inl (sqL el7), rfl, _, rfl, ?_⟩
      rw [List.length_map, M.len]
      rcases hpk z hz with ⟨k', rfl, hk', hne⟩ | ⟨rfl, hpl⟩
      · rw [decide_eq_false (fun q => by have := V.int.inj q; omega)]
        obtain ⟨two, htwo⟩ := at_some (xs := ls) (i := sh + k') (by rw [M.len]; omega)
        have ntwo : own ≠ two := fun e => hne (by rw [htwo, e])
        refine ⟨_, rfl, _, rfl, _, rfl, _, _, rfl, rfl, l, _, mx + 1 + ((k' : Nat) : Int), .int two, rfl, rfl, sqL el7, atI_of (j := sh + k') (by omega) (at_map htwo), _, rfl, pc, 1, rfl, rfl, by show 2 ≤ sizeLine; decide, fun T2 nT2 => ?_⟩
        refine ⟨T2, _, rfl, .inl (.inl upd_same), rfl, _, _, rfl, _, [], rfl, rfl, ?_⟩
        have s8 : Same H7 (upd H7 T2 (.tup [.int two, .int (pc - 1)])) := same_new nT2
        generalize hH8 : upd H7 T2 (.tup [.int two, .int (pc - 1)]) = H8 at s8
        refine ⟨_, rfl, l, rfl, ⟨_, sqL (s8 _ _ el7)⟩, fun G nG => ?_⟩
        refine lc_list (K := K) (a := l) (xs := ls.map V.int) (fun k H9 => Same H8 H9 ∧ H9 G = some (.lst (((ls.take k).map fun z => if z = two then own else z).map V.int)))
          ⟨same_new nG, upd_same⟩ (fun k H9 _ ⟨s9, _⟩ => sqL (s9 _ _ (s8 _ _ el7))) ?_ ?_
        · rintro k v H9 hk ⟨s9, eG⟩
          obtain ⟨y, hy, rfl⟩ := map_at hk
          have kl := (List.getElem?_eq_some_iff.mp hy).1
          rw [M.len] at kl
          have small : (((ls.take k).map fun z => if z = two then own else z).map V.int).length < sizeLine := by
            rw [List.length_map, List.length_map, List.length_take]
            exact small_of (by omega)
          refine ⟨rfl, _, rfl, _, rfl, rfl, _, rfl, ?_⟩
          by_cases e2 : y = two
          · rw [decide_eq_true (congrArg V.int e2)]
            refine ⟨_, rfl, _, eG, small, same_mut s9 nG, ?_⟩
            rw [upd_same, take_snoc hy, List.map_append, List.map_append]
            show _ = some (HO.lst (_ ++ [V.int (if y = two then own else y)]))
            rw [if_pos e2]
          · rw [decide_eq_false (fun q => e2 (V.int.inj q))]
            refine ⟨_, rfl, _, eG, small, same_mut s9 nG, ?_⟩
            rw [upd_same, take_snoc hy, List.map_append, List.map_append]
            show _ = some (HO.lst (_ ++ [V.int (if y = two then own else y)]))
            rw [if_neg e2]
        · rintro H9 ⟨s9, eG⟩
          rw [List.length_map, List.take_length] at eG
          have s79 := s8.trans s9
          have nG7 : H7 G = none := s8.free nG
          have Gn := ms7.ne nG7
          refine ⟨G, pc - 1, lf - 1, _, _, _, _, _, rfl, k7.trans (Kept.of s79), ?_, s79 _ _ edl7, (fun e => by rw [e, ebl7] at nG7; cases nG7), (fun e => by rw [e, edl7] at nG7; cases nG7), k7.free nG7 Gn.1 Gn.2.2, _, q', vs7, eG,
            met_glue shp M hd hx ho hk' htwo ntwo, by omega, ?_, by omega, by omega, s79 _ _ ebl7, lv7, hvs7⟩
          · rw [show b + ((p.length : Nat) : Int) + ((i + 1 : Nat) : Int) = b + (p.length : Nat) + (i : Nat) + 1 by omega]
            exact ms7.mono s79
          · have := dcount_merge (List.mem_of_getElem? ho) (List.mem_of_getElem? htwo) ntwo
            omega
      · rw [decide_eq_true (congrArg V.int (by omega))]
        refine ⟨_, rfl, .inl ⟨rfl, _, .inl (.inl el7)⟩, _, rfl, l, _, _, rfl, rfl, el7, ?_, ?_⟩
        · rw [List.length_map, M.len]
          exact small_of (by omega)
        refine ⟨l, pc, lf - 1, _, _, _, _, _, rfl, kept_mut k7 nlH, ?_, by rw [upd_ne ldl.symm]; exact edl7, lbl, ldl, nlH, ls ++ [own], q' + 1, vs7, ?_, met_new shp M hd hx ho, by omega, ?_, by omega, ?_, by rw [upd_ne lbl.symm]; exact ebl7, lv7, hvs7⟩
        · rw [show b + ((p.length : Nat) : Int) + ((i + 1 : Nat) : Int) = b + (p.length : Nat) + (i : Nat) + 1 by omega]
          exact ms7.put ln.1 ln.2.1 ln.2.2
        · rw [upd_same, List.map_append]
          rfl
        · rw [dcount_same (ys := ls) fun x => ⟨fun h => ?_, fun h => List.mem_append_left _ h⟩]
          · exact hpc
          · rcases List.mem_append.mp h with h | h
            · exact h
            · rw [List.mem_singleton.mp h]
              exact List.mem_of_getElem? ho
        · exact hpl
    · rintro σ H3 ⟨l, pc, lf, y8, y9, y10, y11, y12, rfl, k3, ms3, edl3, lbl, ldl, nlH, ls, q', vs, el3, M, qi, hpc, hlf, hle3, ebl3, lvs, hvs⟩
      rw [List.length_map, ord.len] at hvs ms3
      obtain ⟨rs, rfl⟩ := ints_of (vs := vs) fun j hj => by
        obtain ⟨t, ht⟩ := List.mem_iff_getElem?.mp (ord.all (d := ((j : Nat) : Int)) (by omega) (by omega))
        have tl := (List.getElem?_eq_some_iff.mp ht).1
        rw [ord.len] at tl
        have := hvs t _ tl ht
        rwa [Int.toNat_natCast] at this
      rw [List.length_map] at lvs
      refine ⟨_, rfl, bl, rs, rfl, ebl3, by omega, fun H4 t s4 ht => ?_⟩
      refine q H4 t (num rs) (k3.trans (Kept.of s4)) ((ms3.mono s4).le (by omega)) ht (num_par (fun e => ?_) (by omega)) (by rw [num_len, lvs])
      rw [e] at lvs
      exact par.ne (List.length_eq_zero_iff.mp lvs.symm)
end
end KQ
namespace KQ
open PySem PySem.Spec PyProof.Rows L2 KR KM StX
theorem ifs_fact2 {b : Bool} {t u : TS} {D : Ends} {σ : L2.St} {H : Hp} (Fact : L2.St → Hp → Prop) (h1 : b = true → ∀ D : Ends, (∀ σ' H', Fact σ' H' → D.nx σ' H') → t D σ H) (h2 : b = false → ∀ D : Ends, (∀ σ' H', Fact σ' H' → D.nx σ' H') → u D σ H)
    (k : ∀ σ' H', Fact σ' H' → D.nx σ' H') : if b = true then t D σ H else u D σ H := by
  cases b
  · exact h2 rfl D k
  · exact h1 rfl D k
section
variable {P : Program} {w : World} {K : PySem.W.Frag} {mg : Str → Option Value} {base : Heap}
def spSecond : Sp := fun vs H Q _ => ∃ m c g b a p, vs = [.ref m, .ref a] ∧ MS H m c g b ∧ b ≤ 90000 ∧ TI H a p ∧ Par p ∧
  ∀ H' t r, Kept H H' m g → MS H' m c g (b + 130) → TI H' t r → Par r → r.length = p.length → Q (.ref t) H'
/-- the second one as it is being made -/
def Sec (m c g a : Addr) (b kd : Int) (n : Nat) (H : Hp) (B : Int) (σ : L2.St) (H' : Hp) : Prop := ∃ (l : Addr) (xs : List Int) (y5 y6 : Option V),
  σ = [some (.ref m), some (.ref a), some (.int kd), some (.int ((n : Nat) : Int)), some (.ref l), y5, y6, none] ∧ Kept H H' m g ∧ MS H' m c g (b + B) ∧ H' l = some (.lst (xs.map V.int)) ∧ xs.length = n ∧ H l = none
end
end KQ
/-! len(set(xs)) of whole numbers -/
namespace KR
open PySem PySem.Spec PyProof.Rows L2 KM
section
variable {X : Cx}
def tLenSetI (K : PySem.W.Frag) (ta : TE) : TE := fun σ H Q => ta σ H fun x H1 => ∃ (l : Addr) (xs : List Int), x = .ref l ∧ SqT K H1 l (xs.map V.int) ∧ xs.length ≤ 1000 ∧ Q (.int ((dcount xs : Nat) : Int)) H1
theorem pe_lenSetI {a : Expr} {ta : TE} {p p2 q pos : Pos} (hc : X.calm = true) (hg : Gl X "len") (hm : X.mg "len" = none) (hg2 : Gl X "set") (hm2 : X.mg "set" = none) (ha : PE X a ta)
    (na : starEach [a] X.env = (false, eval a X.env) :: starEach [] X.env := by rfl) : PE X (.Call (.Name "len" p) [.Call (.Name "set" p2) [a] [] q] [] pos) (tLenSetI X.K ta) := by
  refine ⟨fun pins s σ H Q I h => ?_⟩
  refine Call_ (ld_blt I hg hm boot_len ?_)
  refine PyProof.Rows.callWith_builtin1 (PyProof.Rows.args_cons ?_ rfl) rfl rfl
  refine Call_ (ld_blt I hg2 hm2 boot_set ?_)
  refine PyProof.Rows.callWith_type1 (PyProof.Rows.args_cons (thn (ha.run pins s σ H _ I h) fun v s1 ⟨x, H1, I1, r1, q1⟩ => PyProof.Rows.args_nil ?_) na) na rfl
  obtain ⟨l, xs, rfl, hq, hle, q1⟩ := q1
  cases r1
  obtain ⟨its, r, pl, hz⟩ := I1.tuple hq
  refine call_set_tupI xs (I1.ok.hd hc) pl (by simpa using r.ints) ?_ fun h' tk c R hcl hk => ?_
  · exact Nat.lt_of_le_of_lt (Nat.succ_le_succ hle) (by decide)
  refine PyProof.Rows.args_nil ?_
  obtain ⟨o, es, ep, t, ho, hex, hd, hg1, hnd, hS, hlt, hf, hn, _⟩ := R
  have I2 : Inv X pins σ H1 { s1 with heap := h', toks := tk } := I1.kept hk
  have ec : es.size = dcount xs := by
    have := same_len hnd (firsts_nodup xs) fun k => by rw [← hS k, mem_firsts, decide_eq_true_iff]
    rw [List.length_map, Array.length_toList] at this
    exact this
  refine call_len_set ho hex hd hf (by omega) ⟨.int ((dcount xs : Nat) : Int), H1, I2.tok _, ⟨_, by rw [ec]⟩, q1⟩
theorem met_nodup (val : Nat → Int) : ∀ i, (firstMet val i).Nodup
  | 0 => List.nodup_nil
  | i + 1 => by
    rw [firstMet_succ]
    unfold step_dedup
    split
    · exact met_nodup val i
    · rename_i h
      have hn : val i ∉ firstMet val i := fun hm => h (List.any_eq_true.mpr ⟨val i, hm, beq_self_eq_true _⟩)
      first
      | exact List.nodup_cons.mpr ⟨hn, met_nodup val i⟩
      | (rw [List.nodup_append]
         refine ⟨met_nodup val i, by simp, fun a ha b hb e => ?_⟩
         rw [List.mem_singleton.mp hb] at e
         exact hn (e ▸ ha))
theorem met_count (xs : List Int) : (firstMet (fun i => xs.getD i 0) xs.length).length = dcount xs := by
  refine same_len (met_nodup _ _) (firsts_nodup xs) fun k => ?_
  rw [mem_firsts]
  have h := firstMet_any (fun i => xs.getD i 0) xs.length k
  rw [show (List.range xs.length).map (fun i => xs.getD i 0) = xs from by
    refine List.ext_getElem? fun i => ?_
    by_cases hi : i < xs.length
    · rw [at_map (List.getElem?_range hi), List.getD_eq_getElem?_getD, List.getElem?_eq_getElem hi]
      rfl
    · rw [List.getElem?_eq_none (by rw [List.length_map, List.length_range]; omega), List.getElem?_eq_none (by omega)]] at h
  have e : ∀ ys : List Int, ys.any (· == k) = true ↔ k ∈ ys := fun ys => by
    rw [List.any_eq_true]
    exact ⟨fun ⟨a, ha, q⟩ => (eq_of_beq q) ▸ ha, fun hk => ⟨k, hk, beq_self_eq_true _⟩⟩
  rw [← e, h, e]
def tLenSetL (K : PySem.W.Frag) (ta : TE) : TE := fun σ H Q => ta σ H fun x H1 => ∃ (l : Addr) (xs : List Int), x = .ref l ∧ SqL K H1 l (xs.map V.int) ∧ xs.length ≤ 1000 ∧ Q (.int ((dcount xs : Nat) : Int)) H1
theorem pe_lenSetL {a : Expr} {ta : TE} {p p2 q pos : Pos} (hc : X.calm = true) (hg : Gl X "len") (hm : X.mg "len" = none) (hg2 : Gl X "set") (hm2 : X.mg "set" = none) (ha : PE X a ta)
    (na : starEach [a] X.env = (false, eval a X.env) :: starEach [] X.env := by rfl) : PE X (.Call (.Name "len" p) [.Call (.Name "set" p2) [a] [] q] [] pos) (tLenSetL X.K ta) := by
  refine ⟨fun pins s σ H Q I h => ?_⟩
  refine Call_ (ld_blt I hg hm boot_len ?_)
  refine PyProof.Rows.callWith_builtin1 (PyProof.Rows.args_cons ?_ rfl) rfl rfl
  refine Call_ (ld_blt I hg2 hm2 boot_set ?_)
  refine PyProof.Rows.callWith_type1 (PyProof.Rows.args_cons (thn (ha.run pins s σ H _ I h) fun v s1 ⟨x, H1, I1, r1, q1⟩ => PyProof.Rows.args_nil ?_) na) na rfl
  obtain ⟨l, xs, rfl, hq, hle, q1⟩ := q1
  cases r1
  obtain ⟨its, r, pl, hz⟩ := I1.list hq
  have hlen : its.toArray.size = xs.length := by
    rw [List.size_toArray, ← r.length, List.length_map]
  refine PySem.call_set_list (I1.ok.hd hc) pl.isList (by simpa using r.ints) (by rw [hlen]; exact Nat.lt_of_le_of_lt (Nat.succ_le_succ hle) (by decide)) fun h' tk R hk => ?_
  refine PyProof.Rows.args_nil ?_
  rw [hlen, met_count] at R
  obtain ⟨o, es, ep, t, ho, hex, hd, _, _, hlt, hf, hn⟩ := R
  have I2 : Inv X pins σ H1 { s1 with heap := h', toks := tk } := I1.kept fun b o e => hk b o (Heap.lt_size e) e
  have hdl : dcount xs ≤ xs.length := KQ.firsts_le xs
  refine call_len_set ho hex hd hf (by rw [hn]; omega) ⟨.int ((dcount xs : Nat) : Int), H1, I2.tok _, ⟨_, by rw [hn]⟩, q1⟩
end
end KR
namespace KQ
open PySem PySem.Spec PyProof.Rows L2 KR KM StX
section
variable {P : Program} {w : World} {K : PySem.W.Frag} {mg : Str → Option Value} {base : Heap}
theorem dcount_nodup (xs : List Int) : dcount xs = xs.length ↔ xs.Nodup := by
  constructor
  · intro h
    refine firsts_rec (P := fun xs => dcount xs = xs.length → xs.Nodup) (fun _ => List.nodup_nil) (fun xs x ih h => ?_) xs h
    have l := firsts_le xs
    unfold dcount at h ih
    rw [firsts_snoc] at h
    unfold ins at h
    rw [List.length_append] at h
    have l1 : [x].length = 1 := rfl
    split at h
    · omega
    · rename_i hx
      rw [List.length_append] at h
      rw [List.nodup_append]
      refine ⟨ih (by omega), by simp, fun a ha b hb e => ?_⟩
      rw [List.mem_singleton.mp hb] at e
      exact hx ((mem_firsts xs).mpr (e ▸ ha))
  · intro h
    exact same_len (firsts_nodup xs) h fun x => mem_firsts xs
def spLikeT (K : PySem.W.Frag) : Sp := fun vs H Q _ => ∃ (a : Addr) (xs : List Int), vs = [.ref a] ∧ SqT K H a (xs.map V.int) ∧ xs.length ≤ 1000 ∧ ∀ c, (c = true ↔ ¬ xs.Nodup) → Q (.bl c) H
def spLikeL (K : PySem.W.Frag) : Sp := fun vs H Q _ => ∃ (a : Addr) (xs : List Int), vs = [.ref a] ∧ SqL K H a (xs.map V.int) ∧ xs.length ≤ 1000 ∧ ∀ c, (c = true ↔ ¬ xs.Nodup) → Q (.bl c) H
end
end KQ
namespace KQ
open PySem PySem.Spec PyProof.Rows L2 KR KM StX
section
variable {P : Program} {w : World} {K : PySem.W.Frag} {mg : Str → Option Value} {base : Heap}
/-- the doors from the first one of ps back to where the dict says none -/
def Back (kvs : List (L2.Key × V)) : List Int → Prop
  | [] => False
  | [d] => valV kvs (kI d) = some .non
  | d :: e :: r => valV kvs (kI d) = some (.int e) ∧ Back kvs (e :: r)
def headV : List Int → V
  | [] => .non
  | d :: _ => .int d
abbrev s_way_back : Stmt := topS 21
theorem sc_way_back : FnScope ["ahead", "door", "doors"] ["ahead", "door"] (defScope s_way_back) := ⟨rfl, rfl, rfl, by decide +kernel, rfl, by decide +kernel, by decide +kernel⟩
def spBack : Sp := fun vs H Q _ => ∃ (a : Addr) (kvs : List (L2.Key × V)) (d : Int) (r : List Int), vs = [.ref a, .int d] ∧ Rd H a (.dK kvs) ∧ Back kvs (d :: r) ∧ r.length ≤ 1000 ∧
  ∀ H' l, Same H H' → H l = none → H' l = some (.lst ((d :: r).map V.int)) → Q (.ref l) H'
theorem ok_way_back (D : DefAt K mg "way_back" s_way_back) (T : Bt mg) : Use P w K mg base "way_back" 1 ["ahead", "door"] spBack := by
  refine use_of D (fun f fd F => F.ok sc_way_back (fun vs H Q E h => ?_) (fun cdv A outer s H vs Q E hr h => ?_)) (fun _ _ _ _ _ _ us hl => match us, hl with | [_, _], _ => rfl)
  · obtain ⟨a, kvs, d, r, rfl, _⟩ := h
    rfl
  · obtain ⟨a, kvs, d, r, rfl, ha, hb, hl, q⟩ := h
    refine ⟨_, (pss_cons (ps_set (i := 2) sc_way_back.nd rfl (Or.inl rfl) (pe_lst pa_nil))
      (pss_cons (ps_while PassesOwn.never (pt_cmpR op_notN (pv 1) pe_non (nomark _)) (pss_cons (ps_expr (k_bm (K := K) rfl PySem.F.plainAttrs_list PySem.F.slot_list_append PySem.F.type_list_append mt_append (pv 2) (pa_cons (pv 1) pa_nil)))
      (pss_one (ps_set (i := 1) sc_way_back.nd rfl (Or.inl rfl) (pe_dget (hu_of hr) (pv 0) (pv 1) (fun _ _ => rfl))))))
      (pss_one (ps_ret (pv 2))))), ?_⟩
    refine ⟨Nat.zero_le _, fun L nL => ?_⟩
    have hna : a ≠ L := fun e => by
      rcases ha with ha | ⟨o, ha⟩
      · rw [e, nL] at ha; cases ha
      · rw [e, nL] at ha; cases ha
    refine ⟨fun g σ H1 => ∃ (done rest : List Int), done ++ rest = d :: r ∧ g = rest.length ∧ σ = [some (.ref a), some (headV rest), some (.ref L)] ∧ Same H H1 ∧ H1 L = some (.lst (done.map V.int)) ∧ (rest ≠ [] → Back kvs rest),
      ⟨_, [], d :: r, rfl, rfl, rfl, same_new nL, upd_same, fun _ => hb⟩, ?_⟩
    rintro g σ H1 ⟨done, rest, hdr, rfl, rfl, sm, eL, hbk⟩
    cases rest with
    | nil =>
      rw [List.append_nil] at hdr
      subst hdr
      exact ⟨_, rfl, rfl, _, rfl, _, rfl, q H1 L sm nL eL⟩
    | cons e rest =>
      have hb2 := hbk (by simp)
      have hld : done.length ≤ 1001 := by
        have := congrArg List.length hdr
        rw [List.length_append, List.length_cons, List.length_cons] at this
        omega
      have hval : valV kvs (kI e) = some (headV rest) ∧ (rest ≠ [] → Back kvs rest) := by
        cases rest with
        | nil => exact ⟨hb2, fun z => absurd rfl z⟩
        | cons e2 r2 => exact ⟨hb2.1, fun _ => hb2.2⟩
      have ha2 : Rd (upd H1 L (.lst (done.map V.int ++ [.int e]))) a (.dK kvs) := by
        rcases ha with ha | ⟨o, ha⟩
        · exact .inl (by rw [upd_ne hna]; exact sm _ _ ha)
        · exact .inr ⟨o, by rw [upd_ne hna]; exact sm _ _ ha⟩
      have gv : DGet (upd H1 L (.lst (done.map V.int ++ [.int e]))) a (.int e) (some (headV rest)) := by
        exact .inl ⟨kvs, kI e, ha2, rfl, hval.1.symm⟩
      refine ⟨_, rfl, rfl, _, rfl, _, fun σ' H' n => ⟨rest.length, by rw [List.length_cons]; omega, n⟩, ?_⟩
      refine ⟨_, rfl, .inl ⟨rfl, _, .inl (.inl eL)⟩, _, rfl, L, _, _, rfl, rfl, eL, ?_, ?_⟩
      · rw [List.length_map]
        exact small_of (by omega)
      refine ⟨_, rfl, _, rfl, a, headV rest, rfl, gv, done ++ [e], rest, ?_, rfl, rfl, same_mut sm nL, ?_, hval.2⟩
      · rw [List.append_assoc]
        exact hdr
      · rw [upd_same, List.map_append]
        rfl
end
end KQ
namespace KQ
open PySem PySem.Spec PyProof.Rows L2 KR KM
/-! ### every second one -/
def ev {α : Type} : List α → List α
  | [] => []
  | [a] => [a]
  | a :: _ :: r => a :: ev r
theorem ev_cons {α : Type} (a : α) (r : List α) : ev (a :: r) = a :: ev r.tail := by
  cases r <;> rfl
theorem ev_at {α : Type} : ∀ (f : List α) (i : Nat), (ev f)[i]? = f[2 * i]?
  | [], i => by simp [ev]
  | [a], 0 => rfl
  | [a], i + 1 => by
    show ([a] : List α)[i + 1]? = [a][2 * (i + 1)]?
    rw [List.getElem?_eq_none (by simp), List.getElem?_eq_none (by simp; omega)]
  | a :: b :: r, 0 => rfl
  | a :: b :: r, i + 1 => by
    show (ev r)[i]? = _
    rw [ev_at r i, show 2 * (i + 1) = 2 * i + 1 + 1 by omega]
    rfl
theorem ev_map {α β : Type} (f : α → β) : ∀ xs : List α, ev (xs.map f) = (ev xs).map f
  | [] => rfl
  | [a] => rfl
  | a :: b :: r => by
    show f a :: ev (r.map f) = f a :: (ev r).map f
    rw [ev_map f r]
theorem ev_len {α : Type} : ∀ xs : List α, (ev xs).length ≤ xs.length
  | [] => Nat.le_refl _
  | [a] => Nat.le_refl _
  | a :: b :: r => by
    have := ev_len r
    show (ev r).length + 1 ≤ r.length + 1 + 1
    omega
/-- by twos alike -/
def Twos (f : List Int) : Prop := ev f = ev f.tail
theorem twos_at (f : List Int) : Twos f ↔ ∀ i, f[2 * i]? = f[2 * i + 1]? := by
  unfold Twos
  constructor
  · intro h i
    have := congrArg (fun l : List Int => l[i]?) h
    simp only [ev_at, List.getElem?_tail] at this
    exact this
  · intro h
    refine List.ext_getElem? fun i => ?_
    rw [ev_at, ev_at, List.getElem?_tail]
    exact h i
theorem twos_count : ∀ (f : List Int), f.length % 2 = 0 → Twos f → ∀ x, f.count x = 2 * (ev f).count x
  | [], _, _, x => rfl
  | [a], h, _, x => by simp at h
  | a :: b :: r, h, t, x => by
    have t' : (a :: ev r : List Int) = ev (b :: r) := t
    rw [ev_cons] at t'
    obtain ⟨rfl, t2⟩ := List.cons.inj t'
    have hl : r.length % 2 = 0 := by
      rw [List.length_cons, List.length_cons] at h
      omega
    have ih := twos_count r hl t2 x
    show (a :: a :: r).count x = 2 * (a :: ev r).count x
    rw [List.count_cons, List.count_cons, List.count_cons, ih]
    split <;> omega
theorem nodup_count : ∀ l : List Int, l.Nodup ↔ ∀ x ∈ l, l.count x = 1
  | [] => by simp
  | a :: l => by
    rw [List.nodup_cons, nodup_count l]
    constructor
    · rintro ⟨h1, h2⟩ x hx
      rw [List.count_cons]
      by_cases e : a = x
      · subst e
        rw [List.count_eq_zero_of_not_mem h1]
        simp
      · rcases List.mem_cons.mp hx with q | q
        · exact absurd q.symm e
        · rw [h2 x q]
          simp [e]
    · intro h
      have h1 : a ∉ l := fun hm => by
        have := h a List.mem_cons_self
        rw [List.count_cons] at this
        have p := List.count_pos_iff.mpr hm
        simp at this
        omega
      refine ⟨h1, fun x hx => ?_⟩
      have := h x (List.mem_cons_of_mem _ hx)
      rw [List.count_cons] at this
      have e : a ≠ x := fun e => h1 (e ▸ hx)
      simpa [e] using this
theorem twos_nodup {f : List Int} (hl : f.length % 2 = 0) (t : Twos f) : (∀ x ∈ f, f.count x = 2) ↔ (ev f).Nodup := by
  rw [nodup_count]
  have hm : ∀ x, x ∈ f ↔ x ∈ ev f := fun x => by
    rw [← List.count_pos_iff, ← List.count_pos_iff, twos_count f hl t x]
    omega
  constructor
  · intro h x hx
    have := h x ((hm x).mpr hx)
    rw [twos_count f hl t x] at this
    omega
  · intro h x hx
    rw [twos_count f hl t x, h x ((hm x).mp hx)]
/-! ### rings -/
def bk (p : List Int) (d : Int) : Int := p.getD d.toNat (-1)
def rot (ds : List Int) : List Int := ds.tail ++ ds.take 1
theorem rot_at {ds : List Int} (ne : ds ≠ []) (j : Nat) : (rot ds)[j]? = if j + 1 < ds.length then ds[j + 1]? else if j + 1 = ds.length then ds[0]? else none := by
  cases ds with
  | nil => exact absurd rfl ne
  | cons d t =>
    show (t ++ [d])[j]? = if j + 1 < t.length + 1 then (d :: t)[j + 1]? else if j + 1 = t.length + 1 then (d :: t)[0]? else none
    rw [List.getElem?_append]
    by_cases h : j < t.length
    · rw [if_pos h, if_pos (by omega), List.getElem?_cons_succ]
    · rw [if_neg h, if_neg (by omega)]
      by_cases e : j = t.length
      · subst e
        rw [Nat.sub_self, if_pos rfl]
        rfl
      · rw [if_neg (by omega), List.getElem?_eq_none (by simp; omega)]
theorem rot_count (ds : List Int) (f : Int → Int) (x : Int) : ((rot ds).map f).count x = (ds.map f).count x := by
  cases ds with
  | nil => rfl
  | cons d t =>
    show ((t ++ [d]).map f).count x = (f d :: t.map f).count x
    rw [List.map_append, List.count_append, List.count_cons]
    show _ + [f d].count x = _
    rw [List.count_cons]
    simp
theorem rot_len (ds : List Int) : (rot ds).length = ds.length := by
  cases ds with
  | nil => rfl
  | cons d t => simp [rot]
/-- rings as the program looks at them -/
structure IsRing (p r ds : List Int) : Prop where
  ne : ds ≠ []
  even : ds.length % 2 = 0
  rng : ∀ d ∈ ds, 0 ≤ d ∧ d < p.length
  nodup : ds.Nodup
  low : (ev (ds.map (bk p))).Nodup
  high : (ev ((rot ds).map (bk r))).Nodup
  lows : Twos (ds.map (bk p))
  highs : Twos ((rot ds).map (bk r))
/-- the next one's place -/
def nx (ds : List Int) (n : Nat) : Nat := if n + 1 < ds.length then n + 1 else 0
/-- .. and as the law does -/
structure RingR (p r ds : List Int) : Prop where
  len : 2 ≤ ds.length
  even : ds.length % 2 = 0
  rng : ∀ d ∈ ds, 0 ≤ d ∧ d < p.length
  nodup : ds.Nodup
  step : ∀ n x y, ds[n]? = some x → ds[nx ds n]? = some y → bk (if n % 2 = 0 then p else r) x = bk (if n % 2 = 0 then p else r) y
  low : ∀ d ∈ ds, (ds.map (bk p)).count (bk p d) = 2
  high : ∀ d ∈ ds, (ds.map (bk r)).count (bk r d) = 2
theorem map_all {ds : List Int} {f : Int → Int} (P : Int → Prop) : (∀ x ∈ ds.map f, P x) ↔ ∀ d ∈ ds, P (f d) :=
  ⟨fun h d hd => h _ (List.mem_map_of_mem hd), fun h x hx => by
    obtain ⟨d, hd, rfl⟩ := List.mem_map.mp hx
    exact h d hd⟩
theorem ring_iff {p r ds : List Int} : IsRing p r ds ↔ RingR p r ds := by
  have twos : ds ≠ [] → ds.length % 2 = 0 → (Twos (ds.map (bk p)) ∧ Twos ((rot ds).map (bk r)) ↔ ∀ n x y, ds[n]? = some x → ds[nx ds n]? = some y → bk (if n % 2 = 0 then p else r) x = bk (if n % 2 = 0 then p else r) y) := by
    intro ne ev2
    rw [twos_at, twos_at]
    have hpos := List.length_pos_iff.mpr ne
    constructor
    · rintro ⟨h1, h2⟩ n x y hx hy
      have ln := (List.getElem?_eq_some_iff.mp hx).1
      unfold nx at hy
      by_cases e : n % 2 = 0
      · rw [if_pos e]
        rw [if_pos (by omega)] at hy
        have := h1 (n / 2)
        rw [show 2 * (n / 2) = n by omega, at_map hx, at_map hy] at this
        exact Option.some.inj this
      · rw [if_neg e]
        have := h2 (n / 2)
        have ea : (rot ds)[2 * (n / 2)]? = some x := by
          rw [rot_at ne, show 2 * (n / 2) + 1 = n by omega, if_pos ln, hx]
        have eb : (rot ds)[2 * (n / 2) + 1]? = some y := by
          rw [rot_at ne, show 2 * (n / 2) + 1 + 1 = n + 1 by omega]
          by_cases e2 : n + 1 < ds.length
          · rw [if_pos e2] at hy ⊢
            exact hy
          · rw [if_neg e2] at hy ⊢
            rw [if_pos (by omega)]
            exact hy
        rw [at_map ea, at_map eb] at this
        exact Option.some.inj this
    · intro h
      refine ⟨fun i => ?_, fun i => ?_⟩
      · by_cases hi : 2 * i < ds.length
        · obtain ⟨x, hx⟩ := at_some (xs := ds) hi
          obtain ⟨y, hy⟩ := at_some (xs := ds) (i := 2 * i + 1) (by omega)
          rw [at_map hx, at_map hy]
          have := h (2 * i) x y hx (by unfold nx; rw [if_pos (by omega)]; exact hy)
          rw [if_pos (by omega)] at this
          rw [this]
        · rw [List.getElem?_eq_none (by rw [List.length_map]; omega), List.getElem?_eq_none (by rw [List.length_map]; omega)]
      · by_cases hi : 2 * i < ds.length
        · obtain ⟨x, hx⟩ := at_some (xs := ds) (i := 2 * i + 1) (by omega)
          have ea : (rot ds)[2 * i]? = some x := by
            rw [rot_at ne, if_pos (by omega), hx]
          obtain ⟨y, hy⟩ := at_some (xs := rot ds) (i := 2 * i + 1) (by rw [rot_len]; omega)
          have hy' := hy
          rw [rot_at ne] at hy'
          have hn : ds[nx ds (2 * i + 1)]? = some y := by
            unfold nx
            by_cases e2 : 2 * i + 1 + 1 < ds.length
            · rw [if_pos e2] at hy' ⊢
              exact hy'
            · rw [if_neg e2] at hy' ⊢
              rw [if_pos (by omega)] at hy'
              exact hy'
          have := h (2 * i + 1) x y hx hn
          rw [if_neg (by omega)] at this
          rw [at_map ea, at_map hy, this]
        · rw [List.getElem?_eq_none (by rw [List.length_map, rot_len]; omega), List.getElem?_eq_none (by rw [List.length_map, rot_len]; omega)]
  have counts : ∀ x, ((rot ds).map (bk r)).count x = (ds.map (bk r)).count x := rot_count ds (bk r)
  have rmem : ∀ x, x ∈ (rot ds).map (bk r) ↔ x ∈ ds.map (bk r) := fun x => by
    rw [← List.count_pos_iff, ← List.count_pos_iff, counts]
  have rl : ds.length % 2 = 0 → ((rot ds).map (bk r)).length % 2 = 0 := fun h => by
    rw [List.length_map, rot_len]
    exact h
  constructor
  · rintro ⟨ne, e, rng, nd, l, h, ls, hs⟩
    have hpos := List.length_pos_iff.mpr ne
    refine ⟨by omega, e, rng, nd, (twos ne e).mp ⟨ls, hs⟩, ?_, ?_⟩
    · exact (map_all fun x => (ds.map (bk p)).count x = 2).mp ((twos_nodup (by rw [List.length_map]; exact e) ls).mpr l)
    · have := (twos_nodup (rl e) hs).mpr h
      refine (map_all fun x => (ds.map (bk r)).count x = 2).mp fun x hx => ?_
      rw [← counts]
      exact this x ((rmem x).mpr hx)
  · rintro ⟨ln, e, rng, nd, st, l, h⟩
    have ne : ds ≠ [] := fun e => by
      rw [e] at ln
      simp at ln
    obtain ⟨ls, hs⟩ := (twos ne e).mpr st
    refine ⟨ne, e, rng, nd, (twos_nodup (by rw [List.length_map]; exact e) ls).mp ((map_all fun x => (ds.map (bk p)).count x = 2).mpr l), (twos_nodup (rl e) hs).mp fun x hx => ?_, ls, hs⟩
    rw [counts]
    exact (map_all fun x => (ds.map (bk r)).count x = 2).mpr h x ((rmem x).mp hx)
end KQ
namespace KQ
open PySem PySem.Spec PyProof.Rows L2 KR KM
/-! ### doors found ahead of one another -/
structure Ent where
  d : Int
  s : Int
  par : Int
  q : Nat
def kvsOf (st : Int) (E : List Ent) : List (L2.Key × V) := (kI st, V.non) :: E.map fun e => (kI e.d, V.int e.par)
def Qu (B : List Int) (st : Int) (E : List Ent) : List (Int × Int) := B.map (fun b => (b, st)) ++ E.map fun e => (1 - e.s, e.d)
def prt (p r : List Int) (s : Int) : List Int := if s = 0 then p else r
structure Bfs (p r B : List Int) (st : Int) (N : Nat) (E : List Ent) : Prop where
  keys : (st :: E.map Ent.d).Nodup
  rng : ∀ e ∈ E, 0 ≤ e.d ∧ e.d < N
  par : ∀ k e, E[k]? = some e → e.q < B.length + k ∧ (Qu B st E)[e.q]? = some (e.s, e.par) ∧ bk (prt p r e.s) e.d = bk (prt p r e.s) e.par
  apart : ∀ e ∈ E, ∀ j w x, j < e.q → (Qu B st E)[j]? = some (w, x) → bk (prt p r w) e.d ≠ bk (prt p r w) x
/-- all doors up to n in the block of what stands at j in the row are found -/
def FullTo (p r B : List Int) (st : Int) (E : List Ent) (j n : Nat) : Prop := ∀ w x, (Qu B st E)[j]? = some (w, x) → ∀ d : Int, 0 ≤ d → d < n → bk (prt p r w) d = bk (prt p r w) x → d ∈ st :: E.map Ent.d
theorem qu_len (B : List Int) (st : Int) (E : List Ent) : (Qu B st E).length = B.length + E.length := by
  unfold Qu
  rw [List.length_append, List.length_map, List.length_map]
theorem qu_snoc (B : List Int) (st : Int) (E : List Ent) (e : Ent) : Qu B st (E ++ [e]) = Qu B st E ++ [(1 - e.s, e.d)] := by
  unfold Qu
  rw [List.map_append, ← List.append_assoc]
  rfl
theorem qu_keep {B : List Int} {st : Int} {E : List Ent} {j : Nat} (e : Ent) (h : j < (Qu B st E).length) : (Qu B st (E ++ [e]))[j]? = (Qu B st E)[j]? := by
  rw [qu_snoc, List.getElem?_append_left h]
theorem full_keep {p r B : List Int} {st : Int} {E : List Ent} {j n : Nat} (e : Ent) (h : j < (Qu B st E).length) (f : FullTo p r B st E j n) : FullTo p r B st (E ++ [e]) j n := by
  intro w x hq d d0 d1 hb
  rw [qu_keep e h] at hq
  have := f w x hq d d0 d1 hb
  rw [List.map_append, ← List.cons_append]
  exact List.mem_append_left _ this
theorem bfs_add {p r B : List Int} {st : Int} {N : Nat} {E : List Ent} (h : Bfs p r B st N E) {a : Nat} {w x d : Int} (full : ∀ j, j < a → FullTo p r B st E j N)
    (hq : (Qu B st E)[a]? = some (w, x)) (d0 : 0 ≤ d) (d1 : d < N) (nd : d ∉ st :: E.map Ent.d) (hb : bk (prt p r w) d = bk (prt p r w) x) : Bfs p r B st N (E ++ [⟨d, w, x, a⟩]) := by
  have ha := (List.getElem?_eq_some_iff.mp hq).1
  have hal := ha
  rw [qu_len] at hal
  refine ⟨?_, fun e he => ?_, fun k e hk => ?_, fun e he j w' x' hj hq' => ?_⟩
  · rw [List.map_append, ← List.cons_append, List.nodup_append]
    exact ⟨h.keys, by simp, fun u hu v hv e => nd (by rw [List.map_cons, List.map_nil, List.mem_singleton] at hv; exact (e.trans hv : u = d) ▸ hu)⟩
  · rcases List.mem_append.mp he with he | he
    · exact h.rng e he
    · rw [List.mem_singleton.mp he]
      exact ⟨d0, d1⟩
  · by_cases hkl : k < E.length
    · rw [List.getElem?_append_left hkl] at hk
      obtain ⟨h1, h2, h3⟩ := h.par k e hk
      refine ⟨h1, ?_, h3⟩
      rw [qu_keep _ (List.getElem?_eq_some_iff.mp h2).1]
      exact h2
    · have hk2 := (List.getElem?_eq_some_iff.mp hk).1
      rw [List.length_append, List.length_singleton] at hk2
      have : k = E.length := by omega
      subst this
      rw [List.getElem?_append_right (Nat.le_refl _), Nat.sub_self] at hk
      obtain rfl := Option.some.inj hk
      exact ⟨hal, by rw [qu_keep _ ha]; exact hq, hb⟩
  · rcases List.mem_append.mp he with he | he
    · obtain ⟨k, hk⟩ := List.mem_iff_getElem?.mp he
      have := (h.par k e hk).1
      have hk2 := (List.getElem?_eq_some_iff.mp hk).1
      have hjl : j < (Qu B st E).length := by
        rw [qu_len]
        omega
      rw [qu_keep _ hjl] at hq'
      exact h.apart e he j w' x' hj hq'
    · rw [List.mem_singleton.mp he] at hj ⊢
      have hj' : j < a := hj
      rw [qu_keep _ (by omega)] at hq'
      exact fun e => nd (full j hj' w' x' hq' d d0 d1 e)
theorem full_next {p r B : List Int} {st : Int} {E : List Ent} {a n : Nat} (f : FullTo p r B st E a n) (hn : ∀ w x, (Qu B st E)[a]? = some (w, x) → bk (prt p r w) (n : Int) = bk (prt p r w) x → ((n : Nat) : Int) ∈ st :: E.map Ent.d) :
    FullTo p r B st E a (n + 1) := by
  intro w x hq d d0 d1 hb
  by_cases e : d = n
  · subst e
    exact hn w x hq hb
  · exact f w x hq d d0 (by omega) hb
theorem bfs_len {p r B : List Int} {st : Int} {N : Nat} {E : List Ent} (h : Bfs p r B st N E) : E.length ≤ N := by
  have := sub_len (xs := E.map Ent.d) (ys := (List.range N).map fun n => ((n : Nat) : Int)) (List.nodup_cons.mp h.keys).2 fun x hx => by
    obtain ⟨e, he, rfl⟩ := List.mem_map.mp hx
    obtain ⟨h0, h1⟩ := h.rng e he
    exact List.mem_map.mpr ⟨e.d.toNat, List.mem_range.mpr (by omega), by omega⟩
  rw [List.length_map, List.length_map, List.length_range] at this
  exact this
/-- the row's places, from the first one on, each found by the one before it -/
inductive Path (b : Nat) (E : List Ent) : List Nat → Prop
  | base {j : Nat} : j < b → Path b E [j]
  | step {k : Nat} {e : Ent} {ks : List Nat} : E[k]? = some e → Path b E ks → ks.getLast? = some e.q → Path b E (ks ++ [b + k])
theorem path_ex {p r B : List Int} {st : Int} {N : Nat} {E : List Ent} (h : Bfs p r B st N E) : ∀ n j : Nat, j < n → j < (Qu B st E).length → ∃ ks, Path B.length E ks ∧ ks.getLast? = some j := by
  intro n
  induction n with
  | zero => exact fun j hj => absurd hj (Nat.not_lt_zero _)
  | succ n ih =>
    intro j hj hl
    by_cases hb : j < B.length
    · exact ⟨[j], .base hb, rfl⟩
    · rw [qu_len] at hl
      obtain ⟨e, he⟩ := at_some (xs := E) (i := j - B.length) (by omega)
      obtain ⟨h1, h2, _⟩ := h.par _ e he
      obtain ⟨ks, hks, hlast⟩ := ih e.q (by omega) (List.getElem?_eq_some_iff.mp h2).1
      refine ⟨ks ++ [B.length + (j - B.length)], .step he hks hlast, ?_⟩
      rw [List.getLast?_concat]
      congr 1
      omega
def dr (B : List Int) (st : Int) (E : List Ent) (j : Nat) : Int := ((Qu B st E)[j]?.getD (0, 0)).2
def fl (B : List Int) (st : Int) (E : List Ent) (j : Nat) : Int := ((Qu B st E)[j]?.getD (0, 0)).1
section
variable {p r B : List Int} {st : Int} {N : Nat} {E : List Ent}
theorem qu_at {j : Nat} {w x : Int} (h : (Qu B st E)[j]? = some (w, x)) : dr B st E j = x ∧ fl B st E j = w := by
  unfold dr fl
  rw [h]
  exact ⟨rfl, rfl⟩
theorem qu_ent {k : Nat} {e : Ent} (h : E[k]? = some e) : (Qu B st E)[B.length + k]? = some (1 - e.s, e.d) := by
  unfold Qu
  rw [List.getElem?_append_right (by rw [List.length_map]; omega), List.length_map, Nat.add_sub_cancel_left, at_map (f := fun e : Ent => (1 - e.s, e.d)) h]
theorem qu_base {j : Nat} (h : j < B.length) : ∃ b, B[j]? = some b ∧ (Qu B st E)[j]? = some (b, st) := by
  obtain ⟨b, hb⟩ := at_some h
  refine ⟨b, hb, ?_⟩
  unfold Qu
  rw [List.getElem?_append_left (by rw [List.length_map]; exact h), at_map (f := fun b : Int => (b, st)) hb]
theorem path_ne {b : Nat} {ks : List Nat} (h : Path b E ks) : ks ≠ [] := by
  cases h with
  | base => simp
  | step => simp
theorem last_at {α : Type} {ks : List α} {x : α} (h : ks.getLast? = some x) : ks ≠ [] ∧ ks[ks.length - 1]? = some x := by
  rw [List.getLast?_eq_getElem?] at h
  refine ⟨fun e => by rw [e] at h; simp at h, h⟩
/-- what holds of two that stand one behind the other -/
structure Next (p r B : List Int) (st : Int) (E : List Ent) (ks : List Nat) (i x y : Nat) : Prop where
  lt : x < y
  turn : fl B st E y = 1 - fl B st E x
  blk : bk (prt p r (fl B st E x)) (dr B st E y) = bk (prt p r (fl B st E x)) (dr B st E x)
  far : ∀ j z, j < i → ks[j]? = some z → bk (prt p r (fl B st E z)) (dr B st E y) ≠ bk (prt p r (fl B st E z)) (dr B st E z)
theorem path_next (h : Bfs p r B st N E) : ∀ {ks : List Nat}, Path B.length E ks → (∀ (i j x y : Nat), i < j → ks[i]? = some x → ks[j]? = some y → x < y) ∧ (∀ x ∈ ks, x < (Qu B st E).length) ∧ ∀ i x y, ks[i]? = some x → ks[i + 1]? = some y → Next p r B st E ks i x y := by
  intro ks hp
  induction hp with
  | base hj =>
    refine ⟨fun i j x y hij hi hj' => ?_, fun x hx => ?_, fun i x y hi hi1 => ?_⟩
    · have := (List.getElem?_eq_some_iff.mp hj').1
      rw [List.length_singleton] at this
      omega
    · rw [List.mem_singleton.mp hx, qu_len]
      omega
    · have := (List.getElem?_eq_some_iff.mp hi1).1
      rw [List.length_singleton] at this
      omega
  | @step k e ks he hks hlast ih =>
    obtain ⟨up, bd, nxt⟩ := ih
    obtain ⟨ne, hl⟩ := last_at hlast
    have hpos := List.length_pos_iff.mpr ne
    obtain ⟨h1, h2, h3⟩ := h.par k e he
    have hk := (List.getElem?_eq_some_iff.mp he).1
    obtain ⟨q1, q2⟩ := qu_at h2
    obtain ⟨q3, q4⟩ := qu_at (qu_ent (B := B) (st := st) he)
    have old : ∀ i x, (ks ++ [B.length + k])[i]? = some x → (i < ks.length ∧ ks[i]? = some x) ∨ (i = ks.length ∧ x = B.length + k) := by
      intro i x hi
      by_cases hil : i < ks.length
      · rw [List.getElem?_append_left hil] at hi
        exact .inl ⟨hil, hi⟩
      · have := (List.getElem?_eq_some_iff.mp hi).1
        rw [List.length_append, List.length_singleton] at this
        have e2 : i = ks.length := by omega
        subst e2
        rw [List.getElem?_append_right (Nat.le_refl _), Nat.sub_self] at hi
        exact .inr ⟨rfl, (Option.some.inj hi).symm⟩
    have lt_last : ∀ i x, ks[i]? = some x → x ≤ e.q := fun i x hi => by
      have := (List.getElem?_eq_some_iff.mp hi).1
      by_cases e2 : i = ks.length - 1
      · rw [e2, hl] at hi
        obtain rfl := Option.some.inj hi
        exact Nat.le_refl _
      · exact Nat.le_of_lt (up i (ks.length - 1) x e.q (by omega) hi hl)
    refine ⟨fun i j x y hij hi hj => ?_, fun x hx => ?_, fun i x y hi hi1 => ?_⟩
    · rcases old j y hj with ⟨jl, hj⟩ | ⟨rfl, rfl⟩
      · rcases old i x hi with ⟨il, hi⟩ | ⟨rfl, rfl⟩
        · exact up i j x y hij hi hj
        · omega
      · rcases old i x hi with ⟨il, hi⟩ | ⟨rfl, rfl⟩
        · have := lt_last i x hi
          omega
        · omega
    · rcases List.mem_append.mp hx with hx | hx
      · exact bd x hx
      · rw [List.mem_singleton.mp hx, qu_len]
        omega
    · rcases old (i + 1) y hi1 with ⟨jl, hj⟩ | ⟨e2, rfl⟩
      · rcases old i x hi with ⟨il, hi'⟩ | ⟨rfl, rfl⟩
        · obtain ⟨a, b, c, d⟩ := nxt i x y hi' hj
          exact ⟨a, b, c, fun j z hji hz => by
            rcases old j z hz with ⟨zl, hz⟩ | ⟨rfl, rfl⟩
            · exact d j z hji hz
            · omega⟩
        · omega
      · rcases old i x hi with ⟨il, hi'⟩ | ⟨rfl, rfl⟩
        · have ei : i = ks.length - 1 := by omega
          rw [ei, hl] at hi'
          obtain rfl := Option.some.inj hi'
          refine ⟨h1, ?_, ?_, fun j z hji hz => ?_⟩
          · rw [q4, q2]
          · rw [q2, q3, q1]
            exact h3
          · rcases old j z hz with ⟨zl, hz⟩ | ⟨rfl, rfl⟩
            · have zlt : z < e.q := up j (ks.length - 1) z e.q (by omega) hz hl
              rw [q3]
              have hzl : z < (Qu B st E).length := bd z (List.mem_of_getElem? hz)
              obtain ⟨⟨w', x'⟩, hz2⟩ := at_some hzl
              obtain ⟨r1, r2⟩ := qu_at hz2
              rw [r1, r2]
              exact h.apart e (List.mem_of_getElem? he) z w' x' zlt hz2
            · omega
        · omega
theorem val_start : valV (kvsOf st E) (kI st) = some .non := by
  unfold kvsOf valV
  simp
theorem val_ent (h : (st :: E.map Ent.d).Nodup) {k : Nat} {e : Ent} (he : E[k]? = some e) : valV (kvsOf st E) (kI e.d) = some (.int e.par) := by
  have hm := List.mem_of_getElem? he
  unfold kvsOf valV
  have hs : st ≠ e.d := fun q => (List.nodup_cons.mp h).1 (q ▸ List.mem_map_of_mem hm)
  have hn := (List.nodup_cons.mp h).2
  have go : ∀ E : List Ent, (E.map Ent.d).Nodup → e ∈ E → ((E.map fun e => (kI e.d, V.int e.par)).find? fun kv => decide (kv.1 = kI e.d)) = some (kI e.d, V.int e.par) := by
    intro E
    induction E with
    | nil => exact fun _ hm => absurd hm (by simp)
    | cons f E ih =>
      intro hn hm
      rw [List.map_cons, List.nodup_cons] at hn
      rw [List.map_cons, List.find?_cons]
      rcases List.mem_cons.mp hm with q | q
      · subst q
        simp
      · have hne : f.d ≠ e.d := fun z => hn.1 (z ▸ List.mem_map_of_mem q)
        have : decide ((kI f.d, V.int f.par).1 = kI e.d) = false := decide_eq_false fun z => hne (kI_inj _ _ z)
        rw [this]
        exact ih hn.2 q
  rw [List.find?_cons]
  have : decide ((kI st, V.non).1 = kI e.d) = false := decide_eq_false fun z => hs (kI_inj _ _ z)
  rw [this]
  rw [go E hn hm]
  rfl
theorem path_back (h : Bfs p r B st N E) {ks : List Nat} (hp : Path B.length E ks) : Back (kvsOf st E) (ks.map (dr B st E)).reverse := by
  induction hp with
  | base hj =>
    obtain ⟨b, _, hq⟩ := qu_base (st := st) (E := E) hj
    show valV (kvsOf st E) (kI (dr B st E _)) = some .non
    rw [(qu_at hq).1]
    exact val_start
  | @step k e ks he hks hlast ih =>
    obtain ⟨ne, hl⟩ := last_at hlast
    obtain ⟨h1, h2, h3⟩ := h.par k e he
    rw [List.map_append, List.reverse_append]
    show Back (kvsOf st E) (dr B st E (B.length + k) :: (ks.map (dr B st E)).reverse)
    have hc : (ks.map (dr B st E)).reverse = e.par :: (ks.map (dr B st E)).reverse.tail := by
      have : (ks.map (dr B st E)).reverse.head? = some e.par := by
        rw [List.head?_reverse, List.getLast?_map, hlast]
        show some (dr B st E e.q) = _
        rw [(qu_at h2).1]
      cases hh : (ks.map (dr B st E)).reverse with
      | nil => rw [hh] at this; cases this
      | cons a t =>
        rw [hh] at this
        obtain rfl := Option.some.inj this
        rfl
    rw [hc] at ih ⊢
    rw [(qu_at (qu_ent he)).1]
    exact ⟨val_ent h.keys he, ih⟩
end
end KQ
namespace KQ
open PySem PySem.Spec PyProof.Rows L2 KR KM
theorem glue_fold {S : Nat → Prop} : ∀ (ts : List (Nat × Nat)) (R : Nat → Nat → Prop), (∀ x y, R x y → (S x ↔ S y)) → (∀ t ∈ ts, S t.1 ↔ S t.2) → ∀ x y, ts.foldl (fun R t => J R t.1 t.2) R x y → (S x ↔ S y)
  | [], R, h, _, x, y, q => h x y q
  | t :: ts, R, h, ht, x, y, q => by
    refine glue_fold ts (J R t.1 t.2) (fun a b hab => ?_) (fun u hu => ht u (List.mem_cons_of_mem _ hu)) x y q
    have t0 := ht t List.mem_cons_self
    rcases hab with q | ⟨q1, q2⟩ | ⟨q1, q2⟩
    · exact h _ _ q
    · exact (h _ _ q1).trans (t0.trans (h _ _ q2))
    · exact (h _ _ q1).trans (t0.symm.trans (h _ _ q2))
theorem glue_keep {S : Nat → Prop} {ts : List (Nat × Nat)} (h : ∀ t ∈ ts, S t.1 ↔ S t.2) {x y : Nat} (g : glue ts x y) : S x ↔ S y :=
  glue_fold ts Eq (fun _ _ e => by rw [e]) h x y g
section
variable {p r : List Int} {st : Int} {N : Nat} {E : List Ent}
theorem bk_at {p : List Int} {d : Int} {x : Int} (h : p[d.toNat]? = some x) : bk p d = x := by
  unfold bk
  rw [List.getD_eq_getElem?_getD, h]
  rfl
theorem bk_some {p : List Int} {d : Int} (d0 : 0 ≤ d) (d1 : d < p.length) : p[d.toNat]? = some (bk p d) := by
  obtain ⟨x, hx⟩ := at_some (xs := p) (i := d.toNat) (by omega)
  rw [hx, bk_at hx]
theorem bk_rng (par : Par p) {d : Int} (d0 : 0 ≤ d) (d1 : d < p.length) : 0 ≤ bk p d ∧ bk p d < bc 0 p :=
  (rg_mem 0 p (Int.le_refl _) par.rg).1 _ (List.mem_of_getElem? (bk_some d0 d1))
theorem mem_keys {d : Int} : d ∈ st :: E.map Ent.d ↔ d = st ∨ ∃ e ∈ E, e.d = d := by
  rw [List.mem_cons, List.mem_map]
/-- where nothing found has the first door's block of the other one, it closes no ring -/
theorem no_ring_at (par : Par p) (parr : Par r) (hl : p.length = r.length) (s0 : 0 ≤ st) (s1 : st < p.length) (hN : (N : Int) = st) (h : Bfs p r [0] st N E) (full : ∀ j, j < (Qu [0] st E).length → FullTo p r [0] st E j N)
    (no : ∀ e ∈ E, bk r e.d ≠ bk r st) : ¬ RingAt p r st.toNat := by
  rintro ⟨x, y, hx, hy, hg⟩
  have ex := bk_at hx
  have ey := bk_at hy
  have px := bk_rng par s0 s1
  have py := bk_rng parr s0 (by omega)
  have g := glue_keep (S := fun u => (∃ d, d ∈ st :: E.map Ent.d ∧ u = (bk p d).toNat) ∨ ∃ e ∈ E, u = (bc 0 p + bk r e.d).toNat) ?_ hg
  · rcases g.mp (.inl ⟨st, List.mem_cons_self, by rw [ex]⟩) with ⟨d, hd, ed⟩ | ⟨e, he, eq⟩
    · have dr : 0 ≤ d ∧ d < p.length := by
        rcases mem_keys.mp hd with rfl | ⟨e, he, rfl⟩
        · exact ⟨s0, s1⟩
        · have := h.rng e he
          omega
      have := bk_rng par dr.1 dr.2
      omega
    · have := h.rng e he
      have := bk_rng parr (d := e.d) (by omega) (by omega)
      exact no e he (by omega)
  intro t ht
  obtain ⟨i, hi⟩ := List.mem_iff_getElem?.mp ht
  have il := (List.getElem?_eq_some_iff.mp hi).1
  rw [List.length_take, ties_len hl] at il
  rw [List.getElem?_take_of_lt (by omega)] at hi
  obtain ⟨u, hu⟩ := at_some (xs := p) (i := i) (by omega)
  obtain ⟨v, hv⟩ := at_some (xs := r) (i := i) (by omega)
  rw [ties_at hu hv] at hi
  obtain rfl := Option.some.inj hi
  have bu : bk p (i : Int) = u := bk_at (by rw [Int.toNat_natCast]; exact hu)
  have bv : bk r (i : Int) = v := bk_at (by rw [Int.toNat_natCast]; exact hv)
  have ru := bk_rng par (d := (i : Int)) (by omega) (by omega)
  have rv := bk_rng parr (d := (i : Int)) (by omega) (by omega)
  rw [bu] at ru
  rw [bv] at rv
  have iN : (i : Int) < N := by omega
  have all : ∀ (j : Nat) (w x : Int), (Qu [0] st E)[j]? = some (w, x) → bk (prt p r w) (i : Int) = bk (prt p r w) x → (i : Int) ∈ st :: E.map Ent.d := fun j w x hq hb =>
    full j (List.getElem?_eq_some_iff.mp hq).1 w x hq i (by omega) iN hb
  have ne_st : (i : Int) ≠ st := by omega
  have ent : (i : Int) ∈ st :: E.map Ent.d → ∃ e ∈ E, e.d = (i : Int) := fun hm => (mem_keys.mp hm).resolve_left ne_st
  have viaE : ∀ (k : Nat) (e : Ent), E[k]? = some e → ∀ w, w = 0 ∨ w = 1 → bk (prt p r w) (i : Int) = bk (prt p r w) e.d → e.s = 0 ∨ e.s = 1 → (i : Int) ∈ st :: E.map Ent.d := by
    intro k e he w hw hb hs
    obtain ⟨_, h2, h3⟩ := h.par k e he
    by_cases e1 : w = e.s
    · subst e1
      exact all _ _ _ h2 (hb.trans h3)
    · have e2 : w = 1 - e.s := by omega
      subst e2
      exact all _ _ _ (qu_ent he) hb
  have sides : ∀ (n k : Nat) (e : Ent), k < n → E[k]? = some e → e.s = 0 ∨ e.s = 1 := by
    intro n
    induction n with
    | zero => exact fun k e hk => absurd hk (Nat.not_lt_zero _)
    | succ n ih =>
      intro k e hk he
      obtain ⟨h1, h2, _⟩ := h.par k e he
      by_cases e0 : e.q < ([0] : List Int).length
      · obtain ⟨b, hb, hq⟩ := qu_base (st := st) (E := E) e0
        rw [hq] at h2
        have : b = e.s := (Prod.mk.inj (Option.some.inj h2)).1
        have q0 : e.q = 0 := by simpa using e0
        rw [q0] at hb
        exact .inl (this ▸ (Option.some.inj hb).symm)
      · have hql : e.q < (Qu [0] st E).length := (List.getElem?_eq_some_iff.mp h2).1
        rw [qu_len] at hql
        obtain ⟨e', he'⟩ := at_some (xs := E) (i := e.q - 1) (by simp at hql e0; omega)
        have := qu_ent (B := [0]) (st := st) he'
        rw [show ([0] : List Int).length + (e.q - 1) = e.q by simp at e0 ⊢; omega, h2] at this
        have hs : e.s = 1 - e'.s := (Prod.mk.inj (Option.some.inj this)).1
        have := ih (e.q - 1) e' (by simp at h1 e0; omega) he'
        omega
  show ((∃ d, d ∈ st :: E.map Ent.d ∧ u.toNat = (bk p d).toNat) ∨ ∃ e ∈ E, u.toNat = (bc 0 p + bk r e.d).toNat) ↔ ((∃ d, d ∈ st :: E.map Ent.d ∧ (bc 0 p + v).toNat = (bk p d).toNat) ∨ ∃ e ∈ E, (bc 0 p + v).toNat = (bc 0 p + bk r e.d).toNat)
  have drng : ∀ d, d ∈ st :: E.map Ent.d → 0 ≤ d ∧ d < p.length := fun d hd => by
    rcases mem_keys.mp hd with rfl | ⟨e, he, rfl⟩
    · exact ⟨s0, s1⟩
    · have := h.rng e he
      omega
  constructor
  · rintro (⟨d, hd, ed⟩ | ⟨e, he, eq⟩)
    · have := drng d hd
      have := bk_rng par this.1 this.2
      have eb : bk p (i : Int) = bk p d := by omega
      have im : (i : Int) ∈ st :: E.map Ent.d := by
        rcases mem_keys.mp hd with rfl | ⟨e, he, rfl⟩
        · refine all 0 0 d (by rfl) ?_
          exact eb
        · obtain ⟨k, hk⟩ := List.mem_iff_getElem?.mp he
          exact viaE k e hk 0 (.inl rfl) eb (sides (k + 1) k e (Nat.lt_succ_self _) hk)
      obtain ⟨e, he, ed⟩ := ent im
      exact .inr ⟨e, he, by rw [ed, bv]⟩
    · have := h.rng e he
      have := bk_rng parr (d := e.d) (by omega) (by omega)
      omega
  · rintro (⟨d, hd, ed⟩ | ⟨e, he, eq⟩)
    · have := drng d hd
      have := bk_rng par this.1 this.2
      omega
    · have := h.rng e he
      have := bk_rng parr (d := e.d) (by omega) (by omega)
      have eb : bk r (i : Int) = bk r e.d := by omega
      obtain ⟨k, hk⟩ := List.mem_iff_getElem?.mp he
      have im := viaE k e hk 1 (.inr rfl) eb (sides (k + 1) k e (Nat.lt_succ_self _) hk)
      exact .inl ⟨i, im, by rw [bu]⟩
theorem side01 (h : Bfs p r [0] st N E) : ∀ (n k : Nat) (e : Ent), k < n → E[k]? = some e → e.s = 0 ∨ e.s = 1 := by
  intro n
  induction n with
  | zero => exact fun k e hk => absurd hk (Nat.not_lt_zero _)
  | succ n ih =>
    intro k e hk he
    obtain ⟨h1, h2, _⟩ := h.par k e he
    by_cases e0 : e.q < ([0] : List Int).length
    · obtain ⟨b, hb, hq⟩ := qu_base (st := st) (E := E) e0
      rw [hq] at h2
      have : b = e.s := (Prod.mk.inj (Option.some.inj h2)).1
      have q0 : e.q = 0 := by simpa using e0
      rw [q0] at hb
      exact .inl (this ▸ (Option.some.inj hb).symm)
    · have hql : e.q < (Qu [0] st E).length := (List.getElem?_eq_some_iff.mp h2).1
      rw [qu_len] at hql
      obtain ⟨e', he'⟩ := at_some (xs := E) (i := e.q - 1) (by simp at hql e0; omega)
      have := qu_ent (B := [0]) (st := st) he'
      rw [show ([0] : List Int).length + (e.q - 1) = e.q by simp at e0 ⊢; omega, h2] at this
      have hs : e.s = 1 - e'.s := (Prod.mk.inj (Option.some.inj this)).1
      have := ih (e.q - 1) e' (by simp at h1 e0; omega) he'
      omega
/-- what is found hangs together with the first door's block -/
theorem found_glue (hl : p.length = r.length) (s0 : 0 ≤ st) (s1 : st < p.length) (hN : (N : Int) = st) (h : Bfs p r [0] st N E) : ∀ (n k : Nat) (e : Ent), k < n → E[k]? = some e → glue ((tiesOf p r).take N) (bk p st).toNat (bk p e.d).toNat := by
  have tie : ∀ d : Int, 0 ≤ d → d < N → glue ((tiesOf p r).take N) (bk p d).toNat (bc 0 p + bk r d).toNat := fun d d0 d1 => by
    refine glue_mem (t := ((bk p d).toNat, (bc 0 p + bk r d).toNat)) (List.mem_of_getElem? (i := d.toNat) ?_)
    rw [List.getElem?_take_of_lt (by omega)]
    exact ties_at (bk_some d0 (by omega)) (bk_some d0 (by omega))
  have G := glue_eqv ((tiesOf p r).take N)
  intro n
  induction n with
  | zero => exact fun k e hk => absurd hk (Nat.not_lt_zero _)
  | succ n ih =>
    intro k e hk he
    obtain ⟨h1, h2, h3⟩ := h.par k e he
    have er := h.rng e (List.mem_of_getElem? he)
    have pr : e.par = st ∧ e.s = 0 ∨ ∃ e', E[e.q - 1]? = some e' ∧ e.q - 1 < n ∧ e.par = e'.d := by
      by_cases e0 : e.q < ([0] : List Int).length
      · obtain ⟨b, hb, hq⟩ := qu_base (st := st) (E := E) e0
        rw [hq] at h2
        have q0 : e.q = 0 := by simpa using e0
        rw [q0] at hb
        have q1 : b = 0 := (Option.some.inj hb).symm
        exact .inl ⟨(Prod.mk.inj (Option.some.inj h2)).2.symm, (Prod.mk.inj (Option.some.inj h2)).1 ▸ q1⟩
      · have hql : e.q < (Qu [0] st E).length := (List.getElem?_eq_some_iff.mp h2).1
        rw [qu_len] at hql
        obtain ⟨e', he'⟩ := at_some (xs := E) (i := e.q - 1) (by simp at hql e0; omega)
        have := qu_ent (B := [0]) (st := st) he'
        rw [show ([0] : List Int).length + (e.q - 1) = e.q by simp at e0 ⊢; omega, h2] at this
        exact .inr ⟨e', he', by simp at h1 e0; omega, (Prod.mk.inj (Option.some.inj this)).2⟩
    rcases pr with ⟨e1, e2⟩ | ⟨e', he', hn, e1⟩
    · rw [e1, e2] at h3
      have h3' : bk p e.d = bk p st := h3
      rw [h3']
      exact G.refl _
    · have g := ih _ e' hn he'
      have er' := h.rng e' (List.mem_of_getElem? he')
      rw [e1] at h3
      rcases side01 h (k + 1) k e (Nat.lt_succ_self _) he with e2 | e2
      · rw [e2] at h3
        have h3' : bk p e.d = bk p e'.d := h3
        rw [h3']
        exact g
      · rw [e2] at h3
        have h3' : bk r e.d = bk r e'.d := h3
        refine G.trans _ _ _ g (G.trans _ _ _ (tie e'.d er'.1 er'.2) ?_)
        rw [← h3']
        exact G.symm _ _ (tie e.d er.1 er.2)
theorem ring_at (hl : p.length = r.length) (s0 : 0 ≤ st) (s1 : st < p.length) (hN : (N : Int) = st) (h : Bfs p r [0] st N E) {e : Ent} (he : e ∈ E) (hb : bk r e.d = bk r st) : RingAt p r st.toNat := by
  obtain ⟨k, hk⟩ := List.mem_iff_getElem?.mp he
  have er := h.rng e he
  refine ⟨bk p st, bk r st, bk_some s0 s1, bk_some s0 (by omega), ?_⟩
  have g := found_glue hl s0 s1 hN h (k + 1) k e (Nat.lt_succ_self _) hk
  have G := glue_eqv ((tiesOf p r).take N)
  rw [show st.toNat = N by omega]
  refine G.trans _ _ _ g ?_
  rw [← hb]
  refine glue_mem (t := ((bk p e.d).toNat, (bc 0 p + bk r e.d).toNat)) (List.mem_of_getElem? (i := e.d.toNat) ?_)
  rw [List.getElem?_take_of_lt (by omega)]
  exact ties_at (bk_some er.1 (by omega)) (bk_some er.1 (by omega))
/-- the way to the first one found with the first door's block of the other one is a ring -/
theorem ring_of (hl : p.length = r.length) (s0 : 0 ≤ st) (s1 : st < p.length) (hN : (N : Int) = st) (h : Bfs p r [0] st N E) {k : Nat} {e : Ent} (he : E[k]? = some e) (hb : bk r e.d = bk r st)
    (first : ∀ k' e', k' < k → E[k']? = some e' → bk r e'.d ≠ bk r st) {ks : List Nat} (hp : Path 1 E ks) (hlast : ks.getLast? = some (1 + k)) :
    IsRing p r (ks.map (dr [0] st E)) ∧ (ks.map (dr [0] st E))[0]? = some st ∧ ∀ d ∈ ks.map (dr [0] st E), d ≤ st := by
  obtain ⟨up, bd, nxt⟩ := path_next (B := [0]) h hp
  obtain ⟨ne, hl1⟩ := last_at hlast
  have hpos := List.length_pos_iff.mpr ne
  have z0 : ∀ j : Nat, j < 1 → j = 0 := fun j hj => by omega
  have q0 : (Qu [0] st E)[0]? = some (0, st) := rfl
  -- the first place
  have h0 : ks[0]? = some 0 := by
    clear hlast hl1 first
    induction hp with
    | base hj => rw [z0 _ hj]; rfl
    | @step k e ks he hks hl2 ih =>
      obtain ⟨ne2, _⟩ := last_at hl2
      obtain ⟨a, b, c⟩ := path_next (B := [0]) h hks
      rw [List.getElem?_append_left (List.length_pos_iff.mpr ne2)]
      exact ih a b c ne2 (List.length_pos_iff.mpr ne2)
  have flag : ∀ (i x : Nat), ks[i]? = some x → fl [0] st E x = ((i % 2 : Nat) : Int) := by
    intro i
    induction i with
    | zero =>
      intro x hx
      rw [h0] at hx
      obtain rfl := Option.some.inj hx
      rfl
    | succ i ih =>
      intro y hy
      obtain ⟨x, hx⟩ := at_some (xs := ks) (i := i) (by have := (List.getElem?_eq_some_iff.mp hy).1; omega)
      have := ih x hx
      rw [(nxt i x y hx hy).turn, this]
      omega
  have place : ∀ (i x : Nat), ks[i]? = some x → (x = 0 ∧ dr [0] st E x = st) ∨ ∃ k' e', x = 1 + k' ∧ E[k']? = some e' ∧ dr [0] st E x = e'.d ∧ k' ≤ k ∧ (i + 1 < ks.length → k' < k) := by
    intro i x hx
    by_cases e0 : x = 0
    · exact .inl ⟨e0, by rw [e0]; rfl⟩
    · have hxl := bd x (List.mem_of_getElem? hx)
      rw [qu_len] at hxl
      obtain ⟨e', he'⟩ := at_some (xs := E) (i := x - 1) (by simp at hxl; omega)
      have hq := qu_ent (B := [0]) (st := st) he'
      rw [show ([0] : List Int).length + (x - 1) = x by simp; omega] at hq
      have ilt := (List.getElem?_eq_some_iff.mp hx).1
      have : x ≤ 1 + k ∧ (i + 1 < ks.length → x < 1 + k) := by
        by_cases e2 : i = ks.length - 1
        · rw [e2, hl1] at hx
          have := Option.some.inj hx
          omega
        · have := up i (ks.length - 1) x (1 + k) (by omega) hx hl1
          omega
      exact .inr ⟨x - 1, e', by omega, he', (qu_at hq).1, by omega, by omega⟩
  have qk := qu_ent (B := [0]) (st := st) he
  have dk : dr [0] st E (1 + k) = e.d := (qu_at (j := 1 + k) qk).1
  -- its number of doors is even
  have even : ks.length % 2 = 0 := by
    apply Classical.byContradiction
    intro ho
    have l2 : 2 ≤ ks.length - 1 := by
      have : ks.length ≠ 1 := fun e1 => by
        rw [e1] at hl1
        rw [show (1 - 1 : Nat) = 0 from rfl, h0] at hl1
        have := Option.some.inj hl1
        omega
      omega
    obtain ⟨x, hx⟩ := at_some (xs := ks) (i := ks.length - 2) (by omega)
    have hn := (nxt (ks.length - 2) x (1 + k) hx (by rw [show ks.length - 2 + 1 = ks.length - 1 by omega]; exact hl1)).blk
    have fx := flag _ x hx
    rw [show ((ks.length - 2) % 2) = 1 by omega] at fx
    rw [fx, dk] at hn
    have hn' : bk r e.d = bk r (dr [0] st E x) := hn
    rcases place _ x hx with ⟨rfl, _⟩ | ⟨k', e', rfl, he', d', _, lt⟩
    · have : fl [0] st E 0 = 0 := rfl
      omega
    · rw [d'] at hn'
      exact first k' e' (lt (by omega)) he' (hn'.symm.trans hb)
  have drr : ∀ d ∈ ks.map (dr [0] st E), 0 ≤ d ∧ d ≤ st := by
    intro d hd
    obtain ⟨x, hx, rfl⟩ := List.mem_map.mp hd
    obtain ⟨i, hi⟩ := List.mem_iff_getElem?.mp hx
    rcases place i x hi with ⟨_, e1⟩ | ⟨k', e', _, he', e1, _⟩
    · rw [e1]
      omega
    · rw [e1]
      have := h.rng e' (List.mem_of_getElem? he')
      omega
  have low : ∀ (i x y : Nat), i % 2 = 0 → ks[i]? = some x → ks[i + 1]? = some y → bk p (dr [0] st E y) = bk p (dr [0] st E x) := fun i x y hi hx hy => by
    have := (nxt i x y hx hy).blk
    rw [flag i x hx, hi] at this
    exact this
  have high : ∀ (i x y : Nat), i % 2 = 1 → ks[i]? = some x → ks[i + 1]? = some y → bk r (dr [0] st E y) = bk r (dr [0] st E x) := fun i x y hi hx hy => by
    have := (nxt i x y hx hy).blk
    rw [flag i x hx, hi] at this
    exact this
  have mapd : ∀ {i x : Nat}, ks[i]? = some x → (ks.map (dr [0] st E))[i]? = some (dr [0] st E x) := fun hx => at_map hx
  have ml : (ks.map (dr [0] st E)).length = ks.length := List.length_map ..
  have mne : ks.map (dr [0] st E) ≠ [] := by
    intro e1
    rw [e1] at ml
    simp at ml
    omega
  have pw : ∀ {l : List Int}, (∀ (i j : Nat) (u v : Int), i < j → l[i]? = some u → l[j]? = some v → u ≠ v) → l.Nodup := by
    intro l hh
    refine List.pairwise_iff_getElem.mpr fun i j hi hj hij => ?_
    exact hh i j _ _ hij (List.getElem?_eq_getElem hi) (List.getElem?_eq_getElem hj)
  refine ⟨⟨mne, by rw [ml]; exact even, fun d hd => ?_, ?_, ?_, ?_, ?_, ?_⟩, ?_, fun d hd => (drr d hd).2⟩
  · have := drr d hd
    omega
  · refine pw fun i j u v hij hu hv => ?_
    obtain ⟨x, hx, rfl⟩ := map_at hu
    obtain ⟨y, hy, rfl⟩ := map_at hv
    have lt := up i j x y hij hx hy
    intro e1
    have mem : ∀ (z x' : Nat), ks[x']? = some z → (st :: E.map Ent.d)[z]? = some (dr [0] st E z) := by
      intro z x' hz
      rcases place x' z hz with ⟨rfl, e2⟩ | ⟨k', e', rfl, he', e2, _⟩
      · rfl
      · rw [Nat.add_comm, List.getElem?_cons_succ, Nat.add_comm, e2]
        exact at_map (f := Ent.d) he'
    have h1 := mem x i hx
    have h2 := mem y j hy
    have l1 := (List.getElem?_eq_some_iff.mp h1)
    have l2 := (List.getElem?_eq_some_iff.mp h2)
    have := List.pairwise_iff_getElem.mp h.keys x y l1.1 l2.1 lt
    rw [l1.2, l2.2] at this
    exact this e1
  · refine pw fun i j u v hij hu hv => ?_
    rw [ev_at, List.map_map] at hu hv
    obtain ⟨x, hx, rfl⟩ := map_at hu
    obtain ⟨y, hy, rfl⟩ := map_at hv
    have jl := (List.getElem?_eq_some_iff.mp hy).1
    obtain ⟨z, hz⟩ := at_some (xs := ks) (i := 2 * j + 1) (by omega)
    have n1 := nxt (2 * j) y z hy hz
    have b1 := low (2 * j) y z (by omega) hy hz
    have f1 := n1.far (2 * i) x (by omega) hx
    rw [flag _ x hx, show 2 * i % 2 = 0 by omega] at f1
    have f1' : bk p (dr [0] st E z) ≠ bk p (dr [0] st E x) := f1
    exact fun e1 => f1' (b1.trans (Eq.symm e1))
  · refine pw fun i j u v hij hu hv => ?_
    rw [ev_at] at hu hv
    obtain ⟨x, hx, rfl⟩ := map_at hu
    obtain ⟨y, hy, rfl⟩ := map_at hv
    have jl := (List.getElem?_eq_some_iff.mp hy).1
    rw [rot_len, ml] at jl
    rw [rot_at mne, ml, if_pos (by omega)] at hx hy
    obtain ⟨x, hx', rfl⟩ := map_at hx
    obtain ⟨y, hy', rfl⟩ := map_at hy
    clear hx hy
    have hx := hx'
    have hy := hy'
    clear hx' hy'
    by_cases e1 : 2 * j + 1 + 1 < ks.length
    · obtain ⟨z, hz⟩ := at_some e1
      have n1 := nxt (2 * j + 1) y z hy hz
      have b1 := high (2 * j + 1) y z (by omega) hy hz
      have f1 := n1.far (2 * i + 1) x (by omega) hx
      rw [flag _ x hx, show (2 * i + 1) % 2 = 1 by omega] at f1
      have f1' : bk r (dr [0] st E z) ≠ bk r (dr [0] st E x) := f1
      exact fun e1 => f1' (b1.trans (Eq.symm e1))
    · have : 2 * j + 1 = ks.length - 1 := by omega
      rw [this, hl1] at hy
      obtain rfl := Option.some.inj hy
      rw [dk, hb]
      rcases place _ x hx with ⟨rfl, _⟩ | ⟨k', e', rfl, he', d', _, lt⟩
      · have := flag _ 0 hx
        rw [show (2 * i + 1) % 2 = 1 by omega] at this
        have : fl [0] st E 0 = 0 := rfl
        omega
      · rw [d']
        exact first k' e' (lt (by omega)) he'
  · rw [twos_at]
    intro i
    rw [List.map_map]
    by_cases hi : 2 * i < ks.length
    · obtain ⟨x, hx⟩ := at_some hi
      obtain ⟨y, hy⟩ := at_some (xs := ks) (i := 2 * i + 1) (by omega)
      rw [at_map hx, at_map hy]
      exact congrArg some (low (2 * i) x y (by omega) hx hy).symm
    · rw [List.getElem?_eq_none (by rw [List.length_map]; omega), List.getElem?_eq_none (by rw [List.length_map]; omega)]
  · rw [twos_at]
    intro i
    by_cases hi : 2 * i < ks.length
    · obtain ⟨x, hx⟩ := at_some (xs := ks) (i := 2 * i + 1) (by omega)
      have ea : (rot (ks.map (dr [0] st E)))[2 * i]? = some (dr [0] st E x) := by
        rw [rot_at mne, ml, if_pos (by omega), mapd hx]
      rw [at_map ea]
      by_cases e1 : 2 * i + 1 + 1 < ks.length
      · obtain ⟨y, hy⟩ := at_some e1
        have eb : (rot (ks.map (dr [0] st E)))[2 * i + 1]? = some (dr [0] st E y) := by
          rw [rot_at mne, ml, if_pos (by omega), mapd hy]
        rw [at_map eb, high (2 * i + 1) x y (by omega) hx hy]
      · have : 2 * i + 1 = ks.length - 1 := by omega
        have eb : (rot (ks.map (dr [0] st E)))[2 * i + 1]? = some st := by
          rw [rot_at mne, ml, if_neg (by omega), if_pos (by omega), mapd h0]
          rfl
        rw [this, hl1] at hx
        obtain rfl := Option.some.inj hx
        rw [at_map eb, dk, hb]
    · rw [List.getElem?_eq_none (by rw [List.length_map, rot_len, ml]; omega), List.getElem?_eq_none (by rw [List.length_map, rot_len, ml]; omega)]
  · rw [mapd h0]
    rfl
end
end KQ
namespace KQ
open PySem PySem.Spec PyProof.Rows L2 KR KM StX
theorem flag01 {p r B : List Int} {st : Int} {N : Nat} {E : List Ent} (hB : ∀ b ∈ B, b = 0 ∨ b = 1) (h : Bfs p r B st N E) : ∀ (n j : Nat) (w x : Int), j < n → (Qu B st E)[j]? = some (w, x) → (w = 0 ∨ w = 1) ∧ (x = st ∨ (0 ≤ x ∧ x < N)) := by
  intro n
  induction n with
  | zero => exact fun j w x hj => absurd hj (Nat.not_lt_zero _)
  | succ n ih =>
    intro j w x hj hq
    by_cases e0 : j < B.length
    · obtain ⟨b, hb, hq2⟩ := qu_base (st := st) (E := E) e0
      rw [hq2] at hq
      obtain ⟨rfl, rfl⟩ := Prod.mk.inj (Option.some.inj hq)
      exact ⟨hB _ (List.mem_of_getElem? hb), .inl rfl⟩
    · have hl := (List.getElem?_eq_some_iff.mp hq).1
      rw [qu_len] at hl
      obtain ⟨e, he⟩ := at_some (xs := E) (i := j - B.length) (by omega)
      have hq2 := qu_ent (B := B) (st := st) he
      rw [show B.length + (j - B.length) = j by omega, hq] at hq2
      obtain ⟨rfl, rfl⟩ := Prod.mk.inj (Option.some.inj hq2)
      obtain ⟨h1, h2, _⟩ := h.par _ e he
      have := ih e.q _ _ (by omega) h2
      have r := h.rng e (List.mem_of_getElem? he)
      exact ⟨by omega, .inr r⟩
theorem kvs_val {p r B : List Int} {st : Int} {N : Nat} {E : List Ent} (h : Bfs p r B st N E) (d : Int) : (d ∈ st :: E.map Ent.d → ∃ v, valV (kvsOf st E) (kI d) = some v) ∧ (d ∉ st :: E.map Ent.d → valV (kvsOf st E) (kI d) = none) := by
  constructor
  · intro hd
    rcases mem_keys.mp hd with rfl | ⟨e, he, rfl⟩
    · exact ⟨_, val_start⟩
    · obtain ⟨k, hk⟩ := List.mem_iff_getElem?.mp he
      exact ⟨_, val_ent h.keys hk⟩
  · intro hd
    unfold valV kvsOf
    rw [List.find?_eq_none.mpr]
    · rfl
    · intro kv hkv
      rw [decide_eq_true_eq]
      intro e
      rcases List.mem_cons.mp hkv with rfl | hm
      · exact hd (mem_keys.mpr (.inl (kI_inj _ _ e).symm))
      · obtain ⟨f, hf, rfl⟩ := List.mem_map.mp hm
        exact hd (mem_keys.mpr (.inr ⟨f, hf, kI_inj _ _ e⟩))
theorem kvs_put {st : Int} {E : List Ent} {d w x : Int} {a : Nat} (hd : d ∉ st :: E.map Ent.d) : putK (kvsOf st E) (kI d) (V.int x) = kvsOf st (E ++ [⟨d, w, x, a⟩]) := by
  have hn : ((kvsOf st E).any fun kv => decide (kv.1 = kI d)) = false := by
    rw [List.any_eq_false]
    intro kv hkv
    rw [decide_eq_true_eq]
    intro e
    rcases List.mem_cons.mp hkv with rfl | hm
    · exact hd (mem_keys.mpr (.inl (kI_inj _ _ e).symm))
    · obtain ⟨f, hf, rfl⟩ := List.mem_map.mp hm
      exact hd (mem_keys.mpr (.inr ⟨f, hf, kI_inj _ _ e⟩))
  unfold putK
  rw [hn]
  simp [kvsOf]
theorem pairs_mono {H H' : Hp} {ts : List Addr} {xs : List (Int × Int)} (h : PairsAt H ts xs) (k : ∀ c vs, H c = some (.tup vs) → H' c = some (.tup vs)) : PairsAt H' ts xs :=
  ⟨h.1, fun i t ht => by
    obtain ⟨x, hx, e⟩ := h.2 i t ht
    exact ⟨x, hx, k _ _ e⟩⟩
theorem pairs_snoc {H : Hp} {ts : List Addr} {xs : List (Int × Int)} (h : PairsAt H ts xs) {t : Addr} {x : Int × Int} (e : H t = some (.tup [.int x.1, .int x.2])) : PairsAt H (ts ++ [t]) (xs ++ [x]) := by
  refine ⟨by rw [List.length_append, List.length_append, h.1]; rfl, fun i u hu => ?_⟩
  by_cases hi : i < ts.length
  · rw [List.getElem?_append_left hi] at hu
    obtain ⟨y, hy, e2⟩ := h.2 i u hu
    exact ⟨y, by rw [List.getElem?_append_left (by rw [← h.1]; exact hi)]; exact hy, e2⟩
  · have := (List.getElem?_eq_some_iff.mp hu).1
    rw [List.length_append, List.length_singleton] at this
    have ei : i = ts.length := by omega
    subst ei
    rw [List.getElem?_append_right (Nat.le_refl _), Nat.sub_self] at hu
    obtain rfl := Option.some.inj hu
    refine ⟨x, ?_, e⟩
    rw [h.1, List.getElem?_append_right (Nat.le_refl _), Nat.sub_self]
    rfl
theorem pairs_at {H : Hp} {ts : List Addr} {xs : List (Int × Int)} (h : PairsAt H ts xs) {i : Nat} (hi : i < xs.length) : ∃ t w x, ts[i]? = some t ∧ xs[i]? = some (w, x) ∧ H t = some (.tup [.int w, .int x]) := by
  obtain ⟨t, ht⟩ := at_some (xs := ts) (i := i) (by rw [h.1]; exact hi)
  obtain ⟨⟨w, x⟩, hx, e⟩ := h.2 i t ht
  exact ⟨t, w, x, ht, hx, e⟩
section
variable {P : Program} {w : World} {K : PySem.W.Frag} {mg : Str → Option Value} {base : Heap}
abbrev s_doors_ahead : Stmt := topS 20
theorem sc_doors_ahead : FnScope ["parts", "start", "doors", "begins", "ahead", "queue", "at", "which", "door", "part", "near"] ["parts", "start", "doors", "begins"] (defScope s_doors_ahead) := ⟨rfl, rfl, rfl, by decide +kernel, rfl, by decide +kernel, by decide +kernel⟩
def spAhead : Sp := fun vs H Q _ => ∃ (pa a b da ba : Addr) (p r B : List Int) (st : Int) (N : Nat), vs = [.ref pa, .int st, .ref da, .ref ba] ∧ H pa = some (.tup [.ref a, .ref b]) ∧ TI H a p ∧ TI H b r ∧ p.length = r.length ∧ N ≤ p.length ∧
  p.length ≤ 60 ∧ 0 ≤ st ∧ st < p.length ∧ H da = some (.lst (hv (List.range N))) ∧ TI H ba B ∧ (∀ b ∈ B, b = 0 ∨ b = 1) ∧ B.length ≤ 2 ∧
  ∀ H' t E, Same H H' → H t = none → H' t = some (.dK (kvsOf st E)) → Bfs p r B st N E → (∀ j, j < (Qu B st E).length → FullTo p r B st E j N) → Q (.ref t) H'
theorem ok_doors_ahead (D : DefAt K mg "doors_ahead" s_doors_ahead) (T : Bt mg) : Use P w K mg base "doors_ahead" 1 ["parts", "start", "doors", "begins"] spAhead := by
  refine use_of D (fun f fd F => F.ok sc_doors_ahead (fun vs H Q E h => ?_) (fun cdv A outer s H vs Q E hr h => ?_)) (fun _ _ _ _ _ _ us hl => match us, hl with | [_, _, _, _], _ => rfl)
  · obtain ⟨pa, a, b, da, ba, p, r, B, st, N, rfl, _⟩ := h
    rfl
  · obtain ⟨pa, a, b, da, ba, p, r, B, st, N, rfl, epa, hp, hb, hl, hN, h60, s0, s1, eda, hB, b01, hB2, q⟩ := h
    refine ⟨_, (pss_cons (ps_set (i := 4) sc_doors_ahead.nd rfl (Or.inl rfl) (pe_disp (pps_cons (pv 1) pe_non pps_nil) (by rfl) (by rfl) (fun z => by cases z) (by decide)))
      (pss_cons (ps_setLc (i := 5) (own := [("which", 7)]) rfl sc_doors_ahead.nd rfl rfl (sw_true rfl rfl rfl (by decide +kernel)) (k_tup (K := K) rfl (pv 3)) (blkOk_by (N := ["parts", "start", "doors", "begins", "ahead", "queue", "at", "which", "door", "part", "near"]) (sc := defScope s_doors_ahead) (by decide +kernel)) (fun _ _ _ _ _ => (pg_name (i := 7) sc_doors_ahead.nd rfl (Or.inl rfl))) (fun _ _ _ _ _ => pts_nil) (fun _ _ _ _ _ => (pe_tup (pa_cons (pv 7) (pa_cons (pv 1) pa_nil)))))
      (pss_cons (ps_set (i := 6) sc_doors_ahead.nd rfl (Or.inl rfl) pe_int)
      (pss_cons (ps_while PassesOwn.never (pt_cmpR op_lt (pv 6) (pe_callB (k_len (K := K) rfl) (by rfl) T.len PySem.boot_len (pa_cons (pv 5) pa_nil)) (nomark _)) (pss_cons (ps_asg (pe_ix (k_ixl (K := K) rfl) (pv 5) (pv 6) (fun _ _ => rfl)) (pg_tup rfl (pgs_cons (pg_name (i := 7) sc_doors_ahead.nd rfl (Or.inl rfl)) (pgs_cons (pg_name (i := 8) sc_doors_ahead.nd rfl (Or.inl rfl)) pgs_nil))))
      (pss_cons (ps_set (i := 9) sc_doors_ahead.nd rfl (Or.inl rfl) (pe_ix (k_ixt (K := K) rfl) (pv 0) (pv 7) (fun _ _ => rfl)))
      (pss_cons (ps_for PassesOwn.never rfl (k_list (K := K) rfl (pv 2)) (pg_name (i := 10) sc_doors_ahead.nd rfl (Or.inl rfl))
      (pss_one (ps_if (PW.pt (pw_and (pt_cmpR op_eq (pe_ix (k_ixt (K := K) rfl) (pv 9) (pv 10) (fun _ _ => rfl)) (pe_ix (k_ixt (K := K) rfl) (pv 9) (pv 8) (fun _ _ => rfl)) (nomark _)) (pw_and1 (pt_cmp (pc_dnotin (hu_of hr) (pv 10) (pv 4)))))) (pss_cons (ps_dput (hu_of hr) (pv 4) (pv 10) (pv 8) rfl)
      (pss_one (ps_expr (k_bm (K := K) rfl PySem.F.plainAttrs_list PySem.F.slot_list_append PySem.F.type_list_append mt_append (pv 5) (pa_cons (pe_tup (pa_cons (pe_op op_sub pe_int (pv 7)) (pa_cons (pv 10) pa_nil))) pa_nil))))) pss_nil)))
      (pss_one (ps_aug (i := 6) sc_doors_ahead.nd rfl (Or.inl rfl) pe_int ip_add))))))
      (pss_one (ps_ret (pv 4))))))), ?_⟩
    refine fun d nd => ⟨_, rfl, upd_same, [(kI st, .non)], rfl, (by show 1 ≤ 15; decide), ?_⟩
    have sd : Same H (upd (upd H d (.dK [])) d (.dK (mergeK [] [(kI st, V.non)]))) := same_mut (same_new nd) nd
    have ed : (upd (upd H d (.dK [])) d (.dK (mergeK [] [(kI st, V.non)]))) d = some (.dK (kvsOf st [])) := upd_same
    generalize upd (upd H d (.dK [])) d (.dK (mergeK [] [(kI st, V.non)])) = H0 at sd ed
    refine ⟨_, rfl, ba, rfl, ⟨_, (hB.mono sd).seq⟩, fun L nL => ?_⟩
    have ndL : d ≠ L := ne_of_none ed nL
    have nLH : H L = none := sd.free nL
    have sL : Same H (upd H0 L (.lst [])) := sd.trans (same_new nL)
    refine lc_tup (K := K) (a := ba) (xs := B.map V.int) (fun k H1 => Same H H1 ∧ H1 d = some (.dK (kvsOf st [])) ∧ ∃ ts, H1 L = some (.lst (ts.map V.ref)) ∧ PairsAt H1 ts ((B.take k).map fun b => (b, st)))
      ⟨sL, by rw [upd_ne ndL]; exact ed, [], upd_same, rfl, fun i t ht => by simp at ht⟩ (fun i H1 _ ⟨sm, _⟩ => (hB.mono sm).seq) ?_ ?_
    · rintro k v H1 hk ⟨sm, ed1, ts, eL, pr⟩
      obtain ⟨x, hx, rfl⟩ := map_at hk
      have kl := (List.getElem?_eq_some_iff.mp hx).1
      refine ⟨rfl, _, rfl, _, rfl, by show 2 ≤ sizeLine; decide, fun T1 nT => ?_⟩
      have s2 : Same H1 (upd H1 T1 (.tup [.int x, .int st])) := same_new nT
      have nTL : T1 ≠ L := fun e => by rw [e, eL] at nT; cases nT
      have nTd : T1 ≠ d := fun e => by rw [e, ed1] at nT; cases nT
      refine ⟨_, s2 _ _ eL, ?_, same_mut (sm.trans s2) nLH, ?_, ts ++ [T1], ?_, ?_⟩
      · rw [List.length_map, pr.1, List.length_map, List.length_take]
        exact small_of (by omega)
      · rw [upd_ne ndL]
        exact s2 _ _ ed1
      · rw [upd_same, List.map_append]
        rfl
      · rw [take_snoc hx, List.map_append]
        refine pairs_snoc (pairs_mono pr fun c vs hc => ?_) ?_
        · rw [upd_ne (fun e => by rw [e, eL] at hc; cases hc)]
          exact s2 _ _ hc
        · rw [upd_ne nTL, upd_same]
    rintro H1 ⟨sm, ed1, ts, eL, pr⟩
    rw [List.length_map, List.take_length] at pr
    refine ⟨fun g σ H2 => ∃ (n : Nat) (E : List Ent) (ts : List Addr) (y7 y8 y9 y10 : Option V), σ = [some (.ref pa), some (.int st), some (.ref da), some (.ref ba), some (.ref d), some (.ref L), some (.int ((n : Nat) : Int)), y7, y8, y9, y10] ∧
        g = B.length + N - n ∧ Same H H2 ∧ H2 d = some (.dK (kvsOf st E)) ∧ H2 L = some (.lst (ts.map V.ref)) ∧ PairsAt H2 ts (Qu B st E) ∧ Bfs p r B st N E ∧ (∀ j, j < n → FullTo p r B st E j N) ∧ n ≤ (Qu B st E).length,
      ⟨_, 0, [], ts, none, none, none, none, rfl, rfl, sm, ed1, eL, ?_, ?_, fun j hj => absurd hj (Nat.not_lt_zero _), Nat.zero_le _⟩, ?_⟩
    · rw [show Qu B st [] = B.map fun b => (b, st) by simp [Qu]]
      exact pr
    · exact ⟨by simp, fun e he => absurd he (by simp), fun k e he => by simp at he, fun e he => absurd he (by simp)⟩
    clear sm ed1 eL pr ts sL ed sd ndL
    rintro g σ H2 ⟨n, E, ts, y7, y8, y9, y10, rfl, rfl, sm, ed, eL, pr, bf, full, nle⟩
    have el := bfs_len bf
    have ql := qu_len B st E
    have ndL : d ≠ L := fun e => by rw [e, eL] at ed; cases ed
    refine ⟨_, rfl, _, rfl, L, _, rfl, .inl (sqL eL), _, _, rfl, rfl, _, rfl, ?_⟩
    rw [List.length_map, pr.1]
    by_cases hn : n < (Qu B st E).length
    · rw [decide_eq_true (by omega)]
      obtain ⟨t, w, x, ht, hq, et⟩ := pairs_at pr hn
      obtain ⟨w01, x01⟩ := flag01 b01 bf (n + 1) n w x (Nat.lt_succ_self _) hq
      refine ⟨_, fun σ' H' z => ⟨B.length + N - (n + 1), by omega, z⟩, ?_⟩
      refine ⟨_, rfl, _, rfl, L, _, _, .ref t, rfl, rfl, sqL eL, atI_of (j := n) rfl (at_map ht), ?_⟩
      refine ⟨t, _, rfl, .inl (.inl et), rfl, _, _, rfl, _, [], rfl, rfl, ?_⟩
      obtain ⟨pc, epc, hpc⟩ : ∃ pc, atI [V.ref a, V.ref b] w = some (.ref pc) ∧ TI H pc (prt p r w) := by
        rcases w01 with rfl | rfl
        · exact ⟨a, rfl, hp⟩
        · exact ⟨b, rfl, hb⟩
      refine ⟨_, rfl, _, rfl, pa, _, w, .ref pc, rfl, rfl, sqT (sm _ _ epa), epc, ?_⟩
      have lprt : (prt p r w).length = p.length := by
        unfold prt
        split
        · rfl
        · exact hl.symm
      have x0 : 0 ≤ x ∧ x < p.length := by omega
      refine ⟨_, rfl, da, rfl, ⟨_, sqL (sm _ _ eda)⟩, for_list (K := K) (a := da) (xs := hv (List.range N))
        (fun i σ H3 => ∃ (E : List Ent) (ts : List Addr) (y10 : Option V), σ = [some (.ref pa), some (.int st), some (.ref da), some (.ref ba), some (.ref d), some (.ref L), some (.int ((n : Nat) : Int)), some (.int w), some (.int x), some (.ref pc), y10] ∧
          Same H H3 ∧ H3 d = some (.dK (kvsOf st E)) ∧ H3 L = some (.lst (ts.map V.ref)) ∧ PairsAt H3 ts (Qu B st E) ∧ Bfs p r B st N E ∧ (∀ j, j < n → FullTo p r B st E j N) ∧ (Qu B st E)[n]? = some (w, x) ∧ FullTo p r B st E n i)
        ⟨E, ts, y10, rfl, sm, ed, eL, pr, bf, full, hq, fun w' x' _ d' h0 h1 => by omega⟩ (fun i σ H3 _ ⟨_, _, _, _, sm3, _⟩ => sqL (sm3 _ _ eda)) ?_ ?_⟩
      · clear full hq bf pr eL ed sm ht et hn ql el nle
        rintro i v σ H3 hi ⟨E, ts, y10, rfl, sm, ed, eL, pr, bf, full, hq, part⟩
        have el := bfs_len bf
        have ql := qu_len B st E
        have hn := (List.getElem?_eq_some_iff.mp hq).1
        obtain ⟨k, hk, rfl⟩ := map_at hi
        have il := (List.getElem?_eq_some_iff.mp hk).1
        rw [List.length_range] at il
        rw [List.getElem?_range il] at hk
        obtain rfl := Option.some.inj hk
        obtain ⟨u, hu⟩ := at_some (xs := prt p r w) (i := i) (by omega)
        obtain ⟨v, hv'⟩ := at_some (xs := prt p r w) (i := x.toNat) (by omega)
        have bu : bk (prt p r w) (i : Int) = u := bk_at (by rw [Int.toNat_natCast]; exact hu)
        have bv : bk (prt p r w) x = v := bk_at hv'
        have skip : ∀ (hc : bk (prt p r w) (i : Int) = bk (prt p r w) x → (i : Int) ∈ st :: E.map Ent.d), ∃ (E : List Ent) (ts : List Addr) (y10' : Option V),
            ([some (.ref pa), some (.int st), some (.ref da), some (.ref ba), some (.ref d), some (.ref L), some (.int ((n : Nat) : Int)), some (.int w), some (.int x), some (.ref pc), some (.int (i : Int))] : L2.St) = [some (.ref pa), some (.int st), some (.ref da), some (.ref ba), some (.ref d), some (.ref L), some (.int ((n : Nat) : Int)), some (.int w), some (.int x), some (.ref pc), y10'] ∧
          Same H H3 ∧ H3 d = some (.dK (kvsOf st E)) ∧ H3 L = some (.lst (ts.map V.ref)) ∧ PairsAt H3 ts (Qu B st E) ∧ Bfs p r B st N E ∧ (∀ j, j < n → FullTo p r B st E j N) ∧ (Qu B st E)[n]? = some (w, x) ∧ FullTo p r B st E n (i + 1) := fun hc =>
          ⟨E, ts, _, rfl, sm, ed, eL, pr, bf, full, hq, full_next part fun w' x' hq' hb' => by
            rw [hq] at hq'
            obtain ⟨rfl, rfl⟩ := Prod.mk.inj (Option.some.inj hq')
            exact hc hb'⟩
        refine ⟨_, rfl, _, rfl, pc, _, _, .int u, rfl, rfl, (hpc.mono sm).seq, atI_of (j := i) rfl (at_map hu), _, rfl, _, rfl, pc, _, _, .int v, rfl, rfl, (hpc.mono sm).seq, atI_of (j := x.toNat) (by omega) (at_map hv'), rfl, _, rfl, ?_⟩
        by_cases e : u = v
        · rw [decide_eq_true (congrArg V.int e)]
          by_cases hm : (i : Int) ∈ st :: E.map Ent.d
          · obtain ⟨v', hv2⟩ := (kvs_val bf (i : Int)).1 hm
            have gv : DGet H3 d (V.int (i : Int)) (some v') := by
              have := DGet.k (k := kI (i : Int)) ed
              rw [hv2] at this
              exact this
            exact ⟨_, rfl, _, rfl, d, _, rfl, gv, _, rfl, skip fun _ => hm⟩
          · have gv : DGet H3 d (V.int (i : Int)) none := by
              have := DGet.k (k := kI (i : Int)) ed
              rw [(kvs_val bf (i : Int)).2 hm] at this
              exact this
            refine ⟨_, rfl, _, rfl, d, _, rfl, gv, _, rfl, ?_⟩
            have klen : (kvsOf st E).length < sizeLine := by
              unfold kvsOf
              rw [List.length_cons, List.length_map]
              exact small_of (by omega)
            have add := bfs_add bf full hq (by omega) (by omega) hm (by rw [bu, bv, e])
            refine ⟨_, rfl, _, rfl, _, rfl, d, _, rfl, DPut.k (k := kI (i : Int)) ed klen, ?_⟩
            rw [kvs_put (w := w) (a := n) hm]
            have sm1 : Same H (upd H3 d (.dK (kvsOf st (E ++ [⟨(i : Int), w, x, n⟩])))) := same_mut sm nd
            have eL1 : (upd H3 d (.dK (kvsOf st (E ++ [⟨(i : Int), w, x, n⟩])))) L = some (.lst (ts.map V.ref)) := by rw [upd_ne ndL.symm]; exact eL
            refine ⟨_, rfl, .inl ⟨rfl, _, .inl (.inl eL1)⟩, _, rfl, _, _, rfl, rfl, _, rfl, by show 2 ≤ sizeLine; decide, fun T1 nT => ?_⟩
            have ed1 : (upd H3 d (.dK (kvsOf st (E ++ [⟨(i : Int), w, x, n⟩])))) d = some (.dK (kvsOf st (E ++ [⟨(i : Int), w, x, n⟩]))) := upd_same
            have pr1 : PairsAt (upd H3 d (.dK (kvsOf st (E ++ [⟨(i : Int), w, x, n⟩])))) ts (Qu B st E) := pairs_mono pr fun c vs hc => by
              rw [upd_ne (fun z => by rw [z, ed] at hc; cases hc)]
              exact hc
            generalize upd H3 d (.dK (kvsOf st (E ++ [⟨(i : Int), w, x, n⟩]))) = H4 at sm1 eL1 ed1 pr1 nT
            have s2 : Same H4 (upd H4 T1 (.tup [.int (1 - w), .int (i : Int)])) := same_new nT
            have nTL : T1 ≠ L := fun z => by rw [z, eL1] at nT; cases nT
            refine ⟨L, _, _, rfl, rfl, s2 _ _ eL1, ?_, ?_⟩
            · rw [List.length_map, pr.1, ql]
              exact small_of (by omega)
            refine ⟨E ++ [⟨(i : Int), w, x, n⟩], ts ++ [T1], _, rfl, same_mut (sm1.trans s2) nLH, ?_, ?_, ?_, add, fun j hj => full_keep _ (by omega) (full j hj), ?_, ?_⟩
            · rw [upd_ne ndL]
              exact s2 _ _ ed1
            · rw [upd_same, List.map_append]
              rfl
            · rw [qu_snoc]
              refine pairs_snoc (pairs_mono pr1 fun c vs hc => ?_) ?_
              · rw [upd_ne (fun z => by rw [z, eL1] at hc; cases hc)]
                exact s2 _ _ hc
              · rw [upd_ne nTL, upd_same]
            · rw [qu_keep _ hn]
              exact hq
            · refine full_next (full_keep _ hn part) fun _ _ _ _ => ?_
              rw [List.map_append]
              exact List.mem_cons_of_mem _ (List.mem_append_right _ (List.mem_singleton.mpr rfl))
        · rw [decide_eq_false (fun z => e (V.int.inj z))]
          exact skip fun z => absurd (by rw [← bu, ← bv]; exact z) e
      · rintro σ H3 ⟨E, ts, y10, rfl, sm, ed, eL, pr, bf, full, hq, part⟩
        rw [show (hv (List.range N)).length = N by unfold hv; rw [List.length_map, List.length_range]] at part
        have hn := (List.getElem?_eq_some_iff.mp hq).1
        refine ⟨_, rfl, _, _, rfl, rfl, ?_⟩
        refine ⟨n + 1, E, ts, _, _, _, _, rfl, rfl, sm, ed, eL, pr, bf, fun j hj => ?_, by omega⟩
        by_cases ej : j = n
        · rw [ej]
          exact part
        · exact full j (by omega)
    · rw [decide_eq_false (by omega)]
      exact ⟨_, rfl, q H2 d E sm nd ed bf fun j hj => full j (by omega)⟩
end
end KQ
/-! slices with steps; a walk over a locked dict's keys; a tuple turned about -/
namespace KR
open PySem PySem.Spec PyProof.Rows L2 KM KQ
/-! ### xs[lo:hi:step] of a list -/
def pickV (xs : List V) (lo hi st : Option Int) : List V := (sliceRange (sliceBounds lo hi st xs.length).1 (sliceBounds lo hi st xs.length).2.1 (sliceBounds lo hi st xs.length).2.2).filterMap (xs[·]?)
theorem vals_pick {xs : List V} {us : List Value} (r : Vals xs us) : ∀ is : List Nat, Vals (is.filterMap (xs[·]?)) (is.filterMap (us[·]?))
  | [] => .nil
  | i :: is => by
    rw [List.filterMap_cons, List.filterMap_cons]
    have ih := vals_pick r is
    cases hx : xs[i]? with
    | none =>
      have : us[i]? = none := by
        rw [List.getElem?_eq_none_iff] at hx ⊢
        rw [← r.length]
        exact hx
      rw [this]
      exact ih
    | some x =>
      obtain ⟨u, hu, ru⟩ := r.get hx
      rw [hu]
      exact .cons ru ih
section
variable {X : Cx} {K : PySem.W.Frag}
def tStep (K : PySem.W.Frag) (te : TE) (tl th tst : TO) : TE := fun σ H Q => te σ H fun x H1 => tl σ H1 fun l H2 => th σ H2 fun u H3 => tst σ H3 fun o H4 => ∃ a xs, x = .ref a ∧ SqL K H4 a xs ∧ o ≠ some 0 ∧ ∀ p, H4 p = none → Q (.ref p) (upd H4 p (.lst (pickV xs l u o)))
theorem pe_stepL {e : Expr} {te : TE} {lo hi st : Option Expr} {tl th tst : TO} {p3 pos : Pos} (hK : X.K = K) (he : PE X e te) (hl : PO X lo tl) (hu : PO X hi th) (hst : PO X st tst)
    (hop : ∀ a b : Addr, ∃ ops, subscripted (.Slice lo hi st p3) false (.ref a) (.ref b) = operate ops (getItem (.ref a) (.ref b))) : PE X (.Subscript e (.Slice lo hi st p3) pos) (tStep K te tl th tst) := by
  subst hK
  refine ⟨fun pins s σ H Q I h => ?_⟩
  refine Subscript_ (thn (he.run pins s σ H _ I h) fun v s1 ⟨x, H1, I1, r1, q1⟩ => ?_)
  refine wpAny_Slice (thn (hl.run pins s1 σ H1 _ I1 q1) fun vl s2 ⟨l, H2, I2, pl, q2⟩ => ?_)
  refine thn (hu.run pins s2 σ H2 _ I2 q2) fun vu s3 ⟨u, H3, I3, pu, q3⟩ => ?_
  refine thn (hst.run pins s3 σ H3 _ I3 q3) fun vs s4 ⟨o, H4, I4, ps, q4⟩ => ?_
  obtain ⟨a, xs, ex, hx, h0, q⟩ := q4
  subst ex
  cases r1
  have I5 : Inv X pins σ H4 { s4 with heap := s4.heap.push { cls := .type "slice", data := .fields #[vl, vu, vs] } } := I4.kept (t' := s4.toks) fun b ob q => Heap.get?_push_of_some _ q
  obtain ⟨its, r, ht, hz⟩ := I5.list hx
  have hlen := r.length
  show wpAny (model X.prog X.w) X.A (subscriptTail e (.Slice lo hi st p3) (.ref a) (.ref s4.heap.objs.size)) (EP X pins σ Q) X.xe { s4 with heap := s4.heap.push { cls := .type "slice", data := .fields #[vl, vu, vs] } }
  obtain ⟨ops, hops⟩ := hop a s4.heap.objs.size
  refine tail_any (ops := ops) ht.isList.typeIs (PySem.slot_list_getitem.lookup) ?_ hops
  have sz : (slicePick its.toArray l u o).size ≤ its.toArray.size := slicePick_size_le _ _ _ _
  refine wpAny_getItem_list_slice ht.isList (Heap.IsSliceOf.new _ vl vu vs) pl pu ps h0 ?_ (by rw [List.size_toArray]; omega)
  have e : slicePick its.toArray l u o = ((sliceRange (sliceBounds l u o xs.length).1 (sliceBounds l u o xs.length).2.1 (sliceBounds l u o xs.length).2.2).filterMap (its[·]?)).toArray := by
    unfold slicePick
    rw [List.size_toArray, ← hlen]
    congr 1
    refine congrArg (fun f => List.filterMap f _) (funext fun i => ?_)
    simp
  have vp := vals_pick r (sliceRange (sliceBounds l u o xs.length).1 (sliceBounds l u o xs.length).2.1 (sliceBounds l u o xs.length).2.2)
  rw [e] at sz ⊢
  refine ⟨.ref _, _, I5.laid (t' := s4.toks) (o := .lst (pickV xs l u o)) (fun b ob q => Heap.get?_push_of_some _ q) (Nat.le_refl _) ?_, rfl, q _ (I5.hok.fresh (Nat.le_refl _))⟩
  refine ⟨?_, _, 0, vp, Heap.get?_push_size _ rfl⟩
  have := vp.length
  rw [List.size_toArray, List.size_toArray] at sz
  unfold pickV
  omega
/-! ### t[::-1] of a tuple -/
theorem fm_congr {α β : Type} {f g : α → Option β} : ∀ {l : List α}, (∀ x ∈ l, f x = g x) → l.filterMap f = l.filterMap g
  | [], _ => rfl
  | a :: l, h => by
    rw [List.filterMap_cons, List.filterMap_cons, h a List.mem_cons_self, fm_congr fun x hx => h x (List.mem_cons_of_mem _ hx)]
theorem getItem_tuple_rev {prog : Program} {w : World} {A : Around} {E : Value → Shared → Prop} {s : Shared} {t sl : Addr} {items : Array Value} {tk : Tok} {Q : Value → Shared → Prop} (ht : IsTup s.heap t items) (hs : s.heap.IsSliceOf sl .none .none (.int (-1) tk))
    (h : Q (.ref s.heap.objs.size) { s with heap := s.heap.push { cls := .type "tuple", data := .seq items.toList.reverse.toArray } })
    (hsz : items.size ≤ sizeLine) : wpAny (model prog w) A (getItem (.ref t) (.ref sl)) Q E s := by
  have htake : sizeOk (.seq items.toList.reverse.toArray) := by
    show items.toList.reverse.toArray.size ≤ sizeLine
    rw [List.size_toArray, List.length_reverse, Array.length_toList]
    exact hsz
  obtain ⟨os, hos, hcs, hds⟩ := id hs
  have hTs : s.TypeIs (.ref sl) "slice" := ⟨os, hos, hcs⟩
  unfold getItem
  try with_reducible refine wpAny_holding ?_
  first | refine wpAny_bind (wpAny_pure ?_) | skip
  refine wpAny_bind (wpAny_sequenceKey ht.typeIs (by decide) ?_)
  refine wpAny_bind (wpAny_callSpecial?_slot (name := Str.ofString "__getitem__") ht.typeIs PyProof.Rows.slot_tuple_getitem
    (wpAny_call_entry PyProof.Rows.slot_tuple_getitem ht.typeIs entry_tuple_getitem ?_ (args_tuple_getitem _ _)))
  show wpAny _ _ (Builtin.Tuple.tupleItemsOf (.ref t) >>= _) _ _ s
  refine wpAny_bind (tupleItemsOf_ ht ?_)
  refine wpAny_bind (wpAny_typeOf hTs ?_)
  rw [if_pos (by decide)]
  have ap : ∀ {A : Around} {E : Value → Shared → Prop} {Q2 : Int × Int × Nat → Shared → Prop}, Q2 ((items.size : Int) - 1, -1, items.size) s → wpAny (model prog w) A (Builtin.Slice.sliceApplied (.ref sl) (pure (items.size : Int))) Q2 E s := by
    intro A E Q2 h2
    unfold Builtin.Slice.sliceApplied Builtin.Slice.sliceFields
    refine wpAny_bind (wpAny_bind (wpAny_field hos hds (x := .none) rfl (wpAny_bind (wpAny_field hos hds (x := .none) rfl (wpAny_bind (wpAny_field hos hds (x := .int (-1) tk) rfl (wpAny_pure ?_)))))))
    refine wpAny_bind (slicePart_int ?_)
    show wpAny _ _ (if ((-1 : Int) == 0) = true then _ else _) _ _ s
    rw [if_neg (by decide)]
    refine wpAny_bind (slicePart_none (wpAny_bind (slicePart_none (wpAny_bind (wpAny_pure ?_)))))
    show wpAny _ _ (pure ((items.size : Int) - 1, (-1 : Int), Builtin.Slice.slicePlaces ((items.size : Int) - 1) (-1) (-1))) _ _ s
    have e : Builtin.Slice.slicePlaces ((items.size : Int) - 1) (-1) (-1) = items.size := by
      unfold Builtin.Slice.slicePlaces
      rw [if_neg (by decide)]
      by_cases hp : (items.size : Int) - 1 > -1
      · rw [if_pos hp, show (- -1 : Int) = 1 by decide, Int.ediv_one]
        omega
      · rw [if_neg hp]
        omega
    rw [e]
    exact wpAny_pure h2
  refine wpAny_bind (ap ?_)
  have hno : ¬ ((((items.size : Int) - 1) == 0 && (-1 : Int) == 1 && items.size == items.size) = true) := by
    rw [show ((-1 : Int) == 1) = false from rfl, Bool.and_false, Bool.false_and]
    exact Bool.false_ne_true
  show wpAny _ _ (if (((items.size : Int) - 1) == 0 && (-1 : Int) == 1 && items.size == items.size) = true then _ else _) _ _ s
  rw [if_neg hno]
  have ep : ((List.range items.size).filterMap fun (k : Nat) => items[((items.size : Int) - 1 + (k : Int) * -1).toNat]?).toArray = items.toList.reverse.toArray := by
    have h1 := PySem.W.krv_all items
    have h2 := PySem.W.krv_range items.size
    rw [← h1, ← List.filterMap_reverse, ← h2, List.filterMap_map]
    congr 1
    refine fm_congr fun k hk => ?_
    have := List.mem_range.mp hk
    show items[((items.size : Int) - 1 + (k : Int) * -1).toNat]? = items[items.size - 1 - k]?
    rw [show ((items.size : Int) - 1 + (k : Int) * -1).toNat = items.size - 1 - k by omega]
  rw [ep]
  first
    | exact wpAny_bind (m := Builtin.Tuple.tupleExact _) (wpAny_newObj_type (wpAny_pure ⟨_, rfl, wpAny_pure h⟩) htake)
    | exact wpAny_bind (m := Builtin.Tuple.tupleExact _) (wpAny_newObj_type (wpAny_bind (wpAny_pure (wpAny_pure ⟨_, rfl, wpAny_pure h⟩))) htake)
    | exact wpAny_bind (wpAny_bind (m := Builtin.Tuple.tupleExact _) (wpAny_newObj_type (wpAny_pure (wpAny_pure ⟨_, rfl, wpAny_pure h⟩)) htake))
    | exact wpAny_bind (wpAny_bind (m := Builtin.Tuple.tupleExact _) (wpAny_newObj_type (wpAny_pure ⟨_, rfl, wpAny_pure h⟩) htake))
def tRevT (K : PySem.W.Frag) (te : TE) : TE := fun σ H Q => te σ H fun x H1 => ∃ a xs, x = .ref a ∧ SqT K H1 a xs ∧ ∀ p, H1 p = none → Q (.ref p) (upd H1 p (.tup xs.reverse))
theorem pe_revT {e : Expr} {te : TE} {k : Nat} {p1 p2 p3 pos : Pos} (hK : X.K = K) (he : PE X e te) : PE X (.Subscript e (.Slice none none (some (.UnaryOp .USub (.Constant (.int 1) k p1) p2)) p3) pos) (tRevT K te) := by
  subst hK
  refine ⟨fun pins s σ H Q I h => ?_⟩
  refine Subscript_ (thn (he.run pins s σ H _ I h) fun v s1 ⟨x, H1, I1, r1, q1⟩ => ?_)
  obtain ⟨a, xs, ex, hx, q⟩ := q1
  subst ex
  cases r1
  have hst : PO X (some (.UnaryOp .USub (.Constant (.int 1) k p1) p2)) (tPart (tUn (rU fun i => .int (-i)) (tC (.int 1)))) := po_some (pe_un un_neg pe_int)
  refine wpAny_Slice ?_
  rw [evalPart_none]
  refine wpAny_pure (wpAny_pure ?_)
  refine thn (hst.run pins s1 σ H1 (fun o H4 => o = some (-1) ∧ H4 = H1) I1 ⟨1, rfl, -1, rfl, rfl, rfl⟩) fun vs s4 ⟨o, H4, I4, ps, eo, e4⟩ => ?_
  subst eo e4
  obtain ⟨tk, rfl⟩ : ∃ tk, vs = .int (-1) tk := by
    cases ps
    exact ⟨_, rfl⟩
  have I5 : Inv X pins σ H4 { s4 with heap := s4.heap.push { cls := .type "slice", data := .fields #[.none, .none, .int (-1) tk] } } := I4.kept (t' := s4.toks) fun b ob q => Heap.get?_push_of_some _ q
  obtain ⟨its, r, ht, hz⟩ := I5.tuple hx
  have hlen := r.length
  show wpAny (model X.prog X.w) X.A (subscriptTail e (.Slice none none (some (.UnaryOp .USub (.Constant (.int 1) k p1) p2)) p3) (.ref a) (.ref s4.heap.objs.size)) (EP X pins σ Q) X.xe { s4 with heap := s4.heap.push { cls := .type "slice", data := .fields #[.none, .none, .int (-1) tk] } }
  refine tail_any (ops := [.ref a, .ref s4.heap.objs.size]) ht.typeIs (PyProof.Rows.slot_tuple_getitem.lookup) ?_ (by with_unfolding_all rfl)
  refine getItem_tuple_rev ht (Heap.IsSliceOf.new _ _ _ _) ?_ (by rw [List.size_toArray]; omega)
  refine ⟨.ref _, _, I5.laid (t' := s4.toks) (o := .tup xs.reverse) (fun b ob q => Heap.get?_push_of_some _ q) (Nat.le_refl _) ?_, rfl, q _ (I5.hok.fresh (Nat.le_refl _))⟩
  exact ⟨by rw [List.length_reverse]; exact hz, _, r.reverse, IsTup.new _ _⟩
end
/-! ### a walk over a locked dict's keys -/
theorem for_keys {d : Addr} {o : Obj} {kvs : List (L2.Key × V)} {g : TG} {tb : TS} {D : Ends} {σ : L2.St} {H : Hp} (Pv : Nat → L2.St → Hp → Prop) (h0 : Pv 0 σ H) (hl : ∀ i σ H, i ≤ kvs.length → Pv i σ H → H d = some (.frz o (.dK kvs)))
    (hs : ∀ i k v σ H, kvs[i]? = some (k, v) → Pv i σ H → g (kV k) σ H fun σ2 H2 => tb { D with nx := Pv (i + 1), ct := Pv (i + 1), bk := D.nx } σ2 H2) (hd : ∀ σ H, Pv kvs.length σ H → D.nx σ H) :
    ∃ W : Nat → Nat → L2.St → Hp → Prop, (∃ m, W 0 m σ H) ∧ ∀ i m σ H, W i m σ H →
      ((Itk d o kvs).stop i H ∧ D.nx σ H) ∨ ((Itk d o kvs).go i H ∧ ∃ N : L2.St → Hp → Prop, (∀ σ' H', N σ' H' → ∃ m', m' < m ∧ W (i + 1) m' σ' H') ∧ ∀ x H', (Itk d o kvs).yld i H x H' → g x σ H' fun σ2 H2 => tb { D with nx := N, ct := N, bk := D.nx } σ2 H2) := by
  refine ⟨fun i m σ H => m = kvs.length - i ∧ i ≤ kvs.length ∧ Pv i σ H, ⟨kvs.length, by simp, Nat.zero_le _, h0⟩, ?_⟩
  rintro i m σ H ⟨rfl, hi, p⟩
  have q := hl i σ H hi p
  by_cases hlt : i < kvs.length
  · refine .inr ⟨⟨q, hlt⟩, Pv (i + 1), fun σ' H' p' => ⟨kvs.length - (i + 1), by omega, rfl, hlt, p'⟩, fun x H' y => ?_⟩
    obtain ⟨e, k, v, hk, rfl⟩ := y
    subst e
    exact hs i k v σ _ hk p
  · have e : i = kvs.length := by omega
    subst e
    exact .inl ⟨⟨q, Nat.le_refl _⟩, hd σ H p⟩
/-! ### every second one -/
theorem pick_ev : ∀ xs : List V, (List.range ((xs.length + 1) / 2)).filterMap (fun k => xs[2 * k]?) = ev xs
  | [] => rfl
  | [a] => by
    rw [show ([a].length + 1) / 2 = 1 by rw [List.length_singleton]]
    rfl
  | a :: b :: r => by
    rw [show ((a :: b :: r).length + 1) / 2 = (r.length + 1) / 2 + 1 by rw [List.length_cons, List.length_cons]; omega, List.range_succ_eq_map, List.filterMap_cons, List.filterMap_map]
    show a :: _ = a :: ev r
    rw [← pick_ev r]
    refine congrArg (a :: ·) (congrArg (fun f => List.filterMap f _) (funext fun k => ?_))
    show (a :: b :: r)[2 * (k + 1)]? = r[2 * k]?
    rw [show 2 * (k + 1) = 2 * k + 1 + 1 by omega]
    rfl
theorem pick_two (xs : List V) : pickV xs none none (some 2) = ev xs := by
  rw [← pick_ev]
  unfold pickV
  have e : sliceBounds none none (some 2) xs.length = (0, (xs.length : Int), 2) := by
    simp [sliceBounds]
  rw [e]
  unfold sliceRange
  show List.filterMap _ (List.map _ (List.range _)) = _
  rw [List.filterMap_map]
  have c : (if (2 : Int) > 0 then (if (0 : Int) < (xs.length : Int) then ((xs.length : Int) - 0 + 2 - 1) / 2 else 0) else (if (0 : Int) > (xs.length : Int) then (0 - (xs.length : Int) - 2 - 1) / (-2) else 0)).toNat = (xs.length + 1) / 2 := by
    rw [if_pos (by decide)]
    split <;> omega
  rw [c]
  refine congrArg (fun f => List.filterMap f _) (funext fun k => ?_)
  show xs[((0 : Int) + 2 * (k : Int)).toNat]? = xs[2 * k]?
  rw [show ((0 : Int) + 2 * (k : Int)).toNat = 2 * k by omega]
theorem pick_one (xs : List V) : pickV xs (some 1) none (some 2) = ev xs.tail := by
  cases xs with
  | nil =>
    unfold pickV
    have e : sliceBounds (some 1) none (some 2) ([] : List V).length = (0, 0, 2) := by decide
    rw [e]
    rfl
  | cons a t =>
    show _ = ev t
    rw [← pick_ev]
    unfold pickV
    have e : sliceBounds (some 1) none (some 2) (a :: t).length = (1, (t.length : Int) + 1, 2) := by
      simp [sliceBounds] <;> omega
    rw [e]
    unfold sliceRange
    show List.filterMap _ (List.map _ (List.range _)) = _
    rw [List.filterMap_map]
    have c : (if (2 : Int) > 0 then (if (1 : Int) < (t.length : Int) + 1 then ((t.length : Int) + 1 - 1 + 2 - 1) / 2 else 0) else (if (1 : Int) > (t.length : Int) + 1 then (1 - ((t.length : Int) + 1) - 2 - 1) / (-2) else 0)).toNat = (t.length + 1) / 2 := by
      rw [if_pos (by decide)]
      split <;> omega
    rw [c]
    refine congrArg (fun f => List.filterMap f _) (funext fun k => ?_)
    show (a :: t)[((1 : Int) + 2 * (k : Int)).toNat]? = t[2 * k]?
    rw [show ((1 : Int) + 2 * (k : Int)).toNat = 2 * k + 1 by omega, List.getElem?_cons_succ]
end KR
namespace KQ
open PySem PySem.Spec PyProof.Rows L2 KR KM StX
section
variable {P : Program} {w : World} {K : PySem.W.Frag} {mg : Str → Option Value} {base : Heap}
/-- what is told of the first ring up to a door -/
def RingTo (p r : List Int) (n : Int) (H : Hp) (v : V) : Prop := (v = .non ∧ ¬ RingAt p r n.toNat) ∨
  ∃ (t : Addr) (ds : List Int), v = .ref t ∧ TI H t ds ∧ RingAt p r n.toNat ∧ IsRing p r ds ∧ ds[0]? = some n ∧ ∀ d ∈ ds, d ≤ n
def spUpTo : Sp := fun vs H Q _ => ∃ (a b : Addr) (p r : List Int) (n : Int), vs = [.ref a, .ref b, .int n] ∧ TI H a p ∧ TI H b r ∧ Par p ∧ Par r ∧ p.length = r.length ∧ 0 ≤ n ∧ n < p.length ∧
  ∀ H' v, Same H H' → RingTo p r n H' v → Q v H'
def spRing : Sp := fun vs H Q _ => ∃ (a b : Addr) (p r : List Int), vs = [.ref a, .ref b] ∧ TI H a p ∧ TI H b r ∧ Par p ∧ Par r ∧ p.length = r.length ∧
  ∀ H' v, Same H H' → ((v = .non ∧ NoRing p r) ∨ ∃ (n : Nat) (t : Addr) (ds : List Int), v = .ref t ∧ TI H' t ds ∧ RingAt p r n ∧ (∀ j, j < n → ¬ RingAt p r j) ∧ IsRing p r ds ∧ ds[0]? = some (n : Int) ∧ ∀ d ∈ ds, d ≤ (n : Int)) → Q v H'
end
end KQ
namespace KQ
open PySem PySem.Spec PyProof.Rows L2 KR KM StX
/-- things of the kinds that the law makes -/
inductive OddV (H : Hp) : V → Prop where
  | int (i : Int) : OddV H (.int i)
  | bl (b : Bool) : OddV H (.bl b)
  | non : OddV H .non
  | str (x : Str) : OddV H (.str x)
  | lst {a : Addr} {xs : List V} (h : H a = some (.lst xs)) : OddV H (.ref a)
  | dK {a : Addr} {kvs : List (L2.Key × V)} (h : H a = some (.dK kvs)) : OddV H (.ref a)
  | tup {a : Addr} {xs : List V} (h : H a = some (.tup xs)) : OddV H (.ref a)
theorem OddV.mono {H H' : Hp} {v : V} (o : OddV H v) (s : Same H H') : OddV H' v := by
  cases o with
  | int i => exact .int i
  | bl b => exact .bl b
  | non => exact .non
  | str x => exact .str x
  | lst h => exact .lst (s _ _ h)
  | dK h => exact .dK (s _ _ h)
  | tup h => exact .tup (s _ _ h)
def isI : V → Bool
  | .int _ => true
  | _ => false
def inV (v : V) (lo hi : Int) : Bool :=
  match v with
  | .int i => decide (lo ≤ i ∧ i ≤ hi)
  | _ => false
theorem inV_true {v : V} {lo hi : Int} (h : inV v lo hi = true) : ∃ i, v = .int i ∧ lo ≤ i ∧ i ≤ hi := by
  cases v with
  | int i =>
    have := of_decide_eq_true h
    exact ⟨i, rfl, this.1, this.2⟩
  | _ => cases h
inductive Thing (H : Hp) : V → Option (List V) → Prop where
  | tup {a : Addr} {vs : List V} (h : H a = some (.tup vs)) (o : ∀ v ∈ vs, OddV H v) (l : vs.length ≤ 1000) : Thing H (.ref a) (some vs)
  | non : Thing H .non none
  | int (i : Int) : Thing H (.int i) none
  | lst {a : Addr} {xs : List V} (h : H a = some (.lst xs)) : Thing H (.ref a) none
theorem Thing.mono {H H' : Hp} {v : V} {o : Option (List V)} (t : Thing H v o) (s : Same H H') : Thing H' v o := by
  cases t with
  | tup h o l => exact .tup (s _ _ h) (fun v hv => (o v hv).mono s) l
  | non => exact .non
  | int i => exact .int i
  | lst h => exact .lst (s _ _ h)
def RightT (p r : List Int) (o : Option (List V)) : Prop := ∃ ds : List Int, o = some (ds.map V.int) ∧ IsRing p r ds
theorem map_int_inj : ∀ {xs ys : List Int}, xs.map V.int = ys.map V.int → xs = ys
  | [], [], _ => rfl
  | [], _ :: _, h => by cases h
  | _ :: _, [], h => by cases h
  | x :: xs, y :: ys, h => by
    obtain ⟨h1, h2⟩ := List.cons.inj h
    rw [V.int.inj h1, map_int_inj h2]
theorem right_ints {p r ds : List Int} : RightT p r (some (ds.map V.int)) ↔ IsRing p r ds :=
  ⟨fun ⟨ds', e, h⟩ => by rw [map_int_inj (Option.some.inj e)]; exact h, fun h => ⟨ds, rfl, h⟩⟩
theorem eqv_ints : ∀ (xs ys : List Int), PyData.eqvAll (xs.map PyData.int) (ys.map PyData.int) = decide (xs = ys)
  | [], [] => rfl
  | [], _ :: _ => rfl
  | _ :: _, [] => rfl
  | x :: xs, y :: ys => by
    show (PyData.eqv (.int x) (.int y) && PyData.eqvAll (xs.map PyData.int) (ys.map PyData.int)) = _
    rw [eqv_ints xs ys]
    show ((x == y) && decide (xs = ys)) = _
    by_cases e : x = y
    · subst e
      simp
    · simp [e]
section
variable {P : Program} {w : World} {K : PySem.W.Frag} {mg : Str → Option Value} {base : Heap}
theorem OddV.ty {H : Hp} {v : V} (o : OddV H v) (hi : ∀ i, v ≠ .int i) : ∃ T : String, TyX K H v (.type T) ∧ ((T = "bool" ∧ ∃ b, v = .bl b) ∨ (kitB T "int" = some false)) := by
  cases o with
  | int i => exact absurd rfl (hi i)
  | bl b => exact ⟨_, .base (.bl b), .inl ⟨rfl, b, rfl⟩⟩
  | non => exact ⟨_, .base .non, .inr (by decide +kernel)⟩
  | str x => exact ⟨_, .base (.str x), .inr (by decide +kernel)⟩
  | lst h => exact ⟨_, .base (.lst h), .inr (by decide +kernel)⟩
  | dK h => exact ⟨_, .base (.dK h), .inr (by decide +kernel)⟩
  | tup h => exact ⟨_, .base (.tup h), .inr (by decide +kernel)⟩
def spIsIntegerA : Sp := fun vs H Q _ => ∃ v : V, vs = [v] ∧ OddV H v ∧ Q (.bl (isI v)) H
theorem ok_is_integerA (D : DefAt K mg "is_integer" s_is_integer) (T : Bt mg) : Use P w K mg base "is_integer" 1 ["value"] spIsIntegerA := by
  refine use_of D (fun f fd F => F.ok sc_is_integer (fun vs H Q E h => ?_) (fun cdv A outer s H vs Q E hr h => ?_)) (fun _ _ _ _ _ _ us hl => match us, hl with | [_], _ => rfl)
  · obtain ⟨i, rfl, _⟩ := h
    rfl
  · obtain ⟨v, rfl, o, q⟩ := h
    refine ⟨_, (pss_one (ps_ret (pe_and (pe_callB (k_isi (K := K) rfl) (by rfl) T.isinstance (by decide +kernel) (pa_cons (pv 0) (pa_cons (pe_bltn (v := .ty "int") (by rfl) T.int (by decide +kernel) rfl) pa_nil))) (pe_one (pe_not (pe_callB (k_isi (K := K) rfl) (by rfl) T.isinstance (by decide +kernel) (pa_cons (pv 0) (pa_cons (pe_bltn (v := .ty "bool") (by rfl) T.bool (by decide +kernel) rfl) pa_nil)))))))), ?_⟩
    by_cases hi : ∃ i, v = .int i
    · obtain ⟨i, rfl⟩ := hi
      refine ⟨_, rfl, _, _, _, _, true, rfl, .ty _, .base (.int i), kit_ty (by decide +kernel), true, rfl, iteT ?_⟩
      exact ⟨_, rfl, _, _, _, _, false, rfl, .ty _, .base (.int i), kit_ty (by decide +kernel), _, rfl, q⟩
    · have e : isI v = false := by
        cases v with
        | int i => exact absurd ⟨i, rfl⟩ hi
        | _ => rfl
      rw [e] at q
      obtain ⟨t, ty, h⟩ := o.ty (K := K) fun i e => hi ⟨i, e⟩
      rcases h with ⟨rfl, b, rfl⟩ | kt
      · refine ⟨_, rfl, _, _, _, _, true, rfl, .ty _, ty, kit_ty (by decide +kernel), true, rfl, iteT ?_⟩
        exact ⟨_, rfl, _, _, _, _, true, rfl, .ty _, ty, kit_ty (by decide +kernel), _, rfl, q⟩
      · exact ⟨_, rfl, _, _, _, _, false, rfl, .ty _, ty, kit_ty kt, false, rfl, iteF q⟩
def spIntWA : Sp := fun vs H Q _ => ∃ (v : V) (lo hi : Int), vs = [v, .int lo, .int hi] ∧ OddV H v ∧ Q (.bl (inV v lo hi)) H
theorem ok_is_integer_withinA (D : DefAt K mg "is_integer_within" s_is_integer_within) (T : Bt mg) (u_is_integer : Use P w K mg base "is_integer" 1 ["value"] spIsIntegerA) :
    Use P w K mg base "is_integer_within" 2 ["value", "least", "most"] spIntWA := by
  refine use_of D (fun f fd F => F.ok sc_is_integer_within (fun vs H Q E h => ?_) (fun cdv A outer s H vs Q E hr h => ?_)) (fun _ _ _ _ _ _ us hl => match us, hl with | [_, _, _], _ => rfl)
  · obtain ⟨i, lo, hi, rfl, _⟩ := h
    rfl
  · obtain ⟨v, lo, hi, rfl, o, q⟩ := h
    refine ⟨_, (pss_one (ps_ret (pe_and (pe_use u_is_integer (by decide) hr (by rfl) (pa_cons (pv 0) pa_nil)) (pe_one (pe_chain op_le op_le (pv 1) (pv 0) (pv 2)))))), ?_⟩
    by_cases hv : ∃ i, v = .int i
    · obtain ⟨i, rfl⟩ := hv
      have q' : Q (.bl (decide (lo ≤ i ∧ i ≤ hi))) H := q
      refine ⟨_, rfl, _, rfl, o, true, rfl, iteT ?_⟩
      refine ⟨_, rfl, _, rfl, lo, i, rfl, rfl, _, rfl, ?_⟩
      by_cases h1 : lo ≤ i
      · rw [decide_eq_true h1]
        refine iteT ⟨_, rfl, i, hi, rfl, rfl, ?_⟩
        have e : decide (lo ≤ i ∧ i ≤ hi) = decide (i ≤ hi) := by simp [h1]
        rw [e] at q'
        exact q'
      · rw [decide_eq_false h1]
        refine iteF ?_
        have e : decide (lo ≤ i ∧ i ≤ hi) = false := by simp [h1]
        rw [e] at q'
        exact q'
    · have e : isI v = false ∧ inV v lo hi = false := by
        cases v with
        | int i => exact absurd ⟨i, rfl⟩ hv
        | _ => exact ⟨rfl, rfl⟩
      rw [e.2] at q
      exact ⟨_, rfl, _, rfl, o, false, by rw [e.1], iteF q⟩
theorem ev_ints (xs : List Int) : ev (xs.map V.int) = (ev xs).map V.int := ev_map _ _
def spIsRing : Sp := fun vs H Q _ => ∃ (a b : Addr) (t : V) (p r : List Int) (o : Option (List V)), vs = [.ref a, .ref b, t] ∧ TI H a p ∧ TI H b r ∧ Par p ∧ Par r ∧ p.length = r.length ∧ Thing H t o ∧
  ∀ H' c, Same H H' → (c = true ↔ RightT p r o) → Q (.bl c) H'
end
end KQ
namespace KR
open PySem PySem.Spec PyProof.Rows L2 KM KQ
theorem lc_enumT {K : PySem.W.Frag} {a : Addr} {xs : List V} {g : TG} {tt : TT} {te : TE} {vs : List Nat} {σ : L2.St} {H1 : Hp} {D : Addr} {Qd : Hp → Prop} (Pv : Nat → Hp → Prop) (h0 : Pv 0 (upd H1 D (.lst []))) (hl : ∀ i H, i ≤ xs.length → Pv i H → SqT K H a xs)
    (hs : ∀ (i : Nat) (x : V) (T : Addr) (H : Hp), xs[i]? = some x → Pv i H → H T = none → g (.ref T) (wipe σ vs) (upd H T (.tup [.int (i : Nat), x])) fun σ2 H2 => wipe σ2 vs = wipe σ vs ∧ tt σ2 H2 fun b H3 =>
      if b = true then te σ2 H3 fun y H4 => ∃ acc, H4 D = some (.lst acc) ∧ acc.length < sizeLine ∧ Pv (i + 1) (upd H4 D (.lst (acc ++ [y]))) else Pv (i + 1) H3) (hd : ∀ H, Pv xs.length H → Qd H) :
    ∃ W : Nat → Nat → Hp → Prop, (∃ m, W 0 m (upd H1 D (.lst []))) ∧ ∀ i m H, W i m H →
      ((IteT K a).stop i H ∧ Qd H) ∨ ((IteT K a).go i H ∧ ∃ Nx : Hp → Prop, (∀ H', Nx H' → ∃ m', m' < m ∧ W (i + 1) m' H') ∧ ∀ x H', (IteT K a).yld i H x H' → g x (wipe σ vs) H' fun σ2 H2 => wipe σ2 vs = wipe σ vs ∧ tt σ2 H2 fun b H3 =>
        if b = true then te σ2 H3 fun y H4 => ∃ acc, H4 D = some (.lst acc) ∧ acc.length < sizeLine ∧ Nx (upd H4 D (.lst (acc ++ [y]))) else Nx H3) := by
  refine ⟨fun i m H => m = xs.length - i ∧ i ≤ xs.length ∧ Pv i H, ⟨xs.length, by simp, Nat.zero_le _, h0⟩, ?_⟩
  rintro i m H ⟨rfl, hi, p⟩
  have q := hl i H hi p
  by_cases hlt : i < xs.length
  · have hx : xs[i]? = some xs[i] := List.getElem?_eq_getElem hlt
    refine .inr ⟨⟨xs, _, q, hx⟩, Pv (i + 1), fun H' p' => ⟨xs.length - (i + 1), by omega, rfl, hlt, p'⟩, fun x H' y => ?_⟩
    obtain ⟨T, x', rfl, hT, rfl, f1⟩ := y
    exact hs i x' T H (f1 xs q) p hT
  · have e : i = xs.length := by omega
    subst e
    exact .inl ⟨⟨xs, q, Nat.le_refl _⟩, hd H p⟩
theorem lc_enumL {K : PySem.W.Frag} {a : Addr} {xs : List V} {g : TG} {tt : TT} {te : TE} {vs : List Nat} {σ : L2.St} {H1 : Hp} {D : Addr} {Qd : Hp → Prop} (Pv : Nat → Hp → Prop) (h0 : Pv 0 (upd H1 D (.lst []))) (hl : ∀ i H, i ≤ xs.length → Pv i H → SqL K H a xs)
    (hs : ∀ (i : Nat) (x : V) (T : Addr) (H : Hp), xs[i]? = some x → Pv i H → H T = none → g (.ref T) (wipe σ vs) (upd H T (.tup [.int (i : Nat), x])) fun σ2 H2 => wipe σ2 vs = wipe σ vs ∧ tt σ2 H2 fun b H3 =>
      if b = true then te σ2 H3 fun y H4 => ∃ acc, H4 D = some (.lst acc) ∧ acc.length < sizeLine ∧ Pv (i + 1) (upd H4 D (.lst (acc ++ [y]))) else Pv (i + 1) H3) (hd : ∀ H, Pv xs.length H → Qd H) :
    ∃ W : Nat → Nat → Hp → Prop, (∃ m, W 0 m (upd H1 D (.lst []))) ∧ ∀ i m H, W i m H →
      ((Ite K a).stop i H ∧ Qd H) ∨ ((Ite K a).go i H ∧ ∃ Nx : Hp → Prop, (∀ H', Nx H' → ∃ m', m' < m ∧ W (i + 1) m' H') ∧ ∀ x H', (Ite K a).yld i H x H' → g x (wipe σ vs) H' fun σ2 H2 => wipe σ2 vs = wipe σ vs ∧ tt σ2 H2 fun b H3 =>
        if b = true then te σ2 H3 fun y H4 => ∃ acc, H4 D = some (.lst acc) ∧ acc.length < sizeLine ∧ Nx (upd H4 D (.lst (acc ++ [y]))) else Nx H3) := by
  refine ⟨fun i m H => m = xs.length - i ∧ i ≤ xs.length ∧ Pv i H, ⟨xs.length, by simp, Nat.zero_le _, h0⟩, ?_⟩
  rintro i m H ⟨rfl, hi, p⟩
  have q := hl i H hi p
  by_cases hlt : i < xs.length
  · have hx : xs[i]? = some xs[i] := List.getElem?_eq_getElem hlt
    refine .inr ⟨⟨xs, _, q, hx⟩, Pv (i + 1), fun H' p' => ⟨xs.length - (i + 1), by omega, rfl, hlt, p'⟩, fun x H' y => ?_⟩
    obtain ⟨T, x', rfl, hT, rfl, f1⟩ := y
    exact hs i x' T H (f1 xs q) p hT
  · have e : i = xs.length := by omega
    subst e
    exact .inl ⟨⟨xs, q, Nat.le_refl _⟩, hd H p⟩
theorem k_gtup {X : Cx} {K : PySem.W.Frag} {es : List Expr} {k : Nat} {t : TGs} {n : Nat} {pos : Pos} (hK : X.K = K) (hc : X.calm = true) (h : PGs X es t)
    (hn : (assignEach es X.env).length = n := by rfl) (hst : (assignEach es X.env).findIdx? (·.1) = none := by rfl) : PG X (.Tuple es k pos) (gTup K n t) := by
  subst hK
  exact pg_tup hc h hn hst
def rReprB : List V → Hp → VK → Prop := fun xs H Q => ∃ b : Bool, xs = [.bl b] ∧ Q (.str (if b then "True" else "False")) H
theorem call_reprB {X : Cx} : CallR X (.builtin "repr") rReprB := by
  intro pins s σ H xs us Q I r h
  obtain ⟨b, rfl, q⟩ := h
  cases r with
  | cons r1 rr =>
    cases rr
    cases r1
    exact PySem.P.repr_of_bool ⟨.str _, H, I.tok _, ⟨_, rfl⟩, q⟩
/-- a whole number among whole numbers -/
theorem inV_ints (d : Int) (ds : List Int) : L2.inV (.int d) (ds.map V.int) = decide (d ∈ ds) := by
  unfold L2.inV
  rw [List.any_map]
  by_cases h : d ∈ ds
  · rw [decide_eq_true h, List.any_eq_true]
    exact ⟨d, h, by show (d == d) = true; simp⟩
  · rw [decide_eq_false h, List.any_eq_false]
    intro x hx
    show ¬ (x == d) = true
    rw [beq_iff_eq]
    exact fun e => h (e ▸ hx)
theorem flat_ints (ds : List Int) : (ds.map V.int).all flatV = true := by
  rw [List.all_map, List.all_eq_true]
  exact fun _ _ => rfl
end KR
namespace KQ
open PySem PySem.Spec PyProof.Rows L2 KR KM StX
theorem fmod2 (n : Nat) : Int.fmod (n : Int) 2 = ((n % 2 : Nat) : Int) := by
  rw [Int.fmod_eq_emod_of_nonneg _ (by decide)]
  omega
theorem nodup_take (ds : List Int) : ds.Nodup ↔ ∀ (i : Nat) (d : Int), ds[i]? = some d → d ∉ ds.take i := by
  constructor
  · intro h i d hd hm
    obtain ⟨j, hj⟩ := List.mem_iff_getElem?.mp hm
    have jl := (List.getElem?_eq_some_iff.mp hj).1
    rw [List.length_take] at jl
    rw [List.getElem?_take_of_lt (by omega)] at hj
    have l1 := List.getElem?_eq_some_iff.mp hj
    have l2 := List.getElem?_eq_some_iff.mp hd
    exact List.pairwise_iff_getElem.mp h j i l1.1 l2.1 (by omega) (l1.2.trans l2.2.symm)
  · intro h
    refine List.pairwise_iff_getElem.mpr fun i j hi hj hij e => ?_
    refine h j _ (List.getElem?_eq_getElem hj) ?_
    rw [← e]
    exact List.mem_iff_getElem?.mpr ⟨i, by rw [List.getElem?_take_of_lt hij]; exact List.getElem?_eq_getElem hi⟩
section
variable {P : Program} {w : World} {K : PySem.W.Frag} {mg : Str → Option Value} {base : Heap}
abbrev s__law_is_int : Stmt := topS 36
theorem sc__law_is_int : FnScope ["thing", "low", "high"] ["thing", "low", "high"] (defScope s__law_is_int) := ⟨rfl, rfl, rfl, by decide +kernel, rfl, by decide +kernel, by decide +kernel⟩
theorem ok_law_is_int (D : DefAt K mg "_law_is_int" s__law_is_int) (T : Bt mg) : Use P w K mg base "_law_is_int" 1 ["thing", "low", "high"] spIntWA := by
  refine use_of D (fun f fd F => F.ok sc__law_is_int (fun vs H Q E h => ?_) (fun cdv A outer s H vs Q E hr h => ?_)) (fun _ _ _ _ _ _ us hl => match us, hl with | [_, _, _], _ => rfl)
  · obtain ⟨i, lo, hi, rfl, _⟩ := h
    rfl
  · obtain ⟨v, lo, hi, rfl, o, q⟩ := h
    refine ⟨_, (pss_one (ps_ret (pe_and (pe_callB (k_isi (K := K) rfl) (by rfl) T.isinstance (by decide +kernel) (pa_cons (pv 0) (pa_cons (pe_bltn (v := .ty "int") (by rfl) T.int (by decide +kernel) rfl) pa_nil))) (pe_and (pe_not (pe_callB (k_isi (K := K) rfl) (by rfl) T.isinstance (by decide +kernel) (pa_cons (pv 0) (pa_cons (pe_bltn (v := .ty "bool") (by rfl) T.bool (by decide +kernel) rfl) pa_nil)))) (pe_one (pe_chain op_le op_le (pv 1) (pv 0) (pv 2))))))), ?_⟩
    by_cases hv : ∃ i, v = .int i
    · obtain ⟨i, rfl⟩ := hv
      have q' : Q (.bl (decide (lo ≤ i ∧ i ≤ hi))) H := q
      refine ⟨_, rfl, _, _, _, _, true, rfl, .ty _, .base (.int i), kit_ty (by decide +kernel), true, rfl, iteT ?_⟩
      refine ⟨_, rfl, _, _, _, _, false, rfl, .ty _, .base (.int i), kit_ty (by decide +kernel), _, rfl, _, rfl, iteT ?_⟩
      refine ⟨_, rfl, _, rfl, lo, i, rfl, rfl, _, rfl, ?_⟩
      by_cases h1 : lo ≤ i
      · rw [decide_eq_true h1]
        refine iteT ⟨_, rfl, i, hi, rfl, rfl, ?_⟩
        have e : decide (lo ≤ i ∧ i ≤ hi) = decide (i ≤ hi) := by simp [h1]
        rw [e] at q'
        exact q'
      · rw [decide_eq_false h1]
        refine iteF ?_
        have e : decide (lo ≤ i ∧ i ≤ hi) = false := by simp [h1]
        rw [e] at q'
        exact q'
    · have e : inV v lo hi = false := by
        cases v with
        | int i => exact absurd ⟨i, rfl⟩ hv
        | _ => rfl
      rw [e] at q
      obtain ⟨t, ty, h⟩ := o.ty (K := K) fun i e => hv ⟨i, e⟩
      rcases h with ⟨rfl, b, rfl⟩ | kt
      · refine ⟨_, rfl, _, _, _, _, true, rfl, .ty _, ty, kit_ty (by decide +kernel), true, rfl, iteT ?_⟩
        exact ⟨_, rfl, _, _, _, _, true, rfl, .ty _, ty, kit_ty (by decide +kernel), _, rfl, _, rfl, iteF q⟩
      · exact ⟨_, rfl, _, _, _, _, false, rfl, .ty _, ty, kit_ty kt, false, rfl, iteF q⟩
end
end KQ
namespace KR
open PySem PySem.Spec PyProof.Rows L2 KM KQ
section
variable {X : Cx} {K : PySem.W.Frag}
/-- t[lo:hi], t + u, empty ones and whole ones too: a tuple with these items -/
def rSlF : V → Option Int → Option Int → Hp → VK → Prop := fun x lo hi H Q => ∃ a xs, x = .ref a ∧ H a = some (.tup xs) ∧ ∀ H' p, Same H H' → H' p = some (.tup (cutV xs lo hi)) → Q (.ref p) H'
def rCatF : R2 := fun x y H Q => ∃ a b xs ys, x = .ref a ∧ y = .ref b ∧ H a = some (.tup xs) ∧ H b = some (.tup ys) ∧ xs.length + ys.length ≤ 100000 ∧ ∀ H' p, Same H H' → H' p = some (.tup (xs ++ ys)) → Q (.ref p) H'
theorem k_slA (_hK : X.K = K) : SlR X rSlF := by
  intro pins s σ H x v vl vu lo hi sl Q I rx hs pl pu h
  obtain ⟨a, xs, rfl, hx, k⟩ := h
  refine sl_tupA pins s σ H _ v vl vu lo hi sl Q I rx hs pl pu ⟨a, xs, rfl, sqT hx, fun hw => k H a (Same.refl H) ?_, fun _ p np => k _ p (same_new np) upd_same⟩
  unfold cutV
  rw [hw.1, hw.2, List.drop_zero, Nat.sub_zero, List.take_length]
  exact hx
theorem k_catA (_hK : X.K = K) : OpR X (binaryOp .Add) rCatF := by
  intro pins s σ H x y v u Q I rx ry h
  obtain ⟨a, b, xs, ys, rfl, rfl, hx, hy, hl, k⟩ := h
  refine op_catA pins s σ H _ _ v u Q I rx ry ⟨a, b, xs, ys, rfl, rfl, sqT hx, sqT hy, Nat.le_of_lt (small_of hl), fun e => ?_, fun _ e => ?_, fun _ _ p np => k _ p (same_new np) upd_same⟩
  · subst e
    exact k H b (Same.refl H) (by rw [List.nil_append]; exact hy)
  · subst e
    exact k H a (Same.refl H) (by rw [List.append_nil]; exact hx)
end
theorem cut_sub {xs : List V} {lo hi : Option Int} {v : V} (h : v ∈ cutV xs lo hi) : v ∈ xs := by
  unfold cutV at h
  exact List.mem_of_mem_drop (List.mem_of_mem_take h)
/-! ### things that stay where S is changed -/
def refsOut (S : List Addr) (v : V) : Prop := ∀ x, v = .ref x → x ∉ S
def KeptS (H H' : Hp) (S : List Addr) : Prop := ∀ a u, H a = some u → a ∉ S → H' a = some u
def Good (H : Hp) (S : List Addr) (v : V) : Prop := ∃ o, Thing H v o ∧ refsOut S v ∧ ∀ vs, o = some vs → ∀ u ∈ vs, refsOut S u
theorem odd_kept {H H' : Hp} {S : List Addr} {v : V} (k : KeptS H H' S) (r : refsOut S v) (o : OddV H v) : OddV H' v := by
  cases o with
  | int i => exact .int i
  | bl b => exact .bl b
  | non => exact .non
  | str x => exact .str x
  | lst h => exact .lst (k _ _ h (r _ rfl))
  | dK h => exact .dK (k _ _ h (r _ rfl))
  | tup h => exact .tup (k _ _ h (r _ rfl))
theorem Good.kept {H H' : Hp} {S : List Addr} {v : V} (g : Good H S v) (k : KeptS H H' S) : Good H' S v := by
  obtain ⟨o, t, r, ri⟩ := g
  refine ⟨o, ?_, r, ri⟩
  cases t with
  | tup h oo l => exact .tup (k _ _ h (r _ rfl)) (fun v hv => odd_kept k (ri _ rfl v hv) (oo v hv)) l
  | non => exact .non
  | int i => exact .int i
  | lst h => exact .lst (k _ _ h (r _ rfl))
theorem Good.same {H H' : Hp} {S : List Addr} {v : V} (g : Good H S v) (k : Same H H') : Good H' S v := g.kept fun a u h _ => k a u h
theorem Good.sub {H : Hp} {S S' : List Addr} {v : V} (g : Good H S v) (h : ∀ x ∈ S', x ∈ S) : Good H S' v := by
  obtain ⟨o, t, r, ri⟩ := g
  exact ⟨o, t, fun x e hx => r x e (h x hx), fun vs e u hu x e' hx => ri vs e u hu x e' (h x hx)⟩
theorem odd_live {H : Hp} {x : Addr} (o : OddV H (.ref x)) : H x ≠ none := by
  cases o with
  | lst h => rw [h]; exact fun e => by cases e
  | dK h => rw [h]; exact fun e => by cases e
  | tup h => rw [h]; exact fun e => by cases e
theorem Good.new {H : Hp} {S : List Addr} {v : V} {l : Addr} (g : Good H S v) (n : H l = none) : Good H (l :: S) v := by
  obtain ⟨o, t, r, ri⟩ := g
  refine ⟨o, t, fun x e hx => ?_, fun vs e u hu x e' hx => ?_⟩
  · rcases List.mem_cons.mp hx with q | q
    · subst e q
      cases t with
      | tup h _ _ => rw [n] at h; cases h
      | lst h => rw [n] at h; cases h
    · exact r x e q
  · rcases List.mem_cons.mp hx with q | q
    · subst e' q e
      cases t with
      | tup h oo _ => exact odd_live (oo _ hu) n
    · exact ri vs e u hu x e' q
theorem good_tup {H : Hp} {S : List Addr} {a : Addr} {vs : List V} (h : H a = some (.tup vs)) (ns : a ∉ S) (o : ∀ v ∈ vs, OddV H v ∧ refsOut S v) (l : vs.length ≤ 1000) : Good H S (.ref a) :=
  ⟨some vs, .tup h (fun v hv => (o v hv).1) l, fun x e => by cases e; exact ns, fun ws e u hu => by cases e; exact (o u hu).2⟩
theorem good_lst {H : Hp} {S : List Addr} {a : Addr} {xs : List V} (h : H a = some (.lst xs)) (ns : a ∉ S) : Good H S (.ref a) :=
  ⟨none, .lst h, fun x e => by cases e; exact ns, fun ws e => by cases e⟩
theorem good_non {H : Hp} {S : List Addr} : Good H S .non := ⟨none, .non, fun x e => (by cases e), fun ws e => by cases e⟩
theorem good_int {H : Hp} {S : List Addr} {i : Int} : Good H S (.int i) := ⟨none, .int i, fun x e => (by cases e), fun ws e => by cases e⟩
theorem odd_ints {H : Hp} {S : List Addr} {vs : List V} {xs : List Int} (h : ∀ v ∈ vs, v ∈ xs.map V.int) : ∀ v ∈ vs, OddV H v ∧ refsOut S v := fun v hv => by
  obtain ⟨i, _, rfl⟩ := List.mem_map.mp (h v hv)
  exact ⟨.int i, fun x e => by cases e⟩
end KR
/-! sorted(rows), rows tuples of whole numbers, any number of them -/
namespace KR
open PySem PySem.Spec PyProof.Rows L2 KM KQ
theorem lex_asym : ∀ x y : List Int, HT.lexLt x y = true → HT.lexLt y x = false
  | [], [], h => by cases h
  | [], _ :: _, _ => rfl
  | _ :: _, [], h => by cases h
  | x :: xs, y :: ys, h => by
    rw [HT.lexLt_cons] at h ⊢
    by_cases e : x = y
    · rw [if_pos e] at h
      rw [if_pos e.symm]
      exact lex_asym xs ys h
    · rw [if_neg e] at h
      rw [if_neg (fun z => e z.symm)]
      have := of_decide_eq_true h
      exact decide_eq_false (by omega)
theorem lex_tr : ∀ x y z : List Int, HT.lexLt y x = false → HT.lexLt z y = false → HT.lexLt z x = false
  | [], [], z, _, h => h
  | [], _ :: _, [], _, h => by cases h
  | [], _ :: _, _ :: _, _, _ => rfl
  | _ :: _, [], _, h, _ => by cases h
  | _ :: _, _ :: _, [], _, h => by cases h
  | x :: xs, y :: ys, z :: zs, h, g => by
    rw [HT.lexLt_cons] at h g ⊢
    by_cases e1 : y = x
    · rw [if_pos e1] at h
      by_cases e2 : z = y
      · rw [if_pos e2] at g
        rw [if_pos (e2.trans e1)]
        exact lex_tr xs ys zs h g
      · rw [if_neg e2] at g
        have := of_decide_eq_false g
        rw [if_neg (by omega)]
        exact decide_eq_false (by omega)
    · rw [if_neg e1] at h
      have a := of_decide_eq_false h
      by_cases e2 : z = y
      · rw [if_neg (by omega)]
        exact decide_eq_false (by omega)
      · rw [if_neg e2] at g
        have b := of_decide_eq_false g
        rw [if_neg (by omega)]
        exact decide_eq_false (by omega)
theorem lex_eq : ∀ x y : List Int, HT.lexLt x y = false → HT.lexLt y x = false → x = y
  | [], [], _, _ => rfl
  | [], _ :: _, h, _ => by cases h
  | _ :: _, [], _, h => by cases h
  | x :: xs, y :: ys, h, g => by
    rw [HT.lexLt_cons] at h g
    by_cases e : x = y
    · rw [if_pos e] at h
      rw [if_pos e.symm] at g
      rw [e, lex_eq xs ys h g]
    · rw [if_neg e] at h
      rw [if_neg (fun z => e z.symm)] at g
      have := of_decide_eq_false h
      have := of_decide_eq_false g
      omega
theorem swo_row (k : Value → List Int) : SrtO.Swo fun v u => HT.lexLt (k v) (k u) := ⟨fun _ _ h => lex_asym _ _ h, fun _ _ _ h g => lex_tr _ _ _ h g⟩
/-- a tuple of whole numbers, at least one -/
def IsRow (h : Heap) (v : Value) (ns : List Int) : Prop := ∃ a o its n, v = .ref a ∧ h.get? a = some o ∧ o.cls = .type "tuple" ∧ o.data = .seq (List.toArray its) n ∧ IntsAre its ns ∧ ns ≠ []
theorem IsRow.keeps {h h' : Heap} {v : Value} {ns : List Int} (p : IsRow h v ns) (k : ∀ b o, h.get? b = some o → o.cls = .type "tuple" → h'.get? b = some o) : IsRow h' v ns := by
  obtain ⟨a, o, its, n, e, ho, hc, hd, hi, ne⟩ := p
  exact ⟨a, o, its, n, e, k _ _ ho hc, hc, hd, hi, ne⟩
section
variable {prog : Program} {w : World} {A : Around} {s : Shared}
theorem kat_ints {fin : Bool} : ∀ {xs ys : List Value} {ns ms : List Int} {i : Nat} {R : Bool}, IntsAre xs ns → IntsAre ys ms →
    (ns.length - ms.length = 0 → ms.length - ns.length = 0 → fin = false) → (ns.length < ms.length → fin = true) → (ms.length < ns.length → fin = false) → R = HT.lexLt ns ms →
    PySem.W.KatLex prog w A true fin (fun r s' => s' = s ∧ r = R) (xs.zip ys) i s
  | [], [], _, _, i, R, .nil, .nil, h0, _, _, e => PySem.W.kat_nil ⟨rfl, by rw [e, h0 rfl rfl]; rfl⟩
  | [], _ :: _, _, _, i, R, .nil, .cons _ _ _, _, h1, _, e => PySem.W.kat_nil ⟨rfl, by rw [e, h1 (by simp)]; rfl⟩
  | _ :: _, [], _, _, i, R, .cons _ _ _, .nil, _, _, h2, e => PySem.W.kat_nil ⟨rfl, by rw [e, h2 (by simp)]; rfl⟩
  | _ :: xs, _ :: ys, _, _, i, R, .cons x t hi, .cons y u hj, h0, h1, h2, e => by
    rw [HT.lexLt_cons] at e
    rw [List.zip_cons_cons]
    refine PySem.W.kat_cons (SeqAt.EqAt.int_int x t y u prog w _ _ ?_)
    refine PySem.W.kat_go (fun e1 => ?_) (fun e1 => ?_)
    · have ex : x = y := by simpa using e1
      rw [if_pos ex] at e
      refine PySem.W.kat_yes (kat_ints hi hj (fun a b => h0 ?_ ?_) (fun a => h1 ?_) (fun a => h2 ?_) e)
      · rw [List.length_cons, List.length_cons]; omega
      · rw [List.length_cons, List.length_cons]; omega
      · rw [List.length_cons, List.length_cons]; omega
      · rw [List.length_cons, List.length_cons]; omega
    · have ex : ¬ x = y := by simpa using e1
      rw [if_neg ex] at e
      by_cases hz : i = 0
      · subst hz
        exact PySem.W.kat_no (oneLt_int ⟨rfl, e.symm⟩)
      · refine PySem.W.kat_no ?_
        rw [show (true && i == 0) = false by simp [hz]]
        exact PySem.W.kat_one _ _ (PyProof.Rows.lt_int (show s = s ∧ decide (x < y) = R from ⟨rfl, e.symm⟩))
theorem row_cmp {vs : List Value} {k : Value → List Int} (hp : ∀ v ∈ vs, IsRow s.heap v (k v)) : SrtO.Cmp prog w A s (tuples' true) (fun p => p.1 ∈ vs) (SrtO.lt2 fun v u => HT.lexLt (k v) (k u)) := by
  intro p q hm hm'
  show wpAny (model prog w) A (keyLt' (tuples' true) p.1 q.1) (fun r s' => s' = s ∧ r = HT.lexLt (k p.1) (k q.1)) (fun _ _ => False) s
  obtain ⟨a, o, its, n, e, ho, hc, hd, hi, ne⟩ := hp _ hm
  obtain ⟨a', o', its', n', e', ho', hc', hd', hi', ne'⟩ := hp _ hm'
  rw [e, e'] at *
  have l1 := hi.length
  have l2 := hi'.length
  refine PySem.W.kat_lt ho hd ho' hd' ?_
  show PySem.W.KatLex prog w A true _ _ (its.zip its') 0 s
  refine kat_ints hi hi' (fun a b => ?_) (fun a => ?_) (fun a => ?_) rfl
  · exact decide_eq_false (by rw [List.size_toArray, List.size_toArray]; omega)
  · exact decide_eq_true (by rw [List.size_toArray, List.size_toArray]; omega)
  · exact decide_eq_false (by rw [List.size_toArray, List.size_toArray]; omega)
theorem row_firsts {h : Heap} {k : Value → List Int} : ∀ {vs : List Value}, (∀ v ∈ vs, IsRow h v (k v)) → ∃ fs : List Value, PySem.W.KatTups h vs fs ∧ fs.length = vs.length ∧ ∀ f ∈ fs, ∃ x t, f = Value.int x t
  | [], _ => ⟨[], PySem.W.KatTups.nil, rfl, fun _ hm => by simp at hm⟩
  | v :: vs, hp => by
    obtain ⟨fs, h1, h2, h3⟩ := row_firsts (vs := vs) fun v' hm => hp v' (List.mem_cons_of_mem _ hm)
    obtain ⟨a, o, its, n, e, ho, hc, hd, hi, ne⟩ := hp v List.mem_cons_self
    subst e
    cases hk : k (.ref a) with
    | nil => exact absurd hk ne
    | cons x r =>
      rw [hk] at hi
      cases hi with
      | cons _ t hr =>
        refine ⟨.int x t :: fs, PySem.W.KatTups.cons ho hc hd rfl h1, by rw [List.length_cons, List.length_cons, h2], fun f hm => ?_⟩
        rcases List.mem_cons.mp hm with rfl | hm
        · exact ⟨x, t, rfl⟩
        · exact h3 f hm
theorem rows_sortable {a : Addr} {vs : List Value} {k : Value → List Int} (h0 : 0 < vs.length) (hp : ∀ v ∈ vs, IsRow s.heap v (k v)) (ha : ∀ o, s.heap.get? a = some o → o.cls ≠ .type "tuple") :
    SrtO.SortableO prog w A s a vs fun v u => HT.lexLt (k v) (k u) := by
  intro h' keep
  have hp' : ∀ v ∈ vs, IsRow h' v (k v) := fun v hm => (hp v hm).keeps fun b o e c => keep b o (fun z => by subst z; exact ha o e c) e
  obtain ⟨fs, h1, h2, h3⟩ := row_firsts hp'
  refine ⟨tuples' true, fun Q E hq => ?_, row_cmp hp'⟩
  refine PySem.W.kat_kind (T := .type "int") h1 (by omega) (fun f hm => ?_) (by rfl) ?_
  · obtain ⟨x, t, rfl⟩ := h3 f hm
    exact PySem.W.Looks.now
  · have e : (Value.type "int" != Value.type "tuple") = true := by first | decide +kernel | rfl | decide
    rw [e]
    exact hq
theorem sorted_rows {l : Addr} {vs : List Value} {k : Value → List Int} {E : Value → Shared → Prop} {Q : Value → Shared → Prop} (hl : s.heap.IsList l vs.toArray) (hz : vs.length ≤ sizeLine) (hp : ∀ v ∈ vs, IsRow s.heap v (k v))
    (h : ∀ (h' : Heap) (d : Addr) (out : List Value), SrtO.Srtd (fun v u => HT.lexLt (k v) (k u)) out → SrtO.Stb (fun v u => HT.lexLt (k v) (k u)) out vs → (∀ b o, s.heap.get? b = some o → h'.get? b = some o) → s.heap.objs.size ≤ d → (∃ n, h'.get? d = some (seqObj "list" out.toArray n)) → Q (.ref d) { s with heap := h' }) :
    wpAny (model prog w) A (call (.builtin "sorted") [.ref l]) Q E s := by
  refine SrtO.sorted_ord (swo_row k) hl hz (fun h2 h₁ a ha kk => ?_) fun out hs hb => ?_
  · refine rows_sortable (s := { s with heap := h₁ }) (by omega) (fun v hm => (hp v hm).keeps fun b o e _ => (kk b o e).2) fun o e => ?_
    have e' : some o = some (seqObj "list" vs.toArray 0) := e.symm.trans ha
    cases e'
    intro c
    exact absurd (Value.type.inj c) (by decide)
  · exact h _ _ out hs hb (fun b o e => PyProof.Rows.sortedAll_old e) (Nat.le_succ _) (PyProof.Rows.sortedAll_at s.heap vs out.toArray)
end
def intsV : List V → List Int
  | [] => []
  | .int i :: r => i :: intsV r
  | _ :: r => intsV r
theorem intsV_map : ∀ xs : List Int, intsV (xs.map V.int) = xs
  | [] => rfl
  | x :: xs => by
    show x :: intsV (xs.map V.int) = x :: xs
    rw [intsV_map xs]
def tupV : Option HO → List Int
  | some (.tup vs) => intsV vs
  | _ => []
/-- the row at a tracked tuple -/
def rowOf (H : Hp) : V → List Int
  | .ref t => tupV (H t)
  | _ => []
theorem rowOf_ti {H : Hp} {t : Addr} {xs : List Int} (h : TI H t xs) : rowOf H (.ref t) = xs := by
  show tupV (H t) = xs
  rw [show H t = some (.tup (xs.map V.int)) from h]
  exact intsV_map xs
def rSortedR (K : PySem.W.Frag) : List V → Hp → VK → Prop := fun vs H Q => ∃ (a : Addr) (ts : List Addr) (rows : List (List Int)), vs = [V.ref a] ∧ SqL K H a (ts.map V.ref) ∧ Its H ts rows ∧ (∀ r ∈ rows, r ≠ []) ∧
  ∀ ts' rows' p, rows'.Perm rows → rows'.Pairwise (fun x y => HT.lexLt y x = false) → Its H ts' rows' → H p = none → Q (.ref p) (upd H p (.lst (ts'.map V.ref)))
theorem its_rows {H : Hp} : ∀ {ts : List Addr} {rows : List (List Int)}, Its H ts rows → rows = ts.map fun t => rowOf H (.ref t)
  | [], [], _ => rfl
  | [], _ :: _, h => by cases h.1
  | _ :: _, [], h => by cases h.1
  | t :: ts, r :: rows, h => by
    obtain ⟨ys, e, ht⟩ := h.2 0 t rfl
    obtain rfl : r = ys := Option.some.inj e
    rw [List.map_cons, rowOf_ti ht, ← its_rows (ts := ts) (rows := rows) ⟨Nat.succ.inj h.1, fun i u hu => h.2 (i + 1) u hu⟩]
theorem its_of {H : Hp} {ts : List Addr} (h : ∀ t ∈ ts, ∃ xs, TI H t xs) : Its H ts (ts.map fun t => rowOf H (.ref t)) := by
  refine ⟨by rw [List.length_map], fun i t ht => ?_⟩
  obtain ⟨xs, hx⟩ := h t (List.mem_of_getElem? ht)
  exact ⟨xs, by rw [at_map (f := fun t => rowOf H (.ref t)) ht, rowOf_ti hx], hx⟩
theorem intsAre_vals {xs : List Int} : ∀ {us : List Value}, Vals (xs.map V.int) us → IntsAre us xs := fun r => intsAre_of r
section
variable {X : Cx}
theorem cr_sortedR : CallR X (.builtin "sorted") (rSortedR X.K) := by
  intro pins s σ H vs us Q I r h
  obtain ⟨a, ts, rows, rfl, hs, its0, ne, q⟩ := h
  obtain ⟨its, rv, hl, hz⟩ := I.list hs
  obtain ⟨u, rfl, ru⟩ := vals1 r
  obtain rfl : u = Value.ref a := ru
  obtain ⟨e1, e2⟩ := refs_back rv fun x m => by
    obtain ⟨t, _, rfl⟩ := List.mem_map.mp m
    exact ⟨t, rfl⟩
  have hx : ∀ t ∈ ts, ∃ xs, TI H t xs ∧ xs ≠ [] := fun t ht => by
    obtain ⟨i, hi⟩ := List.mem_iff_getElem?.mp ht
    obtain ⟨xs, e, hti⟩ := its0.2 i t hi
    exact ⟨xs, hti, ne xs (List.mem_of_getElem? e)⟩
  have mem : ∀ v ∈ its, ∃ t, v = .ref t ∧ t ∈ ts := fun v hv => by
    obtain ⟨t, rfl⟩ := e2 v hv
    have hm : V.ref t ∈ ts.map V.ref := by rw [e1]; exact List.mem_map.mpr ⟨_, hv, rfl⟩
    obtain ⟨t', ht', e⟩ := List.mem_map.mp hm
    cases e
    exact ⟨t, rfl, ht'⟩
  refine sorted_rows (k := fun u => rowOf H (backV u)) hl.isList (by rw [← rv.length]; exact hz) (fun v hv => ?_) fun h' d out h1 h2 kp hd hn => ?_
  · obtain ⟨t, rfl, ht⟩ := mem v hv
    obtain ⟨xs, hti, nx⟩ := hx t ht
    obtain ⟨_, its2, r2, o, ho, hc, n, hdt⟩ := I.hok _ _ (show H t = some (.tup (xs.map V.int)) from hti)
    refine ⟨t, o, its2, n, rfl, ho, hc, hdt, ?_, ?_⟩
    · show IntsAre its2 (rowOf H (.ref t))
      rw [rowOf_ti hti]
      exact intsAre_of r2
    · show rowOf H (.ref t) ≠ []
      rw [rowOf_ti hti]
      exact nx
  · have h3 : ∀ u ∈ out, ∃ t, u = Value.ref t ∧ t ∈ ts := fun u hu => mem u (h2.perm.mem_iff.mp hu)
    obtain ⟨n, hn⟩ := hn
    obtain ⟨ts', hts'⟩ : ∃ ts' : List Addr, out = ts'.map Value.ref := by
      clear hn h2 h1
      induction out with
      | nil => exact ⟨[], rfl⟩
      | cons u out ih =>
        obtain ⟨t, rfl, _⟩ := h3 u List.mem_cons_self
        obtain ⟨ts', e⟩ := ih fun v hv => h3 v (List.mem_cons_of_mem _ hv)
        exact ⟨t :: ts', by rw [e]; rfl⟩
    subst hts'
    have eb : (ts'.map Value.ref).map backV = ts'.map V.ref := by
      rw [List.map_map]
      rfl
    have mts : ∀ t ∈ ts', t ∈ ts := fun t ht => by
      obtain ⟨t', e, hm⟩ := h3 _ (List.mem_map.mpr ⟨t, ht, rfl⟩)
      cases e
      exact hm
    refine ⟨.ref d, upd H d (.lst (ts'.map V.ref)), I.laid (t' := s.toks) kp hd ⟨?_, ts'.map Value.ref, n, by rw [← eb]; exact vals_back fun u hu => (h3 u hu).imp fun _ h => h.1, hn⟩, rfl, ?_⟩
    · have := h2.len
      rw [List.length_map] at this ⊢
      have l2 := rv.length
      omega
    refine q ts' (ts'.map fun t => rowOf H (.ref t)) d ?_ ?_ (its_of fun t ht => (hx t (mts t ht)).imp fun _ h => h.1) (I.hok.fresh hd)
    · have := h2.perm.map fun u => rowOf H (backV u)
      rw [List.map_map] at this
      rw [its_rows its0]
      have e3 : its.map (fun u => rowOf H (backV u)) = ts.map fun t => rowOf H (.ref t) := by
        have := congrArg (List.map (rowOf H)) e1
        rw [List.map_map, List.map_map] at this
        exact this.symm
      rw [e3] at this
      exact this
    · have := List.pairwise_map.mp h1
      exact List.pairwise_map.mpr this
end
/-- two orders of the same unlike rows are one -/
theorem rows_uniq : ∀ {xs ys : List (List Int)}, xs.Perm ys → xs.Pairwise (fun x y => HT.lexLt y x = false) → ys.Pairwise (fun x y => HT.lexLt y x = false) → xs = ys := by
  intro xs ys h hx hy
  exact h.eq_of_pairwise (fun a b _ _ h1 h2 => (lex_eq b a h1 h2).symm) hx hy
end KR
/-! sorted(set(xs)) of a list of whole numbers; a comprehension over a locked dict's keys -/
namespace KR
open PySem PySem.Spec PyProof.Rows L2 KM KQ
section
variable {P : Program} {w : World} {A : Around} {E : Value → Shared → Prop} {s : Shared}
/-- a set without members -/
abbrev bare (w : World) : Obj := { cls := .type "set", dict := none, data := .set #[] 0 (.fresh 0 0 (!w.params.followText "set-order")) }
abbrev bareS (w : World) (s : Shared) : Shared := { s with heap := s.heap.push (bare w) }
set_option maxHeartbeats 8000000 in
theorem set_of_list {l : Addr} {items : Array Value} (ns : List Int) {Q : Value → Shared → Prop} (free : A.handled = none) (lst : s.heap.IsList l items) (hit : IntsAre items.toList ns) (small : ns.length + 1 < scanBound)
    (out : ∀ (h' : Heap) (tk c : Nat), SetR w h' s.heap.objs.size (fun j => decide (j ∈ ns)) c → c ≤ ns.length → (∀ b o, s.heap.get? b = some o → h'.get? b = some o) → Q (.ref s.heap.objs.size) { s with heap := h', toks := tk }) :
    wpAny (model P w) A (call (.type "set") [.ref l]) Q E s := by
  have size : items.size = ns.length := by rw [← hit.length, Array.length_toList]
  obtain ⟨c0, tl0, m0⟩ := F.called_set.mro
  have m1 := F.called_set.made; have m2 := F.called_set.sub; have m3 := F.called_set.notType; have m4 := F.called_set.canCreate; have m5 := F.typeCall_set_1 (.ref l)
  refine wpAny_call (codeAny_of_tree (show wpAny _ _ (callAny (.type "set") _) _ _ _ from wpAny_pure ⟨Code.quiet_builtin _ (by decide +kernel), codeAny_builtin F.entry_type_call ?_⟩))
  rw [Around.under_plain (weight_type_call_type "set" [.ref l] []) rfl]; repeat (any_goals (first | assumption | wp_step))
  refine codeAny_mono (code_set_led1 (.ref l) (E := E) (Q₁ := fun u s1 => u = .ref s.heap.objs.size ∧ s1 = bareS w s) ⟨rfl, rfl⟩) fun z s1 hz => ?_
  cases z with
  | error e => exact hz
  | ok fl =>
    cases fl with
    | ret u =>
      obtain ⟨rfl, rfl⟩ := hz
      have at0 : (s.heap.push (bare w)).get? s.heap.objs.size = some (bare w) := Heap.get?_push_size _ rfl
      have ty0 : Shared.TypeIs (bareS w s) (.ref s.heap.objs.size) "set" := ⟨_, at0, rfl⟩
      have n1 := F.called_set.init.lookup; have n2 := F.called_set.init.bind (.ref s.heap.objs.size); repeat (any_goals (first | assumption | wp_step))
      refine codeAny_mono (codeAny_call_builtin (R := wants (fun r s2 => r = .none ∧ ∃ h' tk c, s2 = { s with heap := h', toks := tk } ∧ SetR w h' s.heap.objs.size (fun j => decide (j ∈ ns)) c ∧ c ≤ ns.length ∧ ∀ b o, s.heap.get? b = some o → h'.get? b = some o) E)
        F.called_set.init.plain F.entry_set_init (check_set_init_1 ty0 ?_)) fun r2 s2 hz2 => ?_
      · obtain ⟨⟨oc, od, oda, osl⟩, at1, c1, n1', d1⟩ := lst
        simp only at c1 d1; subst c1; subst d1
        have at2 : (s.heap.push (bare w)).get? l = some { cls := .type "list", dict := od, data := .seq items n1', slots := osl } := Heap.get?_push_of_some _ at1
        have u1 := F.sub_list_set; have u2 := F.sub_list_frozenset; have u3 : (Value.type "list" == Value.type "dict") = false := by decide
        have lst2 : (s.heap.push (bare w)).IsList l items := ⟨_, at2, rfl, n1', rfl⟩
        unfold Builtin.«set.__init__» noKeywords Builtin.Frozenset.updateFrom; generalize hq : pyIter = qi; wp_walk; subst hq
        refine wpAny_pyIter_list lst2 (wpAny_bind (wpAny_runValue ?_))
        have below : l < s.heap.objs.size := Heap.lt_size at1
        have free3 : A.in1.in1.in1.handled = none := by simp [free]
        have ne1 : l ≠ (s.heap.push (bare w)).objs.size := by rw [Heap.size_push]; exact Nat.ne_of_lt (Nat.lt_succ_of_lt below)
        have out1 : s.heap.objs.size ∉ [(s.heap.push (bare w)).objs.size, l] := by
          rw [Heap.size_push]
          simp only [List.mem_cons, List.not_mem_nil, or_false, not_or]
          exact ⟨Nat.ne_of_lt (Nat.lt_succ_self _), Nat.ne_of_gt below⟩
        have vals : ∀ (i : Nat) (v : Value), items[i]? = some v → ∃ k t, ns[i]? = some k ∧ v = .int k t := fun i v hv => by
          have hi : i < ns.length := by rw [← size]; exact (Array.getElem?_eq_some_iff.mp hv).1
          obtain ⟨t, e⟩ := PyProof.Rows.IntsAre.int_at hit i v (by rw [Array.getElem?_toList]; exact hv)
          exact ⟨ns[i], t, List.getElem?_eq_getElem hi, by rw [e, List.getD_eq_getElem?_getD, List.getElem?_eq_getElem hi]; rfl⟩
        refine set_update_ints ((Walks.list free3 _ l ne1 items).toS) s.heap.objs.size out1 ns size small vals (items.size - 0) 0 _ (by omega) (Nat.zero_le _) ⟨⟨_, Heap.get?_push_size _ rfl, rfl, rfl⟩, lst2.push _⟩ ⟨0, Nat.le_refl 0, setR_new_at (Heap.get?_push_of_some _ at0)⟩ ?_
        rintro ⟨h', g2, d', tk', os'⟩ c' mv hc' R'
        obtain rfl : g2 = s.gens := mv.gens
        obtain rfl : d' = s.drawn := mv.drawn
        obtain rfl : os' = s.os := mv.os
        refine (show wpAny _ _ _ _ _ _ from wpAny_pure (show wpAny _ _ (ret Value.none) _ _ _ from wpAny_pure ⟨rfl, h', tk', c', rfl, R', by rw [← size]; exact hc', fun b o e => ?_⟩))
        have b0 : b < s.heap.objs.size := Heap.lt_size e
        refine mv.heap b o ?_ (Heap.get?_push_of_some _ (Heap.get?_push_of_some _ e))
        rw [Heap.size_push]
        simp only [List.mem_cons, List.not_mem_nil, or_false, not_or]
        exact ⟨Nat.ne_of_lt b0, Nat.ne_of_lt (Nat.lt_succ_of_lt b0)⟩
      · cases r2 with
        | error e => exact hz2
        | ok f2 =>
          cases f2 with
          | ret r =>
            obtain ⟨rfl, h', tk, c', rfl, R', hc', kp⟩ := hz2
            repeat (any_goals (first | assumption | wp_step))
            exact out _ _ _ R' hc' kp
          | _ => exact hz2.elim
    | _ => exact hz.elim
end
section
variable {X : Cx}
theorem srt_set {pins : List (Addr × Obj)} {σ : L2.St} {H : Hp} {Q : VK} {s : Shared} {a : Addr} {S : Int → Bool} {n : Nat} (hc : X.calm = true) (I : Inv X pins σ H s) (R : SetR X.w s.heap a S n) (h64 : n < 64)
    (q : ∀ (ns : List Int) (p : Addr), ns.Pairwise (· < ·) → (∀ k : Int, k ∈ ns ↔ S k = true) → H p = none → Q (.ref p) (upd H p (.lst (ns.map V.int)))) :
    wpAny (model X.prog X.w) X.A (call (.builtin "sorted") [.ref a]) (EP X pins σ Q) X.xe s := by
  refine sorted_set R (I.ok.hd hc) h64 fun s' p out c ns k g o hp hg hi hs hm hl => ?_
  have hz : (ns.map V.int).length ≤ sizeLine := by
    rw [List.length_map, hl, sizeLine_eq]
    omega
  have new : H p = none := I.hok.fresh hp
  have J : Inv X pins σ (upd H p (.lst (ns.map V.int))) { s with heap := s'.heap, gens := s'.gens, drawn := s'.drawn, toks := s'.toks } :=
    I.call (ch := []) (Un.laid k hp new) (I.hok.laid k hp ⟨hz, out.toList, c, vals_of_ints hi, hg⟩) (by rw [g]; exact I.bare) (fun _ z => nomatch z)
  rw [show s' = { s with heap := s'.heap, gens := s'.gens, drawn := s'.drawn, toks := s'.toks } by cases s'; cases s; cases o; rfl]
  exact ⟨.ref p, _, J, rfl, q ns p hs hm new⟩
def tSrtSet (K : PySem.W.Frag) (ta : TE) : TE := fun σ H Q => ta σ H fun x H1 => ∃ (l : Addr) (xs : List Int), x = .ref l ∧ SqL K H1 l (xs.map V.int) ∧ xs.length < 64 ∧
  ∀ (ns : List Int) (p : Addr), ns.Pairwise (· < ·) → (∀ k : Int, k ∈ ns ↔ k ∈ xs) → H1 p = none → Q (.ref p) (upd H1 p (.lst (ns.map V.int)))
theorem pe_srtSet {a : Expr} {ta : TE} {p p2 q pos : Pos} (hc : X.calm = true) (hg : Gl X "sorted") (hm : X.mg "sorted" = none) (hg2 : Gl X "set") (hm2 : X.mg "set" = none) (ha : PE X a ta)
    (na : starEach [a] X.env = (false, eval a X.env) :: starEach [] X.env := by rfl) : PE X (.Call (.Name "sorted" p) [.Call (.Name "set" p2) [a] [] q] [] pos) (tSrtSet X.K ta) := by
  refine ⟨fun pins s σ H Q I h => ?_⟩
  refine Call_ (ld_blt I hg hm (show bootBuiltins (Str.ofString "sorted") = some (.builtin "sorted") by decide +kernel) ?_)
  refine PyProof.Rows.callWith_builtin1 (PyProof.Rows.args_cons ?_ rfl) rfl rfl
  refine Call_ (ld_blt I hg2 hm2 boot_set ?_)
  refine PyProof.Rows.callWith_type1 (PyProof.Rows.args_cons (thn (ha.run pins s σ H _ I h) fun v s1 ⟨x, H1, I1, r1, q1⟩ => PyProof.Rows.args_nil ?_) na) na rfl
  obtain ⟨l, xs, rfl, hq, hle, q1⟩ := q1
  cases r1
  obtain ⟨its, r, pl, hz⟩ := I1.list hq
  refine set_of_list xs (I1.ok.hd hc) pl.isList (by simpa using r.ints) (Nat.lt_of_le_of_lt hle (by decide)) fun h' tk c R hcl kp => ?_
  refine PyProof.Rows.args_nil ?_
  have I2 : Inv X pins σ H1 { s1 with heap := h', toks := tk } := I1.kept kp
  exact srt_set hc I2 R (by omega) fun ns p hs hm hn => q1 ns p hs (fun z => by rw [hm z, decide_eq_true_iff]) hn
end
/-! a comprehension over a locked dict's keys -/
theorem lc_keys {d : Addr} {o : Obj} {kvs : List (L2.Key × V)} {g : TG} {tt : TT} {te : TE} {vs : List Nat} {σ : L2.St} {H1 : Hp} {D : Addr} {Qd : Hp → Prop} (Pv : Nat → Hp → Prop) (h0 : Pv 0 (upd H1 D (.lst []))) (hl : ∀ i H, i ≤ kvs.length → Pv i H → H d = some (.frz o (.dK kvs)))
    (hs : ∀ i k v H, kvs[i]? = some (k, v) → Pv i H → g (kV k) (wipe σ vs) H fun σ2 H2 => wipe σ2 vs = wipe σ vs ∧ tt σ2 H2 fun b H3 =>
      if b = true then te σ2 H3 fun y H4 => ∃ acc, H4 D = some (.lst acc) ∧ acc.length < sizeLine ∧ Pv (i + 1) (upd H4 D (.lst (acc ++ [y]))) else Pv (i + 1) H3) (hd : ∀ H, Pv kvs.length H → Qd H) :
    ∃ W : Nat → Nat → Hp → Prop, (∃ m, W 0 m (upd H1 D (.lst []))) ∧ ∀ i m H, W i m H →
      ((Itk d o kvs).stop i H ∧ Qd H) ∨ ((Itk d o kvs).go i H ∧ ∃ Nx : Hp → Prop, (∀ H', Nx H' → ∃ m', m' < m ∧ W (i + 1) m' H') ∧ ∀ x H', (Itk d o kvs).yld i H x H' → g x (wipe σ vs) H' fun σ2 H2 => wipe σ2 vs = wipe σ vs ∧ tt σ2 H2 fun b H3 =>
        if b = true then te σ2 H3 fun y H4 => ∃ acc, H4 D = some (.lst acc) ∧ acc.length < sizeLine ∧ Nx (upd H4 D (.lst (acc ++ [y]))) else Nx H3) := by
  refine ⟨fun i m H => m = kvs.length - i ∧ i ≤ kvs.length ∧ Pv i H, ⟨kvs.length, by simp, Nat.zero_le _, h0⟩, ?_⟩
  rintro i m H ⟨rfl, hi, p⟩
  have q := hl i H hi p
  by_cases hlt : i < kvs.length
  · refine .inr ⟨⟨q, hlt⟩, Pv (i + 1), fun H' p' => ⟨kvs.length - (i + 1), by omega, rfl, hlt, p'⟩, fun x H' y => ?_⟩
    obtain ⟨e, k, v, hk, rfl⟩ := y
    subst e
    exact hs i k v _ hk p
  · obtain rfl : i = kvs.length := by omega
    exact .inl ⟨⟨q, Nat.le_refl _⟩, hd H p⟩
end KR
namespace KM
open KQ
/-! ### how many there are that aren't glued, and trees -/
theorem glue_least {R : Nat → Nat → Prop} (E : Eqv R) {ts : List (Nat × Nat)} (h : ∀ t ∈ ts, R t.1 t.2) {x y : Nat} (g : glue ts x y) : R x y :=
  (glue_keep (S := fun z => R x z) (fun t ht => ⟨fun q => E.trans _ _ _ q (h t ht), fun q => E.trans _ _ _ q (E.symm _ _ (h t ht))⟩) g).mp (E.refl x)
theorem glue_sub {ts us : List (Nat × Nat)} (h : ∀ t ∈ ts, t ∈ us) {x y : Nat} (g : glue ts x y) : glue us x y := glue_least (glue_eqv us) (fun t ht => glue_mem (h t ht)) g
theorem getD_map {L : List Int} (f : Int → Int) {x : Nat} (h : x < L.length) : (L.map f).getD x 0 = f (L.getD x 0) := by
  rw [List.getD_eq_getElem?_getD, List.getD_eq_getElem?_getD, List.getElem?_map, List.getElem?_eq_getElem h]
  rfl
theorem getD_mem {L : List Int} {x : Nat} (h : x < L.length) : L.getD x 0 ∈ L := by
  rw [List.getD_eq_getElem?_getD, List.getElem?_eq_getElem h]
  exact List.getElem_mem h
theorem map_same {L : List Int} {u v : Int} (e : u = v) : (L.map fun z => if z = v then u else z) = L := by
  subst e
  induction L with
  | nil => rfl
  | cons z L ih =>
    rw [List.map_cons, ih]
    by_cases q : z = u
    · rw [if_pos q, q]
    · rw [if_neg q]
/-- no tie that the ties ahead glue -/
def NoLoop (ts : List (Nat × Nat)) : Prop := ∀ i t, ts[i]? = some t → ¬ glue (ts.take i) t.1 t.2
theorem labels_ex (M : Nat) (ts : List (Nat × Nat)) : (∀ t ∈ ts, t.1 < M ∧ t.2 < M) →
    ∃ L : List Int, L.length = M ∧ (∀ x y, x < M → y < M → (L.getD x 0 = L.getD y 0 ↔ glue ts x y)) ∧ M ≤ dcount L + ts.length ∧ (NoLoop ts ↔ dcount L + ts.length = M) := by
  refine glue_eqv.firsts_rec' (P := fun ts => (∀ t ∈ ts, t.1 < M ∧ t.2 < M) → ∃ L : List Int, L.length = M ∧ (∀ x y, x < M → y < M → (L.getD x 0 = L.getD y 0 ↔ glue ts x y)) ∧ M ≤ dcount L + ts.length ∧ (NoLoop ts ↔ dcount L + ts.length = M)) ?_ ?_ ts
  · intro _
    refine ⟨(List.range M).map fun k => ((k : Nat) : Int), by rw [List.length_map, List.length_range], fun x y hx hy => ?_, by rw [dcount_range]; exact Nat.le_add_right _ _, ?_⟩
    · have e : ∀ x, x < M → ((List.range M).map fun k => ((k : Nat) : Int)).getD x 0 = (x : Int) := fun x hx => by
        rw [List.getD_eq_getElem?_getD, List.getElem?_map, List.getElem?_range hx]
        rfl
      rw [e x hx, e y hy]
      show _ ↔ x = y
      omega
    · rw [dcount_range]
      exact ⟨fun _ => rfl, fun _ i t h => by simp at h⟩
  · intro ts t ih hb
    obtain ⟨L, hl, hg, hM, hn⟩ := ih fun u hu => hb u (List.mem_append_left _ hu)
    obtain ⟨a, b⟩ := t
    obtain ⟨ha, hbb⟩ := hb (a, b) (List.mem_append_right _ (List.mem_singleton.mpr rfl))
    have ha : a < M := ha
    have hbb : b < M := hbb
    have part : NoLoop (ts ++ [(a, b)]) ↔ NoLoop ts ∧ ¬ glue ts a b := by
      constructor
      · intro h
        refine ⟨fun i u hu => ?_, ?_⟩
        · have il := (List.getElem?_eq_some_iff.mp hu).1
          have := h i u (by rw [List.getElem?_append_left il]; exact hu)
          rwa [List.take_append_of_le_length (Nat.le_of_lt il)] at this
        · have := h ts.length (a, b) (by rw [List.getElem?_append_right (Nat.le_refl _), Nat.sub_self]; rfl)
          rwa [List.take_left'  rfl] at this
      · rintro ⟨h1, h2⟩ i u hu
        by_cases il : i < ts.length
        · rw [List.getElem?_append_left il] at hu
          rw [List.take_append_of_le_length (Nat.le_of_lt il)]
          exact h1 i u hu
        · have := (List.getElem?_eq_some_iff.mp hu).1
          rw [List.length_append, List.length_singleton] at this
          obtain rfl : i = ts.length := by omega
          rw [List.getElem?_append_right (Nat.le_refl _), Nat.sub_self] at hu
          obtain rfl := Option.some.inj hu
          rw [List.take_left' rfl]
          exact h2
    refine ⟨L.map fun z => if z = L.getD b 0 then L.getD a 0 else z, by rw [List.length_map, hl], fun x y hx hy => ?_, ?_, ?_⟩
    · rw [glue_snoc]
      exact tie_labels (L := fun x => L.getD x 0) (L' := fun x => (L.map fun z => if z = L.getD b 0 then L.getD a 0 else z).getD x 0) (S := fun x => x < M) (fun x y hx hy => hg x y hx hy) ha hbb
        (fun y hy => getD_map _ (by rw [hl]; exact hy)) x y hx hy
    all_goals rw [List.length_append, List.length_singleton]
    all_goals by_cases e : L.getD a 0 = L.getD b 0
    · rw [map_same e]
      omega
    · have := dcount_merge (xs := L) (getD_mem (by rw [hl]; exact ha)) (getD_mem (by rw [hl]; exact hbb)) e
      omega
    · rw [map_same e, part]
      exact ⟨fun h => absurd ((hg a b ha hbb).mp e) h.2, fun h => absurd h (by omega)⟩
    · have := dcount_merge (xs := L) (getD_mem (by rw [hl]; exact ha)) (getD_mem (by rw [hl]; exact hbb)) e
      rw [part, hn]
      exact ⟨fun h => by omega, fun h => ⟨by omega, fun g => e ((hg a b ha hbb).mpr g)⟩⟩
theorem one_label {L : List Int} (h0 : 0 < L.length) : dcount L = 1 ↔ ∀ x y, x < L.length → y < L.length → L.getD x 0 = L.getD y 0 := by
  constructor
  · intro h x y hx hy
    unfold dcount at h
    obtain ⟨z, hz⟩ := List.length_eq_one_iff.mp h
    have m : ∀ x, x < L.length → L.getD x 0 = z := fun x hx => by
      have := (mem_firsts L).mpr (getD_mem hx)
      rw [hz] at this
      exact List.mem_singleton.mp this
    rw [m x hx, m y hy]
  · intro h
    refine (same_len (firsts_nodup L) (ys := [L.getD 0 0]) (by simp) fun x => ?_ : (firsts L).length = _)
    rw [mem_firsts, List.mem_singleton]
    constructor
    · intro hx
      obtain ⟨i, hi, rfl⟩ := List.mem_iff_getElem.mp hx
      rw [← h i 0 hi h0, List.getD_eq_getElem?_getD, List.getElem?_eq_getElem hi]
      rfl
    · rintro rfl
      exact getD_mem h0
/-- so many ties as make a tree: no loop just if all is glued -/
theorem tree_glue {M : Nat} {ts : List (Nat × Nat)} (h0 : 0 < M) (hb : ∀ t ∈ ts, t.1 < M ∧ t.2 < M) (hM : ts.length + 1 = M) : NoLoop ts ↔ ∀ x y, x < M → y < M → glue ts x y := by
  obtain ⟨L, hl, hg, _, hn⟩ := labels_ex M ts hb
  rw [hn, show dcount L + ts.length = M ↔ dcount L = 1 by omega, one_label (by omega), hl]
  exact ⟨fun h x y hx hy => (hg x y hx hy).mp (h x y hx hy), fun h x y hx hy => (hg x y hx hy).mpr (h x y hx hy)⟩
/-- too few ties don't glue all -/
theorem few_ties {M : Nat} {ts : List (Nat × Nat)} (h0 : 0 < M) (hb : ∀ t ∈ ts, t.1 < M ∧ t.2 < M) (hM : ts.length + 1 < M) : ¬ ∀ x y, x < M → y < M → glue ts x y := by
  obtain ⟨L, hl, hg, hle, _⟩ := labels_ex M ts hb
  intro h
  have := (one_label (L := L) (by omega)).mpr fun x y hx hy => by
    rw [hl] at hx hy
    exact (hg x y hx hy).mpr (h x y hx hy)
  omega
/-! the web of two partings -/
section
variable {p r : List Int}
theorem ties_rng (hp : Rg 0 p) (hr : Rg 0 r) : ∀ t ∈ tiesOf p r, t.1 < (bc 0 p + bc 0 r).toNat ∧ t.2 < (bc 0 p + bc 0 r).toNat := by
  intro t ht
  unfold tiesOf at ht
  obtain ⟨q, hq, rfl⟩ := List.mem_map.mp ht
  have h1 := (rg_mem 0 p (Int.le_refl _) hp).1 q.1 (List.of_mem_zip hq).1
  have h2 := (rg_mem 0 r (Int.le_refl _) hr).1 q.2 (List.of_mem_zip hq).2
  show q.1.toNat < _ ∧ (bc 0 p + q.2).toNat < _
  omega
theorem ties_get {i : Nat} {t : Nat × Nat} (h : (tiesOf p r)[i]? = some t) : ∃ x y, p[i]? = some x ∧ r[i]? = some y ∧ t = (x.toNat, (bc 0 p + y).toNat) := by
  unfold tiesOf at h
  obtain ⟨q, hq, e⟩ := map_at' h
  rw [List.getElem?_zip_eq_some] at hq
  exact ⟨q.1, q.2, hq.1, hq.2, e⟩
where
  map_at' {α β : Type} {f : α → β} {xs : List α} {i : Nat} {v : β} (h : (xs.map f)[i]? = some v) : ∃ x, xs[i]? = some x ∧ v = f x := by
    rw [List.getElem?_map] at h
    cases hx : xs[i]? with
    | none => rw [hx] at h; cases h
    | some x => rw [hx] at h; exact ⟨x, rfl, (Option.some.inj h).symm⟩
theorem noRing_loop : NoRing p r ↔ NoLoop (tiesOf p r) := by
  constructor
  · intro h i t ht g
    obtain ⟨x, y, hx, hy, rfl⟩ := ties_get ht
    exact h i ⟨x, y, hx, hy, g⟩
  · rintro h i ⟨x, y, hx, hy, g⟩
    exact h i _ (ties_at hx hy) g
theorem tree_all (par : Par p) (parr : Par r) (hl : p.length = r.length) : Tree p r ↔ bc 0 p + bc 0 r = p.length + 1 ∧ ∀ x y, x < (bc 0 p + bc 0 r).toNat → y < (bc 0 p + bc 0 r).toNat → glue (tiesOf p r) x y := by
  unfold Tree
  refine and_congr_right fun e => ?_
  rw [noRing_loop]
  exact tree_glue (by omega) (ties_rng par.rg parr.rg) (by rw [ties_len hl]; omega)
/-- the web without a door -/
def wo (p r : List Int) (d : Nat) : List (Nat × Nat) := (tiesOf p r).eraseIdx d
def nA (p : List Int) (d : Int) : Nat := (bk p d).toNat
def nB (p r : List Int) (d : Int) : Nat := (bc 0 p + bk r d).toNat
theorem wo_mem {d : Nat} (hl : p.length = r.length) {e : Int} (e0 : 0 ≤ e) (e1 : e < p.length) (ne : e ≠ d) : (nA p e, nB p r e) ∈ wo p r d := by
  unfold wo
  rw [List.mem_eraseIdx_iff_getElem?]
  exact ⟨e.toNat, by omega, ties_at (bk_some e0 e1) (bk_some e0 (by omega))⟩
theorem wo_of {d : Nat} {t : Nat × Nat} (hl : p.length = r.length) (h : t ∈ wo p r d) : ∃ e : Int, 0 ≤ e ∧ e < p.length ∧ e ≠ d ∧ t = (nA p e, nB p r e) := by
  unfold wo at h
  rw [List.mem_eraseIdx_iff_getElem?] at h
  obtain ⟨i, ne, hi⟩ := h
  obtain ⟨x, y, hx, hy, rfl⟩ := ties_get hi
  have il := (List.getElem?_eq_some_iff.mp hx).1
  refine ⟨(i : Int), by omega, by omega, by omega, ?_⟩
  unfold nA nB
  rw [bk_at (d := (i : Int)) (by rw [Int.toNat_natCast]; exact hx), bk_at (d := (i : Int)) (by rw [Int.toNat_natCast]; exact hy)]
theorem wo_split (par : Par p) (parr : Par r) (hl : p.length = r.length) (tr : Tree p r) {d : Int} (d0 : 0 ≤ d) (d1 : d < p.length) :
    (∀ x, x < (bc 0 p + bc 0 r).toNat → glue (wo p r d.toNat) x (nA p d) ∨ glue (wo p r d.toNat) x (nB p r d)) ∧ ¬ glue (wo p r d.toNat) (nA p d) (nB p r d) := by
  obtain ⟨hc, hall⟩ := (tree_all par parr hl).mp tr
  have td := ties_at (p := p) (r := r) (bk_some d0 d1) (bk_some d0 (show d < r.length by omega))
  have sub : ∀ t ∈ tiesOf p r, t ∈ wo p r d.toNat ++ [(nA p d, nB p r d)] := fun t ht => by
    obtain ⟨i, hi⟩ := List.mem_iff_getElem?.mp ht
    by_cases e : i = d.toNat
    · rw [e, td] at hi
      exact List.mem_append_right _ (List.mem_singleton.mpr (Option.some.inj hi).symm)
    · refine List.mem_append_left _ ?_
      unfold wo
      rw [List.mem_eraseIdx_iff_getElem?]
      exact ⟨i, e, hi⟩
  have ta := bk_rng par d0 d1
  have tb := bk_rng parr d0 (show d < r.length by omega)
  have ra : nA p d < (bc 0 p + bc 0 r).toNat := by unfold nA; omega
  have E := glue_eqv (wo p r d.toNat)
  constructor
  · intro x hx
    have g := glue_sub sub (hall x (nA p d) hx ra)
    rw [glue_snoc] at g
    rcases g with g | ⟨g, _⟩ | ⟨g, _⟩
    · exact .inl g
    · exact .inl g
    · exact .inr g
  · intro g
    refine few_ties (M := (bc 0 p + bc 0 r).toNat) (ts := wo p r d.toNat) (by omega) (fun t ht => ties_rng par.rg parr.rg t ((List.eraseIdx_sublist _ _).subset ht)) ?_ fun x y hx hy => ?_
    · unfold wo
      rw [List.length_eraseIdx, ties_len hl, if_pos (by omega)]
      omega
    · refine glue_least E (fun t ht => ?_) (hall x y hx hy)
      rcases List.mem_append.mp (sub t ht) with h | h
      · exact glue_mem h
      · rw [List.mem_singleton.mp h]
        exact g
end
end KM
namespace KQ
open PySem PySem.Spec PyProof.Rows L2 KR KM StX
/-! ### what doors_ahead finds in a tree -/
theorem nodup_at {α : Type} {l : List α} : l.Nodup ↔ ∀ i j : Nat, i < j → ∀ x y, l[i]? = some x → l[j]? = some y → x ≠ y := by
  unfold List.Nodup
  rw [List.pairwise_iff_getElem]
  constructor
  · intro h i j hij x y hx hy
    obtain ⟨hi, rfl⟩ := List.getElem?_eq_some_iff.mp hx
    obtain ⟨hj, rfl⟩ := List.getElem?_eq_some_iff.mp hy
    exact h i j hi hj hij
  · intro h i j hi hj hij
    exact h i j hij _ _ (List.getElem?_eq_getElem hi) (List.getElem?_eq_getElem hj)
section
variable {p r B : List Int} {st : Int} {N : Nat} {E : List Ent}
def nd (p r : List Int) (s d : Int) : Nat := if s = 0 then nA p d else nB p r d
theorem nA_inj (par : Par p) {d e : Int} (d0 : 0 ≤ d) (d1 : d < p.length) (e0 : 0 ≤ e) (e1 : e < p.length) : nA p d = nA p e ↔ bk p d = bk p e := by
  have a := bk_rng par d0 d1
  have b := bk_rng par e0 e1
  unfold nA
  omega
theorem nB_inj (par : Par p) (parr : Par r) (hl : p.length = r.length) {d e : Int} (d0 : 0 ≤ d) (d1 : d < p.length) (e0 : 0 ≤ e) (e1 : e < p.length) : nB p r d = nB p r e ↔ bk r d = bk r e := by
  have a := bk_rng parr d0 (by omega)
  have b := bk_rng parr e0 (by omega)
  have := bc_ge 0 p
  unfold nB
  omega
theorem n_apart (par : Par p) (parr : Par r) (hl : p.length = r.length) {d e : Int} (d0 : 0 ≤ d) (d1 : d < p.length) (e0 : 0 ≤ e) (e1 : e < p.length) : nA p d ≠ nB p r e := by
  have a := bk_rng par d0 d1
  have b := bk_rng parr e0 (by omega)
  unfold nA nB
  omega
theorem ent_flag (b01 : ∀ b ∈ B, b = 0 ∨ b = 1) (h : Bfs p r B st N E) {k : Nat} {e : Ent} (he : E[k]? = some e) : e.s = 0 ∨ e.s = 1 := by
  obtain ⟨h1, h2, _⟩ := h.par _ e he
  exact (flag01 b01 h (e.q + 1) e.q _ _ (Nat.lt_succ_self _) h2).1
theorem full_ent (b01 : ∀ b ∈ B, b = 0 ∨ b = 1) (h : Bfs p r B st N E) (full : ∀ j, j < (Qu B st E).length → FullTo p r B st E j N) {e : Ent} (he : e ∈ E) {s : Int} (s01 : s = 0 ∨ s = 1) {d : Int} (d0 : 0 ≤ d) (d1 : d < N)
    (hb : bk (prt p r s) d = bk (prt p r s) e.d) : d ∈ st :: E.map Ent.d := by
  obtain ⟨k, hk⟩ := List.mem_iff_getElem?.mp he
  have f := ent_flag b01 h hk
  obtain ⟨h1, h2, h3⟩ := h.par _ e hk
  have hkl := (List.getElem?_eq_some_iff.mp hk).1
  by_cases es : s = e.s
  · subst es
    exact full e.q (List.getElem?_eq_some_iff.mp h2).1 _ _ h2 d d0 d1 (hb.trans h3)
  · have : s = 1 - e.s := by omega
    rw [this] at hb
    exact full (B.length + k) (by rw [qu_len]; omega) _ _ (qu_ent hk) d d0 d1 hb
theorem full_start (full : ∀ j, j < (Qu B st E).length → FullTo p r B st E j N) {w : Int} (hw : w ∈ B) {d : Int} (d0 : 0 ≤ d) (d1 : d < N) (hb : bk (prt p r w) d = bk (prt p r w) st) : d ∈ st :: E.map Ent.d := by
  obtain ⟨j, hj⟩ := List.mem_iff_getElem?.mp hw
  have jl := (List.getElem?_eq_some_iff.mp hj).1
  obtain ⟨b, hb2, hq⟩ := qu_base (st := st) (E := E) jl
  rw [hj] at hb2
  obtain rfl := Option.some.inj hb2
  exact full j (by rw [qu_len]; omega) _ _ hq d d0 d1 hb
/-- in a tree, both ways from a door lead to all doors -/
theorem way_all (par : Par p) (parr : Par r) (hl : p.length = r.length) (tr : Tree p r) (hN : N = p.length) (s0 : 0 ≤ st) (s1 : st < p.length) (h : Bfs p r [0, 1] st N E)
    (full : ∀ j, j < (Qu [0, 1] st E).length → FullTo p r [0, 1] st E j N) {d : Int} (d0 : 0 ≤ d) (d1 : d < p.length) : d ∈ st :: E.map Ent.d := by
  have b01 : ∀ b ∈ ([0, 1] : List Int), b = 0 ∨ b = 1 := by simp
  have rng : ∀ x ∈ st :: E.map Ent.d, 0 ≤ x ∧ x < p.length := fun x hx => by
    rcases mem_keys.mp hx with rfl | ⟨e, he, rfl⟩
    · exact ⟨s0, s1⟩
    · have := h.rng e he
      omega
  have clo : ∀ s : Int, s = 0 ∨ s = 1 → ∀ x ∈ st :: E.map Ent.d, ∀ y : Int, 0 ≤ y → y < p.length → bk (prt p r s) y = bk (prt p r s) x → y ∈ st :: E.map Ent.d := by
    intro s s01 x hx y y0 y1 hb
    rcases mem_keys.mp hx with rfl | ⟨e, he, rfl⟩
    · exact full_start full (w := s) (by rcases s01 with rfl | rfl <;> simp) y0 (by omega) hb
    · exact full_ent b01 h full he s01 y0 (by omega) hb
  obtain ⟨hc, hall⟩ := (tree_all par parr hl).mp tr
  have key : ∀ e : Int, 0 ≤ e → e < p.length → ((∃ x ∈ st :: E.map Ent.d, nA p x = nA p e ∨ nB p r x = nA p e) → e ∈ st :: E.map Ent.d) ∧ ((∃ x ∈ st :: E.map Ent.d, nA p x = nB p r e ∨ nB p r x = nB p r e) → e ∈ st :: E.map Ent.d) := by
    intro e e0 e1
    constructor
    · rintro ⟨x, hx, q | q⟩
      · obtain ⟨x0, x1⟩ := rng x hx
        exact clo 0 (.inl rfl) x hx e e0 e1 ((nA_inj par x0 x1 e0 e1).mp q).symm
      · obtain ⟨x0, x1⟩ := rng x hx
        exact absurd q.symm (n_apart par parr hl e0 e1 x0 x1)
    · rintro ⟨x, hx, q | q⟩
      · obtain ⟨x0, x1⟩ := rng x hx
        exact absurd q (n_apart par parr hl x0 x1 e0 e1)
      · obtain ⟨x0, x1⟩ := rng x hx
        exact clo 1 (.inr rfl) x hx e e0 e1 ((nB_inj par parr hl x0 x1 e0 e1).mp q).symm
  have ra := bk_rng par d0 d1
  have rs := bk_rng par s0 s1
  have rr := bc_ge 0 r
  have g := hall (nA p st) (nA p d) (by unfold nA; omega) (by unfold nA; omega)
  refine (key d d0 d1).1 ((glue_keep (S := fun z => ∃ x ∈ st :: E.map Ent.d, nA p x = z ∨ nB p r x = z) (fun t ht => ?_) g).mp ⟨st, List.mem_cons_self, .inl rfl⟩)
  obtain ⟨i, hi⟩ := List.mem_iff_getElem?.mp ht
  obtain ⟨x, y, hx, hy, rfl⟩ := ties_get hi
  have il := (List.getElem?_eq_some_iff.mp hx).1
  have ex : nA p (i : Int) = x.toNat := by unfold nA; rw [bk_at (by rw [Int.toNat_natCast]; exact hx)]
  have ey : nB p r (i : Int) = (bc 0 p + y).toNat := by unfold nB; rw [bk_at (by rw [Int.toNat_natCast]; exact hy)]
  show (∃ z ∈ st :: E.map Ent.d, nA p z = x.toNat ∨ nB p r z = x.toNat) ↔ ∃ z ∈ st :: E.map Ent.d, nA p z = (bc 0 p + y).toNat ∨ nB p r z = (bc 0 p + y).toNat
  rw [← ex, ← ey]
  exact ⟨fun q => ⟨_, (key i (by omega) (by omega)).1 q, .inr rfl⟩, fun q => ⟨_, (key i (by omega) (by omega)).2 q, .inl rfl⟩⟩
/-- what the way to one side finds: what is glued to that block in the web without the door -/
theorem side_set (par : Par p) (parr : Par r) (hl : p.length = r.length) (hN : N = p.length) (s0 : 0 ≤ st) (s1 : st < p.length) {w : Int} (w01 : w = 0 ∨ w = 1) (h : Bfs p r [w] st N E)
    (full : ∀ j, j < (Qu [w] st E).length → FullTo p r [w] st E j N) (d : Int) : d ∈ E.map Ent.d ↔ 0 ≤ d ∧ d < p.length ∧ d ≠ st ∧ glue (wo p r st.toNat) (nd p r w st) (nA p d) := by
  have b01 : ∀ b ∈ ([w] : List Int), b = 0 ∨ b = 1 := by simpa using w01
  have G := glue_eqv (wo p r st.toNat)
  have nst : ∀ e ∈ E, e.d ≠ st := fun e he q => (List.nodup_cons.mp h.keys).1 (List.mem_map.mpr ⟨e, he, q⟩)
  have tie : ∀ e : Int, 0 ≤ e → e < p.length → e ≠ st → glue (wo p r st.toNat) (nA p e) (nB p r e) := fun e e0 e1 ne => glue_mem (t := (nA p e, nB p r e)) (wo_mem hl e0 e1 (by omega))
  have both : ∀ e : Int, 0 ≤ e → e < p.length → e ≠ st → ∀ s : Int, glue (wo p r st.toNat) (nd p r s e) (nA p e) := fun e e0 e1 ne s => by
    unfold nd
    split
    · exact G.refl _
    · exact G.symm _ _ (tie e e0 e1 ne)
  have same : ∀ s x y : Int, s = 0 ∨ s = 1 → 0 ≤ x → x < p.length → 0 ≤ y → y < p.length → bk (prt p r s) x = bk (prt p r s) y → nd p r s x = nd p r s y := by
    intro s x y s01 x0 x1 y0 y1 hb
    rcases s01 with rfl | rfl
    · exact (nA_inj par x0 x1 y0 y1).mpr hb
    · exact (nB_inj par parr hl x0 x1 y0 y1).mpr hb
  constructor
  · intro hd
    obtain ⟨e, he, rfl⟩ := List.mem_map.mp hd
    have rg := h.rng e he
    refine ⟨rg.1, by omega, nst e he, ?_⟩
    obtain ⟨k, hk⟩ := List.mem_iff_getElem?.mp he
    have : ∀ (n k : Nat) (e : Ent), k < n → E[k]? = some e → glue (wo p r st.toNat) (nd p r w st) (nA p e.d) := by
      intro n
      induction n with
      | zero => exact fun k e hk => absurd hk (Nat.not_lt_zero _)
      | succ n ih =>
        intro k e hkn hk
        have he := List.mem_of_getElem? hk
        have rg := h.rng e he
        have f := ent_flag b01 h hk
        obtain ⟨h1, h2, h3⟩ := h.par _ e hk
        by_cases e0 : e.q < 1
        · obtain ⟨b, hb, hq⟩ := qu_base (B := [w]) (st := st) (E := E) (j := e.q) e0
          have eq0 : e.q = 0 := by omega
          rw [eq0] at hb hq h2
          obtain rfl := Option.some.inj hb
          rw [h2] at hq
          obtain ⟨q1, q2⟩ := Prod.mk.inj (Option.some.inj hq)
          rw [q2, q1] at h3
          rw [← same _ e.d st w01 rg.1 (by omega) s0 s1 h3]
          exact both _ rg.1 (by omega) (nst e he) _
        · have hl2 := (List.getElem?_eq_some_iff.mp h2).1
          rw [qu_len] at hl2
          have hl2 : e.q < 1 + E.length := hl2
          have h1 : e.q < 1 + k := h1
          obtain ⟨e', he'⟩ := at_some (xs := E) (i := e.q - 1) (by omega)
          have hq := qu_ent (B := [w]) (st := st) he'
          rw [show ([w] : List Int).length + (e.q - 1) = e.q by rw [List.length_singleton]; omega, h2] at hq
          obtain ⟨q1, q2⟩ := Prod.mk.inj (Option.some.inj hq)
          have m' := List.mem_of_getElem? he'
          have rg' := h.rng e' m'
          rw [q2] at h3
          have g := ih (e.q - 1) e' (by omega) he'
          refine G.trans _ _ _ g (G.trans _ (nd p r e.s e.d) _ ?_ (both _ rg.1 (by omega) (nst e he) _))
          rw [same _ e.d e'.d f rg.1 (by omega) rg'.1 (by omega) h3]
          exact G.symm _ _ (both _ rg'.1 (by omega) (nst e' m') _)
    exact this (k + 1) k e (Nat.lt_succ_self _) hk
  · rintro ⟨d0, d1, ne, g⟩
    have inE : ∀ e : Int, e ∈ st :: E.map Ent.d → e ≠ st → e ∈ E.map Ent.d := fun e he n => by
      rcases List.mem_cons.mp he with q | q
      · exact absurd q n
      · exact q
    have key : ∀ e : Int, 0 ≤ e → e < p.length → e ≠ st → ((nA p e = nd p r w st ∨ ∃ x ∈ E.map Ent.d, nA p x = nA p e ∨ nB p r x = nA p e) → e ∈ E.map Ent.d) ∧ ((nB p r e = nd p r w st ∨ ∃ x ∈ E.map Ent.d, nA p x = nB p r e ∨ nB p r x = nB p r e) → e ∈ E.map Ent.d) := by
      intro e e0 e1 ne
      constructor
      · rintro (q | ⟨x, hx, q⟩)
        · rcases w01 with rfl | rfl
          · exact inE e (full_start full (w := 0) (by simp) e0 (by omega) ((nA_inj par e0 e1 s0 s1).mp q)) ne
          · exact absurd q (n_apart par parr hl e0 e1 s0 s1)
        · obtain ⟨x', hx', rfl⟩ := List.mem_map.mp hx
          have rg := h.rng x' hx'
          rcases q with q | q
          · exact inE e (full_ent b01 h full hx' (.inl rfl) e0 (by omega) ((nA_inj par rg.1 (by omega) e0 e1).mp q).symm) ne
          · exact absurd q.symm (n_apart par parr hl e0 e1 rg.1 (by omega))
      · rintro (q | ⟨x, hx, q⟩)
        · rcases w01 with rfl | rfl
          · exact absurd q.symm (n_apart par parr hl s0 s1 e0 e1)
          · exact inE e (full_start full (w := 1) (by simp) e0 (by omega) ((nB_inj par parr hl e0 e1 s0 s1).mp q)) ne
        · obtain ⟨x', hx', rfl⟩ := List.mem_map.mp hx
          have rg := h.rng x' hx'
          rcases q with q | q
          · exact absurd q (n_apart par parr hl rg.1 (by omega) e0 e1)
          · exact inE e (full_ent b01 h full hx' (.inr rfl) e0 (by omega) ((nB_inj par parr hl rg.1 (by omega) e0 e1).mp q).symm) ne
    refine (key d d0 d1 ne).1 ((glue_keep (S := fun z => z = nd p r w st ∨ ∃ x ∈ E.map Ent.d, nA p x = z ∨ nB p r x = z) (fun t ht => ?_) g).mp (.inl rfl))
    obtain ⟨e, e0, e1, ne, rfl⟩ := wo_of hl ht
    have ne : e ≠ st := by omega
    exact ⟨fun q => .inr ⟨_, (key e e0 e1 ne).1 q, .inr rfl⟩, fun q => .inr ⟨_, (key e e0 e1 ne).2 q, .inl rfl⟩⟩
/-! ways -/
theorem path_head {b : Nat} : ∀ {ks : List Nat}, Path b E ks → (∃ j, ks[0]? = some j ∧ j < b) ∧ ∀ i x, ks[i + 1]? = some x → b ≤ x := by
  intro ks hp
  induction hp with
  | base hj => exact ⟨⟨_, rfl, hj⟩, fun i x hx => by simp at hx⟩
  | @step k e ks he hks hlast ih =>
    obtain ⟨⟨j, h0, hj⟩, hi⟩ := ih
    have hpos := (List.getElem?_eq_some_iff.mp h0).1
    refine ⟨⟨j, by rw [List.getElem?_append_left hpos]; exact h0, hj⟩, fun i x hx => ?_⟩
    by_cases il : i + 1 < ks.length
    · rw [List.getElem?_append_left il] at hx
      exact hi i x hx
    · have := (List.getElem?_eq_some_iff.mp hx).1
      rw [List.length_append, List.length_singleton] at this
      rw [show i + 1 = ks.length by omega, List.getElem?_append_right (Nat.le_refl _), Nat.sub_self] at hx
      obtain rfl := Option.some.inj hx
      exact Nat.le_add_right _ _
/-- a way, by turns through blocks of the one and of the other -/
structure IsWay (p r row : List Int) (b e : Int) : Prop where
  rng : ∀ d ∈ row, 0 ≤ d ∧ d < p.length
  first : row[0]? = some b
  last : row.getLast? = some e
  nodup : row.Nodup
  alt : ∃ s : Nat, s < 2 ∧ ∀ (i : Nat) (x y : Int), row[i]? = some x → row[i + 1]? = some y → bk (prt p r (((i + s) % 2 : Nat) : Int)) x = bk (prt p r (((i + s) % 2 : Nat) : Int)) y
theorem way_row (s0 : 0 ≤ st) (s1 : st < p.length) (hN : N = p.length) (h : Bfs p r [0, 1] st N E) {ks : List Nat} (hp : Path 2 E ks) {j : Nat} (hlast : ks.getLast? = some j) : IsWay p r (ks.map (dr [0, 1] st E)) st (dr [0, 1] st E j) := by
  obtain ⟨up, bd, nxt⟩ := path_next (B := [0, 1]) h hp
  obtain ⟨⟨j0, h0, hj0⟩, hi⟩ := path_head hp
  have base : ∀ x, x < 2 → dr [0, 1] st E x = st ∧ fl [0, 1] st E x = (x : Int) := fun x hx => by
    obtain ⟨b, hb, hq⟩ := qu_base (B := [0, 1]) (st := st) (E := E) hx
    have := qu_at hq
    refine ⟨this.1, this.2.trans ?_⟩
    have : x = 0 ∨ x = 1 := by omega
    rcases this with rfl | rfl
    · exact (Option.some.inj hb).symm
    · exact (Option.some.inj hb).symm
  have ent : ∀ x, 2 ≤ x → x < (Qu [0, 1] st E).length → ∃ e, E[x - 2]? = some e ∧ dr [0, 1] st E x = e.d := fun x hx hxl => by
    rw [qu_len] at hxl
    have hxl : x < 2 + E.length := hxl
    obtain ⟨e, he⟩ := at_some (xs := E) (i := x - 2) (by omega)
    refine ⟨e, he, ?_⟩
    have := qu_ent (B := [0, 1]) (st := st) he
    rw [show ([0, 1] : List Int).length + (x - 2) = x by show 2 + (x - 2) = x; omega] at this
    exact (qu_at this).1
  refine ⟨fun d hd => ?_, by rw [at_map h0, (base j0 hj0).1], by rw [List.getLast?_map, hlast]; rfl, ?_, j0, hj0, ?_⟩
  · obtain ⟨x, hx, rfl⟩ := List.mem_map.mp hd
    by_cases c : x < 2
    · rw [(base x c).1]
      exact ⟨s0, s1⟩
    · obtain ⟨e, he, q⟩ := ent x (by omega) (bd x hx)
      rw [q]
      have := h.rng e (List.mem_of_getElem? he)
      omega
  · rw [nodup_at]
    intro a b hab x y hx0 hy0 q
    obtain ⟨x, hx, rfl⟩ := map_at hx0
    obtain ⟨y, hy, rfl⟩ := map_at hy0
    have y2 : 2 ≤ y := by
      cases b with
      | zero => omega
      | succ b => exact hi b y hy
    obtain ⟨e, he, qe⟩ := ent y y2 (bd y (List.mem_of_getElem? hy))
    have me := List.mem_of_getElem? he
    have hn := List.nodup_cons.mp h.keys
    by_cases c : x < 2
    · rw [(base x c).1, qe] at q
      exact hn.1 (List.mem_map.mpr ⟨e, me, q.symm⟩)
    · obtain ⟨e', he', qe'⟩ := ent x (by omega) (bd x (List.mem_of_getElem? hx))
      rw [qe, qe'] at q
      have lt := up a b x y hab hx hy
      exact nodup_at.mp hn.2 (x - 2) (y - 2) (by omega) _ _ (at_map he') (at_map he) q
  · have fls : ∀ (i x : Nat), ks[i]? = some x → fl [0, 1] st E x = (((i + j0) % 2 : Nat) : Int) := by
      intro i
      induction i with
      | zero =>
        intro x hx
        rw [h0] at hx
        obtain rfl := Option.some.inj hx
        rw [(base j0 hj0).2, Nat.zero_add, Nat.mod_eq_of_lt hj0]
      | succ i ih =>
        intro x hx
        have il := (List.getElem?_eq_some_iff.mp hx).1
        obtain ⟨y, hy⟩ := at_some (xs := ks) (i := i) (by omega)
        rw [(nxt i y x hy hx).turn, ih y hy]
        omega
    intro i x y hx hy
    obtain ⟨x, hx', rfl⟩ := map_at hx
    obtain ⟨y, hy', rfl⟩ := map_at hy
    have := (nxt i x y hx' hy').blk
    rw [fls i x hx'] at this
    exact this.symm
end
end KQ
namespace KQ
open PySem PySem.Spec PyProof.Rows L2 KR KM StX
/-! ### trees told by doors, and moves -/
section
variable {p r : List Int}
/-- doors: what is closed under blocks of both is all or nothing -/
def DConn (p r : List Int) : Prop := ∀ S : Int → Prop, (∀ d e : Int, 0 ≤ d → d < p.length → 0 ≤ e → e < p.length → bk p d = bk p e → S d → S e) → (∀ d e : Int, 0 ≤ d → d < p.length → 0 ≤ e → e < p.length → bk r d = bk r e → S d → S e) →
  ∀ d e : Int, 0 ≤ d → d < p.length → 0 ≤ e → e < p.length → S d → S e
theorem tie_door {t : Nat × Nat} (hl : p.length = r.length) (ht : t ∈ tiesOf p r) : ∃ e : Int, 0 ≤ e ∧ e < p.length ∧ t = (nA p e, nB p r e) := by
  obtain ⟨i, hi⟩ := List.mem_iff_getElem?.mp ht
  obtain ⟨x, y, hx, hy, rfl⟩ := ties_get hi
  have il := (List.getElem?_eq_some_iff.mp hx).1
  refine ⟨(i : Int), by omega, by omega, ?_⟩
  unfold nA nB
  rw [bk_at (d := (i : Int)) (by rw [Int.toNat_natCast]; exact hx), bk_at (d := (i : Int)) (by rw [Int.toNat_natCast]; exact hy)]
theorem door_tie (hl : p.length = r.length) {e : Int} (e0 : 0 ≤ e) (e1 : e < p.length) : glue (tiesOf p r) (nA p e) (nB p r e) :=
  glue_mem (t := (nA p e, nB p r e)) (List.mem_of_getElem? (ties_at (bk_some e0 e1) (bk_some e0 (by omega))))
theorem bk_all (par : Par p) {y : Int} (y0 : 0 ≤ y) (y1 : y < bc 0 p) : ∃ d : Int, 0 ≤ d ∧ d < p.length ∧ bk p d = y := by
  obtain ⟨i, hi⟩ := List.mem_iff_getElem?.mp ((rg_mem 0 p (Int.le_refl _) par.rg).2 y y0 y1)
  have il := (List.getElem?_eq_some_iff.mp hi).1
  exact ⟨(i : Int), by omega, by omega, bk_at (by rw [Int.toNat_natCast]; exact hi)⟩
theorem tree_conn (par : Par p) (parr : Par r) (hl : p.length = r.length) : Tree p r ↔ bc 0 p + bc 0 r = p.length + 1 ∧ DConn p r := by
  rw [tree_all par parr hl]
  refine and_congr_right fun hc => ?_
  have G := glue_eqv (tiesOf p r)
  constructor
  · intro hall S cp cr d e d0 d1 e0 e1 sd
    have ra := bk_rng par d0 d1
    have rb := bk_rng par e0 e1
    have rr := bc_ge 0 r
    have g := hall (nA p d) (nA p e) (by unfold nA; omega) (by unfold nA; omega)
    have key : ∀ x : Int, 0 ≤ x → x < p.length → ((∃ y : Int, 0 ≤ y ∧ y < p.length ∧ S y ∧ (nA p y = nA p x ∨ nB p r y = nA p x)) → S x) ∧ ((∃ y : Int, 0 ≤ y ∧ y < p.length ∧ S y ∧ (nA p y = nB p r x ∨ nB p r y = nB p r x)) → S x) := by
      intro x x0 x1
      constructor
      · rintro ⟨y, y0, y1, sy, q | q⟩
        · exact cp y x y0 y1 x0 x1 ((nA_inj par y0 y1 x0 x1).mp q) sy
        · exact absurd q.symm (n_apart par parr hl x0 x1 y0 y1)
      · rintro ⟨y, y0, y1, sy, q | q⟩
        · exact absurd q (n_apart par parr hl y0 y1 x0 x1)
        · exact cr y x y0 y1 x0 x1 ((nB_inj par parr hl y0 y1 x0 x1).mp q) sy
    refine (key e e0 e1).1 ((glue_keep (S := fun z => ∃ y : Int, 0 ≤ y ∧ y < p.length ∧ S y ∧ (nA p y = z ∨ nB p r y = z)) (fun t ht => ?_) g).mp ⟨d, d0, d1, sd, .inl rfl⟩)
    obtain ⟨x, x0, x1, rfl⟩ := tie_door hl ht
    exact ⟨fun q => ⟨x, x0, x1, (key x x0 x1).1 q, .inr rfl⟩, fun q => ⟨x, x0, x1, (key x x0 x1).2 q, .inl rfl⟩⟩
  · intro h
    have doors : ∀ d e : Int, 0 ≤ d → d < p.length → 0 ≤ e → e < p.length → glue (tiesOf p r) (nA p d) (nA p e) := fun d e d0 d1 e0 e1 => by
      refine h (fun x => glue (tiesOf p r) (nA p d) (nA p x)) (fun x y x0 x1 y0 y1 q g => ?_) (fun x y x0 x1 y0 y1 q g => ?_) d e d0 d1 e0 e1 (G.refl _)
      · show glue _ _ (nA p y)
        rw [← (nA_inj par x0 x1 y0 y1).mpr q]
        exact g
      · refine G.trans _ _ _ g (G.trans _ _ _ (door_tie hl x0 x1) ?_)
        rw [(nB_inj par parr hl x0 x1 y0 y1).mpr q]
        exact G.symm _ _ (door_tie hl y0 y1)
    have node : ∀ x, x < (bc 0 p + bc 0 r).toNat → ∃ d : Int, 0 ≤ d ∧ d < p.length ∧ glue (tiesOf p r) x (nA p d) := fun x hx => by
      have := bc_ge 0 p
      by_cases c : (x : Int) < bc 0 p
      · obtain ⟨d, d0, d1, q⟩ := bk_all par (y := (x : Int)) (by omega) c
        refine ⟨d, d0, d1, ?_⟩
        have : nA p d = x := by unfold nA; omega
        rw [this]
        exact G.refl _
      · obtain ⟨d, d0, d1, q⟩ := bk_all parr (y := (x : Int) - bc 0 p) (by omega) (by omega)
        refine ⟨d, d0, by omega, ?_⟩
        have : nB p r d = x := by unfold nB; omega
        have t := door_tie hl d0 (by omega)
        rw [this] at t
        exact G.symm _ _ t
    intro x y hx hy
    obtain ⟨d, d0, d1, g1⟩ := node x hx
    obtain ⟨e, e0, e1, g2⟩ := node y hy
    exact G.trans _ _ _ g1 (G.trans _ _ _ (doors d e d0 d1 e0 e1) (G.symm _ _ g2))
/-- the parting r with the door d put into the block b -/
def mv (r : List Int) (d b : Int) : List Int := num (r.set d.toNat b)
/-- another door of the block b lies on the second side of d -/
def Other (p r : List Int) (d b : Int) : Prop := ∃ e : Int, 0 ≤ e ∧ e < p.length ∧ e ≠ d ∧ bk r e = b ∧ glue (wo p r d.toNat) (nB p r d) (nA p e)
theorem bk_set {d x b : Int} (d0 : 0 ≤ d) (d1 : d < r.length) (x0 : 0 ≤ x) : bk (r.set d.toNat b) x = if x = d then b else bk r x := by
  unfold bk
  rw [List.getD_eq_getElem?_getD, List.getD_eq_getElem?_getD]
  by_cases e : x = d
  · rw [if_pos e, e, List.getElem?_set_self (by omega)]
    rfl
  · rw [if_neg e, List.getElem?_set_ne (by omega)]
theorem bk_num {q : List Int} {x y : Int} (x0 : 0 ≤ x) (x1 : x < q.length) (y0 : 0 ≤ y) (y1 : y < q.length) : bk (num q) x = bk (num q) y ↔ bk q x = bk q y := by
  exact num_ker (bk_some x0 x1) (bk_some y0 y1) (bk_some x0 (by rw [num_len]; exact x1)) (bk_some y0 (by rw [num_len]; exact y1))
theorem num_self {r : List Int} (parr : Par r) : num r = r := (num_is rfl parr.rg fun i j x y u v hi hj ui vj => by
  rw [hi] at ui
  rw [hj] at vj
  obtain rfl := Option.some.inj ui
  obtain rfl := Option.some.inj vj
  exact Iff.rfl)
theorem mv_par (parr : Par r) {d b : Int} : Par (mv r d b) := num_par (fun e => parr.ne (List.length_eq_zero_iff.mp (by rw [← List.length_set (as := r) (i := d.toNat) (a := b), e]; rfl))) (by rw [List.length_set]; exact parr.le)
theorem mv_len {d b : Int} : (mv r d b).length = r.length := by
  unfold mv
  rw [num_len, List.length_set]
theorem other_kept (par : Par p) (parr : Par r) (hl : p.length = r.length) {d b : Int} (d0 : 0 ≤ d) (d1 : d < p.length) (h : Other p r d b) : ∃ f : Int, 0 ≤ f ∧ f < p.length ∧ f ≠ d ∧ bk r f = bk r d := by
  obtain ⟨e, e0, e1, ne, rfl, g⟩ := h
  refine Classical.byContradiction fun hn => ?_
  refine n_apart par parr hl e0 e1 d0 d1 ((glue_keep (S := fun z => z = nB p r d) (fun t ht => ?_) g).mp rfl)
  obtain ⟨f, f0, f1, nf, rfl⟩ := wo_of hl ht
  refine ⟨fun q => absurd q (n_apart par parr hl f0 f1 d0 d1), fun q => absurd ⟨f, f0, f1, by omega, (nB_inj par parr hl f0 f1 d0 d1).mp q⟩ hn⟩
theorem mem_bk {q : List Int} {x : Int} : x ∈ q ↔ ∃ d : Int, 0 ≤ d ∧ d < q.length ∧ bk q d = x := by
  constructor
  · intro hx
    obtain ⟨i, hi⟩ := List.mem_iff_getElem?.mp hx
    have il := (List.getElem?_eq_some_iff.mp hi).1
    exact ⟨(i : Int), by omega, by omega, bk_at (by rw [Int.toNat_natCast]; exact hi)⟩
  · rintro ⟨d, d0, d1, rfl⟩
    exact List.mem_of_getElem? (bk_some d0 d1)
theorem count_mv (parr : Par r) {d b : Int} (d0 : 0 ≤ d) (d1 : d < r.length) (b0 : 0 ≤ b) (b1 : b < bc 0 r) (nb : b ≠ bk r d) :
    ((∃ f : Int, 0 ≤ f ∧ f < r.length ∧ f ≠ d ∧ bk r f = bk r d) → bc 0 (mv r d b) = bc 0 r) ∧ ((¬ ∃ f : Int, 0 ≤ f ∧ f < r.length ∧ f ≠ d ∧ bk r f = bk r d) → bc 0 (mv r d b) + 1 = bc 0 r) := by
  have e1 : bc 0 (mv r d b) = ((dcount (r.set d.toNat b) : Nat) : Int) := (dcount_num _).symm
  have e2 : bc 0 r = ((dcount r : Nat) : Int) := by rw [dcount_num, num_self parr]
  have mem : ∀ x, x ∈ r.set d.toNat b ↔ x = b ∨ ∃ f : Int, 0 ≤ f ∧ f < r.length ∧ f ≠ d ∧ bk r f = x := by
    intro x
    rw [mem_bk]
    constructor
    · rintro ⟨f, f0, f1, q⟩
      rw [List.length_set] at f1
      rw [bk_set d0 d1 f0] at q
      by_cases c : f = d
      · rw [if_pos c] at q
        exact .inl q.symm
      · rw [if_neg c] at q
        exact .inr ⟨f, f0, f1, c, q⟩
    · rintro (rfl | ⟨f, f0, f1, c, q⟩)
      · exact ⟨d, d0, by rw [List.length_set]; exact d1, by rw [bk_set d0 d1 d0, if_pos rfl]⟩
      · exact ⟨f, f0, by rw [List.length_set]; exact f1, by rw [bk_set d0 d1 f0, if_neg c]; exact q⟩
  obtain ⟨g, g0, g1, gb⟩ := bk_all parr b0 b1
  have ng : g ≠ d := fun e => nb (by rw [← gb, e])
  constructor
  · rintro ⟨f, f0, f1, nf, hf⟩
    rw [e1, e2]
    refine congrArg _ (dcount_same fun x => ?_)
    rw [mem, mem_bk]
    constructor
    · rintro (rfl | ⟨f, f0, f1, _, q⟩)
      · exact ⟨g, g0, g1, gb⟩
      · exact ⟨f, f0, f1, q⟩
    · rintro ⟨y, y0, y1, q⟩
      by_cases c : y = d
      · exact .inr ⟨f, f0, f1, nf, by rw [hf, ← c]; exact q⟩
      · exact .inr ⟨y, y0, y1, c, q⟩
  · intro hn
    rw [e1, e2]
    have hv : bk r d ∈ firsts r := (mem_firsts r).mpr (List.mem_of_getElem? (bk_some d0 d1))
    have l := List.length_pos_of_mem hv
    have e := List.length_erase_of_mem hv
    have := same_len (firsts_nodup (r.set d.toNat b)) ((firsts_nodup r).erase (bk r d)) (fun x => by
      rw [mem_firsts, (firsts_nodup r).mem_erase_iff, mem_firsts, mem, mem_bk]
      constructor
      · rintro (rfl | ⟨f, f0, f1, nf, q⟩)
        · exact ⟨nb, g, g0, g1, gb⟩
        · exact ⟨fun e => hn ⟨f, f0, f1, nf, q.trans e⟩, f, f0, f1, q⟩
      · rintro ⟨nx, y, y0, y1, q⟩
        exact .inr ⟨y, y0, y1, fun e => nx (by rw [← q, e]), q⟩)
    unfold dcount
    omega
theorem move_iff (par : Par p) (parr : Par r) (hl : p.length = r.length) (tr : Tree p r) {d b : Int} (d0 : 0 ≤ d) (d1 : d < p.length) (b0 : 0 ≤ b) (b1 : b < bc 0 r) (nb : b ≠ bk r d) : Tree p (mv r d b) ↔ Other p r d b := by
  obtain ⟨sp1, sp2⟩ := wo_split par parr hl tr d0 d1
  have G := glue_eqv (wo p r d.toNat)
  have hc := tr.1
  obtain ⟨c1, c2⟩ := count_mv parr d0 (by omega : d < r.length) b0 b1 nb
  rw [tree_conn par (mv_par parr) (by rw [mv_len, hl])]
  have kq : ∀ x y : Int, 0 ≤ x → x < p.length → 0 ≤ y → y < p.length → (bk (mv r d b) x = bk (mv r d b) y ↔ (if x = d then b else bk r x) = if y = d then b else bk r y) := fun x y x0 x1 y0 y1 => by
    unfold mv
    rw [bk_num x0 (by rw [List.length_set]; omega) y0 (by rw [List.length_set]; omega), bk_set d0 (by omega) x0, bk_set d0 (by omega) y0]
  have tie : ∀ e : Int, 0 ≤ e → e < p.length → e ≠ d → glue (wo p r d.toNat) (nA p e) (nB p r e) := fun e e0 e1 ne => glue_mem (t := (nA p e, nB p r e)) (wo_mem hl e0 e1 (by omega))
  constructor
  · rintro ⟨hc2, hd⟩
    have hf : ∃ f : Int, 0 ≤ f ∧ f < r.length ∧ f ≠ d ∧ bk r f = bk r d := Classical.byContradiction fun hn => by
      have := c2 hn
      omega
    obtain ⟨f, f0, f1, nf, ef⟩ := hf
    refine Classical.byContradiction fun hn => ?_
    refine (hd (fun x => x ≠ d ∧ glue (wo p r d.toNat) (nB p r d) (nA p x)) (fun x y x0 x1 y0 y1 q h => ?_) (fun x y x0 x1 y0 y1 q h => ?_) f d f0 (by omega) d0 d1 ⟨nf, ?_⟩).1 rfl
    · by_cases c : y = d
      · refine absurd (G.symm _ _ ?_) sp2
        rw [← c, ← (nA_inj par x0 x1 y0 y1).mpr q, c]
        exact h.2
      · refine ⟨c, ?_⟩
        rw [← (nA_inj par x0 x1 y0 y1).mpr q]
        exact h.2
    · rw [kq x y x0 x1 y0 y1, if_neg h.1] at q
      by_cases c : y = d
      · rw [if_pos c] at q
        exact absurd ⟨x, x0, x1, h.1, q, h.2⟩ hn
      · rw [if_neg c] at q
        refine ⟨c, G.trans _ _ _ h.2 (G.trans _ _ _ (tie x x0 x1 h.1) ?_)⟩
        rw [(nB_inj par parr hl x0 x1 y0 y1).mpr q]
        exact G.symm _ _ (tie y y0 y1 c)
    · rw [← (nB_inj par parr hl f0 (by omega) d0 d1).mpr ef]
      exact G.symm _ _ (tie f f0 (by omega) nf)
  · intro ho
    obtain ⟨f, f0, f1, nf, ef⟩ := other_kept par parr hl d0 d1 ho
    obtain ⟨e, e0, e1, ne, eb, ge⟩ := ho
    refine ⟨by rw [c1 ⟨f, f0, by omega, nf, ef⟩]; exact hc, ?_⟩
    have main : ∀ S : Int → Prop, (∀ d e : Int, 0 ≤ d → d < p.length → 0 ≤ e → e < p.length → bk p d = bk p e → S d → S e) → (∀ x y : Int, 0 ≤ x → x < p.length → 0 ≤ y → y < p.length → bk (mv r d b) x = bk (mv r d b) y → S x → S y) →
        ∀ x : Int, 0 ≤ x → x < p.length → S x → S d := by
      intro S cp cq x x0 x1 sx
      by_cases c : x = d
      · exact c ▸ sx
      · have key : ∀ g : Int, 0 ≤ g → g < p.length → g ≠ d → ((∃ y : Int, 0 ≤ y ∧ y < p.length ∧ y ≠ d ∧ S y ∧ (nA p y = nA p g ∨ nB p r y = nA p g)) → S g) ∧ ((∃ y : Int, 0 ≤ y ∧ y < p.length ∧ y ≠ d ∧ S y ∧ (nA p y = nB p r g ∨ nB p r y = nB p r g)) → S g) := by
          intro g g0 g1 ng
          constructor
          · rintro ⟨y, y0, y1, ny, sy, q | q⟩
            · exact cp y g y0 y1 g0 g1 ((nA_inj par y0 y1 g0 g1).mp q) sy
            · exact absurd q.symm (n_apart par parr hl g0 g1 y0 y1)
          · rintro ⟨y, y0, y1, ny, sy, q | q⟩
            · exact absurd q (n_apart par parr hl y0 y1 g0 g1)
            · exact cq y g y0 y1 g0 g1 ((kq y g y0 y1 g0 g1).mpr (by rw [if_neg ny, if_neg ng]; exact (nB_inj par parr hl y0 y1 g0 g1).mp q)) sy
        have inv : ∀ z, glue (wo p r d.toNat) (nA p x) z → ∃ y : Int, 0 ≤ y ∧ y < p.length ∧ y ≠ d ∧ S y ∧ (nA p y = z ∨ nB p r y = z) := fun z g => by
          refine (glue_keep (S := fun z => ∃ y : Int, 0 ≤ y ∧ y < p.length ∧ y ≠ d ∧ S y ∧ (nA p y = z ∨ nB p r y = z)) (fun t ht => ?_) g).mp ⟨x, x0, x1, c, sx, .inl rfl⟩
          obtain ⟨h, h0, h1, nh, rfl⟩ := wo_of hl ht
          have nh : h ≠ d := by omega
          exact ⟨fun q => ⟨h, h0, h1, nh, (key h h0 h1 nh).1 q, .inr rfl⟩, fun q => ⟨h, h0, h1, nh, (key h h0 h1 nh).2 q, .inl rfl⟩⟩
        have ra := bk_rng par x0 x1
        have rr := bc_ge 0 r
        rcases sp1 (nA p x) (by unfold nA; omega) with g | g
        · obtain ⟨y, y0, y1, ny, sy, q | q⟩ := inv _ g
          · exact cp y d y0 y1 d0 d1 ((nA_inj par y0 y1 d0 d1).mp q) sy
          · exact absurd q.symm (n_apart par parr hl d0 d1 y0 y1)
        · obtain ⟨y, y0, y1, ny, sy, q | q⟩ := inv _ (G.trans _ _ _ g ge)
          · have se := cp y e y0 y1 e0 e1 ((nA_inj par y0 y1 e0 e1).mp q) sy
            exact cq e d e0 e1 d0 d1 ((kq e d e0 e1 d0 d1).mpr (by rw [if_neg ne, if_pos rfl, eb])) se
          · exact absurd q.symm (n_apart par parr hl e0 e1 y0 y1)
    intro S cp cq x y x0 x1 y0 y1 sx
    have sd := main S cp cq x x0 x1 sx
    refine Classical.byContradiction fun sy => ?_
    exact main (fun z => ¬ S z) (fun u v u0 u1 v0 v1 q h g => h (cp v u v0 v1 u0 u1 q.symm g)) (fun u v u0 u1 v0 v1 q h g => h (cq v u v0 v1 u0 u1 q.symm g)) y y0 y1 sy sd
/-- no two moves lead to one -/
theorem moves_unlike (par : Par p) (parr : Par r) (hl : p.length = r.length) {d b e c : Int} (d0 : 0 ≤ d) (d1 : d < p.length) (e0 : 0 ≤ e) (e1 : e < p.length) (nb : b ≠ bk r d) (nc : c ≠ bk r e) (ho : Other p r d b) (h : mv r d b = mv r e c) :
    d = e ∧ b = c := by
  have k : ∀ x y : Int, 0 ≤ x → x < p.length → 0 ≤ y → y < p.length → (((if x = d then b else bk r x) = if y = d then b else bk r y) ↔ (if x = e then c else bk r x) = if y = e then c else bk r y) := fun x y x0 x1 y0 y1 => by
    rw [← bk_set d0 (by omega) x0, ← bk_set d0 (by omega) y0, ← bk_set e0 (by omega) x0, ← bk_set e0 (by omega) y0, ← bk_num x0 (by rw [List.length_set]; omega) y0 (by rw [List.length_set]; omega),
      ← bk_num (q := r.set e.toNat c) x0 (by rw [List.length_set]; omega) y0 (by rw [List.length_set]; omega)]
    have : num (r.set d.toNat b) = num (r.set e.toNat c) := h
    rw [this]
  obtain ⟨f, f0, f1, nf, ef⟩ := other_kept par parr hl d0 d1 ho
  obtain ⟨g, g0, g1, ng, gb, _⟩ := ho
  by_cases q : d = e
  · subst q
    refine ⟨rfl, ?_⟩
    have := (k d g d0 d1 g0 g1).mp (by rw [if_pos rfl, if_neg ng, gb])
    rw [if_pos rfl, if_neg ng, gb] at this
    exact this.symm
  · exfalso
    by_cases fe : f = e
    · subst fe
      have ge : g ≠ f := fun z => nb (by rw [← gb, z, ef])
      have := (k d g d0 d1 g0 g1).mp (by rw [if_pos rfl, if_neg ng, gb])
      rw [if_neg q, if_neg ge, gb] at this
      exact nb this.symm
    · have := (k d f d0 d1 f0 f1).mpr (by rw [if_neg q, if_neg fe, ef])
      rw [if_pos rfl, if_neg nf, ef] at this
      exact nb this
end
end KQ
namespace KQ
open PySem PySem.Spec PyProof.Rows L2 KR KM StX
/-! ### all moves -/
section
variable {p r : List Int}
open Classical in
noncomputable def bsOf (p r : List Int) (d : Int) : List Int := ((List.range (bc 0 r).toNat).map fun b => ((b : Nat) : Int)).filter fun b => decide (b ≠ bk r d ∧ Other p r d b)
theorem up_ints (n : Nat) : ((List.range n).map fun b => ((b : Nat) : Int)).Pairwise (· < ·) := List.pairwise_map.mpr (List.pairwise_lt_range.imp fun h => by omega)
theorem bsOf_up {d : Int} : (bsOf p r d).Pairwise (· < ·) := (up_ints _).filter _
open Classical in
theorem mem_bsOf {d b : Int} : b ∈ bsOf p r d ↔ 0 ≤ b ∧ b < bc 0 r ∧ b ≠ bk r d ∧ Other p r d b := by
  have := bc_ge 0 r
  unfold bsOf
  rw [List.mem_filter, List.mem_map]
  constructor
  · rintro ⟨⟨k, hk, rfl⟩, h⟩
    have := List.mem_range.mp hk
    exact ⟨by omega, by omega, of_decide_eq_true h⟩
  · rintro ⟨h0, h1, h⟩
    exact ⟨⟨b.toNat, List.mem_range.mpr (by omega), by omega⟩, decide_eq_true h⟩
theorem up_nodup {xs : List Int} (h : xs.Pairwise (· < ·)) : xs.Nodup := h.imp fun h e => by omega
theorem up_uniq {xs ys : List Int} (hx : xs.Pairwise (· < ·)) (hy : ys.Pairwise (· < ·)) (h : ∀ x, x ∈ xs ↔ x ∈ ys) : xs = ys :=
  ((List.perm_ext_iff_of_nodup (up_nodup hx) (up_nodup hy)).mpr h).eq_of_pairwise (fun a b _ _ h1 h2 => by omega) hx hy
theorem bsOf_len {d : Int} : (bsOf p r d).length ≤ r.length := by
  have h1 := bc_le 0 r
  have : (bsOf p r d).length ≤ ((List.range (bc 0 r).toNat).map fun b => ((b : Nat) : Int)).length := List.length_filter_le _ _
  rw [List.length_map, List.length_range] at this
  omega
noncomputable def movesUp (p r : List Int) (n : Nat) : List (List Int) := (List.range n).flatMap fun d => (bsOf p r ((d : Nat) : Int)).map (mv r ((d : Nat) : Int))
theorem movesUp_succ (n : Nat) : movesUp p r (n + 1) = movesUp p r n ++ (bsOf p r ((n : Nat) : Int)).map (mv r ((n : Nat) : Int)) := by
  unfold movesUp
  rw [List.range_succ, List.flatMap_append, List.flatMap_singleton]
theorem movesUp_len (n : Nat) : (movesUp p r n).length ≤ n * r.length := by
  induction n with
  | zero => exact Nat.zero_le _
  | succ n ih =>
    have := bsOf_len (p := p) (r := r) (d := ((n : Nat) : Int))
    rw [movesUp_succ, List.length_append, List.length_map, Nat.succ_mul]
    omega
theorem mem_movesUp {n : Nat} {x : List Int} : x ∈ movesUp p r n ↔ ∃ d b : Int, 0 ≤ d ∧ d < n ∧ 0 ≤ b ∧ b < bc 0 r ∧ b ≠ bk r d ∧ Other p r d b ∧ x = mv r d b := by
  unfold movesUp
  rw [List.mem_flatMap]
  constructor
  · rintro ⟨d, hd, hx⟩
    obtain ⟨b, hb, rfl⟩ := List.mem_map.mp hx
    obtain ⟨b0, b1, nb, ho⟩ := mem_bsOf.mp hb
    have := List.mem_range.mp hd
    exact ⟨_, b, by omega, by omega, b0, b1, nb, ho, rfl⟩
  · rintro ⟨d, b, d0, d1, b0, b1, nb, ho, rfl⟩
    have e : ((d.toNat : Nat) : Int) = d := by omega
    refine ⟨d.toNat, List.mem_range.mpr (by omega), List.mem_map.mpr ⟨b, ?_, ?_⟩⟩
    · rw [e]
      exact mem_bsOf.mpr ⟨b0, b1, nb, ho⟩
    · rw [e]
theorem movesUp_nodup (par : Par p) (parr : Par r) (hl : p.length = r.length) : (movesUp p r p.length).Nodup := by
  unfold movesUp List.Nodup
  rw [List.pairwise_flatMap]
  constructor
  · intro d hd
    have hd := List.mem_range.mp hd
    refine List.pairwise_map.mpr ((List.pairwise_and_iff.mpr ⟨bsOf_up, List.pairwise_iff_forall_sublist.mpr fun {a b} s => (⟨s.subset (by simp), s.subset (by simp)⟩ : a ∈ bsOf p r d ∧ b ∈ bsOf p r d)⟩).imp fun {a b} ⟨hlt, ha, hb⟩ e => ?_)
    obtain ⟨_, _, na, oa⟩ := mem_bsOf.mp ha
    obtain ⟨_, _, nb, _⟩ := mem_bsOf.mp hb
    have := (moves_unlike par parr hl (d := (d : Int)) (e := (d : Int)) (by omega) (by omega) (by omega) (by omega) na nb oa e).2
    omega
  · refine (List.pairwise_and_iff.mpr ⟨List.pairwise_lt_range, List.pairwise_iff_forall_sublist.mpr fun {a b} s => (⟨List.mem_range.mp (s.subset (by simp)), List.mem_range.mp (s.subset (by simp))⟩ : a < p.length ∧ b < p.length)⟩).imp fun {d e} ⟨hlt, hd, he⟩ x hx y hy q => ?_
    obtain ⟨a, ha, rfl⟩ := List.mem_map.mp hx
    obtain ⟨b, hb, rfl⟩ := List.mem_map.mp hy
    obtain ⟨_, _, na, oa⟩ := mem_bsOf.mp ha
    obtain ⟨_, _, nb, _⟩ := mem_bsOf.mp hb
    have := (moves_unlike par parr hl (d := (d : Int)) (e := (e : Int)) (by omega) (by omega) (by omega) (by omega) na nb oa q).1
    omega
/-- the moves, in order -/
def Moves (p r : List Int) (rows : List (List Int)) : Prop := rows.Perm (movesUp p r p.length) ∧ rows.Pairwise (fun x y => HT.lexLt y x = false)
end
end KQ
namespace KQ
open PySem PySem.Spec PyProof.Rows L2 KR KM StX
section
variable {P : Program} {w : World} {K : PySem.W.Frag} {mg : Str → Option Value} {base : Heap}
abbrev s_need_door : Stmt := topS 23
theorem sc_need_door : FnScope ["door", "doors"] ["door", "doors"] (defScope s_need_door) := ⟨rfl, rfl, rfl, by decide +kernel, rfl, by decide +kernel, by decide +kernel⟩
def spDoor : Sp := fun vs H Q _ => ∃ d n : Int, vs = [.int d, .int n] ∧ 0 ≤ d ∧ d < n ∧ ∀ H', Same H H' → Q .non H'
theorem ok_need_door (D : DefAt K mg "need_door" s_need_door) (T : Bt mg) (u_is_integer_within : Use P w K mg base "is_integer_within" 2 ["value", "least", "most"] spIntW) : Use P w K mg base "need_door" 3 ["door", "doors"] spDoor := by
  refine use_of D (fun f fd F => F.ok sc_need_door (fun vs H Q E h => ?_) (fun cdv A outer s H vs Q E hr h => ?_)) (fun _ _ _ _ _ _ us hl => match us, hl with | [_, _], _ => rfl)
  · obtain ⟨d, n, rfl, _⟩ := h
    rfl
  · obtain ⟨d, n, rfl, d0, d1, q⟩ := h
    refine ⟨_, (pss_one (ps_if (pt_not (pt_val (pe_use u_is_integer_within (by decide) hr (by rfl) (pa_cons (pv 0) (pa_cons pe_int (pa_cons (pe_op op_sub (pv 1) pe_int) pa_nil)))))) (pss_one ps_never) pss_nil)), ?_⟩
    refine ⟨_, rfl, _, rfl, n, 1, rfl, rfl, d, 0, n - 1, rfl, _, rfl, ?_⟩
    rw [decide_eq_true (show 0 ≤ d ∧ d ≤ n - 1 from ⟨d0, by omega⟩)]
    exact q _ fun _ _ z => z
abbrev s_way : Stmt := topS 24
theorem sc_way : FnScope ["parting", "other", "door", "other_door", "ahead"] ["parting", "other", "door", "other_door"] (defScope s_way) := ⟨rfl, rfl, rfl, by decide +kernel, rfl, by decide +kernel, by decide +kernel⟩
def spWay : Sp := fun vs H Q _ => ∃ (a b : Addr) (p r : List Int) (d e : Int), vs = [.ref a, .ref b, .int d, .int e] ∧ TI H a p ∧ TI H b r ∧ Par p ∧ Par r ∧ p.length = r.length ∧ 0 ≤ d ∧ d < p.length ∧ 0 ≤ e ∧ e < p.length ∧
  ∀ H' v, Same H H' → ((v = .non ∧ ¬ Tree p r) ∨ ∃ (t : Addr) (row : List Int), v = .ref t ∧ TI H' t row ∧ Tree p r ∧ IsWay p r row d e) → Q v H'
theorem ok_way (D : DefAt K mg "way" s_way) (T : Bt mg) (u_need_two_partings : Use P w K mg base "need_two_partings" 6 ["parting", "other"] spTwo) (u_need_door : Use P w K mg base "need_door" 3 ["door", "doors"] spDoor)
    (u_meets : Use P w K mg base "meets" 4 ["parting", "other"] spMeets) (u_doors_ahead : Use P w K mg base "doors_ahead" 1 ["parts", "start", "doors", "begins"] spAhead) (u_way_back : Use P w K mg base "way_back" 1 ["ahead", "door"] spBack) :
    Use P w K mg base "way" 7 ["parting", "other", "door", "other_door"] spWay := by
  refine use_of D (fun f fd F => F.ok sc_way (fun vs H Q E h => ?_) (fun cdv A outer s H vs Q E hr h => ?_)) (fun _ _ _ _ _ _ us hl => match us, hl with | [_, _, _, _], _ => rfl)
  · obtain ⟨a, b, p, r, d, e, rfl, _⟩ := h
    rfl
  · obtain ⟨a, b, p, r, d, e, rfl, hp0, hb0, par, parr, hl, d0, d1, e0, e1, q⟩ := h
    refine ⟨_, (pss_cons (ps_expr (pe_use u_need_two_partings (by decide) hr (by rfl) (pa_cons (pv 0) (pa_cons (pv 1) pa_nil))))
      (pss_cons (ps_expr (pe_use u_need_door (by decide) hr (by rfl) (pa_cons (pv 2) (pa_cons (pe_callB (k_len (K := K) rfl) (by rfl) T.len PySem.boot_len (pa_cons (pv 0) pa_nil)) pa_nil))))
      (pss_cons (ps_expr (pe_use u_need_door (by decide) hr (by rfl) (pa_cons (pv 3) (pa_cons (pe_callB (k_len (K := K) rfl) (by rfl) T.len PySem.boot_len (pa_cons (pv 0) pa_nil)) pa_nil))))
      (pss_cons (ps_if (pt_not (pt_val (pe_use u_meets (by decide) hr (by rfl) (pa_cons (pv 0) (pa_cons (pv 1) pa_nil))))) (pss_one (ps_ret pe_non)) pss_nil)
      (pss_cons (ps_set (i := 4) sc_way.nd rfl (Or.inl rfl) (pe_use u_doors_ahead (by decide) hr (by rfl) (pa_cons (pe_tup (pa_cons (pv 0) (pa_cons (pv 1) pa_nil))) (pa_cons (pv 2) (pa_cons (pe_listRg rfl (by rfl) T.list (prg_1 (by rfl) T.range (pe_callB (k_len (K := K) rfl) (by rfl) T.len PySem.boot_len (pa_cons (pv 0) pa_nil)))) (pa_cons (pe_tup (pa_cons pe_int (pa_cons pe_int pa_nil))) pa_nil))))))
      (pss_one (ps_ret (pe_callTy (k_tupOf (K := K) rfl) (by rfl) T.tuple (by decide +kernel) (pa_cons (pe_revL (pe_use u_way_back (by decide) hr (by rfl) (pa_cons (pv 4) (pa_cons (pv 3) pa_nil)))) pa_nil))))))))), ?_⟩
    have g2 := par.le
    refine ⟨_, rfl, _, rfl, a, b, p, r, rfl, hp0, hb0, par, parr, hl, fun H1 s1 => ?_⟩
    refine ⟨_, rfl, _, rfl, a, _, rfl, .inr (hp0.mono s1).seq, d, _, rfl, d0, by rw [List.length_map]; exact d1, fun H2 s2 => ?_⟩
    have s02 := s1.trans s2
    refine ⟨_, rfl, _, rfl, a, _, rfl, .inr (hp0.mono s02).seq, e, _, rfl, e0, by rw [List.length_map]; exact e1, fun H3 s3 => ?_⟩
    have s03 := s02.trans s3
    have hp := hp0.mono s03
    have hb := hb0.mono s03
    refine ⟨_, rfl, _, rfl, a, b, p, r, rfl, hp, hb, par, parr, hl, fun H4 c s4 hc => ⟨c, rfl, ?_⟩⟩
    have s04 := s03.trans s4
    cases c with
    | false => exact q _ _ s04 (.inl ⟨rfl, fun tr => absurd (hc.mpr tr) (by decide)⟩)
    | true =>
      have tr := hc.mp rfl
      have hp := hp0.mono s04
      have hb := hb0.mono s04
      refine ⟨_, rfl, _, rfl, by show 2 ≤ sizeLine; decide, fun T1 nT1 => ?_⟩
      have s5 : Same H4 (upd H4 T1 (.tup [.ref a, .ref b])) := same_new nT1
      have hp5 := hp.mono s5
      refine ⟨_, rfl, _, rfl, a, _, rfl, .inr hp5.seq, ?_⟩
      rw [List.length_map]
      refine ⟨_, rfl, RgOk.of_le (by omega) (by omega) (by omega) (by omega), fun l0 nl0 => ?_⟩
      rw [rgV_hv]
      have s6 : Same (upd H4 T1 (.tup [.ref a, .ref b])) (upd (upd H4 T1 (.tup [.ref a, .ref b])) l0 (.lst (hv (List.range p.length)))) := same_new nl0
      refine ⟨by show 2 ≤ sizeLine; decide, fun T2 nT2 => ?_⟩
      have s7 : Same (upd (upd H4 T1 (.tup [.ref a, .ref b])) l0 (.lst (hv (List.range p.length)))) (upd (upd (upd H4 T1 (.tup [.ref a, .ref b])) l0 (.lst (hv (List.range p.length)))) T2 (.tup [.int 0, .int 1])) := same_new nT2
      have s57 := (s5.trans s6).trans s7
      refine ⟨T1, a, b, l0, T2, p, r, [0, 1], d, p.length, rfl, s7 _ _ (s6 _ _ upd_same), hp.mono s57, hb.mono s57, hl, Nat.le_refl _, g2, d0, d1, s7 _ _ upd_same, upd_same, by simp, by simp, fun H8 k E s8 nk ek bf full => ?_⟩
      have hm := way_all par parr hl tr rfl d0 d1 bf full e0 e1
      have el := bfs_len bf
      obtain ⟨j, hj, hjl⟩ : ∃ j, j < (Qu [0, 1] d E).length ∧ dr [0, 1] d E j = e := by
        rcases mem_keys.mp hm with rfl | ⟨x, hx, rfl⟩
        · obtain ⟨_, _, hq⟩ := qu_base (B := [0, 1]) (st := e) (E := E) (j := 0) (by decide)
          exact ⟨0, (List.getElem?_eq_some_iff.mp hq).1, (qu_at hq).1⟩
        · obtain ⟨i, hi⟩ := List.mem_iff_getElem?.mp hx
          have hq := qu_ent (B := [0, 1]) (st := d) hi
          exact ⟨_, (List.getElem?_eq_some_iff.mp hq).1, (qu_at hq).1⟩
      obtain ⟨ks, hks, hlast⟩ := path_ex bf (j + 1) j (Nat.lt_succ_self _) hj
      have wy := way_row d0 d1 rfl bf hks hlast
      rw [hjl] at wy
      have back := path_back bf hks
      have klen : (ks.map (dr [0, 1] d E)).length ≤ 60 := by
        have := sub_len (xs := ks.map (dr [0, 1] d E)) (ys := (List.range 60).map fun n => ((n : Nat) : Int)) wy.nodup fun x hx => by
          have := wy.rng x hx
          exact List.mem_map.mpr ⟨x.toNat, List.mem_range.mpr (by omega), by omega⟩
        rw [List.length_map (f := fun n : Nat => ((n : Nat) : Int)), List.length_range] at this
        exact this
      have hrev : (ks.map (dr [0, 1] d E)).reverse = e :: (ks.map (dr [0, 1] d E)).reverse.tail := by
        have : (ks.map (dr [0, 1] d E)).reverse.head? = some e := by rw [List.head?_reverse, wy.last]
        cases hh : (ks.map (dr [0, 1] d E)).reverse with
        | nil => rw [hh] at this; cases this
        | cons x t =>
          rw [hh] at this
          obtain rfl := Option.some.inj this
          rfl
      rw [hrev] at back
      refine ⟨_, rfl, _, rfl, k, kvsOf d E, e, (ks.map (dr [0, 1] d E)).reverse.tail, rfl, .inl ek, back, ?_, fun H9 l s9 nl el9 => ?_⟩
      · rw [List.length_tail, List.length_reverse]
        omega
      rw [← hrev] at el9
      refine ⟨l, _, rfl, sqL el9, fun l2 nl2 => ?_⟩
      have s10 : Same H9 (upd H9 l2 (.lst ((ks.map (dr [0, 1] d E)).reverse.map V.int).reverse)) := same_new nl2
      refine ⟨l2, _, rfl, .inl ⟨sqL upd_same, fun t nt => ?_⟩⟩
      rw [← List.map_reverse, List.reverse_reverse] at s10 nt ⊢
      have s11 := s10.trans (same_new (o := .tup ((ks.map (dr [0, 1] d E)).map V.int)) nt)
      exact q _ _ (s04.trans (s57.trans (s8.trans (s9.trans s11)))) (.inr ⟨t, _, rfl, upd_same, tr, wy⟩)
abbrev s_side : Stmt := topS 25
theorem sc_side : FnScope ["parts", "door", "which", "ahead", "other"] ["parts", "door", "which"] (defScope s_side) := ⟨rfl, rfl, rfl, by decide +kernel, rfl, by decide +kernel, by decide +kernel⟩
/-- the doors beside a door, on the side of one of its two blocks -/
def Beside (p r : List Int) (d w : Int) (ds : List Int) : Prop := ds.Pairwise (· < ·) ∧ ∀ x : Int, x ∈ ds ↔ 0 ≤ x ∧ x < p.length ∧ x ≠ d ∧ glue (wo p r d.toNat) (nd p r w d) (nA p x)
def spSide : Sp := fun vs H Q _ => ∃ (pa a b : Addr) (p r : List Int) (d w : Int), vs = [.ref pa, .int d, .int w] ∧ H pa = some (.tup [.ref a, .ref b]) ∧ TI H a p ∧ TI H b r ∧ Par p ∧ Par r ∧ p.length = r.length ∧ 0 ≤ d ∧ d < p.length ∧ (w = 0 ∨ w = 1) ∧
  ∀ H' t ds, Same H H' → TI H' t ds → Beside p r d w ds → Q (.ref t) H'
theorem ok_side (D : DefAt K mg "side" s_side) (T : Bt mg) (u_doors_ahead : Use P w K mg base "doors_ahead" 1 ["parts", "start", "doors", "begins"] spAhead) : Use P w K mg base "side" 2 ["parts", "door", "which"] spSide := by
  refine use_of D (fun f fd F => F.ok sc_side (fun vs H Q E h => ?_) (fun cdv A outer s H vs Q E hr h => ?_)) (fun _ _ _ _ _ _ us hl => match us, hl with | [_, _, _], _ => rfl)
  · obtain ⟨pa, a, b, p, r, d, w, rfl, _⟩ := h
    rfl
  · obtain ⟨pa, a, b, p, r, d, wh, rfl, epa, hp, hb, par, parr, hl, d0, d1, w01, q⟩ := h
    refine ⟨_, (pss_cons (ps_set (i := 3) sc_side.nd rfl (Or.inl rfl) (pe_use u_doors_ahead (by decide) hr (by rfl) (pa_cons (pv 0) (pa_cons (pv 1) (pa_cons (pe_listRg rfl (by rfl) T.list (prg_1 (by rfl) T.range (pe_callB (k_len (K := K) rfl) (by rfl) T.len PySem.boot_len (pa_cons (pe_ix (k_ixt (K := K) rfl) (pv 0) pe_int (fun _ _ => rfl)) pa_nil)))) (pa_cons (pe_tup (pa_cons (pv 2) pa_nil)) pa_nil))))))
      (pss_one (ps_ret (pe_callTy (k_tupOf (K := K) rfl) (by rfl) T.tuple (by decide +kernel) (pa_cons (pe_callB cr_sortedI (by rfl) T.sorted (by decide +kernel) (pa_cons (pe_lock (pe_lc (own := [("other", 4)]) rfl sc_side.nd (pi_keys (pv 3)) (blkOk_by (N := ["parts", "door", "which", "ahead", "other"]) (sc := defScope s_side) (by decide +kernel)) (fun _ _ _ _ _ => (pg_name (i := 4) sc_side.nd rfl (Or.inl rfl))) (fun _ _ _ _ _ => (pts_one (pt_cmpR op_ne (pv 4) (pv 1) (nomark _)))) (fun _ _ _ _ _ => (pv 4)))) pa_nil)) pa_nil))))), ?_⟩
    have g2 := par.le
    refine ⟨_, rfl, _, rfl, _, rfl, pa, _, _, .ref a, rfl, rfl, sqT epa, rfl, a, _, rfl, .inr hp.seq, ?_⟩
    rw [List.length_map]
    refine ⟨_, rfl, RgOk.of_le (by omega) (by omega) (by omega) (by omega), fun l0 nl0 => ?_⟩
    rw [rgV_hv]
    have s6 : Same H (upd H l0 (.lst (hv (List.range p.length)))) := same_new nl0
    refine ⟨_, rfl, by show 1 ≤ sizeLine; decide, fun T2 nT2 => ?_⟩
    have s7 : Same (upd H l0 (.lst (hv (List.range p.length)))) (upd (upd H l0 (.lst (hv (List.range p.length)))) T2 (.tup [.int wh])) := same_new nT2
    have s57 := s6.trans s7
    refine ⟨pa, a, b, l0, T2, p, r, [wh], d, p.length, rfl, s57 _ _ epa, hp.mono s57, hb.mono s57, hl, Nat.le_refl _, g2, d0, d1, s7 _ _ upd_same, upd_same, by simpa using w01, by simp, fun H8 k E s8 nk ek bf full => ?_⟩
    have el := bfs_len bf
    have s08 := s57.trans s8
    have nHk : H k = none := s57.free nk
    refine ⟨k, _, ek, trivial, fun od => ?_⟩
    refine ⟨_, rfl, k, od, rfl, .inl ⟨_, upd_same, fun L nL => ?_⟩⟩
    have kL : k ≠ L := fun z => by rw [z, upd_same] at nL; cases nL
    have s09 : Same H (upd (upd H8 k (.frz od (.dK (kvsOf d E)))) L (.lst [])) := (same_mut s08 nHk).trans (same_new nL)
    have nHL : H L = none := (same_mut s08 nHk).free nL
    refine lc_keys (o := od) (kvs := kvsOf d E) (fun i H5 => H5 k = some (.frz od (.dK (kvsOf d E))) ∧ H5 L = some (.lst (((E.map Ent.d).take (i - 1)).map V.int)) ∧ Same H H5)
      ⟨?_, upd_same, s09⟩ (fun i H5 _ ⟨e5, _⟩ => e5) ?_ ?_
    · rw [upd_ne kL, upd_same]
    · rintro i kk v H5 hi ⟨e5, eL, sm⟩
      cases i with
      | zero =>
        obtain ⟨rfl, rfl⟩ := Prod.mk.inj (Option.some.inj hi)
        rw [show kV (kI d) = V.int d from rfl]
        refine ⟨rfl, _, rfl, _, rfl, rfl, _, rfl, ?_⟩
        rw [decide_eq_true rfl]
        exact ⟨e5, eL, sm⟩
      | succ i =>
        unfold kvsOf at hi
        rw [List.getElem?_cons_succ] at hi
        obtain ⟨e, he, e2⟩ := map_at hi
        obtain ⟨rfl, rfl⟩ := Prod.mk.inj e2
        have ne : e.d ≠ d := fun z => (List.nodup_cons.mp bf.keys).1 (List.mem_map.mpr ⟨e, List.mem_of_getElem? he, z⟩)
        rw [show kV (kI e.d) = V.int e.d from rfl]
        refine ⟨rfl, _, rfl, _, rfl, rfl, _, rfl, ?_⟩
        rw [decide_eq_false (fun z => ne (V.int.inj z))]
        refine ⟨_, rfl, _, eL, ?_, ?_, ?_, same_mut sm nHL⟩
        · rw [List.length_map, List.length_take, List.length_map]
          exact small_of (by omega)
        · rw [upd_ne kL]
          exact e5
        · rw [upd_same, Nat.add_sub_cancel, Nat.add_sub_cancel, take_snoc (at_map he), List.map_append]
          rfl
    · rintro H5 ⟨e5, eL, sm⟩
      have hlen : (kvsOf d E).length - 1 = (E.map Ent.d).length := by
        unfold kvsOf
        rw [List.length_cons, List.length_map, List.length_map]
        rfl
      rw [hlen, List.take_length] at eL
      refine ⟨e5, ?_⟩
      have eL2 : (upd H5 k (.dK (kvsOf d E))) L = some (.lst ((E.map Ent.d).map V.int)) := by
        rw [upd_ne (fun z => kL z.symm)]
        exact eL
      refine ⟨L, _, rfl, sqL eL2, fun ns' l3 pm up nl3 => ?_⟩
      refine ⟨l3, _, rfl, .inl ⟨sqL upd_same, fun t nt => ?_⟩⟩
      refine q _ _ ns' (((same_mut sm nHk).trans (same_new nl3)).trans (same_new nt)) upd_same ⟨?_, fun x => by rw [pm.mem_iff]; exact side_set par parr hl rfl d0 d1 w01 bf full x⟩
      have nd' := pm.nodup_iff.mpr (List.nodup_cons.mp bf.keys).2
      exact (List.pairwise_and_iff.mpr ⟨up, nd'⟩).imp fun h => by omega
end
end KQ
namespace KQ
open PySem PySem.Spec PyProof.Rows L2 KR KM StX
section
variable {P : Program} {w : World} {K : PySem.W.Frag} {mg : Str → Option Value} {base : Heap}
abbrev s_sides : Stmt := topS 26
theorem sc_sides : FnScope ["parting", "other", "door", "parts"] ["parting", "other", "door"] (defScope s_sides) := ⟨rfl, rfl, rfl, by decide +kernel, rfl, by decide +kernel, by decide +kernel⟩
def spSides : Sp := fun vs H Q _ => ∃ (a b : Addr) (p r : List Int) (d : Int), vs = [.ref a, .ref b, .int d] ∧ TI H a p ∧ TI H b r ∧ Par p ∧ Par r ∧ p.length = r.length ∧ 0 ≤ d ∧ d < p.length ∧
  ∀ H' v, Same H H' → ((v = .non ∧ ¬ Tree p r) ∨ ∃ (t t0 t1 : Addr) (xs ys : List Int), v = .ref t ∧ H' t = some (.tup [.ref t0, .ref t1]) ∧ TI H' t0 xs ∧ TI H' t1 ys ∧ Tree p r ∧ Beside p r d 0 xs ∧ Beside p r d 1 ys) → Q v H'
theorem ok_sides (D : DefAt K mg "sides" s_sides) (T : Bt mg) (u_need_two_partings : Use P w K mg base "need_two_partings" 6 ["parting", "other"] spTwo) (u_need_door : Use P w K mg base "need_door" 3 ["door", "doors"] spDoor)
    (u_meets : Use P w K mg base "meets" 4 ["parting", "other"] spMeets) (u_side : Use P w K mg base "side" 2 ["parts", "door", "which"] spSide) :
    Use P w K mg base "sides" 7 ["parting", "other", "door"] spSides := by
  refine use_of D (fun f fd F => F.ok sc_sides (fun vs H Q E h => ?_) (fun cdv A outer s H vs Q E hr h => ?_)) (fun _ _ _ _ _ _ us hl => match us, hl with | [_, _, _], _ => rfl)
  · obtain ⟨a, b, p, r, d, rfl, _⟩ := h
    rfl
  · obtain ⟨a, b, p, r, d, rfl, hp0, hb0, par, parr, hl, d0, d1, q⟩ := h
    refine ⟨_, (pss_cons (ps_expr (pe_use u_need_two_partings (by decide) hr (by rfl) (pa_cons (pv 0) (pa_cons (pv 1) pa_nil))))
      (pss_cons (ps_expr (pe_use u_need_door (by decide) hr (by rfl) (pa_cons (pv 2) (pa_cons (pe_callB (k_len (K := K) rfl) (by rfl) T.len PySem.boot_len (pa_cons (pv 0) pa_nil)) pa_nil))))
      (pss_cons (ps_if (pt_not (pt_val (pe_use u_meets (by decide) hr (by rfl) (pa_cons (pv 0) (pa_cons (pv 1) pa_nil))))) (pss_one (ps_ret pe_non)) pss_nil)
      (pss_cons (ps_set (i := 3) sc_sides.nd rfl (Or.inl rfl) (pe_tup (pa_cons (pv 0) (pa_cons (pv 1) pa_nil))))
      (pss_one (ps_ret (pe_tup (pa_cons (pe_use u_side (by decide) hr (by rfl) (pa_cons (pv 3) (pa_cons (pv 2) (pa_cons pe_int pa_nil)))) (pa_cons (pe_use u_side (by decide) hr (by rfl) (pa_cons (pv 3) (pa_cons (pv 2) (pa_cons pe_int pa_nil)))) pa_nil))))))))), ?_⟩
    refine ⟨_, rfl, _, rfl, a, b, p, r, rfl, hp0, hb0, par, parr, hl, fun H1 s1 => ?_⟩
    refine ⟨_, rfl, _, rfl, a, _, rfl, .inr (hp0.mono s1).seq, d, _, rfl, d0, by rw [List.length_map]; exact d1, fun H2 s2 => ?_⟩
    have s02 := s1.trans s2
    refine ⟨_, rfl, _, rfl, a, b, p, r, rfl, hp0.mono s02, hb0.mono s02, par, parr, hl, fun H4 c s4 hc => ⟨c, rfl, ?_⟩⟩
    have s04 := s02.trans s4
    cases c with
    | false => exact q _ _ s04 (.inl ⟨rfl, fun tr => absurd (hc.mpr tr) (by decide)⟩)
    | true =>
      have tr := hc.mp rfl
      refine ⟨_, rfl, _, rfl, by show 2 ≤ sizeLine; decide, fun T1 nT1 => ?_⟩
      have s5 : Same H4 (upd H4 T1 (.tup [.ref a, .ref b])) := same_new nT1
      refine ⟨_, rfl, _, rfl, T1, a, b, p, r, d, 0, rfl, upd_same, (hp0.mono s04).mono s5, (hb0.mono s04).mono s5, par, parr, hl, d0, d1, .inl rfl, fun H6 t0 xs s6 h0 b0 => ?_⟩
      refine ⟨_, rfl, _, rfl, T1, a, b, p, r, d, 1, rfl, s6 _ _ upd_same, ((hp0.mono s04).mono s5).mono s6, ((hb0.mono s04).mono s5).mono s6, par, parr, hl, d0, d1, .inr rfl, fun H7 t1 ys s7 h1 b1 => ?_⟩
      refine ⟨by show 2 ≤ sizeLine; decide, fun T2 nT2 => ?_⟩
      have s8 : Same H7 (upd H7 T2 (.tup [.ref t0, .ref t1])) := same_new nT2
      exact q _ _ (s04.trans (s5.trans (s6.trans (s7.trans s8)))) (.inr ⟨T2, t0, t1, xs, ys, rfl, upd_same, (h0.mono s7).mono s8, h1.mono s8, tr, b0, b1⟩)
abbrev s_moved : Stmt := topS 27
theorem sc_moved : FnScope ["parting", "door", "block", "blocks"] ["parting", "door", "block"] (defScope s_moved) := ⟨rfl, rfl, rfl, by decide +kernel, rfl, by decide +kernel, by decide +kernel⟩
def spMoved : Sp := fun vs H Q _ => ∃ (a : Addr) (r : List Int) (d b : Int), vs = [.ref a, .int d, .int b] ∧ TI H a r ∧ Par r ∧ 0 ≤ d ∧ d < r.length ∧ ∀ H' t, Same H H' → TI H' t (mv r d b) → Q (.ref t) H'
theorem ok_moved (D : DefAt K mg "moved" s_moved) (T : Bt mg) (u_numbered : Use P w K mg base "numbered" 1 ["blocks"] spNumL) : Use P w K mg base "moved" 2 ["parting", "door", "block"] spMoved := by
  refine use_of D (fun f fd F => F.ok sc_moved (fun vs H Q E h => ?_) (fun cdv A outer s H vs Q E hr h => ?_)) (fun _ _ _ _ _ _ us hl => match us, hl with | [_, _, _], _ => rfl)
  · obtain ⟨a, r, d, b, rfl, _⟩ := h
    rfl
  · obtain ⟨a, r, d, b, rfl, ha, parr, d0, d1, q⟩ := h
    refine ⟨_, (pss_cons (ps_set (i := 3) sc_moved.nd rfl (Or.inl rfl) (pe_callTy (k_listOf (K := K) rfl) (by rfl) T.list (by decide +kernel) (pa_cons (pv 0) pa_nil)))
      (pss_cons (ps_asg (pv 2) (pg_sub (pv 3) (pv 1) set_list))
      (pss_one (ps_ret (pe_use u_numbered (by decide) hr (by rfl) (pa_cons (pv 3) pa_nil)))))), ?_⟩
    have g2 := parr.le
    refine ⟨_, rfl, a, _, rfl, .inr ha.seq, fun L nL => ?_⟩
    have s1 : Same H (upd H L (.lst (r.map V.int))) := same_new nL
    refine ⟨_, rfl, _, rfl, _, rfl, L, _, d, d.toNat, rfl, rfl, upd_same, by rw [List.length_map]; exact ixN_of d0 d1, ?_⟩
    have s2 : Same H (upd (upd H L (.lst (r.map V.int))) L (.lst ((r.map V.int).set d.toNat (.int b)))) := same_mut s1 nL
    refine ⟨_, rfl, L, r.set d.toNat b, rfl, by rw [upd_same, List.map_set], by rw [List.length_set]; omega, fun H3 t s3 ht => q H3 t (s2.trans s3) ht⟩
abbrev s_moves : Stmt := topS 28
theorem sc_moves : FnScope ["parting", "other", "rows", "door", "blocks", "block", "near"] ["parting", "other"] (defScope s_moves) := ⟨rfl, rfl, rfl, by decide +kernel, rfl, by decide +kernel, by decide +kernel⟩
def spMoves : Sp := fun vs H Q _ => ∃ (a b : Addr) (p r : List Int), vs = [.ref a, .ref b] ∧ TI H a p ∧ TI H b r ∧ Par p ∧ Par r ∧ p.length = r.length ∧
  ∀ H' v, Same H H' → ((v = .non ∧ ¬ Tree p r) ∨ ∃ (t : Addr) (ts : List Addr) (rows : List (List Int)), v = .ref t ∧ H' t = some (.tup (ts.map V.ref)) ∧ Its H' ts rows ∧ Tree p r ∧ Moves p r rows) → Q v H'
theorem ok_moves (D : DefAt K mg "moves" s_moves) (T : Bt mg) (u_need_two_partings : Use P w K mg base "need_two_partings" 6 ["parting", "other"] spTwo)
    (u_meets : Use P w K mg base "meets" 4 ["parting", "other"] spMeets) (u_side : Use P w K mg base "side" 2 ["parts", "door", "which"] spSide) (u_moved : Use P w K mg base "moved" 2 ["parting", "door", "block"] spMoved) :
    Use P w K mg base "moves" 7 ["parting", "other"] spMoves := by
  refine use_of D (fun f fd F => F.ok sc_moves (fun vs H Q E h => ?_) (fun cdv A outer s H vs Q E hr h => ?_)) (fun _ _ _ _ _ _ us hl => match us, hl with | [_, _], _ => rfl)
  · obtain ⟨a, b, p, r, rfl, _⟩ := h
    rfl
  · obtain ⟨a, b, p, r, rfl, hp0, hb0, par, parr, hl, q⟩ := h
    refine ⟨_, (pss_cons (ps_expr (pe_use u_need_two_partings (by decide) hr (by rfl) (pa_cons (pv 0) (pa_cons (pv 1) pa_nil))))
      (pss_cons (ps_if (pt_not (pt_val (pe_use u_meets (by decide) hr (by rfl) (pa_cons (pv 0) (pa_cons (pv 1) pa_nil))))) (pss_one (ps_ret pe_non)) pss_nil)
      (pss_cons (ps_set (i := 2) sc_moves.nd rfl (Or.inl rfl) (pe_lst pa_nil))
      (pss_cons (ps_for PassesOwn.never rfl (pi_range1 (by rfl) T.range (pa_cons (pe_callB (k_len (K := K) rfl) (by rfl) T.len PySem.boot_len (pa_cons (pv 0) pa_nil)) pa_nil)) (pg_name (i := 3) sc_moves.nd rfl (Or.inl rfl))
      (pss_cons (ps_setLc (i := 4) (own := [("near", 6)]) rfl sc_moves.nd rfl rfl (sw_true rfl rfl rfl (by decide +kernel)) (k_tup (K := K) rfl (pe_use u_side (by decide) hr (by rfl) (pa_cons (pe_tup (pa_cons (pv 0) (pa_cons (pv 1) pa_nil))) (pa_cons (pv 3) (pa_cons pe_int pa_nil))))) (blkOk_by (N := ["parting", "other", "rows", "door", "blocks", "block", "near"]) (sc := defScope s_moves) (by decide +kernel)) (fun _ _ _ _ _ => (pg_name (i := 6) sc_moves.nd rfl (Or.inl rfl))) (fun _ _ _ _ _ => pts_nil) (fun _ _ _ _ _ => (pe_ix (k_ixt (K := K) rfl) (pv 1) (pv 6) (fun _ _ => rfl))))
      (pss_one (ps_for PassesOwn.never rfl (k_list (K := K) rfl (pe_srtSet rfl (by rfl) T.sorted (by rfl) T.set (pv 4))) (pg_name (i := 5) sc_moves.nd rfl (Or.inl rfl))
      (pss_one (ps_if (pt_cmpR op_ne (pv 5) (pe_ix (k_ixt (K := K) rfl) (pv 1) (pv 3) (fun _ _ => rfl)) (nomark _)) (pss_one (ps_expr (k_bm (K := K) rfl PySem.F.plainAttrs_list PySem.F.slot_list_append PySem.F.type_list_append mt_append (pv 2) (pa_cons (pe_use u_moved (by decide) hr (by rfl) (pa_cons (pv 1) (pa_cons (pv 3) (pa_cons (pv 5) pa_nil)))) pa_nil)))) pss_nil))))))
      (pss_one (ps_ret (pe_callTy (k_tupOf (K := K) rfl) (by rfl) T.tuple (by decide +kernel) (pa_cons (pe_callB cr_sortedR (by rfl) T.sorted (by decide +kernel) (pa_cons (pv 2) pa_nil)) pa_nil)))))))), ?_⟩
    have g2 := par.le
    refine ⟨_, rfl, _, rfl, a, b, p, r, rfl, hp0, hb0, par, parr, hl, fun H1 s1 => ?_⟩
    refine ⟨_, rfl, _, rfl, a, b, p, r, rfl, hp0.mono s1, hb0.mono s1, par, parr, hl, fun H4 c s4 hc => ⟨c, rfl, ?_⟩⟩
    have s04 := s1.trans s4
    cases c with
    | false => exact q _ _ s04 (.inl ⟨rfl, fun tr => absurd (hc.mpr tr) (by decide)⟩)
    | true =>
      have tr := hc.mp rfl
      refine ⟨Nat.zero_le _, fun R nR => ?_⟩
      have nHR : H R = none := s04.free nR
      refine ⟨_, rfl, a, _, rfl, .inr ((hp0.mono s04).mono (same_new nR)).seq, ?_⟩
      rw [List.length_map]
      have s5 : Same H (upd H4 R (.lst [])) := s04.trans (same_new nR)
      refine ⟨_, rfl, by omega, by omega, for_range (lo := 0) (n := (((p.length : Nat) : Int)).toNat)
        (fun i σ H5 => ∃ (y3 y4 y5 : Option V) (ts : List Addr), σ = [some (.ref a), some (.ref b), some (.ref R), y3, y4, y5, none] ∧ Same H H5 ∧ H5 R = some (.lst (ts.map V.ref)) ∧ Its H5 ts (movesUp p r i))
        ⟨none, none, none, [], rfl, s5, upd_same, Its.nil⟩ ?_ ?_⟩
      · rintro i σ H5 hi ⟨y3, y4, y5, ts, rfl, sm, eR, its⟩
        rw [Int.toNat_natCast] at hi
        rw [show (0 : Int) + ((i : Nat) : Int) = ((i : Nat) : Int) by omega]
        refine ⟨_, rfl, _, rfl, by show 2 ≤ sizeLine; decide, fun T1 nT1 => ?_⟩
        have s6 : Same H5 (upd H5 T1 (.tup [.ref a, .ref b])) := same_new nT1
        have hp6 := (hp0.mono sm).mono s6
        have hb6 := (hb0.mono sm).mono s6
        refine ⟨_, rfl, T1, a, b, p, r, ((i : Nat) : Int), 1, rfl, upd_same, hp6, hb6, par, parr, hl, by omega, by omega, .inr rfl, fun H7 t0 xs s7 h0 bes => ?_⟩
        refine ⟨t0, rfl, ⟨_, h0.seq⟩, fun L nL => ?_⟩
        have s57 := s6.trans s7
        have s8 : Same H7 (upd H7 L (.lst [])) := same_new nL
        refine lc_tup (K := K) (a := t0) (xs := xs.map V.int) (fun j H8 => Same H7 H8 ∧ H8 L = some (.lst (((xs.take j).map (bk r)).map V.int))) ⟨s8, upd_same⟩ (fun j H8 _ ⟨s8, _⟩ => (h0.mono s8).seq) ?_ ?_
        · rintro j v H8 hj ⟨s8, eL⟩
          obtain ⟨x, hx, rfl⟩ := map_at hj
          have hxm := (bes.2 x).mp (List.mem_of_getElem? hx)
          have jl := (List.getElem?_eq_some_iff.mp hx).1
          have xl : xs.length ≤ 60 := by
            have := sub_len (xs := xs) (ys := (List.range 60).map fun n => ((n : Nat) : Int)) (up_nodup bes.1) fun x hx => by
              have := (bes.2 x).mp hx
              exact List.mem_map.mpr ⟨x.toNat, List.mem_range.mpr (by omega), by omega⟩
            rw [List.length_map (f := fun n : Nat => ((n : Nat) : Int)), List.length_range] at this
            exact this
          have hb8 := (hb0.mono sm).mono (s57.trans s8)
          refine ⟨rfl, _, rfl, _, rfl, b, _, x, .int (bk r x), rfl, rfl, hb8.seq, atI_of (j := x.toNat) (by omega) (at_map (bk_some hxm.1 (by omega))), _, eL, ?_, same_mut s8 nL, ?_⟩
          · rw [List.length_map, List.length_map, List.length_take]
            exact small_of (by omega)
          · rw [upd_same, take_snoc hx, List.map_append, List.map_append]
            rfl
        · rintro H8 ⟨s8, eL⟩
          rw [List.length_map, List.take_length] at eL
          have s08 := (sm.trans s57).trans s8
          have nHL : H L = none := (sm.trans s57).free nL
          have xl : xs.length ≤ 60 := by
            have := sub_len (xs := xs) (ys := (List.range 60).map fun n => ((n : Nat) : Int)) (up_nodup bes.1) fun x hx => by
              have := (bes.2 x).mp hx
              exact List.mem_map.mpr ⟨x.toNat, List.mem_range.mpr (by omega), by omega⟩
            rw [List.length_map (f := fun n : Nat => ((n : Nat) : Int)), List.length_range] at this
            exact this
          refine ⟨_, rfl, L, _, rfl, sqL eL, by rw [List.length_map]; omega, fun ns S up mem nS => ?_⟩
          have s9 : Same H8 (upd H8 S (.lst (ns.map V.int))) := same_new nS
          have nHS : H S = none := s08.free nS
          have eR9 : (upd H8 S (.lst (ns.map V.int))) R = some (.lst (ts.map V.ref)) := s9 _ _ (s8 _ _ (s57 _ _ eR))
          have SR : S ≠ R := fun z => by rw [z, s8 _ _ (s57 _ _ eR)] at nS; cases nS
          refine ⟨S, rfl, ⟨_, sqL upd_same⟩, for_list (K := K) (a := S) (xs := ns.map V.int)
            (fun j σ H9 => ∃ (y5 : Option V) (ts : List Addr), σ = [some (.ref a), some (.ref b), some (.ref R), some (.int ((i : Nat) : Int)), some (.ref L), y5, none] ∧ Same H H9 ∧ H9 S = some (.lst (ns.map V.int)) ∧ H9 R = some (.lst (ts.map V.ref)) ∧
              Its H9 ts (movesUp p r i ++ ((ns.take j).filter fun z => decide (z ≠ bk r ((i : Nat) : Int))).map (mv r ((i : Nat) : Int))))
            ⟨_, ts, rfl, s08.trans s9, upd_same, eR9, ?_⟩ (fun j σ H9 _ ⟨_, _, _, _, eS, _⟩ => sqL eS) ?_ ?_⟩
          · rw [List.take_zero, List.filter_nil, List.map_nil, List.append_nil]
            exact its.mono ((s57.trans s8).trans s9)
          · rintro j v σ H9 hj ⟨y5, ts, rfl, sm9, eS, eR, its⟩
            obtain ⟨z, hz, rfl⟩ := map_at hj
            have hb9 := hb0.mono sm9
            refine ⟨_, rfl, _, rfl, _, rfl, b, _, ((i : Nat) : Int), .int (bk r ((i : Nat) : Int)), rfl, rfl, hb9.seq, atI_of (j := i) rfl (at_map (by have := bk_some (p := r) (d := ((i : Nat) : Int)) (by omega) (by omega); rwa [Int.toNat_natCast] at this)), rfl, _, rfl, ?_⟩
            have hnr := movesUp_len (p := p) (r := r) i
            have jl := (List.getElem?_eq_some_iff.mp hz).1
            have nsl : ns.length ≤ 60 := by
              refine Nat.le_trans (sub_len (up_nodup up) fun x hx => (mem x).mp hx) ?_
              rw [List.length_map]
              exact xl
            have tk : (ns.take (j + 1)).filter (fun z => decide (z ≠ bk r ((i : Nat) : Int))) = (ns.take j).filter (fun z => decide (z ≠ bk r ((i : Nat) : Int))) ++ if z = bk r ((i : Nat) : Int) then [] else [z] := by
              rw [take_snoc hz, List.filter_append]
              congr 1
              by_cases c : z = bk r ((i : Nat) : Int)
              · rw [if_pos c, List.filter_cons, decide_eq_false (fun n => n c)]
                rfl
              · rw [if_neg c, List.filter_cons, decide_eq_true c]
                rfl
            by_cases c : z = bk r ((i : Nat) : Int)
            · rw [decide_eq_true (congrArg V.int c)]
              refine ⟨_, ts, rfl, sm9, eS, eR, ?_⟩
              rw [tk, if_pos c, List.append_nil]
              exact its
            · rw [decide_eq_false (fun q => c (V.int.inj q))]
              refine ⟨_, rfl, .inl ⟨rfl, _, .inl (.inl eR)⟩, _, rfl, _, rfl, _, rfl, b, r, ((i : Nat) : Int), z, rfl, hb9, parr, by omega, by omega, fun H10 t s10 ht => ?_⟩
              have eR10 := s10 _ _ eR
              refine ⟨R, _, _, rfl, rfl, eR10, ?_, _, ts ++ [t], rfl, same_mut (sm9.trans s10) nHR, ?_, ?_, ?_⟩
              · have := its.1
                have h2 : ((ns.take j).filter fun z => decide (z ≠ bk r ((i : Nat) : Int))).length ≤ (ns.take j).length := List.length_filter_le _ _
                rw [List.length_append, List.length_map] at this
                rw [List.length_take] at h2
                rw [List.length_map]
                have h3 : i * r.length ≤ 60 * 60 := Nat.mul_le_mul (by omega) (by omega)
                exact Nat.lt_of_le_of_lt (show ts.length ≤ 4000 by omega) (by decide)
              · rw [upd_ne SR]
                exact s10 _ _ eS
              · rw [upd_same, List.map_append]
                rfl
              · rw [tk, if_neg c, List.map_append, ← List.append_assoc]
                exact ((its.mono s10).put eR10).app (Its.one (show TI _ t _ from by
                  show upd H10 R _ t = _
                  rw [upd_ne (fun e => by rw [← e, ht] at eR10; cases eR10)]
                  exact ht))
          · rintro σ H9 ⟨y5, ts, rfl, sm9, eS, eR, its⟩
            rw [List.length_map, List.take_length] at its
            refine ⟨_, _, _, ts, rfl, sm9, eR, ?_⟩
            rw [movesUp_succ]
            rw [show (ns.filter fun z => decide (z ≠ bk r ((i : Nat) : Int))) = bsOf p r ((i : Nat) : Int) from up_uniq (up.filter _) bsOf_up fun z => ?_] at its
            · exact its
            rw [List.mem_filter, decide_eq_true_iff, mem, mem_bsOf, List.mem_map]
            constructor
            · rintro ⟨⟨x, hx, rfl⟩, nz⟩
              obtain ⟨x0, x1, nx, g⟩ := (bes.2 x).mp hx
              have rg := bk_rng parr x0 (by omega)
              exact ⟨rg.1, rg.2, nz, x, x0, x1, nx, rfl, g⟩
            · rintro ⟨_, _, nz, x, x0, x1, nx, rfl, g⟩
              exact ⟨⟨x, (bes.2 x).mpr ⟨x0, x1, nx, g⟩, rfl⟩, nz⟩
      · rintro σ H5 ⟨y3, y4, y5, ts, rfl, sm, eR, its⟩
        rw [Int.toNat_natCast] at its
        refine ⟨_, rfl, R, ts, _, rfl, sqL eR, its, ?_, fun ts' rows' l2 pm up its' nl2 => ?_⟩
        · intro x hx
          obtain ⟨d, b', d0, d1, b0, b1, nb, ho, rfl⟩ := mem_movesUp.mp hx
          exact fun e => by
            have := congrArg List.length e
            rw [mv_len, ← hl] at this
            exact par.ne (List.length_eq_zero_iff.mp this)
        refine ⟨l2, _, rfl, .inl ⟨sqL upd_same, fun t nt => ?_⟩⟩
        have s9 := (same_new (H := H5) (o := .lst (ts'.map V.ref)) nl2).trans (same_new (o := .tup (ts'.map V.ref)) nt)
        exact q _ _ (sm.trans s9) (.inr ⟨t, ts', rows', rfl, upd_same, its'.mono s9, tr, pm, up⟩)
end
end KQ
namespace KQ
open PySem PySem.Spec PyProof.Rows L2 KR KM StX
/-! ### what the law hangs on is a tree -/
structure MetC (p ds ls : List Int) (sh i q : Nat) (vs : List V) : Prop where
  a : ∀ (j : Nat) (d : Int), j < i → ds[j]? = some d → ∃ k : Nat, vs[d.toNat]? = some (.int (k : Int)) ∧ k < q ∧ ∀ x : Int, p[d.toNat]? = some x → ls[sh + k]? = ls[x.toNat]?
  b : ∀ k : Nat, k < q → ∃ (j : Nat) (d : Int), j < i ∧ ds[j]? = some d ∧ vs[d.toNat]? = some (.int (k : Int))
  c : ∀ S : Int → Prop, (∀ d e : Int, 0 ≤ d → d < p.length → 0 ≤ e → e < p.length → bk p d = bk p e → S d → S e) →
    (∀ (j j' : Nat) (d e : Int), j < i → j' < i → ds[j]? = some d → ds[j']? = some e → vs[d.toNat]? = vs[e.toNat]? → S d → S e) →
    ∀ d e : Int, 0 ≤ d → d < p.length → 0 ≤ e → e < p.length → ls[(bk p d).toNat]? = ls[(bk p e).toNat]? → S d → S e
  n : dcount ls + i = sh + q
section
variable {p ds ls : List Int} {sh i q : Nat} {vs : List V}
theorem ord_ne {n : Nat} (o : Ord ds n) {i j : Nat} {d e : Int} (hd : ds[i]? = some d) (he : ds[j]? = some e) (ne : i ≠ j) : d.toNat ≠ e.toNat := by
  have hn : d ≠ e := by
    rcases Nat.lt_or_ge i j with h | h
    · exact nodup_at.mp o.nd i j h d e hd he
    · exact fun z => nodup_at.mp o.nd j i (by omega) e d he hd z.symm
  have a := o.at_ d (List.mem_of_getElem? hd)
  have b := o.at_ e (List.mem_of_getElem? he)
  omega
theorem metc_new (hsh : ∀ x ∈ p, 0 ≤ x ∧ x < (sh : Int)) (o : Ord ds p.length) (hl : ls.length = sh + q) (lv : vs.length = p.length) (M : MetC p ds ls sh i q vs) {d x own : Int} (hd : ds[i]? = some d) (hx : p[d.toNat]? = some x) (ho : ls[x.toNat]? = some own) :
    MetC p ds (ls ++ [own]) sh (i + 1) (q + 1) (vs.set d.toNat (.int ((q : Nat) : Int))) := by
  have low : ∀ k, k < sh + q → (ls ++ [own])[k]? = ls[k]? := fun k hk => List.getElem?_append_left (by rw [hl]; exact hk)
  have top : (ls ++ [own])[sh + q]? = some own := by
    rw [List.getElem?_append_right (by rw [hl]; exact Nat.le_refl _), hl, Nat.sub_self]
    rfl
  have dn := o.at_ d (List.mem_of_getElem? hd)
  have old : ∀ (j : Nat) (e : Int), j < i → ds[j]? = some e → (vs.set d.toNat (.int ((q : Nat) : Int)))[e.toNat]? = vs[e.toNat]? := fun j e hj he => List.getElem?_set_ne (ord_ne o hd he (by omega))
  have new : (vs.set d.toNat (.int ((q : Nat) : Int)))[d.toNat]? = some (.int ((q : Nat) : Int)) := List.getElem?_set_self (by omega)
  refine ⟨fun j e hj he => ?_, fun k hk => ?_, fun S cp ca u v u0 u1 v0 v1 hu => ?_, ?_⟩
  · by_cases cj : j = i
    · subst cj
      rw [hd] at he
      obtain rfl := Option.some.inj he
      refine ⟨q, new, by omega, fun y hy => ?_⟩
      rw [hx] at hy
      obtain rfl := Option.some.inj hy
      have := hsh x (List.mem_of_getElem? hx)
      rw [top, low _ (by omega), ho]
    · obtain ⟨k, h1, h2, h3⟩ := M.a j e (by omega) he
      refine ⟨k, by rw [old j e (by omega) he]; exact h1, by omega, fun y hy => ?_⟩
      have := hsh y (List.mem_of_getElem? hy)
      rw [low _ (by omega), low _ (by omega)]
      exact h3 y hy
  · by_cases ck : k = q
    · subst ck
      exact ⟨i, d, by omega, hd, new⟩
    · obtain ⟨j, e, hj, he, hv⟩ := M.b k (by omega)
      exact ⟨j, e, by omega, he, by rw [old j e hj he]; exact hv⟩
  · have a1 := hsh _ (List.mem_of_getElem? (bk_some u0 u1))
    have a2 := hsh _ (List.mem_of_getElem? (bk_some v0 v1))
    rw [low _ (by omega), low _ (by omega)] at hu
    exact M.c S cp (fun j j' d' e hj hj' h1 h2 hv => ca j j' d' e (by omega) (by omega) h1 h2 (by rw [old j d' hj h1, old j' e hj' h2]; exact hv)) u v u0 u1 v0 v1 hu
  · have : dcount (ls ++ [own]) = dcount ls := dcount_same fun z => ⟨fun h => by
      rcases List.mem_append.mp h with h | h
      · exact h
      · rw [List.mem_singleton.mp h]
        exact List.mem_of_getElem? ho, fun h => List.mem_append_left _ h⟩
    have := M.n
    omega
theorem metc_glue (hsh : ∀ x ∈ p, 0 ≤ x ∧ x < (sh : Int)) (o : Ord ds p.length) (hl : ls.length = sh + q) (lv : vs.length = p.length) (M : MetC p ds ls sh i q vs) {d x own two : Int} {k : Nat} (hd : ds[i]? = some d) (hx : p[d.toNat]? = some x)
    (ho : ls[x.toNat]? = some own) (hk : k < q) (ht : ls[sh + k]? = some two) (n : own ≠ two) : MetC p ds (ls.map fun z => if z = two then own else z) sh (i + 1) q (vs.set d.toNat (.int ((k : Nat) : Int))) := by
  have mp : ∀ a, (ls.map fun z => if z = two then own else z)[a]? = (ls[a]?).map fun z => if z = two then own else z := fun a => List.getElem?_map
  have keep : ∀ a b : Nat, ls[a]? = ls[b]? → (ls.map fun z => if z = two then own else z)[a]? = (ls.map fun z => if z = two then own else z)[b]? := fun a b e => by rw [mp, mp, e]
  have dn := o.at_ d (List.mem_of_getElem? hd)
  have old : ∀ (j : Nat) (e : Int), j < i → ds[j]? = some e → (vs.set d.toNat (.int ((k : Nat) : Int)))[e.toNat]? = vs[e.toNat]? := fun j e hj he => List.getElem?_set_ne (ord_ne o hd he (by omega))
  have new : (vs.set d.toNat (.int ((k : Nat) : Int)))[d.toNat]? = some (.int ((k : Nat) : Int)) := List.getElem?_set_self (by omega)
  have bd : bk p d = x := bk_at hx
  refine ⟨fun j e hj he => ?_, fun k' hk' => ?_, fun S cp ca u v u0 u1 v0 v1 hu su => ?_, ?_⟩
  · by_cases cj : j = i
    · subst cj
      rw [hd] at he
      obtain rfl := Option.some.inj he
      refine ⟨k, new, hk, fun y hy => ?_⟩
      rw [hx] at hy
      obtain rfl := Option.some.inj hy
      rw [mp, mp, ht, ho]
      show some (if two = two then own else two) = some (if own = two then own else own)
      rw [if_pos rfl, if_neg n]
    · obtain ⟨k2, h1, h2, h3⟩ := M.a j e (by omega) he
      exact ⟨k2, by rw [old j e (by omega) he]; exact h1, h2, fun y hy => keep _ _ (h3 y hy)⟩
  · obtain ⟨j, e, hj, he, hv⟩ := M.b k' hk'
    exact ⟨j, e, by omega, he, by rw [old j e hj he]; exact hv⟩
  · have tr := M.c S cp fun j j' d' e hj hj' h1 h2 hv => ca j j' d' e (by omega) (by omega) h1 h2 (by rw [old j d' hj h1, old j' e hj' h2]; exact hv)
    obtain ⟨j0, f, hj0, hf, hv⟩ := M.b k hk
    obtain ⟨k2, h1, h2, h3⟩ := M.a j0 f hj0 hf
    have ek : k2 = k := by
      rw [hv] at h1
      have := V.int.inj (Option.some.inj h1)
      omega
    subst ek
    have fn := o.at_ f (List.mem_of_getElem? hf)
    have lf : ls[(bk p f).toNat]? = some two := by rw [← h3 _ (bk_some fn.1 fn.2), ht]
    have ld : ls[(bk p d).toNat]? = some own := by rw [bd, ho]
    have df : S d → S f := ca i j0 d f (by omega) (by omega) hd hf (by rw [new, old j0 f hj0 hf, hv])
    have fd : S f → S d := ca j0 i f d (by omega) (by omega) hf hd (by rw [new, old j0 f hj0 hf, hv])
    rw [mp, mp] at hu
    have a1 := hsh _ (List.mem_of_getElem? (bk_some u0 u1))
    have a2 := hsh _ (List.mem_of_getElem? (bk_some v0 v1))
    obtain ⟨s, hs⟩ := at_some (xs := ls) (i := (bk p u).toNat) (by omega)
    obtain ⟨t, ht2⟩ := at_some (xs := ls) (i := (bk p v).toNat) (by omega)
    rw [hs, ht2] at hu
    have hu : (if s = two then own else s) = (if t = two then own else t) := Option.some.inj hu
    by_cases c1 : s = two
    · by_cases c2 : t = two
      · exact tr u v u0 u1 v0 v1 (by rw [hs, ht2, c1, c2]) su
      · rw [if_pos c1, if_neg c2] at hu
        exact tr d v dn.1 dn.2 v0 v1 (by rw [ld, ht2, hu]) (fd (tr u f u0 u1 fn.1 fn.2 (by rw [hs, lf, c1]) su))
    · by_cases c2 : t = two
      · rw [if_neg c1, if_pos c2] at hu
        exact tr f v fn.1 fn.2 v0 v1 (by rw [lf, ht2, c2]) (df (tr u d u0 u1 dn.1 dn.2 (by rw [hs, ld, hu]) su))
      · rw [if_neg c1, if_neg c2] at hu
        exact tr u v u0 u1 v0 v1 (by rw [hs, ht2, hu]) su
  · have := dcount_merge (List.mem_of_getElem? ho) (List.mem_of_getElem? ht) n
    have := M.n
    omega
theorem metc_tree {rs : List Int} (par : Par p) (hsh : (sh : Int) = bc 0 p) (o : Ord ds p.length) (hl : ls.length = sh + q) (lr : rs.length = p.length) (M : MetC p ds ls sh p.length q (rs.map V.int)) (h1 : dcount ls ≤ 1) : Tree p (num rs) := by
  have pos := List.length_pos_iff.mpr par.ne
  obtain ⟨z0, hz0⟩ := at_some (xs := p) (i := 0) pos
  have z1 := (rg_mem 0 p (Int.le_refl _) par.rg).1 z0 (List.mem_of_getElem? hz0)
  have g2 := par.le
  have lpos : 0 < ls.length := by omega
  have d1 : dcount ls = 1 := by
    have : 0 < dcount ls := by
      have hm := (mem_firsts ls).mpr (KM.getD_mem lpos)
      exact List.length_pos_of_mem hm
    omega
  have all1 := (one_label lpos).mp d1
  have ne : rs ≠ [] := fun e => by
    rw [e] at lr
    exact par.ne (List.length_eq_zero_iff.mp lr.symm)
  have parr : Par (num rs) := num_par ne (by omega)
  rw [tree_conn par parr (by rw [num_len, lr])]
  have vat : ∀ d : Int, 0 ≤ d → d < p.length → (rs.map V.int)[d.toNat]? = some (.int (bk rs d)) := fun d d0 d1 => at_map (bk_some d0 (by omega))
  constructor
  · have hn := M.n
    rw [← dcount_num]
    have : dcount rs = q := by
      have := same_len (firsts_nodup rs) (ys := (List.range q).map fun k => ((k : Nat) : Int)) (up_nodup (up_ints q)) fun x => by
        rw [mem_firsts, mem_bk, List.mem_map]
        constructor
        · rintro ⟨d, d0, d1, rfl⟩
          obtain ⟨j, hj⟩ := List.mem_iff_getElem?.mp (o.all (d := d) d0 (by omega))
          have jl := (List.getElem?_eq_some_iff.mp hj).1
          rw [o.len] at jl
          obtain ⟨k, h1, h2, _⟩ := M.a j d jl hj
          rw [vat d d0 (by omega)] at h1
          exact ⟨k, List.mem_range.mpr h2, (V.int.inj (Option.some.inj h1)).symm⟩
        · rintro ⟨k, hk, rfl⟩
          obtain ⟨j, d, _, hj, hv⟩ := M.b k (List.mem_range.mp hk)
          have dn := o.at_ d (List.mem_of_getElem? hj)
          rw [vat d dn.1 dn.2] at hv
          exact ⟨d, dn.1, by omega, V.int.inj (Option.some.inj hv)⟩
      rw [List.length_map, List.length_range] at this
      exact this
    omega
  · intro S cp cr d e d0 d1 e0 e1
    refine M.c S cp (fun j j' u v hj hj' hu hv heq => ?_) d e d0 d1 e0 e1 ?_
    · have un := o.at_ u (List.mem_of_getElem? hu)
      have vn := o.at_ v (List.mem_of_getElem? hv)
      rw [vat u un.1 un.2, vat v vn.1 vn.2] at heq
      exact cr u v un.1 un.2 vn.1 vn.2 ((bk_num un.1 (by omega) vn.1 (by omega)).mpr (V.int.inj (Option.some.inj heq)))
    · have a1 := bk_rng par d0 d1
      have a2 := bk_rng par e0 e1
      have := all1 (bk p d).toNat (bk p e).toNat (by omega) (by omega)
      rw [List.getD_eq_getElem?_getD, List.getD_eq_getElem?_getD, List.getElem?_eq_getElem (by omega), List.getElem?_eq_getElem (by omega)] at this
      rw [List.getElem?_eq_getElem (by omega), List.getElem?_eq_getElem (by omega)]
      exact congrArg some this
end
end KQ
namespace KQ
open PySem PySem.Spec PyProof.Rows L2 KR KM StX
section
variable {P : Program} {w : World} {K : PySem.W.Frag} {mg : Str → Option Value} {base : Heap}
def spMetT : Sp := fun vs H Q _ => ∃ m c g b a p, vs = [.ref m, .ref a] ∧ MS H m c g b ∧ b ≤ 100000 ∧ TI H a p ∧ Par p ∧
  ∀ H' t r, Kept H H' m g → MS H' m c g (b + 120) → TI H' t r → Par r → r.length = p.length → Tree p r → Q (.ref t) H'
theorem ok_metT (D : DefAt K mg "_law_met" s__law_met) (T : Bt mg) (u__law_of : Use P w K mg base "_law_of" 3 ["m", "some"] spOf) (u__law_order : Use P w K mg base "_law_order" 3 ["m", "many"] spOrder)
    (u__law_numbered : Use P w K mg base "_law_numbered" 1 ["labels"] spNumL) : Use P w K mg base "_law_met" 4 ["m", "parting"] spMetT := by
  refine use_of D (fun f fd F => F.ok sc__law_met (fun vs H Q E h => ?_) (fun cdv A outer s H vs Q E hr h => ?_)) (fun _ _ _ _ _ _ us hl => match us, hl with | [_, _], _ => rfl)
  · obtain ⟨m, c, g, b, a, p, rfl, _⟩ := h
    rfl
  · obtain ⟨m, c, g, b, a, p, rfl, ms, hb, hp, par, q⟩ := h
    refine ⟨_, (pss_cons (ps_asg (pe_tup (pa_cons (pe_callB (k_len (K := K) rfl) (by rfl) T.len PySem.boot_len (pa_cons (pv 1) pa_nil)) (pa_cons (pe_op op_add (pe_callB (k_maxT (K := K) rfl rfl hr.units) (by rfl) T.max (by decide +kernel) (pa_cons (pv 1) pa_nil)) pe_int) pa_nil))) (pg_tup rfl (pgs_cons (pg_name (i := 2) sc__law_met.nd rfl (Or.inl rfl)) (pgs_cons (pg_name (i := 3) sc__law_met.nd rfl (Or.inr rfl)) pgs_nil))))
      (pss_cons (ps_asg (pe_tup (pa_cons (pe_listRg rfl (by rfl) T.list (prg_1 (by rfl) T.range (pv 3))) (pa_cons (pe_op op_rep (pe_lst (pa_cons pe_non pa_nil)) (pv 2)) pa_nil))) (pg_tup rfl (pgs_cons (pg_name (i := 4) sc__law_met.nd rfl (Or.inr rfl)) (pgs_cons (pg_name (i := 5) sc__law_met.nd rfl (Or.inl rfl)) pgs_nil))))
      (pss_cons (ps_par (i := 6) (j := 7) rfl sc__law_met.nd rfl rfl (by decide) rfl rfl (pa_cons (pv 2) (pa_cons (pv 3) pa_nil)) (by rfl))
      (pss_cons (ps_for PassesOwn.never rfl (k_list (K := K) rfl (pe_use u__law_order (by decide) hr (by rfl) (pa_cons (pv 0) (pa_cons (pv 2) pa_nil)))) (pg_name (i := 8) sc__law_met.nd rfl (Or.inl rfl))
      (pss_cons (ps_set (i := 6) sc__law_met.nd rfl (Or.inl rfl) (pe_op op_sub (pv 6) pe_int))
      (pss_cons (ps_set (i := 9) sc__law_met.nd rfl (Or.inr rfl) (pe_ix (k_ixl (K := K) rfl) (pv 4) (pe_ix (k_ixt (K := K) rfl) (pv 1) (pv 8) (fun _ _ => rfl)) (fun _ _ => rfl)))
      (pss_cons (ps_setLc (i := 10) (own := [("block", 11)]) rfl sc__law_met.nd rfl rfl (sw_true rfl rfl rfl (by decide +kernel)) (pi_range1 (by rfl) T.range (pa_cons (pe_op op_sub (pe_callB (k_len (K := K) rfl) (by rfl) T.len PySem.boot_len (pa_cons (pv 4) pa_nil)) (pv 3)) pa_nil)) (blkOk_by (N := ["m", "parting", "many", "shift", "labels", "blocks", "left", "pieces", "at", "own", "picks", "block", "two", "label"]) (sc := defScope s__law_met) (by decide +kernel)) (fun _ _ _ _ _ => (pg_name (i := 11) sc__law_met.nd rfl (Or.inl rfl))) (fun _ _ _ _ _ => (pts_one (pt_cmpR op_ne (pe_ix (k_ixl (K := K) rfl) (pv 4) (pe_op op_add (pv 3) (pv 11)) (fun _ _ => rfl)) (pv 9) (nomark _)))) (fun _ _ _ _ _ => (pv 11)))
      (pss_cons (ps_if (pt_cmpR op_ge (pv 6) (pe_op op_sub (pv 7) pe_int) (nomark _)) (pss_one (ps_expr (k_bm (K := K) rfl PySem.F.plainAttrs_list PySem.F.slot_list_append PySem.F.type_list_append mt_append (pv 10) (pa_cons (pe_op op_sub (pe_callB (k_len (K := K) rfl) (by rfl) T.len PySem.boot_len (pa_cons (pv 4) pa_nil)) (pv 3)) pa_nil)))) pss_nil)
      (pss_cons (ps_set (i := 11) sc__law_met.nd rfl (Or.inl rfl) (pe_use u__law_of (by decide) hr (by rfl) (pa_cons (pv 0) (pa_cons (pv 10) pa_nil))))
      (pss_cons (ps_asg (pv 11) (pg_sub (pv 5) (pv 8) set_list))
      (pss_one (ps_if (pt_cmpR op_eq (pe_op op_add (pv 3) (pv 11)) (pe_callB (k_len (K := K) rfl) (by rfl) T.len PySem.boot_len (pa_cons (pv 4) pa_nil)) (nomark _)) (pss_one (ps_expr (k_bm (K := K) rfl PySem.F.plainAttrs_list PySem.F.slot_list_append PySem.F.type_list_append mt_append (pv 4) (pa_cons (pv 9) pa_nil)))) (pss_cons (ps_asg (pe_tup (pa_cons (pe_ix (k_ixl (K := K) rfl) (pv 4) (pe_op op_add (pv 3) (pv 11)) (fun _ _ => rfl)) (pa_cons (pe_op op_sub (pv 7) pe_int) pa_nil))) (pg_tup rfl (pgs_cons (pg_name (i := 12) sc__law_met.nd rfl (Or.inr rfl)) (pgs_cons (pg_name (i := 7) sc__law_met.nd rfl (Or.inl rfl)) pgs_nil))))
      (pss_one (ps_set (i := 4) sc__law_met.nd rfl (Or.inr rfl) (pe_lc (own := [("label", 13)]) rfl sc__law_met.nd (k_list (K := K) rfl (pv 4)) (blkOk_by (N := ["m", "parting", "many", "shift", "labels", "blocks", "left", "pieces", "at", "own", "picks", "block", "two", "label"]) (sc := defScope s__law_met) (by decide +kernel)) (fun _ _ _ _ _ => (pg_name (i := 13) sc__law_met.nd rfl (Or.inl rfl))) (fun _ _ _ _ _ => pts_nil) (fun _ _ _ _ _ => (pe_ifExp (pt_cmpR op_eq (pv 13) (pv 12) (nomark _)) (pv 9) (pv 13))))))))))))))))
      (pss_one (ps_ret (pe_use u__law_numbered (by decide) hr (by rfl) (pa_cons (pv 5) pa_nil)))))))), ?_⟩
    have g0 := bc_ge 0 p
    have g1 := bc_le 0 p
    have g2 := par.le
    have mem := (rg_mem 0 p (Int.le_refl _) par.rg).1
    have pos := List.length_pos_iff.mpr par.ne
    refine ⟨_, rfl, a, _, rfl, .inr hp.seq, _, rfl, a, p, rfl, hp.seq, par.ne, fun mx hm hle => ⟨_, _, rfl, rfl, ?_⟩⟩
    rw [List.length_map]
    have em := par_max par hm hle
    have mx0 := mem mx hm
    refine ⟨by show 2 ≤ sizeLine; decide, fun T0 nT0 => ?_⟩
    refine ⟨T0, _, rfl, .inl (.inl upd_same), rfl, _, _, rfl, _, [], rfl, rfl, ?_⟩
    have s0 : Same H (upd H T0 (.tup [.int ((p.length : Nat) : Int), .int (mx + 1)])) := same_new nT0
    generalize upd H T0 (.tup [.int ((p.length : Nat) : Int), .int (mx + 1)]) = Ha at s0
    refine ⟨_, rfl, _, rfl, RgOk.of_le (by omega) (by omega) (by omega) (by omega), fun l nl => ?_⟩
    refine ⟨by show 1 ≤ sizeLine; decide, fun w0 nw0 => ?_⟩
    obtain ⟨sh, hsh⟩ : ∃ n : Nat, mx + 1 = (n : Int) := ⟨(mx + 1).toNat, by omega⟩
    refine ⟨_, rfl, w0, _, _, rfl, rfl, upd_same, by omega, by omega, ?_, fun bl nbl => ?_⟩
    · show 1 * _ ≤ sizeLine
      rw [Nat.one_mul]
      exact Nat.le_of_lt (small_of (by omega))
    refine ⟨by show 2 ≤ sizeLine; decide, fun T1 nT1 => ?_⟩
    refine ⟨T1, _, rfl, .inl (.inl upd_same), rfl, _, _, rfl, _, [], rfl, rfl, ?_⟩
    have rep : (List.replicate (((p.length : Nat) : Int)).toNat [V.non]).flatten = List.replicate p.length V.non := by
      rw [Int.toNat_natCast]
      induction p.length with
      | zero => rfl
      | succ n ih =>
        rw [List.replicate_succ, List.flatten_cons, ih]
        rfl
    rw [rep, hsh, rgV_hv]
    have lbl : l ≠ bl := fun e => by
      rw [← e, upd_ne (fun z => by rw [← z, upd_same] at nw0; cases nw0), upd_same] at nbl
      cases nbl
    have e1 : Same (upd Ha l (.lst (hv (List.range sh)))) (upd (upd (upd (upd Ha l (.lst (hv (List.range sh)))) w0 (.lst [.non])) bl (.lst (List.replicate p.length V.non))) T1 (.tup [.ref l, .ref bl])) := by
      rw [hsh, rgV_hv] at nw0 nbl nT1
      rw [rep] at nT1
      exact ((same_new nw0).trans (same_new nbl)).trans (same_new nT1)
    have ebl : (upd (upd (upd (upd Ha l (.lst (hv (List.range sh)))) w0 (.lst [.non])) bl (.lst (List.replicate p.length V.non))) T1 (.tup [.ref l, .ref bl])) bl = some (.lst (List.replicate p.length V.non)) := by
      rw [hsh, rgV_hv, rep] at nT1
      rw [upd_ne (ne_of_none upd_same nT1), upd_same]
    have el := e1 l _ upd_same
    have s1 : Same H (upd (upd (upd (upd Ha l (.lst (hv (List.range sh)))) w0 (.lst [.non])) bl (.lst (List.replicate p.length V.non))) T1 (.tup [.ref l, .ref bl])) := (s0.trans (same_new nl)).trans e1
    have nlH : H l = none := s0.free nl
    have nblH : H bl = none := by
      rw [hsh, rgV_hv] at nw0 nbl
      exact ((s0.trans (same_new nl)).trans (same_new nw0)).free nbl
    generalize (upd (upd (upd (upd Ha l (.lst (hv (List.range sh)))) w0 (.lst [.non])) bl (.lst (List.replicate p.length V.non))) T1 (.tup [.ref l, .ref bl])) = Hb at s1 el ebl e1
    clear e1 nT1 nbl nw0 nl s0 nT0
    have ms1 := ms.mono s1
    have ln := ms.ne nlH
    have bln := ms.ne nblH
    refine ⟨_, rfl, _, rfl, _, _, rfl, ?_⟩
    refine ⟨_, rfl, _, rfl, m, c, g, b, ((p.length : Nat) : Int), rfl, ms1, by omega, by omega, by omega, fun H2 dl ds k2 ms2 edl ndl lds nds rds => ?_⟩
    have k02 : Kept H H2 m g := (Kept.of s1).trans k2
    have el2 := k2 _ _ el ln.1 ln.2.2
    have ebl2 := k2 _ _ ebl bln.1 bln.2.2
    have dln := ms1.ne ndl
    have ndlH : H dl = none := s1.free ndl
    have ord : Ord ds p.length := ⟨by rw [lds, Int.toNat_natCast], nds, rds⟩
    have dll : dl ≠ l := fun e => by rw [e, el] at ndl; cases ndl
    have dlb : dl ≠ bl := fun e => by rw [e, ebl] at ndl; cases ndl
    refine ⟨dl, rfl, ⟨_, sqL edl⟩, for_list (K := K) (a := dl) (xs := ds.map V.int)
      (fun i σ H3 => ∃ (l : Addr) (pc lf : Int) (y8 y9 y10 y11 y12 : Option V), σ = [some (.ref m), some (.ref a), some (.int ((p.length : Nat) : Int)), some (.int (mx + 1)), some (.ref l), some (.ref bl), some (.int lf), some (.int pc), y8, y9, y10, y11, y12, none] ∧
        Kept H H3 m g ∧ MS H3 m c g (b + (p.length : Nat) + (i : Nat)) ∧ H3 dl = some (.lst (ds.map V.int)) ∧ l ≠ bl ∧ l ≠ dl ∧ H l = none ∧ ∃ ls q vs, H3 l = some (.lst (List.map V.int ls)) ∧ Met p ds ls sh i q ∧ q ≤ i ∧ ((dcount ls : Nat) : Int) = pc ∧ lf = (p.length : Nat) - (i : Nat) ∧ pc - 1 ≤ lf ∧
        H3 bl = some (.lst vs) ∧ vs.length = p.length ∧ MetC p ds ls sh i q vs)
      ⟨l, mx + 1, ((p.length : Nat) : Int), none, none, none, none, none, rfl, k02, by simpa using ms2, edl, lbl, dll.symm, nlH, (List.range sh).map fun n => ((n : Nat) : Int), 0, List.replicate p.length V.non, ?_, ?_, Nat.le_refl _, ?_, by omega, by omega, ebl2, List.length_replicate, ?_⟩
      (fun i σ H3 _ ⟨_, _, _, _, _, _, _, _, _, _, _, ed, _⟩ => sqL ed) ?_ ?_⟩
    · rw [el2]
      unfold hv
      rw [List.map_map]
      rfl
    · refine ⟨by rw [List.length_map, List.length_range]; rfl, fun j d x hj => absurd hj (Nat.not_lt_zero _), fun b b' hb hb' n e => ?_⟩
      rw [at_map (List.getElem?_range hb), at_map (List.getElem?_range hb')] at e
      have := Option.some.inj e
      omega
    · rw [dcount_range]
      omega
    · refine ⟨fun j d hj => absurd hj (Nat.not_lt_zero _), fun k hk => absurd hk (Nat.not_lt_zero _), fun S cp _ u v u0 u1 v0 v1 hu => ?_, by rw [dcount_range]⟩
      have r1 := bk_rng par u0 u1
      have r2 := bk_rng par v0 v1
      rw [at_map (List.getElem?_range (by omega)), at_map (List.getElem?_range (by omega))] at hu
      exact cp u v u0 u1 v0 v1 (by have := Option.some.inj hu; omega)
    · rintro i v σ H3 hi ⟨l, pc, lf, y8, y9, y10, y11, y12, rfl, k3, ms3, edl3, lbl, ldl, nlH, ls, q', vs, el3, M, qi, hpc, hlf, hle3, ebl3, lvs, hvs⟩
      obtain ⟨d, hd, rfl⟩ := map_at hi
      have hdn := ord.at_ d (List.mem_of_getElem? hd)
      have him := (List.getElem?_eq_some_iff.mp hd).1
      rw [ord.len] at him
      have shp : ∀ x ∈ p, 0 ≤ x ∧ x < (sh : Int) := fun x hx => by have := mem x hx; omega
      obtain ⟨x, hx⟩ := at_some (xs := p) (i := d.toNat) (by omega)
      have hxm := shp x (List.mem_of_getElem? hx)
      obtain ⟨own, ho⟩ := at_some (xs := ls) (i := x.toNat) (by rw [M.len]; omega)
      have hp3 := k3.ti ms hp
      have ln := ms.ne nlH
      refine ⟨_, rfl, _, _, rfl, rfl, ?_⟩
      refine ⟨_, rfl, _, rfl, _, rfl, a, _, d, .int x, rfl, rfl, hp3.seq, atI_of (j := d.toNat) (by omega) (at_map hx), l, _, x, .int own, rfl, rfl, sqL el3, atI_of (j := x.toNat) (by omega) (at_map ho), ?_⟩
      refine ⟨_, rfl, l, _, rfl, .inl (sqL el3), _, rfl, _, _, rfl, rfl, _, rfl, ?_⟩
      rw [List.length_map, M.len, show (((sh + q' : Nat)) : Int) - (mx + 1) = ((q' : Nat) : Int) by omega]
      refine ⟨by omega, by omega, fun N nN => ?_⟩
      refine lc_range (fun k H4 => Same H3 H4 ∧ ∃ pk : List Int, H4 N = some (.lst (pk.map V.int)) ∧ pk.length ≤ k ∧ (∀ z ∈ pk, ∃ k' : Nat, z = (k' : Int) ∧ k' < q' ∧ ls[sh + k']? ≠ some own) ∧ (pk = [] → ∀ k', k' < k → ls[sh + k']? = some own))
        ⟨same_new nN, [], upd_same, Nat.le_refl _, fun z hz => (by cases hz), fun _ k' hk' => absurd hk' (Nat.not_lt_zero _)⟩ ?_ ?_
      · rintro k H4 hk ⟨s4, pk, eN, lpk, hpk, hnil⟩
        rw [Int.toNat_natCast] at hk
        obtain ⟨v, hv⟩ := at_some (xs := ls) (i := sh + k) (by rw [M.len]; omega)
        refine ⟨rfl, _, rfl, _, rfl, _, rfl, _, _, rfl, rfl, l, _, mx + 1 + (0 + (k : Nat)), .int v, rfl, rfl, sqL (s4 _ _ el3), atI_of (j := sh + k) (by omega) (at_map hv), _, rfl, rfl, _, rfl, ?_⟩
        by_cases e : v = own
        · rw [decide_eq_true (congrArg V.int e)]
          refine ⟨s4, pk, eN, by omega, hpk, fun hn k' hk' => ?_⟩
          by_cases c : k' = k
          · rw [c, hv, e]
          · exact hnil hn k' (by omega)
        · rw [decide_eq_false (fun z => e (V.int.inj z))]
          refine ⟨_, rfl, _, eN, ?_, same_mut s4 nN, pk ++ [(0 + (k : Nat) : Int)], ?_, ?_, fun z hz => ?_, fun hn => ?_⟩
          · rw [List.length_map]
            exact small_of (by omega)
          · rw [upd_same, List.map_append]
            rfl
          · rw [List.length_append]
            show pk.length + 1 ≤ k + 1
            omega
          · rcases List.mem_append.mp hz with hz | hz
            · exact hpk z hz
            · rw [List.mem_singleton.mp hz]
              refine ⟨k, by omega, hk, ?_⟩
              rw [hv]
              exact fun z => e (Option.some.inj z)
          · simp at hn
      rintro H4 ⟨s4, pk, eN, lpk, hpk, hnil⟩
      rw [Int.toNat_natCast] at lpk hnil
      have Nn := (ms3.ne nN)
      have nNH : H N = none := k3.free nN Nn.1 Nn.2.2
      have el4 := s4 _ _ el3
      refine ⟨_, rfl, _, rfl, _, _, rfl, rfl, _, _, rfl, rfl, _, rfl, ?_⟩
      refine ifs_fact (fun H5 => Same H3 H5 ∧ ∃ pk : List Int, H5 N = some (.lst (pk.map V.int)) ∧ pk ≠ [] ∧ pk.length ≤ 100 ∧ ∀ z ∈ pk, (∃ k' : Nat, z = (k' : Int) ∧ k' < q' ∧ ls[sh + k']? ≠ some own) ∨ (z = ((q' : Nat) : Int) ∧ pc - 1 ≤ lf - 1)) ?_ ?_ ?_
      · intro hle D kD
        refine ⟨_, rfl, .inl ⟨rfl, _, .inl (.inl eN)⟩, _, rfl, l, _, rfl, .inl (sqL el4), _, rfl, _, _, rfl, rfl, ?_⟩
        rw [List.length_map, M.len]
        refine ⟨N, _, _, rfl, rfl, eN, ?_, kD _ ⟨same_mut s4 nN, pk ++ [((q' : Nat) : Int)], ?_, ?_, ?_, fun z hz => ?_⟩⟩
        · rw [List.length_map]
          exact small_of (by omega)
        · rw [upd_same, List.map_append]
          exact congrArg (fun t => some (HO.lst (pk.map V.int ++ [V.int t]))) (show (((sh + q' : Nat)) : Int) - (mx + 1) = ((q' : Nat) : Int) by omega)
        · simp
        · rw [List.length_append]
          show pk.length + 1 ≤ 100
          omega
        · rcases List.mem_append.mp hz with hz | hz
          · exact .inl (hpk z hz)
          · exact .inr ⟨List.mem_singleton.mp hz, of_decide_eq_true hle⟩
      · intro hle D kD
        refine kD _ ⟨s4, pk, eN, fun hn => ?_, by omega, fun z hz => .inl (hpk z hz)⟩
        have := met_some par (by omega) ord M hd hx ho (hnil hn)
        have hle := of_decide_eq_false hle
        omega
      rintro H5 ⟨s5, pk, eN, nepk, lpk, hpk⟩
      have ms5 := ms3.mono s5
      refine ⟨_, rfl, _, rfl, m, c, g, _, N, pk, rfl, ms5, by omega, eN, Nn.2.2, nepk, by omega, fun H6 z k6 ms6 hz => ?_⟩
      have k36 : Kept H H6 m g := (k3.trans (Kept.of s5)).trans k6
      have bln := ms.ne nblH
      have dln' := ms.ne ndlH
      have el6 := k6 _ _ (s5 _ _ el3) ln.1 ln.2.2
      have ebl6 := k6 _ _ (s5 _ _ ebl3) bln.1 bln.2.2
      have edl6 := k6 _ _ (s5 _ _ edl3) dln'.1 dln'.2.2
      refine ⟨_, rfl, _, rfl, _, rfl, bl, _, d, d.toNat, rfl, rfl, ebl6, by rw [lvs]; exact ixN_of hdn.1 (by omega), ?_⟩
      have el7 : (upd H6 bl (.lst (vs.set d.toNat (.int z)))) l = some (.lst (ls.map V.int)) := by rw [upd_ne lbl]; exact el6
      have ebl7 : (upd H6 bl (.lst (vs.set d.toNat (.int z)))) bl = some (.lst (vs.set d.toNat (.int z))) := upd_same
      have edl7 : (upd H6 bl (.lst (vs.set d.toNat (.int z)))) dl = some (.lst (ds.map V.int)) := by rw [upd_ne dlb]; exact edl6
      have k7 : Kept H (upd H6 bl (.lst (vs.set d.toNat (.int z)))) m g := kept_mut k36 nblH
      have ms7 : MS (upd H6 bl (.lst (vs.set d.toNat (.int z)))) m c g (b + (p.length : Nat) + (i : Nat) + 1) := ms6.put bln.1 bln.2.1 bln.2.2
      have hC7 : (∀ k' : Nat, z = (k' : Int) → k' < q' → ∀ two, ls[sh + k']? = some two → own ≠ two → MetC p ds (ls.map fun z => if z = two then own else z) sh (i + 1) q' (vs.set d.toNat (.int z))) ∧ (z = ((q' : Nat) : Int) → MetC p ds (ls ++ [own]) sh (i + 1) (q' + 1) (vs.set d.toNat (.int z))) :=
        ⟨fun k' e hk two ht n => e ▸ metc_glue shp ord M.len lvs hvs hd hx ho hk ht n, fun e => e ▸ metc_new shp ord M.len lvs hvs hd hx ho⟩
      have lv7 : (vs.set d.toNat (V.int z)).length = p.length := by rw [List.length_set]; exact lvs
      generalize upd H6 bl (.lst (vs.set d.toNat (.int z))) = H7 at el7 ebl7 edl7 k7 ms7
      generalize vs.set d.toNat (.int z) = vs7 at ebl7 hC7 lv7
      refine ⟨_, rfl, _, rfl, _, _, rfl, rfl, _, rfl, l, _, rfl, .inl (sqL el7), rfl, _, rfl, ?_⟩
      rw [List.length_map, M.len]
      rcases hpk z hz with ⟨k', rfl, hk', hne⟩ | ⟨rfl, hpl⟩
      · rw [decide_eq_false (fun q => by have := V.int.inj q; omega)]
        obtain ⟨two, htwo⟩ := at_some (xs := ls) (i := sh + k') (by rw [M.len]; omega)
        have ntwo : own ≠ two := fun e => hne (by rw [htwo, e])
        refine ⟨_, rfl, _, rfl, _, rfl, _, _, rfl, rfl, l, _, mx + 1 + ((k' : Nat) : Int), .int two, rfl, rfl, sqL el7, atI_of (j := sh + k') (by omega) (at_map htwo), _, rfl, pc, 1, rfl, rfl, by show 2 ≤ sizeLine; decide, fun T2 nT2 => ?_⟩
        refine ⟨T2, _, rfl, .inl (.inl upd_same), rfl, _, _, rfl, _, [], rfl, rfl, ?_⟩
        have s8 : Same H7 (upd H7 T2 (.tup [.int two, .int (pc - 1)])) := same_new nT2
        generalize hH8 : upd H7 T2 (.tup [.int two, .int (pc - 1)]) = H8 at s8
        refine ⟨_, rfl, l, rfl, ⟨_, sqL (s8 _ _ el7)⟩, fun G nG => ?_⟩
        refine lc_list (K := K) (a := l) (xs := ls.map V.int) (fun k H9 => Same H8 H9 ∧ H9 G = some (.lst (((ls.take k).map fun z => if z = two then own else z).map V.int)))
          ⟨same_new nG, upd_same⟩ (fun k H9 _ ⟨s9, _⟩ => sqL (s9 _ _ (s8 _ _ el7))) ?_ ?_
        · rintro k v H9 hk ⟨s9, eG⟩
          obtain ⟨y, hy, rfl⟩ := map_at hk
          have kl := (List.getElem?_eq_some_iff.mp hy).1
          rw [M.len] at kl
          have small : (((ls.take k).map fun z => if z = two then own else z).map V.int).length < sizeLine := by
            rw [List.length_map, List.length_map, List.length_take]
            exact small_of (by omega)
          refine ⟨rfl, _, rfl, _, rfl, rfl, _, rfl, ?_⟩
          by_cases e2 : y = two
          · rw [decide_eq_true (congrArg V.int e2)]
            refine ⟨_, rfl, _, eG, small, same_mut s9 nG, ?_⟩
            rw [upd_same, take_snoc hy, List.map_append, List.map_append]
            show _ = some (HO.lst (_ ++ [V.int (if y = two then own else y)]))
            rw [if_pos e2]
          · rw [decide_eq_false (fun q => e2 (V.int.inj q))]
            refine ⟨_, rfl, _, eG, small, same_mut s9 nG, ?_⟩
            rw [upd_same, take_snoc hy, List.map_append, List.map_append]
            show _ = some (HO.lst (_ ++ [V.int (if y = two then own else y)]))
            rw [if_neg e2]
        · rintro H9 ⟨s9, eG⟩
          rw [List.length_map, List.take_length] at eG
          have s79 := s8.trans s9
          have nG7 : H7 G = none := s8.free nG
          have Gn := ms7.ne nG7
          refine ⟨G, pc - 1, lf - 1, _, _, _, _, _, rfl, k7.trans (Kept.of s79), ?_, s79 _ _ edl7, (fun e => by rw [e, ebl7] at nG7; cases nG7), (fun e => by rw [e, edl7] at nG7; cases nG7), k7.free nG7 Gn.1 Gn.2.2, _, q', vs7, eG,
            met_glue shp M hd hx ho hk' htwo ntwo, by omega, ?_, by omega, by omega, s79 _ _ ebl7, lv7, hC7.1 _ rfl hk' _ htwo ntwo⟩
          · rw [show b + ((p.length : Nat) : Int) + ((i + 1 : Nat) : Int) = b + (p.length : Nat) + (i : Nat) + 1 by omega]
            exact ms7.mono s79
          · have := dcount_merge (List.mem_of_getElem? ho) (List.mem_of_getElem? htwo) ntwo
            omega
      · rw [decide_eq_true (congrArg V.int (by omega))]
        refine ⟨_, rfl, .inl ⟨rfl, _, .inl (.inl el7)⟩, _, rfl, l, _, _, rfl, rfl, el7, ?_, ?_⟩
        · rw [List.length_map, M.len]
          exact small_of (by omega)
        refine ⟨l, pc, lf - 1, _, _, _, _, _, rfl, kept_mut k7 nlH, ?_, by rw [upd_ne ldl.symm]; exact edl7, lbl, ldl, nlH, ls ++ [own], q' + 1, vs7, ?_, met_new shp M hd hx ho, by omega, ?_, by omega, ?_, by rw [upd_ne lbl.symm]; exact ebl7, lv7, hC7.2 rfl⟩
        · rw [show b + ((p.length : Nat) : Int) + ((i + 1 : Nat) : Int) = b + (p.length : Nat) + (i : Nat) + 1 by omega]
          exact ms7.put ln.1 ln.2.1 ln.2.2
        · rw [upd_same, List.map_append]
          rfl
        · rw [dcount_same (ys := ls) fun x => ⟨fun h => ?_, fun h => List.mem_append_left _ h⟩]
          · exact hpc
          · rcases List.mem_append.mp h with h | h
            · exact h
            · rw [List.mem_singleton.mp h]
              exact List.mem_of_getElem? ho
        · exact hpl
    · rintro σ H3 ⟨l, pc, lf, y8, y9, y10, y11, y12, rfl, k3, ms3, edl3, lbl, ldl, nlH, ls, q', vs, el3, M, qi, hpc, hlf, hle3, ebl3, lvs, hvs⟩
      rw [List.length_map, ord.len] at hvs ms3 hlf
      obtain ⟨rs, rfl⟩ := ints_of (vs := vs) fun j hj => by
        obtain ⟨t, ht⟩ := List.mem_iff_getElem?.mp (ord.all (d := ((j : Nat) : Int)) (by omega) (by omega))
        have tl := (List.getElem?_eq_some_iff.mp ht).1
        rw [ord.len] at tl
        obtain ⟨k, hk, _⟩ := hvs.a t _ tl ht
        rw [Int.toNat_natCast] at hk
        exact ⟨_, hk⟩
      rw [List.length_map] at lvs
      refine ⟨_, rfl, bl, rs, rfl, ebl3, by omega, fun H4 t s4 ht => ?_⟩
      refine q H4 t (num rs) (k3.trans (Kept.of s4)) ((ms3.mono s4).le (by omega)) ht (num_par (fun e => ?_) (by omega)) (by rw [num_len, lvs]) (metc_tree par (by omega) ord M.len lvs hvs (by omega))
      rw [e] at lvs
      exact par.ne (List.length_eq_zero_iff.mp lvs.symm)
end
end KQ
namespace KQ
open PySem PySem.Spec PyProof.Rows L2 KR KM StX
/-! ### roots in a row that isn't sorted -/
structure Rts (hs : List Nat) (L rk : Nat → Nat) : Prop where
  lt : ∀ x, x < hs.length → up hs x < hs.length
  fix : ∀ x, x < hs.length → up hs x = x → L x = x
  stay : ∀ x, x < hs.length → L (up hs x) = L x
  rk : ∀ x, x < hs.length → up hs x ≠ x → rk (up hs x) < rk x
  top : ∀ x, x < hs.length → up hs (L x) = L x
  rng : ∀ x, x < hs.length → L x < hs.length
theorem rts_range (n : Nat) : Rts (List.range n) (fun x => x) (fun _ => 0) := by
  refine ⟨fun x hx => ?_, fun x _ _ => rfl, fun x _ => ?_, fun x _ h => absurd (up_range n x) h, fun x _ => up_range n x, fun x hx => hx⟩
  · rw [up_range]
    exact hx
  · rw [up_range]
theorem rts_tie {hs : List Nat} {L rk : Nat → Nat} (h : Rts hs L rk) {a b : Nat} (ha : a < hs.length) (hb : b < hs.length) (ne : L a ≠ L b) : Rts (hs.set (L a) (L b)) (fun x => if L x = L a then L b else L x) (fun x => if L x = L a then rk x + 1 + rk (L b) else rk x) := by
  have la := h.rng a ha
  have lb := h.rng b hb
  have ta := h.top a ha
  have tb := h.top b hb
  have faa : L (L a) = L a := h.fix _ la ta
  have fbb : L (L b) = L b := h.fix _ lb tb
  have us : ∀ x, KM.up (hs.set (L a) (L b)) x = if x = L a then L b else KM.up hs x := fun x => up_set la
  refine ⟨fun x hx => ?_, fun x hx hu => ?_, fun x hx => ?_, fun x hx hu => ?_, fun x hx => ?_, fun x hx => ?_⟩
  all_goals rw [List.length_set] at *
  · rw [us]
    split
    · exact lb
    · exact h.lt x hx
  · rw [us] at hu
    by_cases c : x = L a
    · rw [if_pos c] at hu
      exact absurd (hu.trans c) (fun e => ne e.symm)
    · rw [if_neg c] at hu
      have := h.fix x hx hu
      show (if L x = L a then L b else L x) = x
      rw [this, if_neg c]
  · show (if L (KM.up (hs.set (L a) (L b)) x) = L a then L b else L (KM.up (hs.set (L a) (L b)) x)) = if L x = L a then L b else L x
    rw [us]
    by_cases c : x = L a
    · rw [if_pos c, fbb, if_neg (fun e => ne e.symm), c, faa, if_pos rfl]
    · rw [if_neg c, h.stay x hx]
  · show (if L (KM.up (hs.set (L a) (L b)) x) = L a then rk (KM.up (hs.set (L a) (L b)) x) + 1 + rk (L b) else rk (KM.up (hs.set (L a) (L b)) x)) < if L x = L a then rk x + 1 + rk (L b) else rk x
    rw [us] at hu ⊢
    by_cases c : x = L a
    · rw [if_pos c, fbb, if_neg (fun e => ne e.symm), c, faa, if_pos rfl]
      omega
    · rw [if_neg c] at hu ⊢
      have := h.rk x hx hu
      rw [h.stay x hx]
      split <;> omega
  · show KM.up (hs.set (L a) (L b)) (if L x = L a then L b else L x) = if L x = L a then L b else L x
    rw [us]
    by_cases c : L x = L a
    · rw [if_pos c, if_neg (fun e => ne e.symm), tb]
    · rw [if_neg c, if_neg c, h.top x hx]
  · show (if L x = L a then L b else L x) < hs.length
    split
    · exact lb
    · exact h.rng x hx
section
variable {P : Program} {w : World} {K : PySem.W.Frag} {mg : Str → Option Value} {base : Heap}
abbrev s__law_root : Stmt := topS 40
theorem sc__law_root : FnScope ["roots", "thing"] ["roots", "thing"] (defScope s__law_root) := ⟨rfl, rfl, rfl, by decide +kernel, rfl, by decide +kernel, by decide +kernel⟩
def spRoot : Sp := fun vs H Q _ => ∃ (l : Addr) (hs : List Nat) (L rk : Nat → Nat) (x : Nat), vs = [.ref l, .int (x : Int)] ∧ H l = some (.lst (hv hs)) ∧ Rts hs L rk ∧ x < hs.length ∧ Q (.int ((L x : Nat) : Int)) H
theorem ok_root (D : DefAt K mg "_law_root" s__law_root) (T : Bt mg) : Use P w K mg base "_law_root" 1 ["roots", "thing"] spRoot := by
  refine use_of D (fun f fd F => F.ok sc__law_root (fun vs H Q E h => ?_) (fun cdv A outer s H vs Q E hr h => ?_)) (fun _ _ _ _ _ _ us hl => match us, hl with | [_, _], _ => rfl)
  · obtain ⟨l, hs, L, rk, x, rfl, _⟩ := h
    rfl
  · obtain ⟨l, hs, L, rk, x, rfl, el, R, hx, q⟩ := h
    refine ⟨_, (pss_cons (ps_while PassesOwn.never (pt_cmpR op_ne (pe_ix (k_ixl (K := K) rfl) (pv 0) (pv 1) (fun _ _ => rfl)) (pv 1) (nomark _)) (pss_one (ps_set (i := 1) sc__law_root.nd rfl (Or.inl rfl) (pe_ix (k_ixl (K := K) rfl) (pv 0) (pv 1) (fun _ _ => rfl)))))
      (pss_one (ps_ret (pv 1)))), ?_⟩
    have at_ : ∀ t : Nat, t < hs.length → (hv hs)[t]? = some (.int ((up hs t : Nat) : Int)) := fun t ht => by
      unfold hv
      rw [List.getElem?_map, List.getElem?_eq_getElem ht]
      unfold up
      rw [List.getD_eq_getElem?_getD, List.getElem?_eq_getElem ht]
      rfl
    refine ⟨fun g σ H1 => ∃ t : Nat, t < hs.length ∧ L t = L x ∧ g = rk t ∧ σ = [some (.ref l), some (.int (t : Int))] ∧ H1 = H, ⟨_, x, hx, rfl, rfl, rfl, rfl⟩, ?_⟩
    rintro g σ H1 ⟨t, ht, hL, rfl, rfl, rfl⟩
    have lt := R.lt t ht
    refine ⟨_, rfl, _, rfl, l, _, _, _, rfl, rfl, sqL el, atI_of (j := t) rfl (at_ t ht), _, rfl, rfl, _, rfl, ?_⟩
    by_cases e : up hs t = t
    · rw [decide_eq_true (congrArg V.int (by omega))]
      refine ⟨_, rfl, ?_⟩
      rw [← hL, R.fix t ht e] at q
      exact q
    · rw [decide_eq_false (fun z => e (by have := V.int.inj z; omega))]
      refine ⟨_, fun σ' H' n => ⟨rk (up hs t), R.rk t ht e, n⟩, ?_⟩
      exact ⟨_, rfl, _, rfl, l, _, _, _, rfl, rfl, sqL el, atI_of (j := t) rfl (at_ t ht), up hs t, lt, by rw [R.stay t ht, hL], rfl, rfl, rfl⟩
abbrev s__law_meet : Stmt := topS 41
theorem sc__law_meet : FnScope ["one", "two", "many", "more", "roots", "door", "here", "there"] ["one", "two"] (defScope s__law_meet) := ⟨rfl, rfl, rfl, by decide +kernel, rfl, by decide +kernel, by decide +kernel⟩
theorem ok_law_meet (D : DefAt K mg "_law_meet" s__law_meet) (T : Bt mg) (u__law_root : Use P w K mg base "_law_root" 1 ["roots", "thing"] spRoot) : Use P w K mg base "_law_meet" 2 ["one", "two"] spMeets := by
  refine use_of D (fun f fd F => F.ok sc__law_meet (fun vs H Q E h => ?_) (fun cdv A outer s H vs Q E hr h => ?_)) (fun _ _ _ _ _ _ us hl => match us, hl with | [_, _], _ => rfl)
  · obtain ⟨a, b, p, r, rfl, _⟩ := h
    rfl
  · obtain ⟨a, b, p, r, rfl, hp, hb, par, parb, hl, q⟩ := h
    refine ⟨_, (pss_cons (ps_par (i := 2) (j := 3) rfl sc__law_meet.nd rfl rfl (by decide) rfl rfl (pa_cons (pe_op op_add (pe_callB (k_maxT (K := K) rfl rfl hr.units) (by rfl) T.max (by decide +kernel) (pa_cons (pv 0) pa_nil)) pe_int) (pa_cons (pe_op op_add (pe_callB (k_maxT (K := K) rfl rfl hr.units) (by rfl) T.max (by decide +kernel) (pa_cons (pv 1) pa_nil)) pe_int) pa_nil)) (by rfl))
      (pss_cons (ps_if (pt_cmpR op_ne (pe_op op_add (pv 2) (pv 3)) (pe_op op_add (pe_callB (k_len (K := K) rfl) (by rfl) T.len PySem.boot_len (pa_cons (pv 0) pa_nil)) pe_int) (nomark _)) (pss_one (ps_ret pe_bl)) pss_nil)
      (pss_cons (ps_set (i := 4) sc__law_meet.nd rfl (Or.inl rfl) (pe_listRg rfl (by rfl) T.list (prg_1 (by rfl) T.range (pe_op op_add (pv 2) (pv 3)))))
      (pss_cons (ps_for PassesOwn.never rfl (pi_range1 (by rfl) T.range (pa_cons (pe_callB (k_len (K := K) rfl) (by rfl) T.len PySem.boot_len (pa_cons (pv 0) pa_nil)) pa_nil)) (pg_name (i := 5) sc__law_meet.nd rfl (Or.inl rfl))
      (pss_cons (ps_par (i := 6) (j := 7) rfl sc__law_meet.nd rfl rfl (by decide) rfl rfl (pa_cons (pe_use u__law_root (by decide) hr (by rfl) (pa_cons (pv 4) (pa_cons (pe_ix (k_ixt (K := K) rfl) (pv 0) (pv 5) (fun _ _ => rfl)) pa_nil))) (pa_cons (pe_use u__law_root (by decide) hr (by rfl) (pa_cons (pv 4) (pa_cons (pe_op op_add (pv 2) (pe_ix (k_ixt (K := K) rfl) (pv 1) (pv 5) (fun _ _ => rfl))) pa_nil))) pa_nil)) (by rfl))
      (pss_cons (ps_if (pt_cmpR op_eq (pv 6) (pv 7) (nomark _)) (pss_one (ps_ret pe_bl)) pss_nil)
      (pss_one (ps_asg (pv 7) (pg_sub (pv 4) (pv 6) set_list))))))
      (pss_one (ps_ret pe_bl)))))), ?_⟩
    have g0 := bc_ge 0 p
    have g1 := bc_le 0 p
    have g2 := par.le
    have g3 := bc_ge 0 r
    have g4 := bc_le 0 r
    have g5 := parb.le
    refine ⟨_, rfl, a, p, rfl, hp.seq, par.ne, fun mx hm hle => ⟨_, _, rfl, rfl, ?_⟩⟩
    have e1 := par_max par hm hle
    refine ⟨_, rfl, b, r, rfl, hb.seq, parb.ne, fun my hm2 hle2 => ⟨_, _, rfl, rfl, ?_⟩⟩
    have e2 := par_max parb hm2 hle2
    refine ⟨_, _, rfl, ?_⟩
    refine ⟨_, rfl, _, rfl, _, _, rfl, rfl, _, rfl, a, _, rfl, .inr hp.seq, _, _, rfl, rfl, rfl, _, rfl, ?_⟩
    rw [List.length_map]
    by_cases e : mx + 1 + (my + 1) = p.length + 1
    · rw [decide_eq_true (congrArg V.int e)]
      have hM : mx + 1 + (my + 1) = ((mx + 1 + (my + 1)).toNat : Int) := by omega
      generalize hMM : (mx + 1 + (my + 1)).toNat = M at hM
      have hrg : rgV 0 (mx + 1 + (my + 1)) = hv (List.range M) := by rw [hM, rgV_hv]
      refine ⟨_, rfl, _, rfl, _, _, rfl, rfl, mx + 1 + (my + 1), rfl, RgOk.of_le (by omega) (by omega) (by omega) (by omega), fun l nl => ?_⟩
      rw [hrg]
      have s1 : Same H (upd H l (.lst (hv (List.range M)))) := same_new nl
      refine ⟨_, rfl, a, _, rfl, .inr (hp.mono s1).seq, _, rfl, ?_⟩
      rw [List.length_map]
      refine ⟨by omega, by omega, for_range (lo := 0) (n := (((p.length : Nat) : Int)).toNat)
        (fun i σ H3 => ∃ (y5 y6 y7 : Option V), σ = [some (.ref a), some (.ref b), some (.int (mx + 1)), some (.int (my + 1)), some (.ref l), y5, y6, y7] ∧ Same H H3 ∧ (∀ j, j < i → ¬ RingAt p r j) ∧ ∃ (hs : List Nat) (L rk : Nat → Nat), H3 l = some (.lst (hv hs)) ∧ Rts hs L rk ∧ hs.length = M ∧
          ∀ x y, x < M → y < M → (L x = L y ↔ glue ((tiesOf p r).take i) x y))
        ⟨none, none, none, rfl, s1, fun j hj => absurd hj (Nat.not_lt_zero _), List.range M, _, _, upd_same, rts_range M, List.length_range, fun x y _ _ => Iff.rfl⟩ ?_ ?_⟩
      · rintro i σ H3 hi ⟨y5, y6, y7, rfl, sm, nr, hs, L, rk, el, R, hlen, hgl⟩
        rw [Int.toNat_natCast] at hi
        rw [show (0 : Int) + ((i : Nat) : Int) = ((i : Nat) : Int) by omega]
        obtain ⟨x, hx⟩ := at_some (xs := p) (i := i) hi
        obtain ⟨y, hy⟩ := at_some (xs := r) (i := i) (by omega)
        obtain ⟨x0, x1⟩ := (rg_mem 0 p (Int.le_refl _) par.rg).1 x (List.mem_of_getElem? hx)
        obtain ⟨y0, y1⟩ := (rg_mem 0 r (Int.le_refl _) parb.rg).1 y (List.mem_of_getElem? hy)
        have hp3 := hp.mono sm
        have hb3 := hb.mono sm
        have xl : x.toNat < hs.length := by omega
        have yl : (bc 0 p + y).toNat < hs.length := by omega
        refine ⟨_, rfl, _, rfl, _, rfl, a, _, _, .int x, rfl, rfl, hp3.seq, atI_of (j := i) rfl (at_map hx), l, hs, L, rk, x.toNat, ?_, el, R, xl, ?_⟩
        · rw [show ((x.toNat : Nat) : Int) = x by omega]
          rfl
        refine ⟨_, rfl, _, rfl, _, rfl, _, rfl, b, _, _, .int y, rfl, rfl, hb3.seq, atI_of (j := i) rfl (at_map hy), _, _, rfl, rfl, l, hs, L, rk, (bc 0 p + y).toNat, ?_, el, R, yl, ?_⟩
        · rw [show (((bc 0 p + y).toNat : Nat) : Int) = mx + 1 + y by omega]
          rfl
        refine ⟨_, _, rfl, ?_⟩
        refine ⟨_, rfl, _, rfl, rfl, _, rfl, ?_⟩
        by_cases eL : L x.toNat = L (bc 0 p + y).toNat
        · rw [decide_eq_true (congrArg V.int (by omega))]
          exact q H3 false sm ⟨fun z => absurd z (by decide), fun z => absurd ⟨x, y, hx, hy, (hgl _ _ (by omega) (by omega)).mp eL⟩ (z.2 i)⟩
        · rw [decide_eq_false (fun z => eL (by have := V.int.inj z; omega))]
          have hLa := R.rng _ xl
          refine ⟨_, rfl, _, rfl, _, rfl, l, _, _, L x.toNat, rfl, rfl, el, ?_, ?_⟩
          · unfold hv
            rw [List.length_map]
            exact ixN_of (by omega) (by omega)
          refine ⟨_, _, _, rfl, same_mut sm nl, fun j hj => ?_, hs.set (L x.toNat) (L (bc 0 p + y).toNat), _, _, ?_, rts_tie R xl yl eL, by rw [List.length_set, hlen], fun u v hu hv' => ?_⟩
          · by_cases ej : j = i
            · rintro ⟨x', y', hx', hy', hg'⟩
              subst ej
              rw [hx] at hx'
              rw [hy] at hy'
              obtain rfl := Option.some.inj hx'
              obtain rfl := Option.some.inj hy'
              exact eL ((hgl _ _ (by omega) (by omega)).mpr hg')
            · exact nr j (by omega)
          · rw [upd_same]
            unfold hv
            rw [List.map_set]
          · rw [take_snoc (ties_at hx hy), glue_snoc]
            have g := tie_labels (L := fun z => ((L z : Nat) : Int)) (L' := fun z => (((if L z = L x.toNat then L (bc 0 p + y).toNat else L z) : Nat) : Int)) (R := glue ((tiesOf p r).take i)) (a := (bc 0 p + y).toNat) (b := x.toNat) (S := fun z => z < M)
              (fun u v hu hv => by rw [← hgl u v hu hv]; omega) (by omega) (by omega) (fun z hz => by
                by_cases c : L z = L x.toNat
                · rw [if_pos c, if_pos (by omega)]
                · rw [if_neg c, if_neg (by omega)]) u v hu hv'
            have g' : (if L u = L x.toNat then L (bc 0 p + y).toNat else L u) = (if L v = L x.toNat then L (bc 0 p + y).toNat else L v) ↔ J (glue ((tiesOf p r).take i)) (bc 0 p + y).toNat x.toNat u v := by
              rw [← g]
              constructor
              · intro h
                exact congrArg _ h
              · intro h
                exact Int.ofNat.inj h
            rw [g']
            unfold J
            exact or_congr_right Or.comm
      · rintro σ H3 ⟨y5, y6, y7, rfl, sm, nr, _⟩
        rw [Int.toNat_natCast] at nr
        exact q H3 true sm ⟨fun _ => ⟨by omega, fun i hi => nr i (ring_lt hi) hi⟩, fun _ => rfl⟩
    · rw [decide_eq_false (fun z => e (V.int.inj z))]
      exact q H false (fun _ _ z => z) ⟨fun z => absurd z (by decide), fun z => absurd z.1 (by omega)⟩
end
end KQ
namespace KQ
open PySem PySem.Spec PyProof.Rows L2 KR KM StX
theorem dp_its {K : PySem.W.Frag} {H : Hp} : ∀ {ts : List Addr} {xss : List (List Int)}, Its H ts xss → DpAll K H (ts.map V.ref) (xss.map fun xs => PyData.tuple (xs.map PyData.int))
  | [], [], _ => .nil
  | [], _ :: _, h => by cases h.1
  | _ :: _, [], h => by cases h.1
  | t :: ts, xs :: xss, h => by
    obtain ⟨ys, e, ht⟩ := h.2 0 t rfl
    obtain rfl : xs = ys := Option.some.inj e
    exact .cons (dp_ti ht) (dp_its ⟨Nat.succ.inj h.1, fun i u hu => h.2 (i + 1) u hu⟩)
theorem ti_new {H : Hp} {a : Addr} {p : List Int} : TI (upd H a (.tup (p.map V.int))) a p := upd_same
theorem dp_tt {K : PySem.W.Frag} {H : Hp} {a : Addr} {xss : List (List Int)} (h : KQ.TT H a xss) : Dp K H (.ref a) (.tuple (xss.map fun xs => PyData.tuple (xs.map PyData.int))) := by
  obtain ⟨ts, e, h1, h2⟩ := h
  exact .tup (sqT e) (dp_its ⟨h1, h2⟩)
theorem nc_ti {p : List Int} (h : ∀ x ∈ p, 0 ≤ x ∧ x < 1024) (hl : p.length ≤ 60) : Nc 1 660 (.tuple (p.map PyData.int)) := (nc_tup (nc_ints h)).le (Nat.le_refl _) (by omega)
theorem nc_tt {xss : List (List Int)} (n : Nat) (h : ∀ xs ∈ xss, (∀ x ∈ xs, 0 ≤ x ∧ x < 1024) ∧ xs.length ≤ n) : Nc 2 ((11 * n + 1) * xss.length) (.tuple (xss.map fun xs => PyData.tuple (xs.map PyData.int))) := by
  have := nc_all (k := 1) (W := 11 * n) (ds := xss.map fun xs => PyData.tuple (xs.map PyData.int)) (fun d hd => by
    obtain ⟨xs, hx, rfl⟩ := List.mem_map.mp hd
    exact (nc_tup (nc_ints (h xs hx).1)).le (Nat.le_refl _) (Nat.mul_le_mul (Nat.le_refl _) (h xs hx).2))
  rw [List.length_map] at this
  exact nc_tup this
theorem par_small {p : List Int} (h : Rg 0 p) (hl : p.length ≤ 60) : ∀ x ∈ p, 0 ≤ x ∧ x < 1024 := fun x hx => by
  have := (rg_mem 0 p (Int.le_refl _) h).1 x hx
  have := bc_le 0 p
  omega
end KQ
namespace KQ
open PySem PySem.Spec PyProof.Rows L2 KR KM StX
/-! ### moves lead from one to all: five doors at most, tried one by one -/
theorem allP_all : ∀ (n : Nat) (r : List Int), Rg 0 r → r.length = n + 1 → r ∈ allP n
  | 0, [x], h, _ => by
    have h1 : 0 ≤ x := h.1
    have h2 : x ≤ 0 := h.2.1
    rw [show x = 0 by omega]
    exact List.mem_singleton.mpr rfl
  | n + 1, r, h, hl => by
    have ne : r ≠ [] := fun e => by rw [e] at hl; cases hl
    rw [← List.dropLast_concat_getLast ne, rg_app] at h
    obtain ⟨h1, h2⟩ := h
    have b0 : 0 ≤ r.getLast ne := h2.1
    have b1 : r.getLast ne ≤ bc 0 r.dropLast := h2.2.1
    refine List.mem_flatMap.mpr ⟨r.dropLast, allP_all n _ h1 (by rw [List.length_dropLast, hl]; rfl), List.mem_map.mpr ⟨(r.getLast ne).toNat, List.mem_range.mpr (by omega), ?_⟩⟩
    rw [show (((r.getLast ne).toNat : Nat) : Int) = r.getLast ne by omega, List.dropLast_concat_getLast ne]
theorem allP_up : ∀ n : Fin 5, (allP n.val).Pairwise fun x y => HT.lexLt x y = true := by decide +kernel
def labs : List (Nat × Nat) → List Nat → Bool
  | [], _ => true
  | t :: ts, L => if L.getD t.1 0 = L.getD t.2 0 then false else labs ts (L.map fun z => if z = L.getD t.2 0 then L.getD t.1 0 else z)
theorem labs_ok {M : Nat} : ∀ (ts pre : List (Nat × Nat)) (L : List Nat), (∀ t ∈ ts, t.1 < M ∧ t.2 < M) → L.length = M → (∀ x y, x < M → y < M → (L.getD x 0 = L.getD y 0 ↔ glue pre x y)) →
    (labs ts L = true ↔ ∀ i t, ts[i]? = some t → ¬ glue (pre ++ ts.take i) t.1 t.2)
  | [], pre, L, _, _, _ => ⟨fun _ i t h => by simp at h, fun _ => rfl⟩
  | t :: ts, pre, L, hb, hl, hg => by
    have ⟨ha, hbb⟩ := hb t List.mem_cons_self
    by_cases e : L.getD t.1 0 = L.getD t.2 0
    · rw [show labs (t :: ts) L = false by unfold labs; rw [if_pos e]]
      exact ⟨fun h => (by cases h), fun h => absurd ((hg _ _ ha hbb).mp e) (by have := h 0 t rfl; rwa [List.take_zero, List.append_nil] at this)⟩
    · rw [show labs (t :: ts) L = labs ts (L.map fun z => if z = L.getD t.2 0 then L.getD t.1 0 else z) by
        conv => lhs; unfold labs
        rw [if_neg e]]
      have gm : ∀ x, x < M → (L.map fun z => if z = L.getD t.2 0 then L.getD t.1 0 else z).getD x 0 = if L.getD x 0 = L.getD t.2 0 then L.getD t.1 0 else L.getD x 0 := fun x hx => by
        rw [List.getD_eq_getElem?_getD, List.getElem?_map, List.getElem?_eq_getElem (by omega), List.getD_eq_getElem?_getD (l := L) (i := x), List.getElem?_eq_getElem (by omega)]
        rfl
      rw [labs_ok ts (pre ++ [t]) _ (fun u hu => hb u (List.mem_cons_of_mem _ hu)) (by rw [List.length_map, hl]) fun x y hx hy => ?_]
      · constructor
        · intro h i u hu
          cases i with
          | zero =>
            obtain rfl := Option.some.inj hu
            rw [List.take_zero, List.append_nil]
            exact fun g => e ((hg _ _ ha hbb).mpr g)
          | succ i =>
            have := h i u hu
            rwa [List.append_assoc, List.singleton_append] at this
        · intro h i u hu
          have := h (i + 1) u hu
          rw [List.append_assoc, List.singleton_append]
          exact this
      · rw [gm x hx, gm y hy, glue_snoc]
        have g := tie_labels (L := fun x => ((L.getD x 0 : Nat) : Int)) (L' := fun x => (((if L.getD x 0 = L.getD t.2 0 then L.getD t.1 0 else L.getD x 0) : Nat) : Int)) (R := glue pre) (a := t.1) (b := t.2) (S := fun x => x < M)
          (fun x y hx hy => by rw [← hg x y hx hy]; omega) ha hbb (fun y hy => by
            show (((if L.getD y 0 = L.getD t.2 0 then L.getD t.1 0 else L.getD y 0) : Nat) : Int) = if ((L.getD y 0 : Nat) : Int) = ((L.getD t.2 0 : Nat) : Int) then ((L.getD t.1 0 : Nat) : Int) else ((L.getD y 0 : Nat) : Int)
            by_cases c : L.getD y 0 = L.getD t.2 0
            · rw [if_pos c, if_pos (congrArg _ c)]
            · rw [if_neg c, if_neg (by omega)]) x y hx hy
        rw [← g]
        exact ⟨fun q => congrArg _ q, fun q => Int.ofNat.inj q⟩
def treeB (p r : List Int) : Bool := decide (bc 0 p + bc 0 r = p.length + 1) && labs (tiesOf p r) (List.range (bc 0 p + bc 0 r).toNat)
theorem treeB_ok {p r : List Int} (hp : Rg 0 p) (hr : Rg 0 r) : treeB p r = true ↔ Tree p r := by
  unfold treeB Tree
  rw [Bool.and_eq_true, decide_eq_true_iff, noRing_loop]
  refine and_congr_right fun _ => ?_
  rw [labs_ok (M := (bc 0 p + bc 0 r).toNat) (tiesOf p r) [] _ (ties_rng hp hr) List.length_range fun x y hx hy => ?_]
  · exact Iff.rfl
  · have e : ∀ x, x < (bc 0 p + bc 0 r).toNat → (List.range (bc 0 p + bc 0 r).toNat).getD x 0 = x := fun x hx => by
      rw [List.getD_eq_getElem?_getD, List.getElem?_range hx]
      rfl
    rw [e x hx, e y hy]
    exact Iff.rfl
def movesB (p r : List Int) : List (List Int) := (List.range p.length).flatMap fun d => ((List.range (bc 0 r).toNat).filter fun b => decide (((b : Nat) : Int) ≠ bk r ((d : Nat) : Int)) && treeB p (mv r ((d : Nat) : Int) ((b : Nat) : Int))).map fun b => mv r ((d : Nat) : Int) ((b : Nat) : Int)
def put (seen acc : List (List Int)) (y : List Int) : List (List Int) := if y ∈ seen then acc else if y ∈ acc then acc else acc ++ [y]
def reach (p : List Int) : Nat → List (List Int) → List (List Int) → List (List Int)
  | 0, done, todo => done ++ todo
  | _ + 1, done, [] => done
  | f + 1, done, x :: todo => reach p f (x :: done) ((movesB p x).foldl (put (x :: done)) todo)
def connB (m : Nat) : Bool := (allP m).all fun p => match (allP m).filter (treeB p) with
  | [] => true
  | r0 :: rest => (r0 :: rest).all fun r => decide (r ∈ reach p 200 [] [r0])
theorem conn_ok : ∀ m : Fin 5, connB m.val = true := by decide +kernel
theorem put_in {S : List Int → Prop} {seen acc : List (List Int)} {y : List Int} (ha : ∀ x ∈ acc, S x) (hy : S y) : ∀ x ∈ put seen acc y, S x := by
  unfold put
  intro x hx
  split at hx
  · exact ha x hx
  · split at hx
    · exact ha x hx
    · rcases List.mem_append.mp hx with h | h
      · exact ha x h
      · rw [List.mem_singleton.mp h]
        exact hy
theorem puts_in {S : List Int → Prop} {seen : List (List Int)} : ∀ (ys acc : List (List Int)), (∀ x ∈ acc, S x) → (∀ y ∈ ys, S y) → ∀ x ∈ ys.foldl (put seen) acc, S x
  | [], acc, ha, _, x, hx => ha x hx
  | y :: ys, acc, ha, hy, x, hx => puts_in ys (put seen acc y) (put_in ha (hy y List.mem_cons_self)) (fun z hz => hy z (List.mem_cons_of_mem _ hz)) x hx
theorem reach_in {p : List Int} {S : List Int → Prop} (cl : ∀ x, S x → ∀ y ∈ movesB p x, S y) : ∀ (f : Nat) (done todo : List (List Int)), (∀ x ∈ done, S x) → (∀ x ∈ todo, S x) → ∀ y ∈ reach p f done todo, S y
  | 0, done, todo, hd, ht, y, hy => (List.mem_append.mp hy).elim (hd y) (ht y)
  | _ + 1, done, [], hd, _, y, hy => hd y hy
  | f + 1, done, x :: todo, hd, ht, y, hy => by
    have sx := ht x List.mem_cons_self
    exact reach_in cl f (x :: done) ((movesB p x).foldl (put (x :: done)) todo) (fun z hz => (List.mem_cons.mp hz).elim (fun e => e ▸ sx) (hd z)) (puts_in _ _ (fun z hz => ht z (List.mem_cons_of_mem _ hz)) (cl x sx)) y hy
/-- one move -/
def Step (p x y : List Int) : Prop := ∃ d b : Int, 0 ≤ d ∧ d < x.length ∧ 0 ≤ b ∧ b < bc 0 x ∧ b ≠ bk x d ∧ y = mv x d b ∧ Tree p y
theorem step_of {p x y : List Int} (par : Par p) (parx : Par x) (hl : p.length = x.length) (h : y ∈ movesB p x) : Step p x y := by
  obtain ⟨d, hd, hy⟩ := List.mem_flatMap.mp h
  obtain ⟨b, hb, rfl⟩ := List.mem_map.mp hy
  obtain ⟨h1, h2⟩ := List.mem_filter.mp hb
  have hd := List.mem_range.mp hd
  have h1 := List.mem_range.mp h1
  obtain ⟨h3, h4⟩ := Bool.and_eq_true_iff.mp h2
  exact ⟨_, _, by omega, by omega, by omega, by omega, of_decide_eq_true h3, rfl, (treeB_ok par.rg (mv_par parx).rg).mp h4⟩
theorem step_back {p x y : List Int} (par : Par p) (parx : Par x) (hl : p.length = x.length) (tr : Tree p x) (h : Step p x y) : Step p y x := by
  obtain ⟨d, b, d0, d1, b0, b1, nb, rfl, ty⟩ := h
  have ho := (move_iff par parx hl tr d0 (by omega) b0 b1 nb).mp ty
  obtain ⟨f, f0, f1, nf, ef⟩ := other_kept par parx hl d0 (by omega) ho
  have py := mv_par parx (d := d) (b := b)
  have kq : ∀ u v : Int, 0 ≤ u → u < x.length → 0 ≤ v → v < x.length → (bk (mv x d b) u = bk (mv x d b) v ↔ (if u = d then b else bk x u) = if v = d then b else bk x v) := fun u v u0 u1 v0 v1 => by
    unfold mv
    rw [bk_num u0 (by rw [List.length_set]; omega) v0 (by rw [List.length_set]; omega), bk_set d0 (by omega) u0, bk_set d0 (by omega) v0]
  have rf := bk_rng py f0 (by rw [mv_len]; omega)
  have fy : ∀ e : Int, 0 ≤ e → e < x.length → e ≠ d → (bk (mv x d b) f = bk (mv x d b) e ↔ bk x f = bk x e) := fun e e0 e1 ne => by
    rw [kq f e f0 (by omega) e0 e1, if_neg nf, if_neg ne]
  refine ⟨d, bk (mv x d b) f, d0, by rw [mv_len]; exact d1, rf.1, rf.2, fun e => ?_, ?_, tr⟩
  · rw [kq f d f0 (by omega) d0 d1, if_neg nf, if_pos rfl] at e
    exact nb (by rw [← e, ef])
  · refine (num_self parx).symm.trans (num_congr (by rw [List.length_set, mv_len]) fun i j u v u' v' hu hv hu' hv' => ?_)
    have il := (List.getElem?_eq_some_iff.mp hu).1
    have jl := (List.getElem?_eq_some_iff.mp hv).1
    have a1 : bk x (i : Int) = u := bk_at (by rw [Int.toNat_natCast]; exact hu)
    have a2 : bk x (j : Int) = v := bk_at (by rw [Int.toNat_natCast]; exact hv)
    have a3 := bk_at (p := (mv x d b).set d.toNat (bk (mv x d b) f)) (d := (i : Int)) (by rw [Int.toNat_natCast]; exact hu')
    have a4 := bk_at (p := (mv x d b).set d.toNat (bk (mv x d b) f)) (d := (j : Int)) (by rw [Int.toNat_natCast]; exact hv')
    rw [bk_set d0 (by rw [mv_len]; exact d1) (by omega)] at a3 a4
    rw [← a1, ← a2, ← a3, ← a4]
    by_cases c1 : (i : Int) = d
    · by_cases c2 : (j : Int) = d
      · rw [if_pos c1, if_pos c2, c1, c2]
        exact ⟨fun _ => rfl, fun _ => rfl⟩
      · rw [if_pos c1, if_neg c2, c1, fy _ (by omega) (by omega) c2, ef]
    · by_cases c2 : (j : Int) = d
      · rw [if_neg c1, if_pos c2, c2]
        have := fy _ (by omega) (by omega) c1
        rw [ef] at this
        exact ⟨fun e => (this.mpr e.symm).symm, fun e => (this.mp e.symm).symm⟩
      · rw [if_neg c1, if_neg c2, kq _ _ (by omega) (by omega) (by omega) (by omega), if_neg c1, if_neg c2]
/-- what holds one and is closed under moves holds all -/
theorem all_reached {p r : List Int} (par : Par p) (parr : Par r) (hl : p.length = r.length) (h5 : p.length ≤ 5) (tr : Tree p r) {S : List Int → Prop} (sr : S r) (cl : ∀ x y, Par x → x.length = p.length → Tree p x → S x → Step p x y → S y) :
    ∀ q, Par q → q.length = p.length → Tree p q → S q := by
  have pos := List.length_pos_iff.mpr par.ne
  have hc := conn_ok ⟨p.length - 1, by omega⟩
  have hin : ∀ q : List Int, Par q → q.length = p.length → q ∈ allP (p.length - 1) := fun q pq lq => allP_all _ q pq.rg (by omega)
  have hpar : ∀ q ∈ allP (p.length - 1), Par q ∧ q.length = p.length := fun q hq => by
    obtain ⟨h1, h2⟩ := allP_ok _ q hq
    have e : q.length = p.length := by omega
    exact ⟨⟨fun z => par.ne (by rw [z] at e; exact List.length_eq_zero_iff.mp e.symm), by have := par.le; omega, h1⟩, e⟩
  have hp := List.all_eq_true.mp (show (allP (p.length - 1)).all _ = true from hc) p (hin p par rfl)
  have hdue : ∀ q, q ∈ (allP (p.length - 1)).filter (treeB p) ↔ Par q ∧ q.length = p.length ∧ Tree p q := fun q => by
    rw [List.mem_filter]
    constructor
    · rintro ⟨h1, h2⟩
      obtain ⟨h3, h4⟩ := hpar q h1
      exact ⟨h3, h4, (treeB_ok par.rg h3.rg).mp h2⟩
    · rintro ⟨h3, h4, h2⟩
      exact ⟨hin q h3 h4, (treeB_ok par.rg h3.rg).mpr h2⟩
  cases hd : (allP (p.length - 1)).filter (treeB p) with
  | nil =>
    have := (hdue r).mpr ⟨parr, hl.symm, tr⟩
    rw [hd] at this
    cases this
  | cons r0 rest =>
    rw [hd] at hp hdue
    have hp : (r0 :: rest).all (fun r => decide (r ∈ reach p 200 [] [r0])) = true := hp
    have got : ∀ q, Par q → q.length = p.length → Tree p q → q ∈ reach p 200 [] [r0] := fun q a b c => of_decide_eq_true (List.all_eq_true.mp hp q ((hdue q).mpr ⟨a, b, c⟩))
    have r0ok := (hdue r0).mp List.mem_cons_self
    have main : ∀ S' : List Int → Prop, (∀ x y, Par x → x.length = p.length → Tree p x → S' x → Step p x y → S' y) → S' r0 → ∀ q, Par q → q.length = p.length → Tree p q → S' q := fun S' cl' s0 q a b c => by
      refine (reach_in (p := p) (S := fun x => Par x ∧ x.length = p.length ∧ Tree p x ∧ S' x) (fun x ⟨x1, x2, x3, x4⟩ y hy => ?_) 200 [] [r0] (fun x hx => by cases hx) (fun x hx => by rw [List.mem_singleton.mp hx]; exact ⟨r0ok.1, r0ok.2.1, r0ok.2.2, s0⟩) q (got q a b c)).2.2.2
      have st := step_of par x1 x2.symm hy
      have st2 := st
      obtain ⟨d, b, _, _, _, _, _, rfl, ty⟩ := st
      exact ⟨mv_par x1, by rw [mv_len, x2], ty, cl' x _ x1 x2 x3 x4 st2⟩
    by_cases s0 : S r0
    · exact main S cl s0
    · refine absurd sr (main (fun x => ¬ S x) (fun x y x1 x2 x3 nx st sy => nx ?_) s0 r parr hl.symm tr)
      have back := step_back par x1 x2.symm x3 st
      obtain ⟨d, b, _, _, _, _, _, rfl, ty⟩ := st
      exact cl _ x (mv_par x1) (by rw [mv_len, x2]) ty sy back
end KQ
namespace KQ
open PySem PySem.Spec PyProof.Rows L2 KR KM StX
theorem shaped_intsW (ns : List Int) : SeqAt.shaped (.tuple (ns.map .int)) = true := by
  unfold SeqAt.shaped
  simp only [PyData.canLay0, lay0, PyData.depth, depth0]
  rfl
theorem atI_end {xs : List V} {v : V} (ne : xs ≠ []) (h : xs.getLast? = some v) : atI xs (-1) = some v := by
  obtain ⟨ys, rfl⟩ := List.getLast?_eq_some_iff.mp h
  exact atI_last _ _
section
variable {P : Program} {w : World} {K : PySem.W.Frag} {mg : Str → Option Value} {base : Heap}
abbrev s__law_is_way : Stmt := topS 44
theorem sc__law_is_way : FnScope ["one", "two", "row", "begin", "end", "pair", "apart", "at", "n"] ["one", "two", "row", "begin", "end"] (defScope s__law_is_way) := ⟨rfl, rfl, rfl, by decide +kernel, rfl, by decide +kernel, by decide +kernel⟩
def spIsWay : Sp := fun vs H Q _ => ∃ (a b t : Addr) (p r row : List Int) (d e : Int), vs = [.ref a, .ref b, .ref t, .int d, .int e] ∧ TI H a p ∧ TI H b r ∧ Par p ∧ Par r ∧ p.length = r.length ∧ TI H t row ∧ IsWay p r row d e ∧ ∀ H', Same H H' → Q (.bl true) H'
theorem ok_is_way (D : DefAt K mg "_law_is_way" s__law_is_way) (T : Bt mg) (u__law_is_int : Use P w K mg base "_law_is_int" 1 ["thing", "low", "high"] spIntWA) :
    Use P w K mg base "_law_is_way" 2 ["one", "two", "row", "begin", "end"] spIsWay := by
  refine use_of D (fun f fd F => F.ok sc__law_is_way (fun vs H Q E h => ?_) (fun cdv A outer s H vs Q E hr h => ?_)) (fun _ _ _ _ _ _ us hl => match us, hl with | [_, _, _, _, _], _ => rfl)
  · obtain ⟨a, b, t, p, r, row, d, e, rfl, _⟩ := h
    rfl
  · obtain ⟨a, b, t, p, r, row, d, e, rfl, hp, hb, par, parb, hl, ht, wy, q⟩ := h
    refine ⟨_, (pss_cons (ps_if (PW.pt (pw_or (pt_not (pt_val (pe_callB (k_isi (K := K) rfl) (by rfl) T.isinstance (by decide +kernel) (pa_cons (pv 2) (pa_cons (pe_bltn (v := .ty "tuple") (by rfl) T.tuple (by decide +kernel) rfl) pa_nil))))) (pw_or (pt_cmpR (k_eqD (K := K) rfl hr.units) (pv 2) (pe_tup pa_nil) (nomark _)) (pw_or1 (pt_cmpR (k_neD (K := K) rfl hr.units) (pe_lc (own := [("at", 7)]) rfl sc__law_is_way.nd (k_tup (K := K) rfl (pv 2)) (blkOk_by (N := ["one", "two", "row", "begin", "end", "pair", "apart", "at", "n"]) (sc := defScope s__law_is_way) (by decide +kernel)) (fun _ _ _ _ _ => (pg_name (i := 7) sc__law_is_way.nd rfl (Or.inl rfl))) (fun _ _ _ _ _ => (pts_one (pt_not (pt_val (pe_use u__law_is_int (by decide) hr (by rfl) (pa_cons (pv 7) (pa_cons pe_int (pa_cons (pe_op op_sub (pe_callB (k_len (K := K) rfl) (by rfl) T.len PySem.boot_len (pa_cons (pv 0) pa_nil)) pe_int) pa_nil)))))))) (fun _ _ _ _ _ => pe_int)) (pe_lst pa_nil) (nomark _)))))) (pss_one (ps_ret pe_bl)) pss_nil)
      (pss_cons (ps_if (PW.pt (pw_or (pt_cmpR op_ne (pe_ix (k_ixt (K := K) rfl) (pv 2) pe_int (fun _ _ => rfl)) (pv 3) (nomark _)) (pw_or (pt_cmpR op_ne (pe_ix (k_ixt (K := K) rfl) (pv 2) (pe_un un_neg pe_int) (fun _ _ => rfl)) (pv 4) (nomark _)) (pw_or1 (pt_cmpR (k_neD (K := K) rfl hr.units) (pe_lc (own := [("n", 8), ("at", 7)]) rfl sc__law_is_way.nd (k_enumT (K := K) rfl (by rfl) T.enumerate (pa_cons (pv 2) pa_nil)) (blkOk_by (N := ["one", "two", "row", "begin", "end", "pair", "apart", "at", "n"]) (sc := defScope s__law_is_way) (by decide +kernel)) (fun _ _ _ _ _ => (k_gtup (K := K) (n := 2) rfl rfl (pgs_cons (pg_name (i := 8) sc__law_is_way.nd rfl (Or.inl rfl)) (pgs_cons (pg_name (i := 7) sc__law_is_way.nd rfl (Or.inl rfl)) pgs_nil)))) (fun _ _ _ _ _ => (pts_one (pt_cmpR (k_in (K := K) rfl) (pv 7) (pe_slice (k_slt (K := K) rfl) (pv 2) po_none (po_some (pv 8))) (by rfl)))) (fun _ _ _ _ _ => pe_int)) (pe_lst pa_nil) (nomark _)))))) (pss_one (ps_ret pe_bl)) pss_nil)
      (pss_cons (ps_for PassesOwn.never rfl (k_list (K := K) rfl (pe_lst (pa_cons (pe_tup (pa_cons (pv 0) (pa_cons (pv 1) pa_nil))) (pa_cons (pe_tup (pa_cons (pv 1) (pa_cons (pv 0) pa_nil))) pa_nil)))) (pg_name (i := 5) sc__law_is_way.nd rfl (Or.inr rfl))
      (pss_cons (ps_setLc (i := 6) (own := [("n", 8)]) rfl sc__law_is_way.nd rfl rfl (sw_true rfl rfl rfl (by decide +kernel)) (pi_range1 (by rfl) T.range (pa_cons (pe_op op_sub (pe_callB (k_len (K := K) rfl) (by rfl) T.len PySem.boot_len (pa_cons (pv 2) pa_nil)) pe_int) pa_nil)) (blkOk_by (N := ["one", "two", "row", "begin", "end", "pair", "apart", "at", "n"]) (sc := defScope s__law_is_way) (by decide +kernel)) (fun _ _ _ _ _ => (pg_name (i := 8) sc__law_is_way.nd rfl (Or.inl rfl))) (fun _ _ _ _ _ => (pts_one (pt_cmpR op_ne (pe_ix (k_ixt (K := K) rfl) (pe_ix (k_ixt (K := K) rfl) (pv 5) (pe_op op_modN (pe_callTy call_int1 (by rfl) T.int (by decide +kernel) (pa_cons (pv 8) pa_nil)) pe_int) (fun _ _ => rfl)) (pe_ix (k_ixt (K := K) rfl) (pv 2) (pv 8) (fun _ _ => rfl)) (fun _ _ => rfl)) (pe_ix (k_ixt (K := K) rfl) (pe_ix (k_ixt (K := K) rfl) (pv 5) (pe_op op_modN (pe_callTy call_int1 (by rfl) T.int (by decide +kernel) (pa_cons (pv 8) pa_nil)) pe_int) (fun _ _ => rfl)) (pe_ix (k_ixt (K := K) rfl) (pv 2) (pe_op op_add (pv 8) pe_int) (fun _ _ => rfl)) (fun _ _ => rfl)) (nomark _)))) (fun _ _ _ _ _ => (pv 8)))
      (pss_one (ps_if (pt_cmpR (k_eqD (K := K) rfl hr.units) (pv 6) (pe_lst pa_nil) (nomark _)) (pss_one (ps_ret pe_bl)) pss_nil))))
      (pss_one (ps_ret pe_bl))))), ?_⟩
    have g2 := par.le
    have tlen : row.length ≤ 60 := by
      have := sub_len (xs := row) (ys := (List.range 60).map fun n => ((n : Nat) : Int)) wy.nodup fun x hx => by
        have := wy.rng x hx
        exact List.mem_map.mpr ⟨x.toNat, List.mem_range.mpr (by omega), by omega⟩
      rw [List.length_map (f := fun n : Nat => ((n : Nat) : Int)), List.length_range] at this
      exact this
    have hpos := (List.getElem?_eq_some_iff.mp wy.first).1
    refine ⟨_, rfl, _, _, _, _, true, rfl, .ty _, .base (.tup ht), kit_ty (by decide +kernel), true, rfl, ?_⟩
    refine ⟨_, rfl, Nat.zero_le _, fun M nM => ?_⟩
    have s1 : Same H (upd H M (.tup [])) := same_new nM
    refine ⟨.tuple (row.map PyData.int), .tuple [], .tup (sqT (s1 _ _ ht)) (dpAll_ints _), .tup (sqT (xs := []) upd_same) .nil, ?_, rfl, _, rfl, ?_⟩
    · exact shaped_intsW _
    rw [show PyData.eqv (.tuple (row.map PyData.int)) (.tuple []) = false from by
      cases row with
      | nil => exact absurd hpos (Nat.lt_irrefl _)
      | cons x xs => rfl]
    refine ⟨_, rfl, t, rfl, ⟨_, sqT (s1 _ _ ht)⟩, fun L nL => ?_⟩
    refine lc_tup (K := K) (a := t) (xs := row.map V.int) (fun k H3 => Same H H3 ∧ H3 L = some (.lst (([] : List Int).map V.int))) ⟨s1.trans (same_new nL), upd_same⟩ (fun k H3 _ ⟨s3, _⟩ => sqT (s3 _ _ ht)) ?_ ?_
    · rintro k v H3 hk ⟨s3, eL⟩
      obtain ⟨x, hx, rfl⟩ := map_at hk
      have xr := wy.rng x (List.mem_of_getElem? hx)
      refine ⟨rfl, _, rfl, _, rfl, a, _, rfl, .inr (hp.mono s3).seq, _, _, rfl, rfl, .int x, 0, _, rfl, .int x, _, rfl, ?_⟩
      rw [List.length_map, show inV (.int x) 0 (((p.length : Nat) : Int) - 1) = true from decide_eq_true ⟨xr.1, by omega⟩]
      exact ⟨s3, eL⟩
    rintro H3 ⟨s3, eL⟩
    refine ⟨Nat.zero_le _, fun M2 nM2 => ?_⟩
    have nML : M2 ≠ L := fun e => by rw [e, eL] at nM2; cases nM2
    refine ⟨.list (([] : List Int).map PyData.int), .list [], .lst (sqL (by rw [upd_ne nML.symm]; exact eL)) (dpAll_ints _), .lst (sqL (xs := []) upd_same) .nil, shaped_ints _, rfl, _, rfl, ?_⟩
    rw [eqv_nil]
    have s4 : Same H (upd H3 M2 (.lst [])) := s3.trans (same_new nM2)
    generalize upd H3 M2 (.lst []) = Ha at s4
    clear nML nM2 M2 eL s3 H3 nL L s1 nM M
    have ht4 := s4 _ _ ht
    obtain ⟨le, hle⟩ := last_at wy.last
    refine ⟨_, rfl, t, _, _, .int d, rfl, rfl, sqT ht4, atI_of (j := 0) rfl (at_map wy.first), _, rfl, rfl, _, rfl, ?_⟩
    rw [decide_eq_true rfl]
    refine ⟨_, rfl, _, rfl, t, _, _, .int e, rfl, rfl, sqT ht4, ?_, _, rfl, rfl, _, rfl, ?_⟩
    · exact atI_end (fun z => le (List.map_eq_nil_iff.mp z)) (by rw [List.getLast?_map, wy.last]; rfl)
    rw [decide_eq_true rfl]
    refine ⟨_, rfl, t, _, rfl, sqT ht4, fun L nL => ?_⟩
    refine lc_enumT (K := K) (a := t) (xs := row.map V.int) (fun k H3 => Same Ha H3 ∧ H3 L = some (.lst (([] : List Int).map V.int))) ⟨same_new nL, upd_same⟩ (fun k H3 _ ⟨s3, _⟩ => sqT (s3 _ _ ht4)) ?_ ?_
    · rintro k v T1 H3 hk ⟨s3, eL⟩ hT
      obtain ⟨x, hx, rfl⟩ := map_at hk
      have kl := (List.getElem?_eq_some_iff.mp hx).1
      have s5 : Same H3 (upd H3 T1 (.tup [.int (k : Nat), .int x])) := same_new hT
      refine ⟨T1, _, rfl, .inl (.inl upd_same), rfl, _, _, rfl, _, [], rfl, rfl, ?_⟩
      have cutk : cutV (row.map V.int) none (some ((k : Nat) : Int)) = (row.take k).map V.int := by
        unfold cutV
        rw [HT.sIx_none, HT.sIx_nat, List.length_map, Nat.min_eq_left (by omega), List.drop_zero, Nat.sub_zero, List.map_take]
      refine ⟨rfl, _, rfl, _, rfl, _, rfl, _, rfl, t, _, rfl, sqT (s5 _ _ (s3 _ _ ht4)), ?_, fun S nS => ?_⟩
      · rw [HT.sIx_none, HT.sIx_nat, List.length_map]
        omega
      rw [cutk]
      have s6 := s5.trans (same_new (o := .tup ((row.take k).map V.int)) nS)
      refine ⟨S, _, rfl, .inr (sqT upd_same), rfl, flat_ints _, _, rfl, ?_⟩
      rw [show (if false = true then !L2.inV (V.int x) ((row.take k).map V.int) else L2.inV (V.int x) ((row.take k).map V.int)) = decide (x ∈ row.take k) from inV_ints _ _, decide_eq_false ((nodup_take row).mp wy.nodup k x hx)]
      exact ⟨s3.trans s6, s6 _ _ eL⟩
    rintro H3 ⟨s3, eL⟩
    refine ⟨Nat.zero_le _, fun M2 nM2 => ?_⟩
    have nML : M2 ≠ L := fun e => by rw [e, eL] at nM2; cases nM2
    refine ⟨.list (([] : List Int).map PyData.int), .list [], .lst (sqL (by rw [upd_ne nML.symm]; exact eL)) (dpAll_ints _), .lst (sqL (xs := []) upd_same) .nil, shaped_ints _, rfl, _, rfl, ?_⟩
    rw [eqv_nil]
    have s5 : Same H (upd H3 M2 (.lst [])) := s4.trans (s3.trans (same_new nM2))
    generalize upd H3 M2 (.lst []) = Hb at s5
    clear nML nM2 M2 eL s3 H3 nL L ht4 s4 Ha
    obtain ⟨sd, sd2, alt⟩ := wy.alt
    refine ⟨_, rfl, _, rfl, by show 2 ≤ sizeLine; decide, fun T1 nT1 => ?_⟩
    refine ⟨_, rfl, _, rfl, by show 2 ≤ sizeLine; decide, fun T2 nT2 => ?_⟩
    have t12 : T1 ≠ T2 := fun z => by rw [z, upd_same] at nT2; cases nT2
    have s6 : Same Hb (upd (upd Hb T1 (.tup [.ref a, .ref b])) T2 (.tup [.ref b, .ref a])) := (same_new nT1).trans (same_new nT2)
    have e1 : (upd (upd Hb T1 (.tup [.ref a, .ref b])) T2 (.tup [.ref b, .ref a])) T1 = some (.tup [.ref a, .ref b]) := by rw [upd_ne t12, upd_same]
    have e2 : (upd (upd Hb T1 (.tup [.ref a, .ref b])) T2 (.tup [.ref b, .ref a])) T2 = some (.tup [.ref b, .ref a]) := upd_same
    generalize upd (upd Hb T1 (.tup [.ref a, .ref b])) T2 (.tup [.ref b, .ref a]) = Hc at s6 e1 e2
    refine ⟨by show 2 ≤ sizeLine; decide, fun Lp nLp => ?_⟩
    have s7 : Same Hc (upd Hc Lp (.lst [.ref T1, .ref T2])) := same_new nLp
    have eP : (upd Hc Lp (.lst [.ref T1, .ref T2])) Lp = some (.lst [.ref T1, .ref T2]) := upd_same
    have e1 := s7 _ _ e1
    have e2 := s7 _ _ e2
    have s8 := s5.trans (s6.trans s7)
    generalize upd Hc Lp (.lst [.ref T1, .ref T2]) = Hd at s8 e1 e2 eP
    refine ⟨Lp, rfl, ⟨_, sqL eP⟩, for_list (K := K) (a := Lp) (xs := [.ref T1, .ref T2])
      (fun k σ H1 => ∃ (y5 y6 : Option V), σ = [some (.ref a), some (.ref b), some (.ref t), some (.int d), some (.int e), y5, y6, none, none] ∧ Same Hd H1 ∧ k ≤ sd)
      ⟨_, _, rfl, Same.refl Hd, Nat.zero_le _⟩ (fun k σ H1 _ ⟨_, _, _, sm, _⟩ => sqL (sm _ _ eP)) ?_ ?_⟩
    · rintro k v σ H1 hk ⟨y5, y6, rfl, sm, ks⟩
      obtain ⟨tp, x, y, rfl, etp, hx, hy⟩ : ∃ (tp x y : Addr), v = .ref tp ∧ H1 tp = some (.tup [.ref x, .ref y]) ∧ TI H1 x (prt p r (((0 + k) % 2 : Nat) : Int)) ∧ TI H1 y (prt p r (((1 + k) % 2 : Nat) : Int)) := by
        have hp1 := hp.mono (s8.trans sm)
        have hb1 := hb.mono (s8.trans sm)
        match k, hk with
        | 0, hk => exact ⟨T1, a, b, (Option.some.inj hk).symm, sm _ _ e1, hp1, hb1⟩
        | 1, hk => exact ⟨T2, b, a, (Option.some.inj hk).symm, sm _ _ e2, hb1, hp1⟩
      have ht1 := (s8.trans sm) _ _ ht
      refine ⟨_, rfl, t, _, rfl, .inr (sqT ht1), _, _, rfl, rfl, _, rfl, ?_⟩
      rw [List.length_map]
      refine ⟨by omega, by omega, fun L nL => ?_⟩
      have nHL : Hd L = none := sm.free nL
      refine lc_range (lo := 0) (n := (((row.length : Nat) : Int) - 1).toNat) (fun j H3 => Same H1 H3 ∧ ∃ ns : List Int, H3 L = some (.lst (ns.map V.int)) ∧ ns.length ≤ j ∧ (k = sd → ns = []))
        ⟨same_new nL, [], upd_same, Nat.le_refl _, fun _ => rfl⟩ ?_ ?_
      · rintro i H3 hi ⟨s3, ns, eL, nsl, nse⟩
        rw [show (0 : Int) + ((i : Nat) : Int) = ((i : Nat) : Int) by omega]
        obtain ⟨u, hu⟩ := at_some (xs := row) (i := i) (by omega)
        obtain ⟨v, hv⟩ := at_some (xs := row) (i := i + 1) (by omega)
        have ur := wy.rng u (List.mem_of_getElem? hu)
        have vr := wy.rng v (List.mem_of_getElem? hv)
        have ht3 := s3 _ _ ht1
        have etp3 := s3 _ _ etp
        obtain ⟨z, hz, tz⟩ : ∃ z : Addr, [V.ref x, V.ref y][i % 2]? = some (.ref z) ∧ TI H3 z (prt p r (((i + k) % 2 : Nat) : Int)) := by
          have hx3 := hx.mono s3
          have hy3 := hy.mono s3
          rcases Nat.mod_two_eq_zero_or_one i with e | e
          · refine ⟨x, by rw [e]; rfl, ?_⟩
            rw [show (i + k) % 2 = (0 + k) % 2 by omega]
            exact hx3
          · refine ⟨y, by rw [e]; rfl, ?_⟩
            rw [show (i + k) % 2 = (1 + k) % 2 by omega]
            exact hy3
        have zl : (prt p r (((i + k) % 2 : Nat) : Int)).length = p.length := by
          unfold prt
          split
          · rfl
          · exact hl.symm
        have bu := bk_some (p := prt p r (((i + k) % 2 : Nat) : Int)) ur.1 (by omega)
        have bv := bk_some (p := prt p r (((i + k) % 2 : Nat) : Int)) vr.1 (by omega)
        refine ⟨rfl, _, rfl, _, rfl, .inl ⟨_, rfl, _, 2, rfl, rfl, (show (2 : Int) ≠ 0 by decide), tp, _, _, .ref z, rfl, rfl, sqT etp3, atI_of (j := i % 2) (by rw [← fmod2]) hz, ?_⟩⟩
        refine ⟨_, rfl, _, rfl, t, _, _, .int u, rfl, rfl, sqT ht3, atI_of (j := i) rfl (at_map hu), z, _, u, _, rfl, rfl, tz.seq, atI_of (j := u.toNat) (by omega) (at_map bu), ?_⟩
        refine ⟨_, rfl, _, rfl, .inl ⟨_, rfl, _, 2, rfl, rfl, (show (2 : Int) ≠ 0 by decide), tp, _, _, .ref z, rfl, rfl, sqT etp3, atI_of (j := i % 2) (by rw [← fmod2]) hz, ?_⟩⟩
        refine ⟨_, rfl, _, rfl, _, _, rfl, rfl, t, _, _, .int v, rfl, rfl, sqT ht3, atI_of (j := i + 1) (by omega) (at_map hv), z, _, v, _, rfl, rfl, tz.seq, atI_of (j := v.toNat) (by omega) (at_map bv), rfl, _, rfl, ?_⟩
        by_cases ev : bk (prt p r (((i + k) % 2 : Nat) : Int)) u = bk (prt p r (((i + k) % 2 : Nat) : Int)) v
        · rw [decide_eq_true (congrArg V.int ev)]
          exact ⟨s3, ns, eL, by omega, nse⟩
        · rw [decide_eq_false (fun q => ev (V.int.inj q))]
          refine ⟨_, rfl, _, eL, ?_, same_mut s3 nL, ns ++ [((i : Nat) : Int)], ?_, ?_, fun ek => ?_⟩
          · rw [List.length_map]
            exact small_of (by omega)
          · rw [upd_same, List.map_append]
            rfl
          · rw [List.length_append, List.length_singleton]
            omega
          · subst ek
            exact absurd (alt i u v hu hv) ev
      · rintro H3 ⟨s3, ns, eL, nsl, nse⟩
        refine ⟨_, rfl, Nat.zero_le _, fun M2 nM2 => ?_⟩
        have nML : M2 ≠ L := fun e => by rw [e, eL] at nM2; cases nM2
        refine ⟨.list (ns.map PyData.int), .list [], .lst (sqL (by rw [upd_ne nML.symm]; exact eL)) (dpAll_ints _), .lst (sqL (xs := []) upd_same) .nil, shaped_ints _, rfl, _, rfl, ?_⟩
        have s4 : Same Hd (upd H3 M2 (.lst [])) := sm.trans (s3.trans (same_new nM2))
        cases ns with
        | nil => exact q _ (s8.trans s4)
        | cons n0 ns =>
          refine ⟨_, _, rfl, s4, ?_⟩
          have : k ≠ sd := fun z => by have := nse z; cases this
          omega
    · rintro σ H1 ⟨y5, y6, rfl, sm, ks⟩
      exact absurd ks (by show ¬ 2 ≤ sd; omega)
end
end KQ
namespace KQ
open PySem PySem.Spec PyProof.Rows L2 KR KM StX
def restL (n : Nat) (at_ : Int) : List Int := ((List.range n).map fun k => ((k : Nat) : Int)).filter fun z => decide (z ≠ at_)
theorem restL_succ (n : Nat) (at_ : Int) : restL (n + 1) at_ = restL n at_ ++ if ((n : Nat) : Int) = at_ then [] else [((n : Nat) : Int)] := by
  unfold restL
  rw [List.range_succ, List.map_append, List.filter_append]
  congr 1
  by_cases c : ((n : Nat) : Int) = at_
  · rw [if_pos c, List.map_cons, List.filter_cons, decide_eq_false (fun h => h c)]
    rfl
  · rw [if_neg c, List.map_cons, List.filter_cons, decide_eq_true c]
    rfl
theorem filt_snoc {f : Int → Bool} {xs : List Int} {i : Nat} {x : Int} (h : xs[i]? = some x) : (xs.take (i + 1)).filter f = (xs.take i).filter f ++ if f x = true then [x] else [] := by
  rw [take_snoc h, List.filter_append]
  congr 1
  rw [List.filter_cons]
  rfl
theorem restL_up (n : Nat) (at_ : Int) : (restL n at_).Pairwise (· < ·) := (up_ints n).filter _
theorem mem_restL {n : Nat} {at_ x : Int} : x ∈ restL n at_ ↔ 0 ≤ x ∧ x < n ∧ x ≠ at_ := by
  unfold restL
  rw [List.mem_filter, List.mem_map, decide_eq_true_iff]
  constructor
  · rintro ⟨⟨k, hk, rfl⟩, h⟩
    have := List.mem_range.mp hk
    exact ⟨by omega, by omega, h⟩
  · rintro ⟨h0, h1, h⟩
    exact ⟨⟨x.toNat, List.mem_range.mpr (by omega), by omega⟩, h⟩
theorem restL_len (n : Nat) (at_ : Int) : (restL n at_).length ≤ n := by
  have : (restL n at_).length ≤ ((List.range n).map fun k => ((k : Nat) : Int)).length := List.length_filter_le _ _
  rw [List.length_map, List.length_range] at this
  exact this
def restT (p r : List Int) (n : Nat) (at_ : Int) : List (Nat × Nat) := (restL n at_).map fun e => (nA p e, nB p r e)
theorem rest_glue {p r : List Int} (hl : p.length = r.length) {at_ : Int} (a0 : 0 ≤ at_) {x y : Nat} : glue (restT p r p.length at_) x y ↔ glue (wo p r at_.toNat) x y := by
  constructor
  · refine glue_sub fun t ht => ?_
    obtain ⟨e, he, rfl⟩ := List.mem_map.mp ht
    obtain ⟨e0, e1, ne⟩ := mem_restL.mp he
    exact wo_mem hl e0 e1 (by omega)
  · refine glue_sub fun t ht => ?_
    obtain ⟨e, e0, e1, ne, rfl⟩ := wo_of hl ht
    exact List.mem_map.mpr ⟨e, mem_restL.mpr ⟨e0, e1, by omega⟩, rfl⟩
section
variable {P : Program} {w : World} {K : PySem.W.Frag} {mg : Str → Option Value} {base : Heap}
abbrev s__law_sides : Stmt := topS 45
theorem sc__law_sides : FnScope ["one", "two", "at", "rest", "shift", "labels", "spot", "kept", "lost", "own", "label"] ["one", "two", "at"] (defScope s__law_sides) := ⟨rfl, rfl, rfl, by decide +kernel, rfl, by decide +kernel, by decide +kernel⟩
def spLSides : Sp := fun vs H Q _ => ∃ (a b : Addr) (p r : List Int) (d : Int), vs = [.ref a, .ref b, .int d] ∧ TI H a p ∧ TI H b r ∧ Par p ∧ Par r ∧ p.length = r.length ∧ 0 ≤ d ∧ d < p.length ∧ Tree p r ∧
  ∀ H' (t t0 t1 : Addr) (xs ys : List Int), Same H H' → H' t = some (.tup [.ref t0, .ref t1]) → TI H' t0 xs → TI H' t1 ys → Beside p r d 0 xs → Beside p r d 1 ys → Q (.ref t) H'
theorem ok_law_sides (D : DefAt K mg "_law_sides" s__law_sides) (T : Bt mg) : Use P w K mg base "_law_sides" 1 ["one", "two", "at"] spLSides := by
  refine use_of D (fun f fd F => F.ok sc__law_sides (fun vs H Q E h => ?_) (fun cdv A outer s H vs Q E hr h => ?_)) (fun _ _ _ _ _ _ us hl => match us, hl with | [_, _, _], _ => rfl)
  · obtain ⟨a, b, p, r, d, rfl, _⟩ := h
    rfl
  · obtain ⟨a, b, p, r, d, rfl, hp, hb, par, parb, hl, d0, d1, tr, q⟩ := h
    refine ⟨_, (pss_cons (ps_setLc (i := 3) (own := [("spot", 6)]) rfl sc__law_sides.nd rfl rfl (sw_true rfl rfl rfl (by decide +kernel)) (pi_range1 (by rfl) T.range (pa_cons (pe_callB (k_len (K := K) rfl) (by rfl) T.len PySem.boot_len (pa_cons (pv 0) pa_nil)) pa_nil)) (blkOk_by (N := ["one", "two", "at", "rest", "shift", "labels", "spot", "kept", "lost", "own", "label"]) (sc := defScope s__law_sides) (by decide +kernel)) (fun _ _ _ _ _ => (pg_name (i := 6) sc__law_sides.nd rfl (Or.inl rfl))) (fun _ _ _ _ _ => (pts_one (pt_cmpR op_ne (pv 6) (pv 2) (nomark _)))) (fun _ _ _ _ _ => (pv 6)))
      (pss_cons (ps_set (i := 4) sc__law_sides.nd rfl (Or.inl rfl) (pe_op op_add (pe_callB (k_maxT (K := K) rfl rfl hr.units) (by rfl) T.max (by decide +kernel) (pa_cons (pv 0) pa_nil)) pe_int))
      (pss_cons (ps_set (i := 5) sc__law_sides.nd rfl (Or.inr rfl) (pe_listRg rfl (by rfl) T.list (prg_1 (by rfl) T.range (pe_op op_add (pe_op op_add (pv 4) (pe_callB (k_maxT (K := K) rfl rfl hr.units) (by rfl) T.max (by decide +kernel) (pa_cons (pv 1) pa_nil))) pe_int))))
      (pss_cons (ps_for PassesOwn.never rfl (k_list (K := K) rfl (pv 3)) (pg_name (i := 6) sc__law_sides.nd rfl (Or.inl rfl))
      (pss_cons (ps_asg (pe_tup (pa_cons (pe_ix (k_ixl (K := K) rfl) (pv 5) (pe_ix (k_ixt (K := K) rfl) (pv 0) (pv 6) (fun _ _ => rfl)) (fun _ _ => rfl)) (pa_cons (pe_ix (k_ixl (K := K) rfl) (pv 5) (pe_op op_add (pv 4) (pe_ix (k_ixt (K := K) rfl) (pv 1) (pv 6) (fun _ _ => rfl))) (fun _ _ => rfl)) pa_nil))) (pg_tup rfl (pgs_cons (pg_name (i := 7) sc__law_sides.nd rfl (Or.inr rfl)) (pgs_cons (pg_name (i := 8) sc__law_sides.nd rfl (Or.inr rfl)) pgs_nil))))
      (pss_one (ps_set (i := 5) sc__law_sides.nd rfl (Or.inr rfl) (pe_lc (own := [("label", 10)]) rfl sc__law_sides.nd (k_list (K := K) rfl (pv 5)) (blkOk_by (N := ["one", "two", "at", "rest", "shift", "labels", "spot", "kept", "lost", "own", "label"]) (sc := defScope s__law_sides) (by decide +kernel)) (fun _ _ _ _ _ => (pg_name (i := 10) sc__law_sides.nd rfl (Or.inl rfl))) (fun _ _ _ _ _ => pts_nil) (fun _ _ _ _ _ => (pe_ifExp (pt_cmpR op_eq (pv 10) (pv 8) (nomark _)) (pv 7) (pv 10))))))))
      (pss_cons (ps_set (i := 9) sc__law_sides.nd rfl (Or.inr rfl) (pe_ix (k_ixl (K := K) rfl) (pv 5) (pe_ix (k_ixt (K := K) rfl) (pv 0) (pv 2) (fun _ _ => rfl)) (fun _ _ => rfl)))
      (pss_one (ps_ret (pe_tup (pa_cons (pe_callTy (k_tupOf (K := K) rfl) (by rfl) T.tuple (by decide +kernel) (pa_cons (pe_lc (own := [("spot", 6)]) rfl sc__law_sides.nd (k_list (K := K) rfl (pv 3)) (blkOk_by (N := ["one", "two", "at", "rest", "shift", "labels", "spot", "kept", "lost", "own", "label"]) (sc := defScope s__law_sides) (by decide +kernel)) (fun _ _ _ _ _ => (pg_name (i := 6) sc__law_sides.nd rfl (Or.inl rfl))) (fun _ _ _ _ _ => (pts_one (pt_cmpR op_eq (pe_ix (k_ixl (K := K) rfl) (pv 5) (pe_ix (k_ixt (K := K) rfl) (pv 0) (pv 6) (fun _ _ => rfl)) (fun _ _ => rfl)) (pv 9) (nomark _)))) (fun _ _ _ _ _ => (pv 6))) pa_nil)) (pa_cons (pe_callTy (k_tupOf (K := K) rfl) (by rfl) T.tuple (by decide +kernel) (pa_cons (pe_lc (own := [("spot", 6)]) rfl sc__law_sides.nd (k_list (K := K) rfl (pv 3)) (blkOk_by (N := ["one", "two", "at", "rest", "shift", "labels", "spot", "kept", "lost", "own", "label"]) (sc := defScope s__law_sides) (by decide +kernel)) (fun _ _ _ _ _ => (pg_name (i := 6) sc__law_sides.nd rfl (Or.inl rfl))) (fun _ _ _ _ _ => (pts_one (pt_cmpR op_ne (pe_ix (k_ixl (K := K) rfl) (pv 5) (pe_ix (k_ixt (K := K) rfl) (pv 0) (pv 6) (fun _ _ => rfl)) (fun _ _ => rfl)) (pv 9) (nomark _)))) (fun _ _ _ _ _ => (pv 6))) pa_nil)) pa_nil)))))))))), ?_⟩
    have g2 := par.le
    have g3 := bc_ge 0 r
    have g4 := bc_le 0 r
    have g1 := bc_le 0 p
    have g0 := bc_ge 0 p
    refine ⟨_, rfl, a, _, rfl, .inr hp.seq, _, rfl, ?_⟩
    rw [List.length_map]
    refine ⟨by omega, by omega, fun L nL => ?_⟩
    refine lc_range (lo := 0) (n := (((p.length : Nat) : Int)).toNat) (fun k H3 => Same H H3 ∧ H3 L = some (.lst ((restL k d).map V.int))) ⟨same_new nL, upd_same⟩ ?_ ?_
    · rintro i H3 hi ⟨s3, eL⟩
      rw [show (0 : Int) + ((i : Nat) : Int) = ((i : Nat) : Int) by omega]
      refine ⟨rfl, _, rfl, _, rfl, rfl, _, rfl, ?_⟩
      have := restL_len i d
      by_cases c : ((i : Nat) : Int) = d
      · rw [decide_eq_true (congrArg V.int c)]
        refine ⟨s3, ?_⟩
        rw [restL_succ, if_pos c, List.append_nil]
        exact eL
      · rw [decide_eq_false (fun q => c (V.int.inj q))]
        refine ⟨_, rfl, _, eL, ?_, same_mut s3 nL, ?_⟩
        · rw [List.length_map]
          exact small_of (by omega)
        · rw [upd_same, restL_succ, if_neg c, List.map_append]
          rfl
    rintro H3 ⟨s3, eL⟩
    rw [Int.toNat_natCast] at eL
    have rl := restL_len p.length d
    refine ⟨_, rfl, a, p, rfl, (hp.mono s3).seq, par.ne, fun mx hm hle => ⟨_, _, rfl, rfl, ?_⟩⟩
    have e1 := par_max par hm hle
    have rgp := (rg_mem 0 p (Int.le_refl _) par.rg).1
    have rgr := (rg_mem 0 r (Int.le_refl _) parb.rg).1
    have mx0 := rgp mx hm
    refine ⟨_, rfl, _, rfl, b, r, rfl, (hb.mono s3).seq, parb.ne, fun my hm2 hle2 => ?_⟩
    have e2 := par_max parb hm2 hle2
    have my0 := rgr my hm2
    obtain ⟨M, hM⟩ : ∃ M : Nat, mx + 1 + my + 1 = (M : Int) := ⟨(mx + 1 + my + 1).toNat, by omega⟩
    have hrg : rgV 0 (mx + 1 + my + 1) = hv (List.range M) := by rw [hM, rgV_hv]
    refine ⟨_, _, rfl, rfl, _, _, rfl, rfl, mx + 1 + my + 1, rfl, RgOk.of_le (by omega) (by omega) (by omega) (by omega), fun l nl => ?_⟩
    rw [hrg]
    have s4 : Same H3 (upd H3 l (.lst (hv (List.range M)))) := same_new nl
    have e0 : hv (List.range M) = ((List.range M).map fun k => ((k : Nat) : Int)).map V.int := by
      unfold hv
      rw [List.map_map]
      rfl
    have el : (upd H3 l (.lst (hv (List.range M)))) l = some (.lst (((List.range M).map fun k => ((k : Nat) : Int)).map V.int)) := by rw [upd_same, e0]
    have eL4 := s4 _ _ eL
    have s04 := s3.trans s4
    generalize upd H3 l (.lst (hv (List.range M))) = H4 at el eL4 s04
    clear s4 nl hrg e0 eL s3
    refine ⟨_, rfl, L, rfl, ⟨_, sqL eL4⟩, for_list (K := K) (a := L) (xs := (restL p.length d).map V.int)
      (fun i σ H5 => ∃ (l : Addr) (y6 y7 y8 y9 : Option V) (ls : List Int), σ = [some (.ref a), some (.ref b), some (.int d), some (.ref L), some (.int (mx + 1)), some (.ref l), y6, y7, y8, y9, none] ∧ Same H H5 ∧ H5 L = some (.lst ((restL p.length d).map V.int)) ∧
        H5 l = some (.lst (ls.map V.int)) ∧ ls.length = M ∧ ∀ x y, x < M → y < M → (ls.getD x 0 = ls.getD y 0 ↔ glue ((restT p r p.length d).take i) x y))
      ⟨l, _, _, _, _, _, rfl, s04, eL4, el, by rw [List.length_map, List.length_range], fun x y hx hy => ?_⟩ (fun i σ H5 _ ⟨_, _, _, _, _, _, _, _, e5, _⟩ => sqL e5) ?_ ?_⟩
    · have e : ∀ x, x < M → ((List.range M).map fun k => ((k : Nat) : Int)).getD x 0 = (x : Int) := fun x hx => by
        rw [List.getD_eq_getElem?_getD, List.getElem?_map, List.getElem?_range hx]
        rfl
      rw [e x hx, e y hy]
      show _ ↔ x = y
      omega
    · rintro i v σ H5 hi ⟨l, y6, y7, y8, y9, ls, rfl, sm, e5, el, lls, hgl⟩
      obtain ⟨e, he, rfl⟩ := map_at hi
      obtain ⟨en0, en1, ene⟩ := mem_restL.mp (List.mem_of_getElem? he)
      have hx := bk_some en0 en1
      have hy := bk_some (p := r) en0 (by omega)
      have rx := bk_rng par en0 en1
      have ry := bk_rng parb en0 (by omega)
      obtain ⟨kept, hk⟩ := at_some (xs := ls) (i := nA p e) (by unfold nA; omega)
      obtain ⟨lost, hlo⟩ := at_some (xs := ls) (i := nB p r e) (by unfold nB; omega)
      have hp5 := hp.mono sm
      have hb5 := hb.mono sm
      refine ⟨_, rfl, _, rfl, _, rfl, a, _, e, .int (bk p e), rfl, rfl, hp5.seq, atI_of (j := e.toNat) (by omega) (at_map hx), l, _, _, .int kept, rfl, rfl, sqL el, atI_of (j := nA p e) (by unfold nA; omega) (at_map hk), ?_⟩
      refine ⟨_, rfl, _, rfl, _, rfl, _, rfl, b, _, e, .int (bk r e), rfl, rfl, hb5.seq, atI_of (j := e.toNat) (by omega) (at_map hy), _, _, rfl, rfl, l, _, _, .int lost, rfl, rfl, sqL el, atI_of (j := nB p r e) (by unfold nB; omega) (at_map hlo), ?_⟩
      refine ⟨by show 2 ≤ sizeLine; decide, fun T2 nT2 => ?_⟩
      refine ⟨T2, _, rfl, .inl (.inl upd_same), rfl, _, _, rfl, _, [], rfl, rfl, ?_⟩
      have s6 : Same H5 (upd H5 T2 (.tup [.int kept, .int lost])) := same_new nT2
      generalize upd H5 T2 (.tup [.int kept, .int lost]) = H6 at s6
      refine ⟨_, rfl, l, rfl, ⟨_, sqL (s6 _ _ el)⟩, fun G nG => ?_⟩
      have nHG : H G = none := (sm.trans s6).free nG
      refine lc_list (K := K) (a := l) (xs := ls.map V.int) (fun k H9 => Same H6 H9 ∧ H9 G = some (.lst (((ls.take k).map fun z => if z = lost then kept else z).map V.int)))
        ⟨same_new nG, upd_same⟩ (fun k H9 _ ⟨s9, _⟩ => sqL (s9 _ _ (s6 _ _ el))) ?_ ?_
      · rintro k v H9 hk2 ⟨s9, eG⟩
        obtain ⟨y, hy2, rfl⟩ := map_at hk2
        have kl := (List.getElem?_eq_some_iff.mp hy2).1
        have small : (((ls.take k).map fun z => if z = lost then kept else z).map V.int).length < sizeLine := by
          rw [List.length_map, List.length_map, List.length_take]
          exact small_of (by omega)
        refine ⟨rfl, _, rfl, _, rfl, rfl, _, rfl, ?_⟩
        by_cases c2 : y = lost
        · rw [decide_eq_true (congrArg V.int c2)]
          refine ⟨_, rfl, _, eG, small, same_mut s9 nG, ?_⟩
          rw [upd_same, take_snoc hy2, List.map_append, List.map_append]
          show _ = some (HO.lst (_ ++ [V.int (if y = lost then kept else y)]))
          rw [if_pos c2]
        · rw [decide_eq_false (fun q => c2 (V.int.inj q))]
          refine ⟨_, rfl, _, eG, small, same_mut s9 nG, ?_⟩
          rw [upd_same, take_snoc hy2, List.map_append, List.map_append]
          show _ = some (HO.lst (_ ++ [V.int (if y = lost then kept else y)]))
          rw [if_neg c2]
      · rintro H9 ⟨s9, eG⟩
        rw [List.length_map, List.take_length] at eG
        refine ⟨G, _, _, _, _, _, rfl, (sm.trans s6).trans s9, s9 _ _ (s6 _ _ e5), eG, by rw [List.length_map, lls], fun x y hx hy => ?_⟩
        have tk : (restT p r p.length d).take (i + 1) = (restT p r p.length d).take i ++ [(nA p e, nB p r e)] := take_snoc (by unfold restT; exact at_map he)
        rw [tk, glue_snoc]
        have gk : ls.getD (nA p e) 0 = kept := by rw [List.getD_eq_getElem?_getD, hk]; rfl
        have gl : ls.getD (nB p r e) 0 = lost := by rw [List.getD_eq_getElem?_getD, hlo]; rfl
        refine tie_labels (L := fun x => ls.getD x 0) (L' := fun x => (ls.map fun z => if z = lost then kept else z).getD x 0) (S := fun x => x < M) (fun x y hx hy => hgl x y hx hy) (by show nA p e < M; unfold nA; omega) (by show nB p r e < M; unfold nB; omega)
          (fun y hy => ?_) x y hx hy
        show (ls.map fun z => if z = lost then kept else z).getD y 0 = if ls.getD y 0 = ls.getD (nB p r e) 0 then ls.getD (nA p e) 0 else ls.getD y 0
        rw [KM.getD_map _ (by omega), gk, gl]
    · rintro σ H5 ⟨l, y6, y7, y8, y9, ls, rfl, sm, e5, el, lls, hgl⟩
      rw [List.length_map, show (restL p.length d).length = (restT p r p.length d).length by unfold restT; rw [List.length_map], List.take_length] at hgl
      have Gl := glue_eqv (wo p r d.toNat)
      have hx := bk_some d0 d1
      have rd := bk_rng par d0 d1
      obtain ⟨own, ho⟩ := at_some (xs := ls) (i := nA p d) (by unfold nA; omega)
      have go : ls.getD (nA p d) 0 = own := by rw [List.getD_eq_getElem?_getD, ho]; rfl
      refine ⟨_, rfl, _, rfl, _, rfl, a, _, d, .int (bk p d), rfl, rfl, (hp.mono sm).seq, atI_of (j := d.toNat) (by omega) (at_map hx), l, _, _, .int own, rfl, rfl, sqL el, atI_of (j := nA p d) (by unfold nA; omega) (at_map ho), ?_⟩
      refine ⟨_, rfl, L, rfl, ⟨_, sqL e5⟩, fun G nG => ?_⟩
      refine lc_list (K := K) (a := L) (xs := (restL p.length d).map V.int) (fun k H9 => Same H5 H9 ∧ H9 G = some (.lst ((((restL p.length d).take k).filter fun z => decide (ls.getD (nA p z) 0 = own)).map V.int)))
        ⟨same_new nG, upd_same⟩ (fun k H9 _ ⟨s9, _⟩ => sqL (s9 _ _ e5)) ?_ ?_
      · rintro k v H9 hk ⟨s9, eG⟩
        obtain ⟨e, he, rfl⟩ := map_at hk
        obtain ⟨en0, en1, ene⟩ := mem_restL.mp (List.mem_of_getElem? he)
        have kl := (List.getElem?_eq_some_iff.mp he).1
        have rx := bk_rng par en0 en1
        obtain ⟨lb, hlb⟩ := at_some (xs := ls) (i := nA p e) (by unfold nA; omega)
        have gb : ls.getD (nA p e) 0 = lb := by rw [List.getD_eq_getElem?_getD, hlb]; rfl
        have fl : (((restL p.length d).take k).filter fun z => decide (ls.getD (nA p z) 0 = own)).length ≤ ((restL p.length d).take k).length := List.length_filter_le _ _
        rw [List.length_take] at fl
        refine ⟨rfl, _, rfl, _, rfl, _, rfl, a, _, e, .int (bk p e), rfl, rfl, (hp.mono (sm.trans s9)).seq, atI_of (j := e.toNat) (by omega) (at_map (bk_some en0 en1)), l, _, _, .int lb, rfl, rfl, sqL (s9 _ _ el), atI_of (j := nA p e) (by unfold nA; omega) (at_map hlb), _, rfl, rfl, _, rfl, ?_⟩
        by_cases c : lb = own
        · rw [decide_eq_true (congrArg V.int c)]
          refine ⟨_, rfl, _, eG, ?_, same_mut s9 nG, ?_⟩
          · rw [List.length_map]
            exact small_of (by omega)
          · rw [upd_same, filt_snoc he, gb, decide_eq_true c, if_pos rfl, List.map_append]
            rfl
        · rw [decide_eq_false (fun q => c (V.int.inj q))]
          refine ⟨s9, ?_⟩
          rw [filt_snoc he, gb, decide_eq_false c, if_neg (by decide), List.append_nil]
          exact eG
      rintro H9 ⟨s9, eG⟩
      rw [List.length_map, List.take_length] at eG
      refine ⟨G, _, rfl, .inl ⟨sqL eG, fun t0 nt0 => ?_⟩⟩
      have s10 : Same H5 (upd H9 t0 (.tup (((restL p.length d).filter fun z => decide (ls.getD (nA p z) 0 = own)).map V.int))) := s9.trans (same_new nt0)
      have e10 : TI (upd H9 t0 (.tup (((restL p.length d).filter fun z => decide (ls.getD (nA p z) 0 = own)).map V.int))) t0 ((restL p.length d).filter fun z => decide (ls.getD (nA p z) 0 = own)) := upd_same
      generalize upd H9 t0 (.tup (((restL p.length d).filter fun z => decide (ls.getD (nA p z) 0 = own)).map V.int)) = H10 at s10 e10
      clear eG s9 nG nt0 H9 G
      have e5' := s10 _ _ e5
      refine ⟨_, rfl, L, rfl, ⟨_, sqL e5'⟩, fun G nG => ?_⟩
      refine lc_list (K := K) (a := L) (xs := (restL p.length d).map V.int) (fun k H9 => Same H10 H9 ∧ H9 G = some (.lst ((((restL p.length d).take k).filter fun z => !decide (ls.getD (nA p z) 0 = own)).map V.int)))
        ⟨same_new nG, upd_same⟩ (fun k H9 _ ⟨s9, _⟩ => sqL (s9 _ _ e5')) ?_ ?_
      · rintro k v H9 hk ⟨s9, eG⟩
        obtain ⟨e, he, rfl⟩ := map_at hk
        obtain ⟨en0, en1, ene⟩ := mem_restL.mp (List.mem_of_getElem? he)
        have kl := (List.getElem?_eq_some_iff.mp he).1
        have rx := bk_rng par en0 en1
        obtain ⟨lb, hlb⟩ := at_some (xs := ls) (i := nA p e) (by unfold nA; omega)
        have gb : ls.getD (nA p e) 0 = lb := by rw [List.getD_eq_getElem?_getD, hlb]; rfl
        have fl : (((restL p.length d).take k).filter fun z => !decide (ls.getD (nA p z) 0 = own)).length ≤ ((restL p.length d).take k).length := List.length_filter_le _ _
        rw [List.length_take] at fl
        have s59 := s10.trans s9
        refine ⟨rfl, _, rfl, _, rfl, _, rfl, a, _, e, .int (bk p e), rfl, rfl, (hp.mono (sm.trans s59)).seq, atI_of (j := e.toNat) (by omega) (at_map (bk_some en0 en1)), l, _, _, .int lb, rfl, rfl, sqL (s59 _ _ el), atI_of (j := nA p e) (by unfold nA; omega) (at_map hlb), _, rfl, rfl, _, rfl, ?_⟩
        by_cases c : lb = own
        · rw [decide_eq_true (congrArg V.int c)]
          refine ⟨s9, ?_⟩
          rw [filt_snoc he, gb, decide_eq_true c, if_neg (by decide), List.append_nil]
          exact eG
        · rw [decide_eq_false (fun q => c (V.int.inj q))]
          refine ⟨_, rfl, _, eG, ?_, same_mut s9 nG, ?_⟩
          · rw [List.length_map]
            exact small_of (by omega)
          · rw [upd_same, filt_snoc he, gb, decide_eq_false c, if_pos (by decide), List.map_append]
            rfl
      rintro H9 ⟨s9, eG⟩
      rw [List.length_map, List.take_length] at eG
      refine ⟨G, _, rfl, .inl ⟨sqL eG, fun t1 nt1 => ?_⟩⟩
      refine ⟨by show 2 ≤ sizeLine; decide, fun T nT => ?_⟩
      have s11 : Same H9 (upd H9 t1 (.tup (((restL p.length d).filter fun z => !decide (ls.getD (nA p z) 0 = own)).map V.int))) := same_new nt1
      have s12 := s11.trans (same_new (o := .tup [.ref t0, .ref t1]) nT)
      have hM2 : (bc 0 p + bc 0 r).toNat = M := by omega
      have lab : ∀ x : Int, 0 ≤ x → x < p.length → (ls.getD (nA p x) 0 = own ↔ glue (wo p r d.toNat) (nA p d) (nA p x)) := fun x x0 x1 => by
        have rx := bk_rng par x0 x1
        rw [← go, hgl _ _ (by unfold nA; omega) (by unfold nA; omega), rest_glue hl d0]
        exact ⟨Gl.symm _ _, Gl.symm _ _⟩
      obtain ⟨sp1, sp2⟩ := wo_split par parb hl tr d0 d1
      refine q _ T t0 t1 _ ((restL p.length d).filter fun z => !decide (ls.getD (nA p z) 0 = own)) (sm.trans (s10.trans (s9.trans s12))) upd_same ((e10.mono s9).mono s12) ?_ ⟨(restL_up _ _).filter _, fun x => ?_⟩ ⟨(restL_up _ _).filter _, fun x => ?_⟩
      · exact (show TI (upd H9 t1 (.tup (((restL p.length d).filter fun z => !decide (ls.getD (nA p z) 0 = own)).map V.int))) t1 _ from upd_same).mono (same_new nT)
      · rw [List.mem_filter, mem_restL, decide_eq_true_iff]
        constructor
        · rintro ⟨⟨x0, x1, nx⟩, h⟩
          exact ⟨x0, x1, nx, (lab x x0 x1).mp h⟩
        · rintro ⟨x0, x1, nx, h⟩
          exact ⟨⟨x0, x1, nx⟩, (lab x x0 x1).mpr h⟩
      · rw [List.mem_filter, mem_restL, Bool.not_eq_true', decide_eq_false_iff_not]
        constructor
        · rintro ⟨⟨x0, x1, nx⟩, h⟩
          have rx := bk_rng par x0 x1
          refine ⟨x0, x1, nx, ?_⟩
          rcases sp1 (nA p x) (by unfold nA; omega) with g | g
          · exact absurd ((lab x x0 x1).mpr (Gl.symm _ _ g)) h
          · exact Gl.symm _ _ g
        · rintro ⟨x0, x1, nx, h⟩
          exact ⟨⟨x0, x1, nx⟩, fun z => sp2 (Gl.trans _ _ _ ((lab x x0 x1).mp z) (Gl.symm _ _ h))⟩
end
end KQ
namespace KQ
open PySem PySem.Spec PyProof.Rows L2 KR KM StX
/-! rows in a list of rows -/
abbrev tupD (xs : List Int) : PyData := .tuple (xs.map PyData.int)
theorem lay_rows : ∀ xss : List (List Int), PyData.canLayAll0 (xss.map tupD) = true
  | [] => rfl
  | xs :: r => by
    rw [List.map_cons]
    simp only [PyData.canLayAll0, PyData.canLay0, lay0, lay_rows r, Bool.and_self]
theorem depth_rows : ∀ xss : List (List Int), PyData.depthAll (xss.map tupD) ≤ 1
  | [] => Nat.zero_le _
  | xs :: r => by
    rw [List.map_cons]
    have := depth_rows r
    simp only [PyData.depthAll, PyData.depth, depth0]
    omega
theorem shaped_rows (xss : List (List Int)) : SeqAt.shaped (.list (xss.map tupD)) = true := by
  have h1 : PyData.canLay0 (.list (xss.map tupD)) = true := by simp only [PyData.canLay0, lay_rows]
  have h2 : PyData.depth (.list (xss.map tupD)) ≤ 64 := by
    have := depth_rows xss
    simp only [PyData.depth]
    omega
  exact Bool.and_eq_true_iff.mpr ⟨h1, decide_eq_true h2⟩
theorem room65 {k : Nat} {A : Around} (r : Room k A) : A.units + 65 < cLine := by
  have := r.un
  omega
theorem any_rows (xss : List (List Int)) (x : List Int) : ((xss.map tupD).any fun z => PyData.eqv z (tupD x)) = decide (x ∈ xss) := by
  induction xss with
  | nil => rfl
  | cons y r ih =>
    rw [List.map_cons, List.any_cons, ih, show PyData.eqv (tupD y) (tupD x) = decide (y = x) from eqv_ints y x]
    by_cases e : y = x
    · subst e
      simp
    · have e2 : ¬ x = y := fun q => e q.symm
      simp [e, e2]
open Classical in
noncomputable def bsTo (p r : List Int) (d : Int) (j : Nat) : List Int := ((List.range j).map fun b => ((b : Nat) : Int)).filter fun b => decide (b ≠ bk r d ∧ Other p r d b)
open Classical in
theorem bsTo_succ {p r : List Int} {d : Int} (j : Nat) : bsTo p r d (j + 1) = bsTo p r d j ++ if (((j : Nat) : Int) ≠ bk r d ∧ Other p r d ((j : Nat) : Int)) then [((j : Nat) : Int)] else [] := by
  unfold bsTo
  rw [List.range_succ, List.map_append, List.filter_append]
  congr 1
  by_cases c : ((j : Nat) : Int) ≠ bk r d ∧ Other p r d ((j : Nat) : Int)
  · rw [if_pos c, List.map_cons, List.filter_cons, decide_eq_true c]
    rfl
  · rw [if_neg c, List.map_cons, List.filter_cons, decide_eq_false c]
    rfl
open Classical in
theorem mem_bsTo {p r : List Int} {d b : Int} {j : Nat} : b ∈ bsTo p r d j ↔ 0 ≤ b ∧ b < j ∧ b ≠ bk r d ∧ Other p r d b := by
  unfold bsTo
  rw [List.mem_filter, List.mem_map]
  constructor
  · rintro ⟨⟨k, hk, rfl⟩, h⟩
    have := List.mem_range.mp hk
    exact ⟨by omega, by omega, of_decide_eq_true h⟩
  · rintro ⟨h0, h1, h⟩
    exact ⟨⟨b.toNat, List.mem_range.mpr (by omega), by omega⟩, decide_eq_true h⟩
theorem bsTo_len {p r : List Int} {d : Int} (j : Nat) : (bsTo p r d j).length ≤ j := by
  have : (bsTo p r d j).length ≤ ((List.range j).map fun b => ((b : Nat) : Int)).length := List.length_filter_le _ _
  rw [List.length_map, List.length_range] at this
  exact this
theorem new_move {p r : List Int} (par : Par p) (parr : Par r) (hl : p.length = r.length) {i j : Nat} (hi : i < p.length) (nb : ((j : Nat) : Int) ≠ bk r ((i : Nat) : Int)) (ho : Other p r ((i : Nat) : Int) ((j : Nat) : Int)) :
    mv r ((i : Nat) : Int) ((j : Nat) : Int) ∉ movesUp p r i ++ (bsTo p r ((i : Nat) : Int) j).map (mv r ((i : Nat) : Int)) := by
  intro h
  rcases List.mem_append.mp h with h | h
  · obtain ⟨d, b, d0, d1, b0, b1, nb2, ho2, e⟩ := mem_movesUp.mp h
    have := (moves_unlike par parr hl (by omega) (by omega) d0 (by omega) nb nb2 ho e).1
    omega
  · obtain ⟨b, hb, e⟩ := List.mem_map.mp h
    obtain ⟨b0, b1, nb2, ho2⟩ := mem_bsTo.mp hb
    have := (moves_unlike par parr hl (by omega) (by omega) (by omega) (by omega) nb nb2 ho e.symm).2
    omega
section
variable {P : Program} {w : World} {K : PySem.W.Frag} {mg : Str → Option Value} {base : Heap}
theorem ok_lnumU (D : DefAt K mg "_law_numbered" s__law_numbered) (T : Bt mg) : Use P w K mg base "_law_numbered" 1 ["labels"] spNumT := by
  refine use_of D (fun f fd F => F.ok sc__law_numbered (fun vs H Q E h => ?_) (fun cdv A outer s H vs Q E hr h => ?_)) (fun _ _ _ _ _ _ us hl => match us, hl with | [_], _ => rfl)
  · obtain ⟨a, p, rfl, _⟩ := h
    rfl
  · obtain ⟨a, xs, rfl, hp, hl, q⟩ := h
    refine ⟨_, (pss_cons (ps_par (i := 1) (j := 2) rfl sc__law_numbered.nd rfl rfl (by decide) rfl rfl (pa_cons pe_dnewK (pa_cons (pe_lst pa_nil) pa_nil)) (by rfl))
      (pss_cons (ps_for PassesOwn.never rfl (k_tup (K := K) rfl (pv 0)) (pg_name (i := 3) sc__law_numbered.nd rfl (Or.inl rfl))
      (pss_cons (ps_if (pt_cmp (pc_dnotin (hu_of hr) (pv 3) (pv 1))) (pss_one (ps_dput (hu_of hr) (pv 1) (pv 3) (pe_callB call_lenD (by rfl) T.len PySem.boot_len (pa_cons (pv 1) pa_nil)) rfl)) pss_nil)
      (pss_one (ps_expr (k_bm (K := K) rfl PySem.F.plainAttrs_list PySem.F.slot_list_append PySem.F.type_list_append mt_append (pv 2) (pa_cons (pe_dget (hu_of hr) (pv 1) (pv 3) (fun _ _ => rfl)) pa_nil))))))
      (pss_one (ps_ret (pe_callTy (k_tupOf (K := K) rfl) (by rfl) T.tuple (by decide +kernel) (pa_cons (pv 2) pa_nil)))))), ?_⟩
    refine fun d nd => ⟨Nat.zero_le _, fun L nL => ?_⟩
    have s0 : Same H (upd H d (.dK [])) := same_new nd
    have s1 : Same H (upd (upd H d (.dK [])) L (.lst [])) := s0.trans (same_new nL)
    have nL0 : H L = none := s0.free nL
    have ndL : d ≠ L := fun e => by rw [e, upd_same] at nL; cases nL
    refine ⟨_, _, rfl, ?_⟩
    refine ⟨_, rfl, a, rfl, ⟨_, (hp.mono s1).seq⟩, for_tup (K := K) (a := a) (xs := xs.map V.int)
      (fun i σ H1 => ∃ y3, σ = [some (.ref a), some (.ref d), some (.ref L), y3] ∧ Same H H1 ∧ H1 d = some (.dK (dg kI (firsts (xs.take i)))) ∧ H1 L = some (.lst ((num (xs.take i)).map V.int)))
      ⟨none, rfl, s1, ?_, ?_⟩ (fun i σ H1 _ ⟨_, _, sm, _⟩ => (hp.mono sm).seq) ?_ ?_⟩
    · rw [upd_ne ndL, upd_same]
      rfl
    · rw [upd_same]
      rfl
    · rintro i v σ H1 hi ⟨y3, rfl, sm, ed, eL⟩
      obtain ⟨x, hx, rfl⟩ := map_at hi
      have small : ((num (xs.take i)).map V.int).length < sizeLine := by
        rw [List.length_map, num_len, List.length_take]
        exact small_of (by omega)
      have small2 : (dg kI (firsts (xs.take i))).length < sizeLine := by
        rw [dg_len]
        have := firsts_le (xs.take i)
        rw [List.length_take] at this
        exact small_of (by omega)
      by_cases hm : x ∈ firsts (xs.take i)
      · obtain ⟨e1, e2⟩ := num_old hm
        have gv : DGet H1 d (V.int x) (some (V.int (((firsts (xs.take i)).idxOf x : Nat) : Int))) := by
          have := DGet.k (k := kI x) ed
          rw [dg_val kI_inj _ _ (firsts_nodup _), if_pos hm] at this
          exact this
        refine ⟨_, rfl, _, rfl, d, _, rfl, gv, _, rfl, _, rfl, .inl ⟨rfl, _, .inl (.inl eL)⟩, _, rfl, _, rfl, d, _, rfl, gv, L, _, _, rfl, rfl, eL, small, some (.int x), rfl, same_mut sm nL0, ?_, ?_⟩
        · rw [upd_ne ndL, take_snoc hx, e2]
          exact ed
        · rw [upd_same, take_snoc hx, e1, List.map_append]
          rfl
      · obtain ⟨e1, e2⟩ := num_new hm
        have gv : DGet H1 d (V.int x) none := by
          have := DGet.k (k := kI x) ed
          rw [dg_val kI_inj _ _ (firsts_nodup _), if_neg hm] at this
          exact this
        have ed2 : (upd H1 d (.dK (putK (dg kI (firsts (xs.take i))) (kI x) (.int (((firsts (xs.take i)).length : Nat) : Int))))) d = some (.dK (dg kI (firsts (xs.take i) ++ [x]))) := by
          rw [upd_same, dg_put kI_inj _ _ hm]
        have gv2 : DGet (upd H1 d (.dK (putK (dg kI (firsts (xs.take i))) (kI x) (.int (((firsts (xs.take i)).length : Nat) : Int))))) d (V.int x) (some (V.int (((firsts (xs.take i)).length : Nat) : Int))) := by
          have := DGet.k (k := kI x) ed2
          rw [dg_new kI_inj (firsts_nodup _) hm] at this
          exact this
        have eL2 : (upd H1 d (.dK (putK (dg kI (firsts (xs.take i))) (kI x) (.int (((firsts (xs.take i)).length : Nat) : Int))))) L = some (.lst ((num (xs.take i)).map V.int)) := by
          rw [upd_ne ndL.symm]
          exact eL
        refine ⟨_, rfl, _, rfl, d, _, rfl, gv, _, rfl, _, rfl, d, _, rfl, ed, ?_⟩
        rw [dg_len]
        refine ⟨_, rfl, _, rfl, d, _, rfl, DPut.k (k := kI x) ed small2, ?_⟩
        refine ⟨_, rfl, .inl ⟨rfl, _, .inl (.inl eL2)⟩, _, rfl, _, rfl, d, _, rfl, gv2, L, _, _, rfl, rfl, eL2, small, some (.int x), rfl, same_mut (same_mut sm nd) nL0, ?_, ?_⟩
        · rw [upd_ne ndL, ed2, take_snoc hx, e2]
        · rw [upd_same, take_snoc hx, e1, List.map_append]
          rfl
    · rintro σ H1 ⟨y3, rfl, sm, ed, eL⟩
      refine ⟨_, rfl, L, _, rfl, .inl ⟨.inl (.inl eL), fun l hl => ?_⟩⟩
      refine q _ l (sm.trans (same_new hl)) ?_
      show upd H1 l _ l = _
      rw [upd_same, List.length_map, List.take_length]
abbrev s__law_moved : Stmt := topS 46
theorem sc__law_moved : FnScope ["one", "two", "found", "at", "block", "there"] ["one", "two"] (defScope s__law_moved) := ⟨rfl, rfl, rfl, by decide +kernel, rfl, by decide +kernel, by decide +kernel⟩
def spLMoved : Sp := fun vs H Q _ => ∃ (a b : Addr) (p r : List Int), vs = [.ref a, .ref b] ∧ TI H a p ∧ TI H b r ∧ Par p ∧ Par r ∧ p.length = r.length ∧ Tree p r ∧
  ∀ H' (t : Addr) (ts : List Addr) (rows : List (List Int)), Same H H' → H' t = some (.tup (ts.map V.ref)) → Its H' ts rows → Moves p r rows → Q (.ref t) H'
theorem ok_law_moved (D : DefAt K mg "_law_moved" s__law_moved) (T : Bt mg) (u__law_numberedU : Use P w K mg base "_law_numbered" 1 ["labels"] spNumT) (u__law_meet : Use P w K mg base "_law_meet" 2 ["one", "two"] spMeets) :
    Use P w K mg base "_law_moved" 3 ["one", "two"] spLMoved := by
  refine use_of D (fun f fd F => F.ok sc__law_moved (fun vs H Q E h => ?_) (fun cdv A outer s H vs Q E hr h => ?_)) (fun _ _ _ _ _ _ us hl => match us, hl with | [_, _], _ => rfl)
  · obtain ⟨a, b, p, r, rfl, _⟩ := h
    rfl
  · obtain ⟨a, b, p, r, rfl, hp, hb, par, parr, hl, tr, q⟩ := h
    refine ⟨_, (pss_cons (ps_set (i := 2) sc__law_moved.nd rfl (Or.inl rfl) (pe_lst pa_nil))
      (pss_cons (ps_for PassesOwn.never rfl (pi_range1 (by rfl) T.range (pa_cons (pe_callB (k_len (K := K) rfl) (by rfl) T.len PySem.boot_len (pa_cons (pv 1) pa_nil)) pa_nil)) (pg_name (i := 3) sc__law_moved.nd rfl (Or.inl rfl))
      (pss_one (ps_for PassesOwn.never rfl (pi_range1 (by rfl) T.range (pa_cons (pe_op op_add (pe_callB (k_maxT (K := K) rfl rfl hr.units) (by rfl) T.max (by decide +kernel) (pa_cons (pv 1) pa_nil)) pe_int) pa_nil)) (pg_name (i := 4) sc__law_moved.nd rfl (Or.inl rfl))
      (pss_cons (ps_set (i := 5) sc__law_moved.nd rfl (Or.inl rfl) (pe_use u__law_numberedU (by decide) hr (by rfl) (pa_cons (pe_op (k_catA (K := K) rfl) (pe_op (k_catA (K := K) rfl) (pe_slice (k_slA (K := K) rfl) (pv 1) po_none (po_some (pv 3))) (pe_tup (pa_cons (pv 4) pa_nil))) (pe_slice (k_slA (K := K) rfl) (pv 1) (po_some (pe_op op_add (pv 3) pe_int)) po_none)) pa_nil)))
      (pss_one (ps_if (PW.pt (pw_and (pt_cmpR op_ne (pv 4) (pe_ix (k_ixt (K := K) rfl) (pv 1) (pv 3) (fun _ _ => rfl)) (nomark _)) (pw_and (pt_val (pe_use u__law_meet (by decide) hr (by rfl) (pa_cons (pv 0) (pa_cons (pv 5) pa_nil)))) (pw_and1 (pt_cmpR (op_notInD (room65 hr)) (pv 5) (pv 2) (by rfl)))))) (pss_one (ps_expr (k_bm (K := K) rfl PySem.F.plainAttrs_list PySem.F.slot_list_append PySem.F.type_list_append mt_append (pv 2) (pa_cons (pv 5) pa_nil)))) pss_nil))))))
      (pss_one (ps_ret (pe_callTy (k_tupOf (K := K) rfl) (by rfl) T.tuple (by decide +kernel) (pa_cons (pe_callB cr_sortedR (by rfl) T.sorted (by decide +kernel) (pa_cons (pv 2) pa_nil)) pa_nil)))))), ?_⟩
    have g2 := par.le
    have g3 := bc_ge 0 r
    have g4 := bc_le 0 r
    refine ⟨Nat.zero_le _, fun R nR => ?_⟩
    refine ⟨_, rfl, b, _, rfl, .inr (hb.mono (same_new nR)).seq, _, rfl, ?_⟩
    rw [List.length_map]
    refine ⟨by omega, by omega, for_range (lo := 0) (n := (((r.length : Nat) : Int)).toNat)
      (fun i σ H5 => ∃ (y3 y4 y5 : Option V) (ts : List Addr), σ = [some (.ref a), some (.ref b), some (.ref R), y3, y4, y5] ∧ Same H H5 ∧ H5 R = some (.lst (ts.map V.ref)) ∧ Its H5 ts (movesUp p r i))
      ⟨none, none, none, [], rfl, same_new nR, upd_same, Its.nil⟩ ?_ ?_⟩
    · rintro i σ H5 hi ⟨y3, y4, y5, ts, rfl, sm, eR, its⟩
      rw [Int.toNat_natCast] at hi
      rw [show (0 : Int) + ((i : Nat) : Int) = ((i : Nat) : Int) by omega]
      refine ⟨_, rfl, b, r, rfl, (hb.mono sm).seq, parr.ne, fun mx hm hle => ⟨_, _, rfl, rfl, _, rfl, ?_⟩⟩
      have em := par_max parr hm hle
      refine ⟨by omega, by omega, for_range (lo := 0) (n := (mx + 1).toNat)
        (fun j σ H9 => ∃ (y4 y5 : Option V) (ts : List Addr), σ = [some (.ref a), some (.ref b), some (.ref R), some (.int ((i : Nat) : Int)), y4, y5] ∧ Same H H9 ∧ H9 R = some (.lst (ts.map V.ref)) ∧ Its H9 ts (movesUp p r i ++ (bsTo p r ((i : Nat) : Int) j).map (mv r ((i : Nat) : Int))))
        ⟨_, _, ts, rfl, sm, eR, ?_⟩ ?_ ?_⟩
      · rw [show bsTo p r ((i : Nat) : Int) 0 = [] from rfl, List.map_nil, List.append_nil]
        exact its
      · rintro j σ H9 hj ⟨y4, y5, ts, rfl, sm9, eR, its⟩
        rw [show (0 : Int) + ((j : Nat) : Int) = ((j : Nat) : Int) by omega]
        have hb9 := hb.mono sm9
        refine ⟨_, rfl, _, rfl, _, rfl, b, _, rfl, hb9, fun H10 p1 s10 e10 => ?_⟩
        refine ⟨_, rfl, by show 1 ≤ sizeLine; decide, fun T1 nT1 => ?_⟩
        have s11 : Same H10 (upd H10 T1 (.tup [.int ((j : Nat) : Int)])) := same_new nT1
        have c1 : cutV (r.map V.int) none (some ((i : Nat) : Int)) = (r.take i).map V.int := by
          unfold cutV
          rw [HT.sIx_none, HT.sIx_nat, List.length_map, Nat.min_eq_left (by omega), List.drop_zero, Nat.sub_zero, List.map_take]
        rw [c1] at e10
        refine ⟨p1, T1, _, _, rfl, rfl, s11 _ _ e10, upd_same, ?_, fun H12 p2 s12 e12 => ?_⟩
        · rw [List.length_map, List.length_take]
          show min i r.length + 1 ≤ 100000
          omega
        have s912 := s10.trans (s11.trans s12)
        refine ⟨_, rfl, _, rfl, _, _, rfl, rfl, _, rfl, b, _, rfl, hb9.mono s912, fun H13 p3 s13 e13 => ?_⟩
        have c2 : cutV (r.map V.int) (some (((i : Nat) : Int) + 1)) none = (r.drop (i + 1)).map V.int := by
          unfold cutV
          rw [HT.sIx_none, show ((i : Nat) : Int) + 1 = ((i + 1 : Nat) : Int) by omega, HT.sIx_nat, List.length_map, Nat.min_eq_left (by omega), List.map_drop]
          rw [List.take_of_length_le (by rw [List.length_drop, List.length_map]; omega)]
        rw [c2] at e13
        refine ⟨p2, p3, _, _, rfl, rfl, s13 _ _ e12, e13, ?_, fun H14 p4 s14 e14 => ?_⟩
        · rw [List.length_append, List.length_map, List.length_map, List.length_take, List.length_drop]
          show min i r.length + 1 + (r.length - (i + 1)) ≤ 100000
          omega
        have eset : (r.take i).map V.int ++ [V.int ((j : Nat) : Int)] ++ (r.drop (i + 1)).map V.int = (r.set i ((j : Nat) : Int)).map V.int := by
          rw [List.set_eq_take_append_cons_drop, if_pos hi, List.map_append, List.map_cons, List.append_assoc]
          rfl
        rw [eset] at e14
        have s914 := s912.trans (s13.trans s14)
        refine ⟨p4, _, rfl, e14, by rw [List.length_set]; have := parr.le; omega, fun H15 t s15 ht => ?_⟩
        have ht : TI H15 t (mv r ((i : Nat) : Int) ((j : Nat) : Int)) := by
          unfold mv
          rw [Int.toNat_natCast]
          exact ht
        have s915 := sm9.trans (s914.trans s15)
        have eR15 := (s914.trans s15) _ _ eR
        have its15 := its.mono (s914.trans s15)
        have ui := bk_some (p := r) (d := ((i : Nat) : Int)) (by omega) (by omega)
        rw [Int.toNat_natCast] at ui
        have stop : ((j : Nat) : Int) = bk r ((i : Nat) : Int) ∨ ¬ Other p r ((i : Nat) : Int) ((j : Nat) : Int) → bsTo p r ((i : Nat) : Int) (j + 1) = bsTo p r ((i : Nat) : Int) j := fun h => by
          rw [bsTo_succ, if_neg (fun z => h.elim (fun e => z.1 e) (fun e => e z.2)), List.append_nil]
        refine ⟨_, rfl, _, rfl, _, rfl, b, _, _, .int (bk r ((i : Nat) : Int)), rfl, rfl, (hb.mono s915).seq, atI_of (j := i) rfl (at_map ui), rfl, _, rfl, ?_⟩
        by_cases nb : ((j : Nat) : Int) = bk r ((i : Nat) : Int)
        · rw [decide_eq_true (congrArg V.int nb)]
          refine ⟨_, _, ts, rfl, s915, eR15, ?_⟩
          rw [stop (.inl nb)]
          exact its15
        rw [decide_eq_false (fun q => nb (V.int.inj q))]
        have hj2 : ((j : Nat) : Int) < bc 0 r := by omega
        refine ⟨_, rfl, _, rfl, a, t, p, _, rfl, hp.mono s915, ht, par, mv_par parr, by rw [mv_len, hl], fun H16 c s16 hc => ⟨c, rfl, ?_⟩⟩
        have mi := move_iff par parr hl tr (d := ((i : Nat) : Int)) (b := ((j : Nat) : Int)) (by omega) (by omega) (by omega) hj2 nb
        have s916 := s915.trans s16
        cases c with
        | false =>
          refine ⟨_, _, ts, rfl, s916, s16 _ _ eR15, ?_⟩
          rw [stop (.inr fun ho => absurd (hc.mpr (mi.mpr ho)) (by decide))]
          exact its15.mono s16
        | true =>
          have ho := mi.mp (hc.mp rfl)
          have its16 := its15.mono s16
          have eR16 := s16 _ _ eR15
          refine ⟨_, rfl, _, rfl, tupD (mv r ((i : Nat) : Int) ((j : Nat) : Int)), _, dp_ti (ht.mono s16), .lst (sqL eR16) (dp_its its16), shaped_intsW _, shaped_rows _, _, rfl, ?_⟩
          rw [any_rows, decide_eq_false (new_move par parr hl (by omega) nb ho)]
          refine ⟨_, rfl, .inl ⟨rfl, _, .inl (.inl eR16)⟩, _, rfl, R, _, _, rfl, rfl, eR16, ?_, _, _, ts ++ [t], rfl, same_mut s916 nR, ?_, ?_⟩
          · have h1 := its.1
            have h2 := movesUp_len (p := p) (r := r) i
            have h3 := bsTo_len (p := p) (r := r) (d := ((i : Nat) : Int)) j
            rw [List.length_append, List.length_map] at h1
            rw [List.length_map]
            have h4 : i * r.length ≤ 60 * 60 := Nat.mul_le_mul (by omega) (by omega)
            exact Nat.lt_of_le_of_lt (show ts.length ≤ 4000 by omega) (by decide)
          · rw [upd_same, List.map_append]
            rfl
          · rw [bsTo_succ, if_pos ⟨nb, ho⟩, List.map_append, ← List.append_assoc]
            exact (its16.put eR16).app (Its.one (show TI _ t _ from by
              have ht16 : H16 t = some (.tup _) := ht.mono s16
              show upd H16 R _ t = _
              rw [upd_ne (fun e => by rw [← e, ht16] at eR16; cases eR16)]
              exact ht16))
      · rintro σ H9 ⟨y4, y5, ts, rfl, sm9, eR, its⟩
        refine ⟨_, _, _, ts, rfl, sm9, eR, ?_⟩
        rw [movesUp_succ, show bsOf p r ((i : Nat) : Int) = bsTo p r ((i : Nat) : Int) (mx + 1).toNat by rw [em]; rfl]
        exact its
    · rintro σ H5 ⟨y3, y4, y5, ts, rfl, sm, eR, its⟩
      rw [Int.toNat_natCast, ← hl] at its
      refine ⟨_, rfl, R, ts, _, rfl, sqL eR, its, ?_, fun ts' rows' l2 pm up its' nl2 => ?_⟩
      · intro x hx
        obtain ⟨d, b', d0, d1, b0, b1, nb, ho, rfl⟩ := mem_movesUp.mp hx
        exact fun e => by
          have := congrArg List.length e
          rw [mv_len, ← hl] at this
          exact par.ne (List.length_eq_zero_iff.mp this)
      refine ⟨l2, _, rfl, .inl ⟨sqL upd_same, fun t nt => ?_⟩⟩
      have s9 := (same_new (H := H5) (o := .lst (ts'.map V.ref)) nl2).trans (same_new (o := .tup (ts'.map V.ref)) nt)
      exact q _ t ts' rows' (sm.trans s9) upd_same (its'.mono s9) ⟨pm, up⟩
end
end KQ
namespace KQ
open PySem PySem.Spec PyProof.Rows L2 KR KM StX
def dueOf (p : List Int) : List (List Int) := (allP (p.length - 1)).filter (treeB p)
theorem mem_due {p : List Int} (par : Par p) {q : List Int} : q ∈ dueOf p ↔ Par q ∧ q.length = p.length ∧ Tree p q := by
  have pos := List.length_pos_iff.mpr par.ne
  unfold dueOf
  rw [List.mem_filter]
  constructor
  · rintro ⟨h1, h2⟩
    obtain ⟨h3, h4⟩ := allP_ok _ q h1
    have e : q.length = p.length := by omega
    exact ⟨⟨fun z => par.ne (by rw [z] at e; exact List.length_eq_zero_iff.mp e.symm), by have := par.le; omega, h3⟩, e, (treeB_ok par.rg h3).mp h2⟩
  · rintro ⟨h3, h4, h2⟩
    exact ⟨allP_all _ q h3.rg (by omega), (treeB_ok par.rg h3.rg).mpr h2⟩
theorem due_up {p : List Int} (par : Par p) (h5 : p.length ≤ 5) : (dueOf p).Pairwise fun x y => HT.lexLt x y = true := by
  have pos := List.length_pos_iff.mpr par.ne
  exact (allP_up ⟨p.length - 1, by omega⟩).filter _
theorem due_nodup {p : List Int} (par : Par p) (h5 : p.length ≤ 5) : (dueOf p).Nodup := (due_up par h5).imp fun {x y} h e => by
  subst e
  have := lex_asym x x h
  rw [h] at this
  cases this
theorem moves_mem {p r : List Int} (par : Par p) (parr : Par r) (hl : p.length = r.length) (tr : Tree p r) {rows : List (List Int)} (h : Moves p r rows) {y : List Int} : y ∈ rows ↔ Step p r y := by
  rw [h.1.mem_iff, mem_movesUp]
  constructor
  · rintro ⟨d, b, d0, d1, b0, b1, nb, ho, rfl⟩
    exact ⟨d, b, d0, by omega, b0, b1, nb, rfl, (move_iff par parr hl tr d0 d1 b0 b1 nb).mpr ho⟩
  · rintro ⟨d, b, d0, d1, b0, b1, nb, rfl, t⟩
    exact ⟨d, b, d0, by omega, b0, b1, nb, (move_iff par parr hl tr d0 (by omega) b0 b1 nb).mp t, rfl⟩
/-- found so far, the first n of them done -/
structure Found (p r : List Int) (fs : List (List Int)) (n : Nat) : Prop where
  nd : fs.Nodup
  sub : ∀ x ∈ fs, x ∈ dueOf p
  has : r ∈ fs
  cl : ∀ (k : Nat) (x y : List Int), k < n → fs[k]? = some x → Step p x y → y ∈ fs
theorem found_all {p r : List Int} (par : Par p) (parr : Par r) (hl : p.length = r.length) (h5 : p.length ≤ 5) (tr : Tree p r) {fs : List (List Int)} {n : Nat} (F : Found p r fs n) (hn : fs.length ≤ n) : fs.Perm (dueOf p) := by
  refine (List.perm_ext_iff_of_nodup F.nd (due_nodup par h5)).mpr fun q => ⟨F.sub q, fun hq => ?_⟩
  obtain ⟨q1, q2, q3⟩ := (mem_due par).mp hq
  refine all_reached par parr hl h5 tr (S := fun x => x ∈ fs) F.has (fun x y _ _ _ hx st => ?_) q q1 q2 q3
  obtain ⟨k, hk⟩ := List.mem_iff_getElem?.mp hx
  exact F.cl k x y (by have := (List.getElem?_eq_some_iff.mp hk).1; omega) hk st
theorem eqv_rows : ∀ xss : List (List Int), PyData.eqvAll (xss.map tupD) (xss.map tupD) = true
  | [] => rfl
  | xs :: r => by
    rw [List.map_cons]
    show (PyData.eqv (tupD xs) (tupD xs) && PyData.eqvAll (r.map tupD) (r.map tupD)) = true
    rw [eqv_rows r, show PyData.eqv (tupD xs) (tupD xs) = decide (xs = xs) from eqv_ints xs xs]
    simp
section
variable {P : Program} {w : World} {K : PySem.W.Frag} {mg : Str → Option Value} {base : Heap}
abbrev s__law_all_reached : Stmt := topS 47
theorem sc__law_all_reached : FnScope ["one", "two", "due", "found", "n", "row"] ["one", "two"] (defScope s__law_all_reached) := ⟨rfl, rfl, rfl, by decide +kernel, rfl, by decide +kernel, by decide +kernel⟩
def spReached : Sp := fun vs H Q _ => ∃ (a b : Addr) (p r : List Int), vs = [.ref a, .ref b] ∧ TI H a p ∧ TI H b r ∧ Par p ∧ Par r ∧ p.length = r.length ∧ p.length ≤ 5 ∧ Tree p r ∧ ∀ H', Same H H' → Q (.bl true) H'
theorem ok_all_reached (D : DefAt K mg "_law_all_reached" s__law_all_reached) (T : Bt mg) (u__law_partings : Use P w K mg base "_law_partings" 1 ["many"] spLParts) (u__law_meet : Use P w K mg base "_law_meet" 2 ["one", "two"] spMeets)
    (u_moves : Use P w K mg base "moves" 7 ["parting", "other"] spMoves) : Use P w K mg base "_law_all_reached" 8 ["one", "two"] spReached := by
  refine use_of D (fun f fd F => F.ok sc__law_all_reached (fun vs H Q E h => ?_) (fun cdv A outer s H vs Q E hr h => ?_)) (fun _ _ _ _ _ _ us hl => match us, hl with | [_, _], _ => rfl)
  · obtain ⟨a, b, p, r, rfl, _⟩ := h
    rfl
  · obtain ⟨a, b, p, r, rfl, hp, hb, par, parr, hl, h5, tr, q⟩ := h
    refine ⟨_, (pss_cons (ps_setLc (i := 2) (own := [("row", 5)]) rfl sc__law_all_reached.nd rfl rfl (sw_true rfl rfl rfl (by decide +kernel)) (k_list (K := K) rfl (pe_use u__law_partings (by decide) hr (by rfl) (pa_cons (pe_callB (k_len (K := K) rfl) (by rfl) T.len PySem.boot_len (pa_cons (pv 0) pa_nil)) pa_nil))) (blkOk_by (N := ["one", "two", "due", "found", "n", "row"]) (sc := defScope s__law_all_reached) (by decide +kernel)) (fun _ _ _ _ _ => (pg_name (i := 5) sc__law_all_reached.nd rfl (Or.inl rfl))) (fun _ _ _ _ _ => (pts_one (pt_val (pe_use u__law_meet (by decide) hr (by rfl) (pa_cons (pv 0) (pa_cons (pv 5) pa_nil)))))) (fun _ _ _ _ _ => (pv 5)))
      (pss_cons (ps_set (i := 3) sc__law_all_reached.nd rfl (Or.inl rfl) (pe_lst (pa_cons (pv 1) pa_nil)))
      (pss_cons (ps_for PassesOwn.never rfl (pi_range1 (by rfl) T.range (pa_cons (pe_callB (k_len (K := K) rfl) (by rfl) T.len PySem.boot_len (pa_cons (pv 2) pa_nil)) pa_nil)) (pg_name (i := 4) sc__law_all_reached.nd rfl (Or.inl rfl))
      (pss_cons (ps_if (pt_cmpR op_eq (pv 4) (pe_callB (k_len (K := K) rfl) (by rfl) T.len PySem.boot_len (pa_cons (pv 3) pa_nil)) (nomark _)) (pss_one ps_break) pss_nil)
      (pss_one (ps_for PassesOwn.never rfl (k_tup (K := K) rfl (pe_use u_moves (by decide) hr (by rfl) (pa_cons (pv 0) (pa_cons (pe_ix (k_ixl (K := K) rfl) (pv 3) (pv 4) (fun _ _ => rfl)) pa_nil)))) (pg_name (i := 5) sc__law_all_reached.nd rfl (Or.inl rfl))
      (pss_cons (ps_if (pt_cmpR (op_notInD (room65 hr)) (pv 5) (pv 2) (by rfl)) (pss_one (ps_ret pe_bl)) pss_nil)
      (pss_one (ps_if (pt_cmpR (op_notInD (room65 hr)) (pv 5) (pv 3) (by rfl)) (pss_one (ps_expr (k_bm (K := K) rfl PySem.F.plainAttrs_list PySem.F.slot_list_append PySem.F.type_list_append mt_append (pv 3) (pa_cons (pv 5) pa_nil)))) pss_nil)))))))
      (pss_one (ps_ret (pe_cmpR (k_eqD (K := K) rfl hr.units) (pe_callB cr_sortedR (by rfl) T.sorted (by decide +kernel) (pa_cons (pv 3) pa_nil)) (pv 2) (nomark _))))))), ?_⟩
    have pos := List.length_pos_iff.mpr par.ne
    refine ⟨_, rfl, a, _, rfl, .inr hp.seq, p.length - 1, ?_, by omega, fun H1 l s1 ⟨ts, el, its⟩ => ?_⟩
    · rw [List.length_map, show p.length - 1 + 1 = p.length by omega]
      rfl
    refine ⟨l, rfl, ⟨_, sqL el⟩, fun L nL => ?_⟩
    have nHL : H L = none := s1.free nL
    refine lc_list (K := K) (a := l) (xs := ts.map V.ref) (fun k H3 => Same H1 H3 ∧ ∃ us : List Addr, H3 L = some (.lst (us.map V.ref)) ∧ Its H3 us (((allP (p.length - 1)).take k).filter (treeB p)))
      ⟨same_new nL, [], upd_same, Its.nil⟩ (fun k H3 _ ⟨s3, _⟩ => sqL (s3 _ _ el)) ?_ ?_
    · rintro k v H3 hk ⟨s3, us, eL, it⟩
      obtain ⟨t, ht, rfl⟩ := map_at hk
      obtain ⟨row, hrow, et⟩ := its.2 k t ht
      obtain ⟨rg, rl⟩ := allP_ok _ row (List.mem_of_getElem? hrow)
      have rne : row ≠ [] := fun e => by rw [e] at rl; cases rl
      have rpar : Par row := ⟨rne, by omega, rg⟩
      have hcnt : (allP (p.length - 1)).length ≤ 4140 := allP_count ⟨p.length - 1, by omega⟩
      have fl : (((allP (p.length - 1)).take k).filter (treeB p)).length ≤ ((allP (p.length - 1)).take k).length := List.length_filter_le _ _
      rw [List.length_take] at fl
      have tk : ((allP (p.length - 1)).take (k + 1)).filter (treeB p) = ((allP (p.length - 1)).take k).filter (treeB p) ++ if treeB p row = true then [row] else [] := by
        rw [take_snoc hrow, List.filter_append]
        congr 1
        rw [List.filter_cons]
        rfl
      refine ⟨rfl, _, rfl, _, rfl, a, t, p, row, rfl, hp.mono (s1.trans s3), et.mono s3, par, rpar, by omega, fun H4 c s4 hc => ⟨c, rfl, ?_⟩⟩
      have tb := treeB_ok par.rg rg
      cases c with
      | true =>
        have eL4 := s4 _ _ eL
        refine ⟨_, rfl, _, eL4, ?_, same_mut (s3.trans s4) nL, us ++ [t], ?_, ?_⟩
        · rw [List.length_map, it.1]
          exact Nat.lt_of_le_of_lt (show _ ≤ 4140 by omega) (by decide)
        · rw [upd_same, List.map_append]
          rfl
        · rw [tk, if_pos (tb.mpr (hc.mp rfl))]
          exact ((it.mono s4).put eL4).app (Its.one (show TI _ t _ from by
            have ht4 : H4 t = some (.tup _) := (et.mono s3).mono s4
            show upd H4 L _ t = _
            rw [upd_ne (fun e => by rw [← e, ht4] at eL4; cases eL4)]
            exact ht4))
      | false =>
        refine ⟨s3.trans s4, us, s4 _ _ eL, ?_⟩
        rw [tk, if_neg (fun z => by have := hc.mpr (tb.mp z); cases this), List.append_nil]
        exact it.mono s4
    rintro H3 ⟨s3, us, eL, it⟩
    rw [List.length_map, its.1, List.take_length] at it
    have s13 := s1.trans s3
    have it : Its H3 us (dueOf p) := it
    refine ⟨_, rfl, by show 1 ≤ sizeLine; decide, fun F nF => ?_⟩
    have nHF : H F = none := s13.free nF
    have s4 : Same H3 (upd H3 F (.lst [.ref b])) := same_new nF
    have dueLex : (dueOf p).Pairwise fun x y => HT.lexLt y x = false := (due_up par h5).imp fun {x y} h => lex_asym _ _ h
    have dlen : (dueOf p).length ≤ 4140 := Nat.le_trans (List.length_filter_le _ _) (allP_count ⟨p.length - 1, by omega⟩)
    have LF : L ≠ F := fun e => by rw [e] at eL; rw [eL] at nF; cases nF
    refine ⟨_, rfl, L, _, rfl, .inl (sqL (s4 _ _ eL)), ?_⟩
    rw [List.length_map, it.1]
    refine ⟨_, rfl, by omega, by omega, for_range (lo := 0) (n := ((((dueOf p).length : Nat) : Int)).toNat)
      (fun i σ H5 => ∃ (y4 y5 : Option V) (us2 : List Addr) (fs : List (List Int)), σ = [some (.ref a), some (.ref b), some (.ref L), some (.ref F), y4, y5] ∧ Same H H5 ∧ H5 F = some (.lst (us2.map V.ref)) ∧ Its H5 us2 fs ∧ H5 L = some (.lst (us.map V.ref)) ∧ Its H5 us (dueOf p) ∧ Found p r fs i ∧ i ≤ fs.length)
      ⟨_, _, [b], [r], rfl, s13.trans s4, upd_same, Its.one ((hb.mono s13).mono s4), s4 _ _ eL, it.mono s4, ⟨by simp, fun x hx => ?_, List.mem_singleton.mpr rfl, fun k x y hk => absurd hk (Nat.not_lt_zero _)⟩, Nat.zero_le _⟩ ?_ ?_⟩
    · rw [List.mem_singleton.mp hx]
      exact (mem_due par).mpr ⟨parr, hl.symm, tr⟩
    · rintro i σ H5 hi ⟨y4, y5, us2, fs, rfl, sm, eF, it2, eL5, itd, Fd, ile⟩
      rw [Int.toNat_natCast] at hi
      rw [show (0 : Int) + ((i : Nat) : Int) = ((i : Nat) : Int) by omega]
      refine ⟨_, rfl, _, rfl, F, _, rfl, .inl (sqL eF), rfl, _, rfl, ?_⟩
      rw [List.length_map, it2.1]
      by_cases e : i = fs.length
      · rw [decide_eq_true (congrArg V.int (by omega))]
        have hperm := found_all par parr hl h5 tr Fd (by omega)
        refine ⟨_, rfl, F, us2, fs, rfl, sqL eF, it2, fun x hx e => ((mem_due par).mp (Fd.sub x hx)).1.ne e, fun ts' rows' l2 pm up its' nl2 => ?_⟩
        have sn := same_new (H := H5) (o := .lst (ts'.map V.ref)) nl2
        refine ⟨_, rfl, .list (rows'.map tupD), .list ((dueOf p).map tupD), .lst (sqL upd_same) (dp_its (its'.mono sn)), .lst (sqL (sn _ _ eL5)) (dp_its (itd.mono sn)), shaped_rows _, shaped_rows _, ?_⟩
        rw [rows_uniq (pm.trans hperm) up dueLex, show PyData.eqv (.list ((dueOf p).map tupD)) (.list ((dueOf p).map tupD)) = true from eqv_rows _]
        exact q _ (sm.trans sn)
      rw [decide_eq_false (fun z => e (by have := V.int.inj z; omega))]
      obtain ⟨x, hx⟩ := at_some (xs := fs) (i := i) (by omega)
      obtain ⟨t, ht⟩ := at_some (xs := us2) (i := i) (by have := it2.1; omega)
      obtain ⟨x', hx', tx⟩ := it2.2 i t ht
      rw [hx] at hx'
      obtain rfl := Option.some.inj hx'
      obtain ⟨px, lx, trx⟩ := (mem_due par).mp (Fd.sub x (List.mem_of_getElem? hx))
      refine ⟨_, rfl, _, rfl, _, rfl, F, _, _, .ref t, rfl, rfl, sqL eF, atI_of (j := i) rfl (at_map ht), a, t, p, x, rfl, hp.mono sm, tx, par, px, lx.symm, fun H6 v s6 hv => ?_⟩
      rcases hv with ⟨_, h⟩ | ⟨tm, tsm, rows, rfl, etm, itm, _, mvs⟩
      · exact absurd trx h
      have mm := fun y => moves_mem par px lx.symm trx mvs (y := y)
      have sm6 := sm.trans s6
      refine ⟨tm, rfl, ⟨_, sqT etm⟩, for_tup (K := K) (a := tm) (xs := tsm.map V.ref)
        (fun j σ H7 => ∃ (y5 : Option V) (us2 : List Addr) (ex : List (List Int)), σ = [some (.ref a), some (.ref b), some (.ref L), some (.ref F), some (.int ((i : Nat) : Int)), y5] ∧ Same H H7 ∧ H7 tm = some (.tup (tsm.map V.ref)) ∧ Its H7 tsm rows ∧ H7 F = some (.lst (us2.map V.ref)) ∧ Its H7 us2 (fs ++ ex) ∧ H7 L = some (.lst (us.map V.ref)) ∧ Its H7 us (dueOf p) ∧
          (fs ++ ex).Nodup ∧ (∀ x ∈ ex, x ∈ dueOf p) ∧ ∀ (j' : Nat) (y : List Int), j' < j → rows[j']? = some y → y ∈ fs ++ ex)
        ⟨_, us2, [], rfl, sm6, etm, itm, s6 _ _ eF, by rw [List.append_nil]; exact it2.mono s6, s6 _ _ eL5, itd.mono s6, by rw [List.append_nil]; exact Fd.nd, (fun x hx => by cases hx), fun j' y hj => absurd hj (Nat.not_lt_zero _)⟩
        (fun j σ H7 _ ⟨_, _, _, _, _, e7, _⟩ => sqT e7) ?_ ?_⟩
      · rintro j v σ H7 hj ⟨y5, us3, ex, rfl, sm7, etm7, itm7, eF7, it7, eL7, itd7, nd7, sub7, ok7⟩
        obtain ⟨u, hu, rfl⟩ := map_at hj
        obtain ⟨y, hy, tu⟩ := itm7.2 j u hu
        have st := (mm y).mp (List.mem_of_getElem? hy)
        have yd : y ∈ dueOf p := by
          obtain ⟨d, b', _, _, _, _, _, rfl, ty⟩ := st
          exact (mem_due par).mpr ⟨mv_par px, by rw [mv_len, lx], ty⟩
        refine ⟨_, rfl, _, rfl, tupD y, _, dp_ti tu, .lst (sqL eL7) (dp_its itd7), shaped_intsW _, shaped_rows _, _, rfl, ?_⟩
        rw [any_rows, decide_eq_true yd]
        refine ⟨_, rfl, _, rfl, tupD y, _, dp_ti tu, .lst (sqL eF7) (dp_its it7), shaped_intsW _, shaped_rows _, _, rfl, ?_⟩
        rw [any_rows]
        by_cases hm : y ∈ fs ++ ex
        · rw [decide_eq_true hm]
          refine ⟨_, us3, ex, rfl, sm7, etm7, itm7, eF7, it7, eL7, itd7, nd7, sub7, fun j' z hj' hz => ?_⟩
          by_cases ej : j' = j
          · rw [ej, hy] at hz
            obtain rfl := Option.some.inj hz
            exact hm
          · exact ok7 j' z (by omega) hz
        · rw [decide_eq_false hm]
          have tmF : tm ≠ F := fun e => by rw [e, eF7] at etm7; cases etm7
          refine ⟨_, rfl, .inl ⟨rfl, _, .inl (.inl eF7)⟩, _, rfl, F, _, _, rfl, rfl, eF7, ?_, _, us3 ++ [u], ex ++ [y], rfl, same_mut sm7 nHF, ?_, itm7.put eF7, ?_, ?_, ?_, itd7.put eF7, ?_, fun z hz => ?_, fun j' z hj' hz => ?_⟩
          · have h1 := it7.1
            have h2 : (fs ++ ex).length ≤ (dueOf p).length := sub_len nd7 fun z hz => (List.mem_append.mp hz).elim (Fd.sub z) (sub7 z)
            rw [List.length_map, h1]
            exact Nat.lt_of_le_of_lt (show (fs ++ ex).length ≤ 4140 by omega) (by decide)
          · rw [upd_ne tmF]
            exact etm7
          · rw [upd_same, List.map_append]
            rfl
          · rw [← List.append_assoc]
            exact (it7.put eF7).app (Its.one (show TI _ u _ from by
              have tu' : H7 u = some (.tup _) := tu
              show upd H7 F _ u = _
              rw [upd_ne (fun e => by rw [← e, tu'] at eF7; cases eF7)]
              exact tu'))
          · rw [upd_ne LF]
            exact eL7
          · rw [← List.append_assoc, List.nodup_append]
            exact ⟨nd7, by simp, fun u hu v hv e => hm (by rw [← List.mem_singleton.mp hv, ← e]; exact hu)⟩
          · rcases List.mem_append.mp hz with h | h
            · exact sub7 z h
            · rw [List.mem_singleton.mp h]
              exact yd
          · rw [← List.append_assoc]
            by_cases ej : j' = j
            · rw [ej, hy] at hz
              obtain rfl := Option.some.inj hz
              exact List.mem_append_right _ (List.mem_singleton.mpr rfl)
            · exact List.mem_append_left _ (ok7 j' z (by omega) hz)
      · rintro σ H7 ⟨y5, us3, ex, rfl, sm7, etm7, itm7, eF7, it7, eL7, itd7, nd7, sub7, ok7⟩
        rw [List.length_map, itm7.1] at ok7
        have fpos := (List.getElem?_eq_some_iff.mp hx).1
        refine ⟨_, _, us3, fs ++ ex, rfl, sm7, eF7, it7, eL7, itd7, ⟨nd7, fun z hz => (List.mem_append.mp hz).elim (Fd.sub z) (sub7 z), List.mem_append_left _ Fd.has, fun k z y hk hz st => ?_⟩, by rw [List.length_append]; omega⟩
        rw [List.getElem?_append_left (by omega)] at hz
        by_cases ek : k = i
        · rw [ek, hx] at hz
          obtain rfl := Option.some.inj hz
          obtain ⟨j, hj⟩ := List.mem_iff_getElem?.mp ((mm y).mpr st)
          exact ok7 j y (List.getElem?_eq_some_iff.mp hj).1 hj
        · exact List.mem_append_left _ (Fd.cl k z y (by omega) hz st)
    · rintro σ H5 ⟨y4, y5, us2, fs, rfl, sm, eF, it2, eL5, itd, Fd, ile⟩
      rw [Int.toNat_natCast] at Fd ile
      have hperm := found_all par parr hl h5 tr Fd (sub_len Fd.nd Fd.sub)
      refine ⟨_, rfl, F, us2, fs, rfl, sqL eF, it2, fun x hx e => ((mem_due par).mp (Fd.sub x hx)).1.ne e, fun ts' rows' l2 pm up its' nl2 => ?_⟩
      have sn := same_new (H := H5) (o := .lst (ts'.map V.ref)) nl2
      refine ⟨_, rfl, .list (rows'.map tupD), .list ((dueOf p).map tupD), .lst (sqL upd_same) (dp_its (its'.mono sn)), .lst (sqL (sn _ _ eL5)) (dp_its (itd.mono sn)), shaped_rows _, shaped_rows _, ?_⟩
      rw [rows_uniq (pm.trans hperm) up dueLex, show PyData.eqv (.list ((dueOf p).map tupD)) (.list ((dueOf p).map tupD)) = true from eqv_rows _]
      exact q _ (sm.trans sn)
end
end KQ
namespace KQ
open PySem PySem.Spec PyProof.Rows L2 KR KM StX
section
variable {P : Program} {w : World} {K : PySem.W.Frag} {mg : Str → Option Value} {base : Heap}
abbrev s_law : Stmt := topS 48
theorem sc_law : FnScope ["script", "m", "many", "first", "second", "begin", "end", "many_moves", "at", "there", "behind", "told", "few", "small", "other", "spot", "n", "block"] ["script"] (defScope s_law) := ⟨rfl, rfl, rfl, by decide +kernel, rfl, by decide +kernel, by decide +kernel⟩
/-- what law calls -/
structure Calls (P : Program) (w : World) (K : PySem.W.Frag) (mg : Str → Option Value) (base : Heap) : Prop where
  begun : Use P w K mg base "_law_begun" 2 ["script"] (spBegun K)
  draw : Use P w K mg base "_law_draw" 2 ["m", "limit"] spDraw
  any : Use P w K mg base "_law_any_parting" 3 ["m", "many"] spAny
  met : Use P w K mg base "_law_met" 4 ["m", "parting"] spMetT
  lmeet : Use P w K mg base "_law_meet" 2 ["one", "two"] spMeets
  like : UseG P w K mg base "_law_like" 1 ["got", "due"] (spLike K)
  way : Use P w K mg base "way" 7 ["parting", "other", "door", "other_door"] spWay
  sides : Use P w K mg base "sides" 7 ["parting", "other", "door"] spSides
  moves : Use P w K mg base "moves" 7 ["parting", "other"] spMoves
  lsides : Use P w K mg base "_law_sides" 1 ["one", "two", "at"] spLSides
  isway : Use P w K mg base "_law_is_way" 2 ["one", "two", "row", "begin", "end"] spIsWay
  lmoved : Use P w K mg base "_law_moved" 3 ["one", "two"] spLMoved
  reached : Use P w K mg base "_law_all_reached" 8 ["one", "two"] spReached
def spLaw (K : PySem.W.Frag) : Sp := fun vs H Q _ => ∃ (a : Addr) (ns : List Int), vs = [.ref a] ∧ SqL K H a (ns.map V.int) ∧ ns.length ≤ 63 ∧ ∀ H', Q (.bl true) H'
theorem moves_one {p r : List Int} {xs ys : List (List Int)} (h : Moves p r xs) (g : Moves p r ys) : xs = ys := rows_uniq (h.1.trans g.1.symm) h.2 g.2
theorem nc_non : Nc 0 0 .none := ⟨rfl, rfl, Nat.le_refl _, rfl, Nat.le_refl _⟩
/-- the context of law's own lines -/
abbrev LX (P : Program) (w : World) (K : PySem.W.Frag) (mg : Str → Option Value) (base : Heap) (f : Addr) (cdv : Value) (A : Around) (outer : List Env) (s : Shared) (H : Hp) (E : XK) : Cx :=
  (cxOf CX0 P w K mg base ["script", "m", "many", "first", "second", "begin", "end", "many_moves", "at", "there", "behind", "told", "few", "small", "other", "spot", "n", "block"] "law" (defScope s_law) f cdv A outer s H E).nox
variable {f : Addr} {cdv : Value} {A : Around} {outer : List Env} {s : Shared} {H0 : Hp} {E : XK}
theorem lawC (T : Bt mg) (C : Calls P w K mg base) (gd : (A.deeper (envOfC "law" (defScope s_law) s.heap.objs.size f cdv)).guards = some []) (hr : Room 8 (A.deeper (envOfC "law" (defScope s_law) s.heap.objs.size f cdv))) :
    ∃ t, PSs (LX P w K mg base f cdv A outer s H0 E) ((defBody s_law).drop 8) t ∧ ∀ (D : Ends) (σ : L2.St) (H : Hp), (∃ (m c g fa sa : Addr) (p r : List Int) (y0 y2 y5 y6 y8 y9 y10 y11 y12 y13 y14 : Option V), σ = [y0, some (.ref m), y2, some (.ref fa), some (.ref sa), y5, y6, some (.int (((movesUp p r p.length).length : Nat) : Int)), y8, y9, y10, y11, y12, y13, y14, none, none, none] ∧ MS H m c g 600 ∧ TI H fa p ∧ TI H sa r ∧ Par p ∧ Par r ∧ p.length = r.length ∧ Tree p r ∧ ∀ H', D.rt (.bl true) H') → t D σ H := by
  have u__law_draw := C.draw
  have u__law_any_parting := C.any
  have u__law_met := C.met
  have u__law_like := C.like
  have u_moves := C.moves
  have u__law_moved := C.lmoved
  have u__law_all_reached := C.reached
  refine ⟨_, (pss_cons (ps_set (i := 11) sc_law.nd rfl (Or.inl rfl) (pe_use u_moves (by decide) hr (by rfl) (pa_cons (pv 3) (pa_cons (pv 4) pa_nil))))
      (pss_cons (ps_if (PW.pt (pw_or (pt_not (pt_val (pe_callB (k_isi (K := K) rfl) (by rfl) T.isinstance (by decide +kernel) (pa_cons (pv 11) (pa_cons (pe_bltn (v := .ty "tuple") (by rfl) T.tuple (by decide +kernel) rfl) pa_nil))))) (pw_or1 (pt_cmpR op_ne (pe_callB (k_len (K := K) rfl) (by rfl) T.len PySem.boot_len (pa_cons (pv 11) pa_nil)) (pv 7) (nomark _))))) (pss_one (ps_ret pe_bl)) pss_nil)
      (pss_cons (ps_set (i := 12) sc_law.nd rfl (Or.inl rfl) (pe_op op_add pe_int (pe_use u__law_draw (by decide) hr (by rfl) (pa_cons (pv 1) (pa_cons pe_int pa_nil)))))
      (pss_cons (ps_set (i := 13) sc_law.nd rfl (Or.inl rfl) (pe_use u__law_any_parting (by decide) hr (by rfl) (pa_cons (pv 1) (pa_cons (pv 12) pa_nil))))
      (pss_cons (ps_set (i := 14) sc_law.nd rfl (Or.inl rfl) (pe_use u__law_met (by decide) hr (by rfl) (pa_cons (pv 1) (pa_cons (pv 13) pa_nil))))
      (pss_cons (ps_if (pt_not (pt_val (pe_useG u__law_like gd (by decide) hr (by rfl) (pa_cons (pe_use u_moves (by decide) hr (by rfl) (pa_cons (pv 13) (pa_cons (pv 14) pa_nil))) (pa_cons (pe_use u__law_moved (by decide) hr (by rfl) (pa_cons (pv 13) (pa_cons (pv 14) pa_nil))) pa_nil))))) (pss_one (ps_ret pe_bl)) pss_nil)
      (pss_one (ps_ret (pe_or (pe_cmpR op_gt (pv 12) pe_int (nomark _)) (pe_one (pe_use u__law_all_reached (by decide) hr (by rfl) (pa_cons (pv 13) (pa_cons (pv 14) pa_nil))))))))))))), ?_⟩
  rintro D σ H ⟨m, c, g, fa, sa, p, r, y0, y2, y5, y6, y8, y9, y10, y11, y12, y13, y14, rfl, ms, hp, hr', par, parr, lr, tr, q⟩
  have g2 := par.le
  refine ⟨_, rfl, _, rfl, fa, sa, p, r, rfl, hp, hr', par, parr, lr, fun H1 v s1 hv => ?_⟩
  rcases hv with ⟨_, h⟩ | ⟨t, ts, rows, rfl, et, its, _, mvs⟩
  · exact absurd tr h
  have ms1 := ms.mono s1
  refine ⟨_, rfl, _, _, _, _, true, rfl, .ty _, .base (.tup et), kit_ty (by decide +kernel), true, rfl, ?_⟩
  refine ⟨_, rfl, t, _, rfl, .inr (sqT et), _, rfl, rfl, _, rfl, ?_⟩
  rw [List.length_map, its.1, mvs.1.length_eq, decide_eq_true rfl]
  clear its mvs et ms s1
  refine ⟨_, rfl, m, c, g, _, 9, rfl, ms1, by decide, by decide, by decide, fun H2 d2 k2 ms2 d20 d21 => ⟨1, d2, rfl, rfl, ?_⟩⟩
  refine ⟨_, rfl, _, rfl, m, c, g, _, 1 + d2, rfl, ms2, by decide, by omega, by omega, fun H3 fb ps k3 ms3 hps pars ls => ?_⟩
  refine ⟨_, rfl, _, rfl, m, c, g, _, fb, ps, rfl, ms3, by omega, hps, pars, fun H4 sb rs k4 ms4 hrs parrs lrs trs => ?_⟩
  have hps4 := k4.ti ms3 hps
  have l9 : ps.length ≤ 9 := by omega
  have lsr : ps.length = rs.length := lrs.symm
  refine ⟨_, rfl, _, rfl, fb, sb, ps, rs, rfl, hps4, hrs, pars, parrs, lsr, fun H5 v s5 hv => ?_⟩
  rcases hv with ⟨_, h⟩ | ⟨t, ts, rows, rfl, et, its, _, mvs⟩
  · exact absurd trs h
  refine ⟨_, rfl, _, rfl, fb, sb, ps, rs, rfl, hps4.mono s5, hrs.mono s5, pars, parrs, lsr, trs, fun H6 t2 ts2 rows2 s6 et2 its2 mvs2 => ?_⟩
  obtain rfl := moves_one mvs mvs2
  have rl : rows.length ≤ 81 := by
    rw [mvs.1.length_eq]
    refine Nat.le_trans (movesUp_len _) (Nat.mul_le_mul l9 (by omega : rs.length ≤ 9))
  have nc : Nc 20 (2 ^ 20) (.tuple (rows.map fun xs => PyData.tuple (xs.map PyData.int))) := (nc_tt 60 fun xs hx => by
    obtain ⟨d, b, _, _, _, _, _, _, rfl⟩ := mem_movesUp.mp (mvs.1.mem_iff.mp hx)
    exact ⟨par_small (mv_par parrs).rg (mv_par parrs).le, (mv_par parrs).le⟩).le (by decide) (Nat.le_trans (Nat.mul_le_mul (Nat.le_refl _) rl) (by decide))
  refine ⟨.ref t, .ref t2, _, rfl, .tup (sqT (s6 _ _ et)) (dp_its (its.mono s6)), .tup (sqT et2) (dp_its its2), rfl, nc, true, rfl, ?_⟩
  refine ⟨_, rfl, _, _, rfl, rfl, _, rfl, ?_⟩
  by_cases h5 : 5 < 1 + d2
  · rw [decide_eq_true h5]
    exact q _
  · rw [decide_eq_false h5]
    exact ⟨_, rfl, _, rfl, fb, sb, ps, rs, rfl, (hps4.mono s5).mono s6, (hrs.mono s5).mono s6, pars, parrs, lsr, by omega, trs, fun H' _ => q H'⟩
/-- of a row of blocks, the unlike ones that aren't one told -/
def unl (v : Int) (xs : List Int) : Nat := ((firsts xs).filter fun z => decide (z ≠ v)).length
theorem unl_snoc (v : Int) (xs : List Int) (x : Int) : unl v (xs ++ [x]) = unl v xs + if x ≠ v ∧ x ∉ xs then 1 else 0 := by
  unfold unl
  rw [firsts_snoc]
  unfold ins
  by_cases h : x ∈ xs
  · rw [if_pos ((mem_firsts xs).mpr h), if_neg (fun z => z.2 h)]
    rfl
  · rw [if_neg (fun z => h ((mem_firsts xs).mp z)), List.filter_append, List.length_append]
    by_cases c : x = v
    · rw [if_neg (fun z => z.1 c), List.filter_cons, decide_eq_false (fun z => z c)]
      rfl
    · rw [if_pos ⟨c, h⟩, List.filter_cons, decide_eq_true c]
      rfl
theorem unl_le (v : Int) (xs : List Int) : unl v xs ≤ xs.length := Nat.le_trans (List.length_filter_le _ _) (firsts_le xs)
theorem unl_moves {p r : List Int} (parr : Par r) (hl : p.length = r.length) {d : Int} {ys : List Int} (h : Beside p r d 1 ys) : unl (bk r d) (ys.map (bk r)) = (bsOf p r d).length := by
  unfold unl
  refine same_len ((firsts_nodup _).filter _) (up_nodup bsOf_up) fun b => ?_
  rw [List.mem_filter, mem_firsts, List.mem_map, decide_eq_true_iff, mem_bsOf]
  constructor
  · rintro ⟨⟨x, hx, rfl⟩, nz⟩
    obtain ⟨x0, x1, nx, g⟩ := (h.2 x).mp hx
    have rg := bk_rng parr x0 (by omega)
    exact ⟨rg.1, rg.2, nz, x, x0, x1, nx, rfl, g⟩
  · rintro ⟨_, _, nz, x, x0, x1, nx, rfl, g⟩
    exact ⟨⟨x, (h.2 x).mpr ⟨x0, x1, nx, g⟩, rfl⟩, nz⟩
theorem beside_len {p r : List Int} {d w : Int} {ys : List Int} (h : Beside p r d w ys) : ys.length ≤ p.length := by
  have := sub_len (xs := ys) (ys := (List.range p.length).map fun n => ((n : Nat) : Int)) (up_nodup h.1) fun x hx => by
    have := (h.2 x).mp hx
    exact List.mem_map.mpr ⟨x.toNat, List.mem_range.mpr (by omega), by omega⟩
  rw [List.length_map, List.length_range] at this
  exact this
theorem beside_one {p r : List Int} {d w : Int} {xs ys : List Int} (h : Beside p r d w xs) (g : Beside p r d w ys) : xs = ys := up_uniq h.1 g.1 fun x => (h.2 x).trans (g.2 x).symm
theorem lawB (T : Bt mg) (C : Calls P w K mg base) (gd : (A.deeper (envOfC "law" (defScope s_law) s.heap.objs.size f cdv)).guards = some []) (hr : Room 8 (A.deeper (envOfC "law" (defScope s_law) s.heap.objs.size f cdv))) :
    ∃ t, PSs (LX P w K mg base f cdv A outer s H0 E) ((defBody s_law).drop 7) t ∧ ∀ (D : Ends) (σ : L2.St) (H : Hp), (∃ (m c g fa sa : Addr) (p r : List Int) (b e mn : Int) (y0 y8 y9 y10 y11 y12 y13 y14 : Option V), σ = [y0, some (.ref m), some (.int mn), some (.ref fa), some (.ref sa), some (.int b), some (.int e), some (.int 0), y8, y9, y10, y11, y12, y13, y14, none, none, none] ∧ mn = ((p.length : Nat) : Int) ∧ MS H m c g 600 ∧ TI H fa p ∧ TI H sa r ∧ Par p ∧ Par r ∧ p.length = r.length ∧ Tree p r ∧ 0 ≤ b ∧ b < p.length ∧ 0 ≤ e ∧ e < p.length ∧ ∀ H', D.rt (.bl true) H') → t D σ H := by
  have u__law_like := C.like
  have u_way := C.way
  have u_sides := C.sides
  have u__law_sides := C.lsides
  have u__law_is_way := C.isway
  obtain ⟨t2, h2, k2⟩ := lawC (P := P) (w := w) (K := K) (mg := mg) (base := base) (f := f) (cdv := cdv) (A := A) (outer := outer) (s := s) (H0 := H0) (E := E) T C gd hr
  refine ⟨_, (pss_cons (ps_for PassesOwn.never rfl (pi_range1 (by rfl) T.range (pa_cons (pv 2) pa_nil)) (pg_name (i := 8) sc_law.nd rfl (Or.inr rfl))
      (pss_cons (ps_set (i := 9) sc_law.nd rfl (Or.inl rfl) (pe_use u__law_sides (by decide) hr (by rfl) (pa_cons (pv 3) (pa_cons (pv 4) (pa_cons (pv 8) pa_nil)))))
      (pss_cons (ps_set (i := 10) sc_law.nd rfl (Or.inr rfl) (pe_lc (own := [("spot", 15)]) rfl sc_law.nd (k_tup (K := K) rfl (pe_ix (k_ixt (K := K) rfl) (pv 9) pe_int (fun _ _ => rfl))) (blkOk_by (N := ["script", "m", "many", "first", "second", "begin", "end", "many_moves", "at", "there", "behind", "told", "few", "small", "other", "spot", "n", "block"]) (sc := defScope s_law) (by decide +kernel)) (fun _ _ _ _ _ => (pg_name (i := 15) sc_law.nd rfl (Or.inl rfl))) (fun _ _ _ _ _ => pts_nil) (fun _ _ _ _ _ => (pe_ix (k_ixt (K := K) rfl) (pv 4) (pv 15) (fun _ _ => rfl)))))
      (pss_cons (ps_set (i := 7) sc_law.nd rfl (Or.inl rfl) (pe_op op_add (pv 7) (pe_callB (k_len (K := K) rfl) (by rfl) T.len PySem.boot_len (pa_cons (pe_lc (own := [("n", 16), ("block", 17)]) rfl sc_law.nd (k_enum (K := K) rfl (by rfl) T.enumerate (pa_cons (pv 10) pa_nil)) (blkOk_by (N := ["script", "m", "many", "first", "second", "begin", "end", "many_moves", "at", "there", "behind", "told", "few", "small", "other", "spot", "n", "block"]) (sc := defScope s_law) (by decide +kernel)) (fun _ _ _ _ _ => (k_gtup (K := K) (n := 2) rfl rfl (pgs_cons (pg_name (i := 16) sc_law.nd rfl (Or.inl rfl)) (pgs_cons (pg_name (i := 17) sc_law.nd rfl (Or.inl rfl)) pgs_nil)))) (fun _ _ _ _ _ => (pts_one (PW.pt (pw_and (pt_cmpR op_ne (pv 17) (pe_ix (k_ixt (K := K) rfl) (pv 4) (pv 8) (fun _ _ => rfl)) (nomark _)) (pw_and1 (pt_cmpR (k_notIn (K := K) rfl) (pv 17) (pe_slice (k_sll (K := K) rfl) (pv 10) po_none (po_some (pv 16))) (by rfl))))))) (fun _ _ _ _ _ => pe_int)) pa_nil))))
      (pss_cons (ps_if (PW.pt (pw_and (PW.pt (pw_or (pt_cmpR op_eq (pv 8) (pv 5) (nomark _)) (pw_or1 (pt_cmpR op_eq (pv 8) (pv 6) (nomark _))))) (pw_and1 (pt_not (pt_val (pe_useG u__law_like gd (by decide) hr (by rfl) (pa_cons (pe_use u_sides (by decide) hr (by rfl) (pa_cons (pv 3) (pa_cons (pv 4) (pa_cons (pv 8) pa_nil)))) (pa_cons (pv 9) pa_nil)))))))) (pss_one (ps_ret pe_bl)) pss_nil)
      (pss_one (ps_if (pt_not (pt_val (pe_use u__law_is_way (by decide) hr (by rfl) (pa_cons (pv 3) (pa_cons (pv 4) (pa_cons (pe_use u_way (by decide) hr (by rfl) (pa_cons (pv 3) (pa_cons (pv 4) (pa_cons (pv 5) (pa_cons (pv 8) pa_nil))))) (pa_cons (pv 5) (pa_cons (pv 8) pa_nil)))))))) (pss_one (ps_ret pe_bl)) pss_nil)))))))
      h2), ?_⟩
  rintro D σ H ⟨m, c, g, fa, sa, p, r, b, e, mn, y0, y8, y9, y10, y11, y12, y13, y14, rfl, rfl, ms, hp, hr', par, parr, lr, tr, b0, b1, e0, e1, q⟩
  have g2 := par.le
  refine ⟨_, rfl, _, rfl, by omega, by omega, for_range (lo := 0) (n := (((p.length : Nat) : Int)).toNat)
    (fun i σ H5 => ∃ (y8 y9 y10 : Option V), σ = [y0, some (.ref m), some (.int ((p.length : Nat) : Int)), some (.ref fa), some (.ref sa), some (.int b), some (.int e), some (.int (((movesUp p r i).length : Nat) : Int)), y8, y9, y10, y11, y12, y13, y14, none, none, none] ∧ Same H H5)
    ⟨_, _, _, rfl, Same.refl H⟩ ?_ ?_⟩
  · rintro i σ H5 hi ⟨y8, y9, y10, rfl, sm⟩
    rw [Int.toNat_natCast] at hi
    rw [show (0 : Int) + ((i : Nat) : Int) = ((i : Nat) : Int) by omega]
    refine ⟨_, rfl, _, rfl, _, rfl, fa, sa, p, r, ((i : Nat) : Int), rfl, hp.mono sm, hr'.mono sm, par, parr, lr, by omega, by omega, tr, fun H6 tt r0 r1 xs ys s6 ett hr0 hr1 bx by_ => ?_⟩
    have yl := beside_len by_
    have sm6 := sm.trans s6
    refine ⟨_, rfl, tt, _, _, .ref r1, rfl, rfl, sqT ett, rfl, r1, rfl, ⟨_, hr1.seq⟩, fun L nL => ?_⟩
    refine lc_tup (K := K) (a := r1) (xs := ys.map V.int) (fun k H7 => Same H6 H7 ∧ H7 L = some (.lst (((ys.take k).map (bk r)).map V.int))) ⟨same_new nL, upd_same⟩ (fun k H7 _ ⟨s7, _⟩ => (hr1.mono s7).seq) ?_ ?_
    · rintro k v H7 hk ⟨s7, eL⟩
      obtain ⟨y, hy, rfl⟩ := map_at hk
      have ym := (by_.2 y).mp (List.mem_of_getElem? hy)
      have kl := (List.getElem?_eq_some_iff.mp hy).1
      refine ⟨rfl, _, rfl, _, rfl, sa, _, y, .int (bk r y), rfl, rfl, (hr'.mono (sm6.trans s7)).seq, atI_of (j := y.toNat) (by omega) (at_map (bk_some ym.1 (by omega))), _, eL, ?_, same_mut s7 nL, ?_⟩
      · rw [List.length_map, List.length_map, List.length_take]
        exact small_of (by omega)
      · rw [upd_same, take_snoc hy, List.map_append, List.map_append]
        rfl
    rintro H7 ⟨s7, eL⟩
    rw [List.length_map, List.take_length] at eL
    have sm7 := sm6.trans s7
    have bl : (ys.map (bk r)).length ≤ 60 := by rw [List.length_map]; omega
    have um := unl_moves parr lr by_
    generalize ys.map (bk r) = bs at eL bl um
    have ui := bk_some (p := r) (d := ((i : Nat) : Int)) (by omega) (by omega)
    rw [Int.toNat_natCast] at ui
    refine ⟨_, rfl, _, rfl, L, _, rfl, sqL eL, fun G nG => ?_⟩
    refine lc_enumL (K := K) (a := L) (xs := bs.map V.int) (fun k H8 => Same H7 H8 ∧ H8 G = some (.lst ((List.replicate (unl (bk r ((i : Nat) : Int)) (bs.take k)) (1 : Int)).map V.int)))
      ⟨same_new nG, upd_same⟩ (fun k H8 _ ⟨s8, _⟩ => sqL (s8 _ _ eL)) ?_ ?_
    · rintro k v T1 H8 hk ⟨s8, eG⟩ hT
      obtain ⟨z, hz, rfl⟩ := map_at hk
      have kl := (List.getElem?_eq_some_iff.mp hz).1
      have s9 : Same H8 (upd H8 T1 (.tup [.int (k : Nat), .int z])) := same_new hT
      refine ⟨T1, _, rfl, .inl (.inl upd_same), rfl, _, _, rfl, _, [], rfl, rfl, ?_⟩
      have cutk : cutV (bs.map V.int) none (some ((k : Nat) : Int)) = (bs.take k).map V.int := by
        unfold cutV
        rw [HT.sIx_none, HT.sIx_nat, List.length_map, Nat.min_eq_left (by omega), List.drop_zero, Nat.sub_zero, List.map_take]
      have s79 := s8.trans s9
      have eG9 := s9 _ _ eG
      refine ⟨rfl, _, rfl, _, rfl, _, rfl, sa, _, ((i : Nat) : Int), .int (bk r ((i : Nat) : Int)), rfl, rfl, (hr'.mono (sm7.trans s79)).seq, atI_of (j := i) rfl (at_map ui), rfl, _, rfl, ?_⟩
      by_cases nz : z = bk r ((i : Nat) : Int)
      · rw [decide_eq_true (congrArg V.int nz)]
        refine ⟨s79, ?_⟩
        rw [take_snoc hz, unl_snoc, if_neg (fun q => q.1 nz)]
        exact eG9
      rw [decide_eq_false (fun q => nz (V.int.inj q))]
      refine ⟨_, rfl, _, rfl, _, rfl, _, rfl, L, _, rfl, sqL (s79 _ _ eL), fun S nS => ?_⟩
      rw [cutk]
      have s10 := s79.trans (same_new (o := .lst ((bs.take k).map V.int)) nS)
      refine ⟨S, _, rfl, .inl (sqL upd_same), rfl, flat_ints _, _, rfl, ?_⟩
      rw [show (if true = true then !L2.inV (V.int z) ((bs.take k).map V.int) else L2.inV (V.int z) ((bs.take k).map V.int)) = !decide (z ∈ bs.take k) from congrArg Bool.not (inV_ints _ _)]
      have eG10 := (same_new (o := .lst ((bs.take k).map V.int)) nS) _ _ eG9
      by_cases hm : z ∈ bs.take k
      · rw [decide_eq_true hm]
        refine ⟨s10, ?_⟩
        rw [take_snoc hz, unl_snoc, if_neg (fun q => q.2 hm)]
        exact eG10
      · rw [decide_eq_false hm]
        refine ⟨_, eG10, ?_, same_mut s10 nG, ?_⟩
        · have := unl_le (bk r ((i : Nat) : Int)) (bs.take k)
          rw [List.length_take] at this
          rw [List.length_map, List.length_replicate]
          exact small_of (by omega)
        · rw [upd_same, take_snoc hz, unl_snoc, if_pos ⟨nz, hm⟩, List.replicate_succ', List.map_append]
          rfl
    rintro H8 ⟨s8, eG⟩
    rw [List.length_map, List.take_length, um] at eG
    refine ⟨G, _, rfl, .inl (sqL eG), _, _, rfl, rfl, ?_⟩
    rw [List.length_map, List.length_replicate]
    have sm8 := sm7.trans s8
    have s68 := s7.trans s8
    have emm : (((movesUp p r i).length : Nat) : Int) + (((bsOf p r ((i : Nat) : Int)).length : Nat) : Int) = (((movesUp p r (i + 1)).length : Nat) : Int) := by
      rw [movesUp_succ, List.length_append, List.length_map]
      omega
    have xl := beside_len bx
    have nc : Nc 20 (2 ^ 20) (.tuple [tupD xs, tupD ys]) := (nc_tt (xss := [xs, ys]) 60 fun z hz => by
      rcases List.mem_cons.mp hz with rfl | hz
      · exact ⟨fun x hx => by have := (bx.2 x).mp hx; omega, by omega⟩
      · rw [List.mem_singleton.mp hz]
        exact ⟨fun x hx => by have := (by_.2 x).mp hx; omega, by omega⟩).le (by decide) (by show (11 * 60 + 1) * 2 ≤ 2 ^ 20; decide)
    refine ⟨_, rfl, _, rfl, rfl, _, rfl, ?_⟩
    by_cases eb : ((i : Nat) : Int) = b
    · rw [decide_eq_true (congrArg V.int eb)]
      refine ⟨_, rfl, _, rfl, _, rfl, fa, sa, p, r, ((i : Nat) : Int), rfl, hp.mono sm8, hr'.mono sm8, par, parr, lr, by omega, by omega, fun H9 v s9 hv => ?_⟩
      rcases hv with ⟨_, h⟩ | ⟨t3, q0, q1, xs2, ys2, rfl, ets, h0, h1, _, bx2, by2⟩
      · exact absurd tr h
      obtain rfl := beside_one bx bx2
      obtain rfl := beside_one by_ by2
      have s89 := s68.trans s9
      have sm9 := sm8.trans s9
      refine ⟨_, rfl, .ref t3, .ref tt, .tuple [tupD xs, tupD ys], rfl, .tup (sqT ets) (.cons (dp_ti h0) (.cons (dp_ti h1) .nil)), .tup (sqT (s89 _ _ ett)) (.cons (dp_ti (hr0.mono s89)) (.cons (dp_ti (hr1.mono s89)) .nil)), rfl, nc, true, rfl, ?_⟩
      refine ⟨_, rfl, _, rfl, _, rfl, _, rfl, _, rfl, _, rfl, fa, sa, p, r, b, ((i : Nat) : Int), rfl, hp.mono sm9, hr'.mono sm9, par, parr, lr, b0, b1, by omega, by omega, fun H10 v s10 hv => ?_⟩
      rcases hv with ⟨_, h⟩ | ⟨tw, row, rfl, ew, _, wy⟩
      · exact absurd tr h
      have sm10 := Same.trans sm9 s10
      refine ⟨_, rfl, _, rfl, fa, sa, tw, p, r, row, b, ((i : Nat) : Int), rfl, hp.mono sm10, hr'.mono sm10, par, parr, lr, ew, wy, fun H11 s11 => ⟨_, rfl, ?_⟩⟩
      exact ⟨some (.int ((i : Nat) : Int)), some (.ref tt), some (.ref L), by rw [← emm]; rfl, sm10.trans s11⟩
    · rw [decide_eq_false (fun q => eb (V.int.inj q))]
      refine ⟨_, rfl, _, rfl, rfl, _, rfl, ?_⟩
      by_cases ee : ((i : Nat) : Int) = e
      · rw [decide_eq_true (congrArg V.int ee)]
        refine ⟨_, rfl, _, rfl, _, rfl, fa, sa, p, r, ((i : Nat) : Int), rfl, hp.mono sm8, hr'.mono sm8, par, parr, lr, by omega, by omega, fun H9 v s9 hv => ?_⟩
        rcases hv with ⟨_, h⟩ | ⟨t3, q0, q1, xs2, ys2, rfl, ets, h0, h1, _, bx2, by2⟩
        · exact absurd tr h
        obtain rfl := beside_one bx bx2
        obtain rfl := beside_one by_ by2
        have s89 := s68.trans s9
        have sm9 := sm8.trans s9
        refine ⟨_, rfl, .ref t3, .ref tt, .tuple [tupD xs, tupD ys], rfl, .tup (sqT ets) (.cons (dp_ti h0) (.cons (dp_ti h1) .nil)), .tup (sqT (s89 _ _ ett)) (.cons (dp_ti (hr0.mono s89)) (.cons (dp_ti (hr1.mono s89)) .nil)), rfl, nc, true, rfl, ?_⟩
        refine ⟨_, rfl, _, rfl, _, rfl, _, rfl, _, rfl, _, rfl, fa, sa, p, r, b, ((i : Nat) : Int), rfl, hp.mono sm9, hr'.mono sm9, par, parr, lr, b0, b1, by omega, by omega, fun H10 v s10 hv => ?_⟩
        rcases hv with ⟨_, h⟩ | ⟨tw, row, rfl, ew, _, wy⟩
        · exact absurd tr h
        have sm10 := Same.trans sm9 s10
        refine ⟨_, rfl, _, rfl, fa, sa, tw, p, r, row, b, ((i : Nat) : Int), rfl, hp.mono sm10, hr'.mono sm10, par, parr, lr, ew, wy, fun H11 s11 => ⟨_, rfl, ?_⟩⟩
        exact ⟨some (.int ((i : Nat) : Int)), some (.ref tt), some (.ref L), by rw [← emm]; rfl, sm10.trans s11⟩
      · rw [decide_eq_false (fun q => ee (V.int.inj q))]
        refine ⟨_, rfl, _, rfl, _, rfl, _, rfl, _, rfl, _, rfl, fa, sa, p, r, b, ((i : Nat) : Int), rfl, hp.mono sm8, hr'.mono sm8, par, parr, lr, b0, b1, by omega, by omega, fun H10 v s10 hv => ?_⟩
        rcases hv with ⟨_, h⟩ | ⟨tw, row, rfl, ew, _, wy⟩
        · exact absurd tr h
        have sm10 := Same.trans sm8 s10
        refine ⟨_, rfl, _, rfl, fa, sa, tw, p, r, row, b, ((i : Nat) : Int), rfl, hp.mono sm10, hr'.mono sm10, par, parr, lr, ew, wy, fun H11 s11 => ⟨_, rfl, ?_⟩⟩
        exact ⟨some (.int ((i : Nat) : Int)), some (.ref tt), some (.ref L), by rw [← emm]; rfl, sm10.trans s11⟩
  · rintro σ H5 ⟨y8, y9, y10, rfl, sm⟩
    rw [Int.toNat_natCast]
    exact k2 _ _ _ ⟨m, c, g, fa, sa, p, r, _, _, _, _, _, _, _, _, _, _, _, rfl, ms.mono sm, hp.mono sm, hr'.mono sm, par, parr, lr, tr, fun H' => q H'⟩
theorem if_factV {b : Bool} {t u : TE} {σ : L2.St} {H : Hp} {Q : VK} (Fact : V → Hp → Prop) (h1 : ∀ Q : VK, (∀ v H', Fact v H' → Q v H') → t σ H Q) (h2 : ∀ Q : VK, (∀ v H', Fact v H' → Q v H') → u σ H Q) (k : ∀ v H', Fact v H' → Q v H') :
    if b = true then t σ H Q else u σ H Q := by
  cases b
  · exact h2 Q k
  · exact h1 Q k
theorem fn_law (F : Fun K "law" "law" s_law f fd) (T : Bt mg) (C : Calls P w K mg base) : FnG P w K mg base 9 f fd ["script"] (spLaw K) := by
  have u__law_begun := C.begun
  have u__law_draw := C.draw
  have u__law_any_parting := C.any
  have u__law_met := C.met
  have u__law_meet := C.lmeet
  have u__law_like := C.like
  have u_way := C.way
  have u_sides := C.sides
  have u_moves := C.moves
  refine Fun.okG F sc_law (fun vs H Q E h => ?_) (fun cdv A outer s H vs Q E gd hr h => ?_)
  · obtain ⟨a, ns, rfl, _⟩ := h
    rfl
  obtain ⟨a, ns, rfl, hs, hl, q⟩ := h
  obtain ⟨t2, h2, k2⟩ := lawB (P := P) (w := w) (K := K) (mg := mg) (base := base) (f := f) (cdv := cdv) (A := A) (outer := outer) (s := s) (H0 := H) (E := E) T C gd hr
  refine ⟨_, (pss_cons (ps_set (i := 1) sc_law.nd rfl (Or.inl rfl) (pe_use u__law_begun (by decide) hr (by rfl) (pa_cons (pv 0) pa_nil)))
      (pss_cons (ps_set (i := 2) sc_law.nd rfl (Or.inl rfl) (pe_op op_add pe_int (pe_use u__law_draw (by decide) hr (by rfl) (pa_cons (pv 1) (pa_cons pe_int pa_nil)))))
      (pss_cons (ps_set (i := 3) sc_law.nd rfl (Or.inl rfl) (pe_use u__law_any_parting (by decide) hr (by rfl) (pa_cons (pv 1) (pa_cons (pv 2) pa_nil))))
      (pss_cons (ps_set (i := 4) sc_law.nd rfl (Or.inr rfl) (pe_ifExp (pt_cmpR op_gt (pe_use u__law_draw (by decide) hr (by rfl) (pa_cons (pv 1) (pa_cons pe_int pa_nil))) pe_int (nomark _)) (pe_use u__law_met (by decide) hr (by rfl) (pa_cons (pv 1) (pa_cons (pv 3) pa_nil))) (pe_use u__law_any_parting (by decide) hr (by rfl) (pa_cons (pv 1) (pa_cons (pv 2) pa_nil)))))
      (pss_cons (ps_par (i := 5) (j := 6) rfl sc_law.nd rfl rfl (by decide) rfl rfl (pa_cons (pe_use u__law_draw (by decide) hr (by rfl) (pa_cons (pv 1) (pa_cons (pv 2) pa_nil))) (pa_cons (pe_use u__law_draw (by decide) hr (by rfl) (pa_cons (pv 1) (pa_cons (pv 2) pa_nil))) pa_nil)) (by rfl))
      (pss_cons (ps_if (pt_not (pt_val (pe_use u__law_meet (by decide) hr (by rfl) (pa_cons (pv 3) (pa_cons (pv 4) pa_nil))))) (pss_one (ps_ret (pe_useG u__law_like gd (by decide) hr (by rfl) (pa_cons (pe_lst (pa_cons (pe_use u_way (by decide) hr (by rfl) (pa_cons (pv 3) (pa_cons (pv 4) (pa_cons (pv 5) (pa_cons (pv 6) pa_nil))))) (pa_cons (pe_use u_sides (by decide) hr (by rfl) (pa_cons (pv 3) (pa_cons (pv 4) (pa_cons (pv 5) pa_nil)))) (pa_cons (pe_use u_moves (by decide) hr (by rfl) (pa_cons (pv 3) (pa_cons (pv 4) pa_nil))) pa_nil)))) (pa_cons (pe_lst (pa_cons pe_non (pa_cons pe_non (pa_cons pe_non pa_nil)))) pa_nil))))) pss_nil)
      (pss_cons (ps_set (i := 7) sc_law.nd rfl (Or.inl rfl) pe_int)
      h2))))))), ?_⟩
  refine ⟨_, rfl, a, ns, rfl, hs, hl, fun H0 m c g ms0 => ?_⟩
  refine ⟨_, rfl, m, c, g, 0, 30, rfl, ms0, by decide, by decide, by decide, fun H1 d1 k1 ms1 d10 d11 => ⟨1, d1, rfl, rfl, ?_⟩⟩
  refine ⟨_, rfl, _, rfl, m, c, g, _, 1 + d1, rfl, ms1, by decide, by omega, by omega, fun H3 fa p k3 ms3 hp3 par lp => ?_⟩
  refine ⟨_, rfl, m, c, g, _, 6, rfl, ms3, by omega, by decide, by decide, fun H4 d4 k4 ms4 d40 d41 => ⟨_, _, rfl, rfl, _, rfl, ?_⟩⟩
  have hp4 := k4.ti ms3 hp3
  refine if_factV (fun v H' => ∃ (sa : Addr) (r : List Int), v = .ref sa ∧ MS H' m c g 300 ∧ TI H' fa p ∧ TI H' sa r ∧ Par r ∧ r.length = p.length) (fun Qv kv => ?_) (fun Qv kv => ?_) ?_
  · exact ⟨_, rfl, _, rfl, m, c, g, _, fa, p, rfl, ms4, by omega, hp4, par, fun H5 sa r k5 ms5 hr5 parr lr _ => kv _ _ ⟨sa, r, rfl, ms5.le (by omega), k5.ti ms4 hp4, hr5, parr, lr⟩⟩
  · exact ⟨_, rfl, _, rfl, m, c, g, _, 1 + d1, rfl, ms4, by omega, by omega, by omega, fun H5 sa r k5 ms5 hr5 parr lr => kv _ _ ⟨sa, r, rfl, ms5.le (by omega), k5.ti ms4 hp4, hr5, parr, by omega⟩⟩
  rintro v H5 ⟨sa, r, rfl, ms5, hp5, hr5, parr, lr⟩
  clear k1 k3 k4 ms0 ms1 ms3 ms4 hp3 hp4
  have g2 := par.le
  have hl' : p.length = r.length := lr.symm
  refine ⟨_, rfl, _, rfl, m, c, g, _, 1 + d1, rfl, ms5, by omega, by omega, by omega, fun H6 b k6 ms6 b0 b1 => ?_⟩
  refine ⟨_, rfl, _, rfl, m, c, g, _, 1 + d1, rfl, ms6, by omega, by omega, by omega, fun H7 e k7 ms7 e0 e1 => ⟨_, _, rfl, ?_⟩⟩
  have hp7 := k7.ti ms6 (k6.ti ms5 hp5)
  have hr7 := k7.ti ms6 (k6.ti ms5 hr5)
  refine ⟨_, rfl, _, rfl, fa, sa, p, r, rfl, hp7, hr7, par, parr, hl', fun H8 c8 s8 hc => ⟨c8, rfl, ?_⟩⟩
  cases c8 with
  | false =>
    have nt : ¬ Tree p r := fun z => by
      have := hc.mpr z
      cases this
    refine ⟨_, rfl, _, rfl, _, rfl, _, rfl, fa, sa, p, r, b, e, rfl, hp7.mono s8, hr7.mono s8, par, parr, hl', b0, by omega, e0, by omega, fun H9 v s9 hv => ?_⟩
    rcases hv with ⟨rfl, _⟩ | ⟨_, _, _, _, h, _⟩
    rotate_left
    · exact absurd h nt
    have s89 := s8.trans s9
    refine ⟨_, rfl, _, rfl, _, rfl, fa, sa, p, r, b, rfl, hp7.mono s89, hr7.mono s89, par, parr, hl', b0, by omega, fun H10 v s10 hv => ?_⟩
    rcases hv with ⟨rfl, _⟩ | ⟨_, _, _, _, _, _, _, _, _, h, _⟩
    rotate_left
    · exact absurd h nt
    have s810 := s89.trans s10
    refine ⟨_, rfl, _, rfl, fa, sa, p, r, rfl, hp7.mono s810, hr7.mono s810, par, parr, hl', fun H11 v s11 hv => ?_⟩
    rcases hv with ⟨rfl, _⟩ | ⟨_, _, _, _, _, _, h, _⟩
    rotate_left
    · exact absurd h nt
    refine ⟨by show 3 ≤ sizeLine; decide, fun T1 nT1 => ?_⟩
    refine ⟨by show 3 ≤ sizeLine; decide, fun T2 nT2 => ?_⟩
    have s12 := same_new (o := .lst [V.non, V.non, V.non]) nT2
    refine ⟨.ref T1, .ref T2, .list [.none, .none, .none], rfl, .lst (sqL (s12 _ _ upd_same)) (.cons .non (.cons .non (.cons .non .nil))), .lst (sqL (xs := [V.non, V.non, V.non]) upd_same) (.cons .non (.cons .non (.cons .non .nil))), rfl, (nc_lst (nc_cons nc_non (nc_cons nc_non (nc_cons nc_non (nc_nil 0))))).le (by decide) (by decide), q _⟩
  | true =>
    exact k2 _ _ _ ⟨m, c, g, fa, sa, p, r, b, e, _, _, _, _, _, _, _, _, _, rfl, by omega, (ms7.mono s8).le (by omega), hp7.mono s8, hr7.mono s8, par, parr, hl', hc.mp rfl, b0, by omega, e0, by omega, fun H' => q H'⟩
end
end KQ
namespace KQ
open PySem PySem.Spec PyProof.Rows L2 KR
section
variable {P : Program} {w : World} {K : PySem.W.Frag} {mg : Str → Option Value} {h : Heap} {Goal : Prop}
/-- a def that the top has -/
theorem step_def {x : Str} {st : Stmt} {f : Addr} {oc : Value} {od an : Option Addr} {osl : Array (Option Value)} {kV doc pm cdv ct : Value} (X : K.In h) (G : h.Ns mainGlobals mg)
    (a : PySem.W.nsIn K mainGlobals x = some (some (.ref f))) (l : K.lookup f = some ⟨oc, od, .func (PySem.W.fnOf x x (defArgs st) (defBody st) (defScope st) .none kV doc pm an cdv ct), osl⟩)
    (c : PySem.W.codeIn K cdv x = true) (k : PySem.W.keepIn K (.ref f) = true) (n : DefAt K mg x st → Goal) : Goal :=
  n ⟨f, _, fun_mk (st := st) l c k, PySem.W.mg_of X G a⟩
theorem step_cst {x : Str} {v : Int} {t : Tok} (X : K.In h) (G : h.Ns mainGlobals mg) (a : PySem.W.nsIn K mainGlobals x = some (some (.int v t))) (n : Cst mg x v → Goal) : Goal := n ⟨t, PySem.W.mg_of X G a⟩
theorem step_none {x : Str} (X : K.In h) (G : h.Ns mainGlobals mg) (a : PySem.W.nsIn K mainGlobals x = some none) (n : mg x = none → Goal) : Goal := n (PySem.W.mg_none_of X G a)
theorem step_cls {x : Str} {C : Addr} (X : K.In h) (G : h.Ns mainGlobals mg) (aC : PySem.W.nsIn K mainGlobals x = some (some (.ref C))) (pg : PySem.W.plainGet K C Str.empty = true) (hd : PySem.W.hasDictIn K C = true)
    (po : PySem.W.plainOver K C = true) (sa : PySem.W.findIn K (.ref C) "__setattr__" = some (some (.builtin "object.__setattr__"))) (mk : PySem.W.makesIn K C = true) (kc : PySem.W.keepIn K (.ref C) = true)
    (n : Cls K C → mg x = some (.ref C) → PySem.W.makesIn K C = true → PySem.W.keepIn K (.ref C) = true → Goal) : Goal := n ⟨pg, hd, po, sa⟩ (PySem.W.mg_of X G aC) mk kc
theorem step_init {q : Str} {st : Stmt} {C f : Addr} {oc : Value} {od an : Option Addr} {osl : Array (Option Value)} {kV doc pm cdv ct : Value}
    (a : PySem.W.findIn K (.ref C) "__init__" = some (some (.ref f))) (i : PySem.W.isFn K (.ref f) = true) (l : K.lookup f = some ⟨oc, od, .func (PySem.W.fnOf "__init__" q (defArgs st) (defBody st) (defScope st) .none kV doc pm an cdv ct), osl⟩)
    (c : PySem.W.codeIn K cdv q = true) (k : PySem.W.keepIn K (.ref f) = true) (mk : PySem.W.makesIn K C = true) (kc : PySem.W.keepIn K (.ref C) = true) (n : IAt K C q st → Goal) : Goal :=
  n ⟨f, _, fun_mk (st := st) l c k, ⟨mk, a, i, kc⟩⟩
theorem step_meth {m q : Str} {st : Stmt} {C f : Addr} {oc : Value} {od an : Option Addr} {osl : Array (Option Value)} {kV doc pm cdv ct : Value}
    (_X : Cls K C) (a : PySem.W.findIn K (.ref C) m = some (some (.ref f))) (i : PySem.W.isFn K (.ref f) = true) (l : K.lookup f = some ⟨oc, od, .func (PySem.W.fnOf m q (defArgs st) (defBody st) (defScope st) .none kV doc pm an cdv ct), osl⟩)
    (c : PySem.W.codeIn K cdv q = true) (k : PySem.W.keepIn K (.ref f) = true) (n : MAt K C m q st → Goal) : Goal :=
  n ⟨f, _, fun_mk (st := st) l c k, ⟨a, i, k⟩⟩
theorem step_noattr {x : Str} {C : Addr} (_X : Cls K C) (a : PySem.W.findIn K (.ref C) x = some none) (n : NoAttr K C x → Goal) : Goal := n a
end
end KQ
namespace KQ
open PySem PySem.Spec PyProof.Rows L2 KR KM StX
section
variable {P : Program} {w : World} {K : PySem.W.Frag} {mg : Str → Option Value} {base : Heap}
structure Defs (K : PySem.W.Frag) (mg : Str → Option Value) : Prop where
  d_is_integer : DefAt K mg "is_integer" s_is_integer
  d_is_integer_within : DefAt K mg "is_integer_within" s_is_integer_within
  d_is_tuple_within : DefAt K mg "is_tuple_within" s_is_tuple_within
  d_first_wrong_block : DefAt K mg "first_wrong_block" s_first_wrong_block
  d_need_parting : DefAt K mg "need_parting" s_need_parting
  d_need_parting_of : DefAt K mg "need_parting_of" s_need_parting_of
  d_need_two_partings : DefAt K mg "need_two_partings" s_need_two_partings
  d_numbered : DefAt K mg "numbered" s_numbered
  d_block_count : DefAt K mg "block_count" s_block_count
  d_has_no_ring : DefAt K mg "has_no_ring" s_has_no_ring
  d_meets : DefAt K mg "meets" s_meets
  d_doors_ahead : DefAt K mg "doors_ahead" s_doors_ahead
  d_way_back : DefAt K mg "way_back" s_way_back
  d_need_door : DefAt K mg "need_door" s_need_door
  d_way : DefAt K mg "way" s_way
  d_side : DefAt K mg "side" s_side
  d_sides : DefAt K mg "sides" s_sides
  d_moved : DefAt K mg "moved" s_moved
  d_moves : DefAt K mg "moves" s_moves
  d__law_mixed : DefAt K mg "_law_mixed" s__law_mixed
  d__law_folded : DefAt K mg "_law_folded" s__law_folded
  d__law_draw : DefAt K mg "_law_draw" s__law_draw
  d__law_begun : DefAt K mg "_law_begun" s__law_begun
  d__law_like : DefAt K mg "_law_like" s__law_like
  d__law_of : DefAt K mg "_law_of" s__law_of
  d__law_is_int : DefAt K mg "_law_is_int" s__law_is_int
  d__law_order : DefAt K mg "_law_order" s__law_order
  d__law_numbered : DefAt K mg "_law_numbered" s__law_numbered
  d__law_partings : DefAt K mg "_law_partings" s__law_partings
  d__law_root : DefAt K mg "_law_root" s__law_root
  d__law_meet : DefAt K mg "_law_meet" s__law_meet
  d__law_any_parting : DefAt K mg "_law_any_parting" s__law_any_parting
  d__law_met : DefAt K mg "_law_met" s__law_met
  d__law_is_way : DefAt K mg "_law_is_way" s__law_is_way
  d__law_sides : DefAt K mg "_law_sides" s__law_sides
  d__law_moved : DefAt K mg "_law_moved" s__law_moved
  d__law_all_reached : DefAt K mg "_law_all_reached" s__law_all_reached
  c_MOST_DOORS : Cst mg "MOST_DOORS" 60
theorem calls (D : Defs K mg) (T : Bt mg) : Calls P w K mg base := by
  have u_is_integer := ok_is_integer (P := P) (w := w) (base := base) D.d_is_integer T
  have u_is_integer_within := ok_is_integer_within D.d_is_integer_within T u_is_integer
  have u_is_tuple_within := ok_is_tuple_within (P := P) (w := w) (base := base) D.d_is_tuple_within T
  have u_first_wrong_block := ok_first_wrong_block (P := P) (w := w) (base := base) D.d_first_wrong_block T
  have u_need_parting := ok_need_parting D.d_need_parting T D.c_MOST_DOORS u_is_tuple_within u_first_wrong_block
  have u_need_parting_of := ok_need_parting_of D.d_need_parting_of T u_need_parting
  have u_two := ok_need_two_partings D.d_need_two_partings T u_need_parting u_need_parting_of
  have u_block_count := ok_block_count (P := P) (w := w) (base := base) D.d_block_count T
  have u_numL := ok_numberedL (P := P) (w := w) (base := base) D.d_numbered T
  have u_has_no_ring := ok_has_no_ring D.d_has_no_ring T u_block_count
  have u_meets := ok_meets D.d_meets T u_block_count u_has_no_ring
  have u_ahead := ok_doors_ahead (P := P) (w := w) (base := base) D.d_doors_ahead T
  have u_back := ok_way_back (P := P) (w := w) (base := base) D.d_way_back T
  have u_door := ok_need_door D.d_need_door T u_is_integer_within
  have u_way := ok_way D.d_way T u_two u_door u_meets u_ahead u_back
  have u_side := ok_side D.d_side T u_ahead
  have u_sides := ok_sides D.d_sides T u_two u_door u_meets u_side
  have u_moved := ok_moved D.d_moved T u_numL
  have u_moves := ok_moves D.d_moves T u_two u_meets u_side u_moved
  have u_mixed := ok_mixed (P := P) (w := w) (base := base) D.d__law_mixed T
  have u_draw := ok_draw D.d__law_draw T u_mixed
  have u_folded := ok_folded (P := P) (w := w) (base := base) D.d__law_folded T
  have u_lnumL := ok_lnumL (P := P) (w := w) (base := base) D.d__law_numbered T
  have u_lnumU := ok_lnumU (P := P) (w := w) (base := base) D.d__law_numbered T
  have u_order := ok_order D.d__law_order T u_draw
  have u_of := ok_of D.d__law_of T u_draw
  have u_met := ok_metT D.d__law_met T u_of u_order u_lnumL
  have u_any := ok_any D.d__law_any_parting T u_draw u_lnumL
  have u_int := ok_law_is_int (P := P) (w := w) (base := base) D.d__law_is_int T
  have u_root := ok_root (P := P) (w := w) (base := base) D.d__law_root T
  have u_lmeet := ok_law_meet D.d__law_meet T u_root
  have u_lparts := ok_lparts (P := P) (w := w) (base := base) D.d__law_partings T
  exact ⟨ok_begun D.d__law_begun T u_folded, u_draw, u_any, u_met, u_lmeet, ok_like D.d__law_like T, u_way, u_sides, u_moves, ok_law_sides D.d__law_sides T, ok_is_way D.d__law_is_way T u_int, ok_law_moved D.d__law_moved T u_lnumU u_lmeet,
    ok_all_reached D.d__law_all_reached T u_lparts u_lmeet u_moves⟩
theorem finish {l : PySem.W.OpenLaw} {fa : Addr} (hfa : mg "law" = some (.ref fa)) (DL : DefAt K mg "law" s_law) (D : Defs K mg) (T : Bt mg) :
    ∃ fd : FuncData, (∀ (s : Shared) (u : Value), BindsTo s fd ⟨[u], []⟩ [("script", u)]) ∧ ∀ base : Heap, K.In base → base.Ns mainGlobals mg → FnG l.prog w K mg base 9 fa fd ["script"] (spLaw K) := by
  obtain ⟨f, fd, F, hm⟩ := DL
  have e := hfa.symm.trans hm
  cases e
  have F' := F
  obtain ⟨oc, od, kV, doc, pm, an, cdv, ct, osl, rfl, lk, hcd⟩ := F'.ex
  exact ⟨_, fun s v => .of_eq rfl, fun base _ _ => fn_law F T (calls D T)⟩
theorem walk {l : PySem.W.OpenLaw} {q : Program} {loose : List Str} {XP : (Str → Option Value) → Heap → Prop} {YP : World → Heap → Prop} {d : DefRec} {K : Params → PySem.W.Frag} (hn : l.most = some 63) (hdf : d.params.defaults = [])
    (hY : ∀ (w : World) (h : Heap), YP w h → (K w.params).In h)
    (F : ∀ (w : World) (mg : Str → Option Value) (fa : Addr) (h : Heap), (K w.params).In h → h.Ns mainGlobals mg → mg d.name = some (.ref fa) →
      ∃ fd : FuncData, (∀ (s : Shared) (u : Value), BindsTo s fd ⟨[u], []⟩ [("script", u)]) ∧ ∀ base : Heap, (K w.params).In base → base.Ns mainGlobals mg → FnG l.prog w (K w.params) mg base 9 fa fd ["script"] (spLaw (K w.params))) :
    PySem.W.WalkO q loose XP YP l.row.toRowW d [] (fun f vs => PySem.call f vs) :=
  KR.walk_ofG (n := 63) (k := 9) (x := "script") (sp := fun w => spLaw (K w.params)) hn (by decide) hdf ⟨rfl, by decide, by decide⟩ hY F (fun _ _ a ns hl _ hS => ⟨a, ns, rfl, hS, hl, fun _ => rfl⟩)
end
end KQ
open PySem PySem.W PyProof.Rows
set_option maxRecDepth 100000 in
set_option maxHeartbeats 0 in
theorem PySem.Challenge.cw_fittingdoors_k04_whole_ways_and_moves_holds : PySem.Challenge.rw_fittingdoors_k04_whole_ways_and_moves.Holds := by
  w_on; o_law; k_head; (case hw => w_witness2)
  k_fill
  refine KQ.walk (l := PySem.Challenge.rw_fittingdoors_k04_whole_ways_and_moves) rfl rfl (fun w h Y => PySem.W.kIn_of Y) ?F
  case F =>
    intro w mg fa h KX G hmg
    refine' KQ.step_def (x := "is_integer") (st := KQ.s_is_integer) KX G ?a1 ?l1 ?c1 ?k1 ?n1
    (case a1 => k_is); (case l1 => k_is); (case c1 => k_is); (case k1 => k_is)
    intro d_is_integer
    refine' KQ.step_def (x := "is_integer_within") (st := KQ.s_is_integer_within) KX G ?a2 ?l2 ?c2 ?k2 ?n2
    (case a2 => k_is); (case l2 => k_is); (case c2 => k_is); (case k2 => k_is)
    intro d_is_integer_within
    refine' KQ.step_def (x := "is_tuple_within") (st := KQ.s_is_tuple_within) KX G ?a3 ?l3 ?c3 ?k3 ?n3
    (case a3 => k_is); (case l3 => k_is); (case c3 => k_is); (case k3 => k_is)
    intro d_is_tuple_within
    refine' KQ.step_def (x := "first_wrong_block") (st := KQ.s_first_wrong_block) KX G ?a4 ?l4 ?c4 ?k4 ?n4
    (case a4 => k_is); (case l4 => k_is); (case c4 => k_is); (case k4 => k_is)
    intro d_first_wrong_block
    refine' KQ.step_def (x := "need_parting") (st := KQ.s_need_parting) KX G ?a5 ?l5 ?c5 ?k5 ?n5
    (case a5 => k_is); (case l5 => k_is); (case c5 => k_is); (case k5 => k_is)
    intro d_need_parting
    refine' KQ.step_def (x := "need_parting_of") (st := KQ.s_need_parting_of) KX G ?a6 ?l6 ?c6 ?k6 ?n6
    (case a6 => k_is); (case l6 => k_is); (case c6 => k_is); (case k6 => k_is)
    intro d_need_parting_of
    refine' KQ.step_def (x := "need_two_partings") (st := KQ.s_need_two_partings) KX G ?a7 ?l7 ?c7 ?k7 ?n7
    (case a7 => k_is); (case l7 => k_is); (case c7 => k_is); (case k7 => k_is)
    intro d_need_two_partings
    refine' KQ.step_def (x := "numbered") (st := KQ.s_numbered) KX G ?a8 ?l8 ?c8 ?k8 ?n8
    (case a8 => k_is); (case l8 => k_is); (case c8 => k_is); (case k8 => k_is)
    intro d_numbered
    refine' KQ.step_def (x := "block_count") (st := KQ.s_block_count) KX G ?a9 ?l9 ?c9 ?k9 ?n9
    (case a9 => k_is); (case l9 => k_is); (case c9 => k_is); (case k9 => k_is)
    intro d_block_count
    refine' KQ.step_def (x := "has_no_ring") (st := KQ.s_has_no_ring) KX G ?a10 ?l10 ?c10 ?k10 ?n10
    (case a10 => k_is); (case l10 => k_is); (case c10 => k_is); (case k10 => k_is)
    intro d_has_no_ring
    refine' KQ.step_def (x := "meets") (st := KQ.s_meets) KX G ?a11 ?l11 ?c11 ?k11 ?n11
    (case a11 => k_is); (case l11 => k_is); (case c11 => k_is); (case k11 => k_is)
    intro d_meets
    refine' KQ.step_def (x := "doors_ahead") (st := KQ.s_doors_ahead) KX G ?a12 ?l12 ?c12 ?k12 ?n12
    (case a12 => k_is); (case l12 => k_is); (case c12 => k_is); (case k12 => k_is)
    intro d_doors_ahead
    refine' KQ.step_def (x := "way_back") (st := KQ.s_way_back) KX G ?a13 ?l13 ?c13 ?k13 ?n13
    (case a13 => k_is); (case l13 => k_is); (case c13 => k_is); (case k13 => k_is)
    intro d_way_back
    refine' KQ.step_def (x := "need_door") (st := KQ.s_need_door) KX G ?a14 ?l14 ?c14 ?k14 ?n14
    (case a14 => k_is); (case l14 => k_is); (case c14 => k_is); (case k14 => k_is)
    intro d_need_door
    refine' KQ.step_def (x := "way") (st := KQ.s_way) KX G ?a15 ?l15 ?c15 ?k15 ?n15
    (case a15 => k_is); (case l15 => k_is); (case c15 => k_is); (case k15 => k_is)
    intro d_way
    refine' KQ.step_def (x := "side") (st := KQ.s_side) KX G ?a16 ?l16 ?c16 ?k16 ?n16
    (case a16 => k_is); (case l16 => k_is); (case c16 => k_is); (case k16 => k_is)
    intro d_side
    refine' KQ.step_def (x := "sides") (st := KQ.s_sides) KX G ?a17 ?l17 ?c17 ?k17 ?n17
    (case a17 => k_is); (case l17 => k_is); (case c17 => k_is); (case k17 => k_is)
    intro d_sides
    refine' KQ.step_def (x := "moved") (st := KQ.s_moved) KX G ?a18 ?l18 ?c18 ?k18 ?n18
    (case a18 => k_is); (case l18 => k_is); (case c18 => k_is); (case k18 => k_is)
    intro d_moved
    refine' KQ.step_def (x := "moves") (st := KQ.s_moves) KX G ?a19 ?l19 ?c19 ?k19 ?n19
    (case a19 => k_is); (case l19 => k_is); (case c19 => k_is); (case k19 => k_is)
    intro d_moves
    refine' KQ.step_def (x := "_law_mixed") (st := KQ.s__law_mixed) KX G ?a20 ?l20 ?c20 ?k20 ?n20
    (case a20 => k_is); (case l20 => k_is); (case c20 => k_is); (case k20 => k_is)
    intro d__law_mixed
    refine' KQ.step_def (x := "_law_folded") (st := KQ.s__law_folded) KX G ?a21 ?l21 ?c21 ?k21 ?n21
    (case a21 => k_is); (case l21 => k_is); (case c21 => k_is); (case k21 => k_is)
    intro d__law_folded
    refine' KQ.step_def (x := "_law_draw") (st := KQ.s__law_draw) KX G ?a22 ?l22 ?c22 ?k22 ?n22
    (case a22 => k_is); (case l22 => k_is); (case c22 => k_is); (case k22 => k_is)
    intro d__law_draw
    refine' KQ.step_def (x := "_law_begun") (st := KQ.s__law_begun) KX G ?a23 ?l23 ?c23 ?k23 ?n23
    (case a23 => k_is); (case l23 => k_is); (case c23 => k_is); (case k23 => k_is)
    intro d__law_begun
    refine' KQ.step_def (x := "_law_like") (st := KQ.s__law_like) KX G ?a24 ?l24 ?c24 ?k24 ?n24
    (case a24 => k_is); (case l24 => k_is); (case c24 => k_is); (case k24 => k_is)
    intro d__law_like
    refine' KQ.step_def (x := "_law_of") (st := KQ.s__law_of) KX G ?a25 ?l25 ?c25 ?k25 ?n25
    (case a25 => k_is); (case l25 => k_is); (case c25 => k_is); (case k25 => k_is)
    intro d__law_of
    refine' KQ.step_def (x := "_law_is_int") (st := KQ.s__law_is_int) KX G ?a26 ?l26 ?c26 ?k26 ?n26
    (case a26 => k_is); (case l26 => k_is); (case c26 => k_is); (case k26 => k_is)
    intro d__law_is_int
    refine' KQ.step_def (x := "_law_order") (st := KQ.s__law_order) KX G ?a27 ?l27 ?c27 ?k27 ?n27
    (case a27 => k_is); (case l27 => k_is); (case c27 => k_is); (case k27 => k_is)
    intro d__law_order
    refine' KQ.step_def (x := "_law_numbered") (st := KQ.s__law_numbered) KX G ?a28 ?l28 ?c28 ?k28 ?n28
    (case a28 => k_is); (case l28 => k_is); (case c28 => k_is); (case k28 => k_is)
    intro d__law_numbered
    refine' KQ.step_def (x := "_law_partings") (st := KQ.s__law_partings) KX G ?a29 ?l29 ?c29 ?k29 ?n29
    (case a29 => k_is); (case l29 => k_is); (case c29 => k_is); (case k29 => k_is)
    intro d__law_partings
    refine' KQ.step_def (x := "_law_root") (st := KQ.s__law_root) KX G ?a30 ?l30 ?c30 ?k30 ?n30
    (case a30 => k_is); (case l30 => k_is); (case c30 => k_is); (case k30 => k_is)
    intro d__law_root
    refine' KQ.step_def (x := "_law_meet") (st := KQ.s__law_meet) KX G ?a31 ?l31 ?c31 ?k31 ?n31
    (case a31 => k_is); (case l31 => k_is); (case c31 => k_is); (case k31 => k_is)
    intro d__law_meet
    refine' KQ.step_def (x := "_law_any_parting") (st := KQ.s__law_any_parting) KX G ?a32 ?l32 ?c32 ?k32 ?n32
    (case a32 => k_is); (case l32 => k_is); (case c32 => k_is); (case k32 => k_is)
    intro d__law_any_parting
    refine' KQ.step_def (x := "_law_met") (st := KQ.s__law_met) KX G ?a33 ?l33 ?c33 ?k33 ?n33
    (case a33 => k_is); (case l33 => k_is); (case c33 => k_is); (case k33 => k_is)
    intro d__law_met
    refine' KQ.step_def (x := "_law_is_way") (st := KQ.s__law_is_way) KX G ?a34 ?l34 ?c34 ?k34 ?n34
    (case a34 => k_is); (case l34 => k_is); (case c34 => k_is); (case k34 => k_is)
    intro d__law_is_way
    refine' KQ.step_def (x := "_law_sides") (st := KQ.s__law_sides) KX G ?a35 ?l35 ?c35 ?k35 ?n35
    (case a35 => k_is); (case l35 => k_is); (case c35 => k_is); (case k35 => k_is)
    intro d__law_sides
    refine' KQ.step_def (x := "_law_moved") (st := KQ.s__law_moved) KX G ?a36 ?l36 ?c36 ?k36 ?n36
    (case a36 => k_is); (case l36 => k_is); (case c36 => k_is); (case k36 => k_is)
    intro d__law_moved
    refine' KQ.step_def (x := "_law_all_reached") (st := KQ.s__law_all_reached) KX G ?a37 ?l37 ?c37 ?k37 ?n37
    (case a37 => k_is); (case l37 => k_is); (case c37 => k_is); (case k37 => k_is)
    intro d__law_all_reached
    refine' KQ.step_def (x := "law") (st := KQ.s_law) KX G ?a38 ?l38 ?c38 ?k38 ?n38
    (case a38 => k_is); (case l38 => k_is); (case c38 => k_is); (case k38 => k_is)
    intro d_law
    refine' KQ.step_cst (x := "MOST_DOORS") (v := 60) KX G ?a39 ?n39
    (case a39 => k_is)
    intro c_MOST_DOORS
    refine' KQ.step_none (x := "len") KX G ?a40 ?n40
    (case a40 => k_is)
    intro z_len
    refine' KQ.step_none (x := "range") KX G ?a41 ?n41
    (case a41 => k_is)
    intro z_range
    refine' KQ.step_none (x := "enumerate") KX G ?a42 ?n42
    (case a42 => k_is)
    intro z_enumerate
    refine' KQ.step_none (x := "zip") KX G ?a43 ?n43
    (case a43 => k_is)
    intro z_zip
    refine' KQ.step_none (x := "isinstance") KX G ?a44 ?n44
    (case a44 => k_is)
    intro z_isinstance
    refine' KQ.step_none (x := "int") KX G ?a45 ?n45
    (case a45 => k_is)
    intro z_int
    refine' KQ.step_none (x := "bool") KX G ?a46 ?n46
    (case a46 => k_is)
    intro z_bool
    refine' KQ.step_none (x := "tuple") KX G ?a47 ?n47
    (case a47 => k_is)
    intro z_tuple
    refine' KQ.step_none (x := "list") KX G ?a48 ?n48
    (case a48 => k_is)
    intro z_list
    refine' KQ.step_none (x := "max") KX G ?a49 ?n49
    (case a49 => k_is)
    intro z_max
    refine' KQ.step_none (x := "min") KX G ?a50 ?n50
    (case a50 => k_is)
    intro z_min
    refine' KQ.step_none (x := "repr") KX G ?a51 ?n51
    (case a51 => k_is)
    intro z_repr
    refine' KQ.step_none (x := "set") KX G ?a52 ?n52
    (case a52 => k_is)
    intro z_set
    refine' KQ.step_none (x := "sum") KX G ?a53 ?n53
    (case a53 => k_is)
    intro z_sum
    refine' KQ.step_none (x := "sorted") KX G ?a54 ?n54
    (case a54 => k_is)
    intro z_sorted
    exact KQ.finish hmg d_law ⟨d_is_integer, d_is_integer_within, d_is_tuple_within, d_first_wrong_block, d_need_parting, d_need_parting_of, d_need_two_partings, d_numbered, d_block_count, d_has_no_ring, d_meets, d_doors_ahead, d_way_back, d_need_door, d_way, d_side, d_sides, d_moved, d_moves, d__law_mixed, d__law_folded, d__law_draw, d__law_begun, d__law_like, d__law_of, d__law_is_int, d__law_order, d__law_numbered, d__law_partings, d__law_root, d__law_meet, d__law_any_parting, d__law_met, d__law_is_way, d__law_sides, d__law_moved, d__law_all_reached, c_MOST_DOORS⟩ ⟨z_len, z_range, z_enumerate, z_zip, z_isinstance, z_int, z_bool, z_tuple, z_list, z_max, z_min, z_repr, z_set, z_sum, z_sorted⟩
#print axioms PySem.Challenge.cw_fittingdoors_k04_whole_ways_and_moves_holds
