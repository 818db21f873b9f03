import PyProof.Rows.All
import Wide.All
import OpenK.AllK
import Wide.FinOn
import HandS.ForMost
import HandS.Exc
import HandS.IsInst
import HandS.Strs
import HandS.SetKeys
import HandS.Star
import HandS.Zip
import HandS.Conv
import HandS.Wide
import HandS.Style
import KE.DataMinMax
import KE.GoesNew
import KE.GoesMore
import KE.KDictKeyed
import PyProof.Rows.NestShow
import KE.DatumOrd
import KE.KDictZip
import HandS.TupLen
import HandS.SetFor
import HandS.TupAny
import HandS.Iter
import KE.BitLaws
import HandS.SortRule
import HandS.TupSets
import HandS.ExcCtx
import HandS.ExcInit
import KE.KSuper
import KE.KExcSuper
import HandS.TryMany
import HandS.ExcField
import HandS.CallLocal
import HandS.CallSlots
import HandS.SortInts
import HandS.Deep
import HandS.TupLe
import KE.DatumIndex
import KE.SortData
import KE.KDictSum
import KE.KDictCopyH
import KE.KDictDisplayH
import KE.KeyNested
import HandS.Dict
import HandS.ExcIs
import PySem.Challenge.RW_fittingdoors_k16_whole_closed_lots
set_option Elab.async false
set_option linter.all false
set_option maxRecDepth 100000
set_option maxHeartbeats 8000000
/-! rules that the layer lacks: calls where no repr is going on; repr of data; max of a tuple; enumerate of a tuple -/
namespace KR
open PySem PySem.Spec PyProof.Rows L2

/-! ### defs called where no guard stands -/
structure FnG (P : Program) (w : World) (K : PySem.W.Frag) (mg : Str → Option Value) (base : Heap)
    (k : Nat) (f : Addr) (fd : FuncData) (ps : List Str) (sp : Sp) : Prop where
  len : ∀ vs H Q E, sp vs H Q E → vs.length = ps.length
  run : ∀ (A : Around) (outer : List Env) (s : Shared) (H : Hp) (args : Args) (us : List Value) (vs : List V) (Q : VK) (E : XK),
    A.guards = some [] → Room k A → Env0 P w K mg base A outer s H → BindsTo s fd args (ps.zip us) → Vals vs us → sp vs H Q E →
    codeAny (model P w) A (.call (.ref f) args) (CR CX0 outer P w H s Q E) s

theorem FnG.up {P : Program} {w : World} {K : PySem.W.Frag} {mg : Str → Option Value} {base : Heap} {j k : Nat} {f : Addr}
    {fd : FuncData} {ps : List Str} {sp : Sp} (F : FnG P w K mg base j f fd ps sp) (h : j ≤ k) : FnG P w K mg base k f fd ps sp :=
  ⟨F.len, fun A outer s H args us vs Q E hg hr => F.run A outer s H args us vs Q E hg (hr.mono h)⟩

theorem Fun.okG {P : Program} {w : World} {K : PySem.W.Frag} {mg : Str → Option Value} {base : Heap}
    {x qual : Str} {st : Stmt} {f : Addr} {fd : FuncData} {N ps : List Str} {k : Nat} {sp : Sp}
    (F : Fun K x qual st f fd) (S : FnScope N ps (defScope st)) (len : ∀ vs H Q E, sp vs H Q E → vs.length = ps.length)
    (body : ∀ (cdv : Value) (A : Around) (outer : List Env) (s : Shared) (H : Hp) (vs : List V) (Q : VK) (E : XK),
      (A.deeper (envOfC qual (defScope st) s.heap.objs.size f cdv)).guards = some [] →
      Room k (A.deeper (envOfC qual (defScope st) s.heap.objs.size f cdv)) → sp vs H Q E →
      ∃ t, PSs (cxOf CX0 P w K mg base N qual (defScope st) f cdv A outer s H E).nox (defBody st) t ∧
        t { nx := fun _ H' => Q .non H', rt := Q } (start N vs) H) : FnG P w K mg base (k + 1) f fd ps sp := by
  obtain ⟨oc, od, kV, doc, pm, an, cdv, ct, osl, rfl, lk, hcd⟩ := F.ex
  refine ⟨len, fun A outer s H args us vs Q E hg hr e0 hb r hsp => ?_⟩
  have hlen := len _ _ _ _ hsp
  have inS : K.In s.heap :=
    e0.mod.kin.keeps fun b o e => (e0.bs b o e).1
  have nolim : s.heap.NoLimit :=
    e0.mod.nolimit.keeps fun b o e => (e0.bs b o e).1
  have kinds : ∀ y ∈ ps.zip us, (defScope st).names.lookup y.1 = some .local ∨
      ((defScope st).names.lookup y.1 = some .cell ∧ ((cellsFrom (s.heap.objs.size + 1) (defScope st).names []).lookup y.1).isSome = true) := by
    rintro ⟨n, v⟩ hy
    rcases S.par n (List.of_mem_zip hy).1 with q | q
    · exact Or.inl q
    · exact Or.inr ⟨q, PySem.W.cellsFrom_some _ _ _ (Or.inl q)⟩
  refine codeAny_call_function hr.depth (inS _ _ lk) rfl S.co S.gen rfl
    (PySem.W.codeRec_of inS hcd) (hb _ _ _ _ ?_)
  refine wpAny_newFunctionEnv_cells S.kind kinds fun env he s1 x => ?_
  subst he
  refine ⟨nolim.keeps x.toInCall.keep, codeAny_func ?_⟩
  obtain ⟨t, ht, hq⟩ := body cdv A outer s H vs Q E hg (hr.deeper _) hsp
  have I : Inv (cxOf CX0 P w K mg base N qual (defScope st) f cdv A outer s H E) [] (start N vs) H s1 :=
    inv_start S hr.hd e0 hlen r x
  refine wpAny_mono (ht.nox.run [] s1 (start N vs) H _ I hq) (fun fl s' hs => ?_) (fun e s' hs => hs)
  have fin : ∀ {σ' : L2.St} {H' : Hp} {v : V} {u : Value}, Inv (cxOf CX0 P w K mg base N qual (defScope st) f cdv A outer s H E) [] σ' H' s' →
      RelV v u → Q v H' → CE outer P w H s Q u s' := by
    intro σ' H' v u J rv q
    exact ⟨v, H', J.os, J.bare, J.base, J.hok, rv, q⟩
  cases fl with
  | ret u =>
    obtain ⟨v, σ', H', J, rv, q⟩ := hs
    exact fin J rv q
  | next =>
    obtain ⟨σ', H', J, q⟩ := hs
    exact fin (v := V.non) (u := Value.none) J rfl q
  | brk =>
    obtain ⟨_, _, _, q⟩ := hs
    exact q.elim
  | cont =>
    obtain ⟨_, _, _, q⟩ := hs
    exact q.elim

section
variable {X : Cx} {k : Nat} {f : Addr} {fd : FuncData} {ps : List Str} {sp : Sp} {dvs : List V} {ds : List Value} {x : Str} {p pos : Pos} {e : Expr} {es : List Expr} {t : TA}

/-- a call where no guard stands -/
theorem pe_callG (F : FnG X.prog X.w X.K X.mg X.base k f fd ps sp) (gd : X.A.guards = some []) (hr : Room k X.A) (hg : Gl X x) (hm : X.mg x = some (.ref f))
    (hk : PySem.W.keepIn X.K (.ref f) = true) (hb : Binds X.K fd ps ds) (hd : Vals dvs ds) (ha : PA X (e :: es) t)
    (hdb : (x == ("__debug__" : Str)) = false := by decide)
    (he : starEach (e :: es) X.env = (false, eval e X.env) :: starEach es X.env := by rfl)
    (hpl : (backTo pos (starEach es X.env)).any (·.1) = false := by rfl) :
    PE X (.Call (.Name x p) (e :: es) [] pos) (tCall sp dvs E0 t) := by
  refine ⟨fun pins s σ H Q I h => ?_⟩
  refine wpAny_Call_Name_kw (ld_glob I hg hm ?_ hdb)
  refine PySem.W.callWith_K (h₀ := X.base) I.ok.mod.kin hk
    (thn (ha.run pos pins s σ H _ I h) fun us s1 ⟨vs, H1, I1, r, q⟩ => ⟨I1.kIn, ?_⟩) he hpl
  have r2 : Vals (vs ++ dvs) (us ++ ds) := r.append hd
  have hl : (us ++ ds).length = ps.length := by
    rw [← r2.length]
    exact F.len _ _ _ _ q
  refine wpAny_call (codeAny_mono (F.run X.A X.stack s1 H1 ⟨us, []⟩ (us ++ ds) (vs ++ dvs) Q E0 gd hr I1.env0
    (hb s1 us I1.kIn hl) r2 q) fun r s' hq => ?_)
  cases r with
  | error e => exact (show False from hq).elim
  | ok fl =>
    cases fl with
    | ret u => exact I1.after hq
    | next => exact (show False from hq).elim
    | brk => exact (show False from hq).elim
    | cont => exact (show False from hq).elim
end

/-! ### repr of data -/
def rRepr (K : PySem.W.Frag) : List V → Hp → VK → Prop := fun xs H Q => ∃ v d, xs = [v] ∧ Dp K H v d ∧
  isDisplay d = true ∧ d.showable = true ∧ d.hasDict = false ∧ d.depth ≤ 30 ∧ d.shown.length ≤ sizeLine ∧ Q (.str d.shown) H
theorem call_reprD {X : Cx} (gd : X.A.guards = some []) (hu : X.A.units + 64 < cLine) : CallR X (.builtin "repr") (rRepr X.K) := by
  intro pins s σ H xs us Q I r h
  obtain ⟨v, d, rfl, hd, hdisp, hs, hnd, hdep, hlen, q⟩ := h
  cases r with
  | cons r1 rr =>
    cases rr
    obtain ⟨as, rd⟩ := Dp.reads I d v _ hd r1
    obtain ⟨a, rfl⟩ := isRef_of_reads rd hdisp
    refine repr_of_reads' rd hs (PyData.noDict_hsm hnd) gd (by omega) (fun _ _ e => e) (fun h' u tk hk => ?_) hlen
    exact ⟨.str d.shown, H, I.kept hk, ⟨u, rfl⟩, q⟩

/-! ### the law's own call -/
theorem law_callG {P : Program} {w : World} {K : PySem.W.Frag} {mg mb : Str → Option Value} {k : Nat} {fa a : Addr} {fd : FuncData} {x : Str} {sp : Sp}
    {s₁ : Shared} {vs : List Value} {ns : List Int} (KX : K.In s₁.heap) (hns : s₁.heap.Ns mainGlobals mg) (hb : s₁.heap.Ns builtinsNs mb)
    (hbb : ∀ x : Str, x ≠ "__name__" → mb x = bootBuiltins x) (hlim : s₁.heap.NoLimit) (hg : s₁.gens = #[])
    (ha : s₁.heap.get? a = some { cls := .type "list", data := .seq vs.toArray }) (hi : IntsAre vs ns) (hl : ns.length ≤ sizeLine) (hr : Room k callerA)
    (F : ∀ base : Heap, K.In base → base.Ns mainGlobals mg → FnG P w K mg base k fa fd [x] sp)
    (hbind : ∀ (s : Shared) (u : Value), BindsTo s fd ⟨[u], []⟩ [(x, u)])
    (hsp : ∀ H : Hp, Only H → SqL K H a (ns.map V.int) → sp [.ref a] H (fun v _ => v = .bl true) fun _ _ _ => False) :
    codeAny (model P w) callerA (.call (.ref fa) ⟨[.ref a], []⟩)
      (fun r s' => r = .ok (.ret (.bool true)) ∧ OldK s₁.heap s'.heap ∧ s'.os = s₁.os ∧ AllBare s'.gens) s₁ := by
  have core : ∀ H : Hp, Only H → SqL K H a (ns.map V.int) → HOk P w H s₁.heap → (∀ b, H b ≠ none → b = a ∧ K.lookup b = none) →
      codeAny (model P w) callerA (.call (.ref fa) ⟨[.ref a], []⟩)
        (fun r s' => r = .ok (.ret (.bool true)) ∧ OldK s₁.heap s'.heap ∧ s'.os = s₁.os ∧ AllBare s'.gens) s₁ := by
    intro H hO hS hok hA
    have get1 : ∀ {b : Addr} {o : Obj}, s₁.heap.get? b = some o → H b = none → (hidT s₁.heap H).get? b = some o :=
      fun e n => hidT_get e n
    have freeD : ∀ {b : Addr} {o : Obj} {es : Array DictEntry} {ep : Nat}, s₁.heap.get? b = some o → o.data = .dict es ep → H b = none := by
      intro b o es ep e d
      apply Classical.byContradiction
      intro hne
      have eb := (hA b hne).1
      rw [eb, ha] at e
      cases e
      exact nomatch (show Data.seq vs.toArray _ = Data.dict es ep from d)
    have spaces : ∀ {b : Addr} {m : Str → Option Value}, s₁.heap.Ns b m → (hidT s₁.heap H).Ns b m := by
      rintro b m ⟨o, es, ep, e, d, r⟩
      exact ⟨o, es, ep, get1 e (freeD e d), d, r⟩
    have inB : K.In (hidT s₁.heap H) := by
      intro b o e
      refine get1 (KX b o e) (Classical.byContradiction fun hne => ?_)
      have := (hA b hne).2
      rw [e] at this
      cases this
    have hM : Mod K mg (hidT s₁.heap H) := by
      obtain ⟨mc, h1, h2⟩ := hlim
      exact ⟨inB, spaces hns, ⟨mb, spaces hb, hbb⟩, ⟨mc, spaces h1, h2⟩⟩
    have e0 : Env0 P w K mg (hidT s₁.heap H) callerA [] s₁ H :=
      ⟨rfl, hM, fun b o e => of_hidT e, Nat.le_of_eq (hidT_size _ _), trivial, fun b hb => (List.not_mem_nil hb).elim, hok, .of_eq hg⟩
    have run := (F _ inB (spaces hns)).run callerA [] s₁ H ⟨[.ref a], []⟩ [.ref a] [.ref a] _ _ (by first | rfl | decide) hr e0
      (hbind s₁ (.ref a)) (.cons rfl .nil) (hsp H hO hS)
    refine codeAny_mono run fun r s' h => ?_
    cases r with
    | error e => exact (show False from h).elim
    | ok fl =>
      cases fl with
      | next => exact (show False from h).elim
      | brk => exact (show False from h).elim
      | cont => exact (show False from h).elim
      | ret u =>
        obtain ⟨v, H', os, bare, un, hok', r', q⟩ := h
        obtain rfl : v = .bl true := q
        obtain rfl : u = Value.bool true := r'
        refine ⟨rfl, OldK.of_keep fun b o e => ?_, os, bare⟩
        rcases hO b with q | ⟨ob, xs, z⟩
        · exact un.keep b o e q (fun z => (List.not_mem_nil z).elim) (by simp)
        · have z2 := un.frzs b ob _ z
          obtain ⟨e1, _⟩ := hok b _ z
          obtain ⟨e2, _⟩ := hok' b _ z2
          rw [e] at e1
          cases e1
          exact e2
  have rv := vals_ints hi
  have lenV := hi.length
  cases hk : K.lookup a with
  | some o =>
    have e := KX a o hk
    rw [ha] at e
    cases e
    refine core (fun _ => none) (fun _ => Or.inl rfl) ?_ ?_ (fun b z => (z rfl).elim)
    · refine Or.inr ⟨_, vs.toArray, _, hk, rfl, rfl, rfl, ?_, ?_⟩
      · rw [List.size_toArray, lenV]
        exact hl
      · simpa using rv
    · intro b u z
      exact nomatch (show (none : Option HO) = some u from z)
  | none =>
    have only : ∀ b, (if b = a then some (HO.frz { cls := .type "list", data := .seq vs.toArray } (.lst (ns.map V.int))) else none) ≠ none → b = a := by
      intro b z
      exact Classical.byContradiction fun hb => z (if_neg hb)
    refine core (fun b => if b = a then some (.frz { cls := .type "list", data := .seq vs.toArray } (.lst (ns.map V.int))) else none) ?_ ?_ ?_ ?_
    · intro b
      by_cases hb : b = a
      · exact Or.inr ⟨_, _, if_pos hb⟩
      · exact Or.inl (if_neg hb)
    · exact Or.inl (Or.inr ⟨{ cls := .type "list", data := .seq vs.toArray }, if_pos rfl⟩)
    · intro b u z
      have hb := only b (by rw [show (if b = a then _ else _) = some u from z]; exact fun q => nomatch q)
      subst hb
      cases (if_pos rfl).symm.trans z
      exact ⟨ha, by rw [List.length_map]; exact hl, vs, _, rv, ha⟩
    · intro b z
      have hb := only b z
      exact ⟨hb, by rw [hb]; exact hk⟩

theorem walk_ofG {l : PySem.W.OpenLaw} {n k : Nat} {q : Program} {loose : List Str} {XP : (Str → Option Value) → Heap → Prop} {YP : World → Heap → Prop}
    {d : DefRec} {K : Params → PySem.W.Frag} {sp : World → Sp} {x : Str}
    (hn : l.most = some n) (hn2 : n ≤ sizeLine) (hdf : d.params.defaults = []) (hr : Room k callerA)
    (hY : ∀ (w : World) (h : Heap), YP w h → (K w.params).In h)
    (F : ∀ (w : World) (mg : Str → Option Value) (fa : Addr) (h : Heap), (K w.params).In h → h.Ns mainGlobals mg → mg d.name = some (.ref fa) →
      ∃ fd : FuncData, (∀ (s : Shared) (u : Value), BindsTo s fd ⟨[u], []⟩ [(x, u)]) ∧
        ∀ base : Heap, (K w.params).In base → base.Ns mainGlobals mg → FnG l.prog w (K w.params) mg base k fa fd [x] (sp w))
    (hsp : ∀ (w : World) (H : Hp) (a : Addr) (ns : List Int), ns.length ≤ n → Only H → SqL (K w.params) H a (ns.map V.int) →
      sp w [.ref a] H (fun v _ => v = .bl true) fun _ _ _ => False) :
    PySem.W.WalkO q loose XP YP l.row.toRowW d [] (fun f vs => PySem.call f vs) := by
  refine Att.attach_call hn hdf fun w s₀ s₁ mg mb fa o pm cd doc a vs ns G Y ho hd hcd hmg hobj hints hlen hg => ?_
  obtain ⟨fd, hb, hF⟩ := F w mg fa _ (hY w _ Y) G.T.g hmg
  exact law_callG (hY w _ Y) G.T.g G.T.b G.T.builtins G.T.nolimit hg hobj hints (Nat.le_trans hlen hn2) hr hF hb
    (fun H hO hS => hsp w H a ns hlen hO hS)
end KR
namespace KR
open PySem PySem.Spec PyProof.Rows L2

/-! ### max of a tuple of whole numbers -/
theorem dpAll_ints {K : PySem.W.Frag} {H : Hp} : ∀ ns : List Int, DpAll K H (ns.map V.int) (ns.map PyData.int)
  | [] => .nil
  | n :: ns => .cons (.int n) (dpAll_ints ns)
def rMaxT (K : PySem.W.Frag) : List V → Hp → VK → Prop := fun vs H Q => ∃ (a : Addr) (ns : List Int), vs = [V.ref a] ∧ SqT K H a (ns.map V.int) ∧ ns ≠ [] ∧
  ∀ m, m ∈ ns → (∀ y, y ∈ ns → y ≤ m) → Q (.int m) H
theorem maxOf_spec : ∀ (r : List Int) (x : Int), PySem.W.maxOf x r ∈ x :: r ∧ ∀ y ∈ x :: r, y ≤ PySem.W.maxOf x r
  | [], x => by
    refine ⟨List.mem_cons_self, fun y hy => ?_⟩
    rw [List.mem_singleton.mp hy]
    exact Int.le_refl _
  | z :: r, x => by
    have e : PySem.W.maxOf x (z :: r) = PySem.W.maxOf (if decide (x < z) = true then z else x) r := rfl
    rw [e]
    obtain ⟨h1, h2⟩ := maxOf_spec r (if decide (x < z) = true then z else x)
    have h3 : x ≤ (if decide (x < z) = true then z else x) ∧ z ≤ (if decide (x < z) = true then z else x) := by
      by_cases h : x < z
      · rw [if_pos (decide_eq_true h)]
        omega
      · rw [if_neg (by simpa using h)]
        omega
    have h4 := h2 _ List.mem_cons_self
    refine ⟨?_, fun y hy => ?_⟩
    · rcases List.mem_cons.mp h1 with q | q
      · rw [q]
        by_cases h : x < z
        · rw [if_pos (decide_eq_true h)]
          exact List.mem_cons_of_mem _ List.mem_cons_self
        · rw [if_neg (by simpa using h)]
          exact List.mem_cons_self
      · exact List.mem_cons_of_mem _ (List.mem_cons_of_mem _ q)
    · rcases List.mem_cons.mp hy with q | q
      · rw [q]
        omega
      · rcases List.mem_cons.mp q with q | q
        · rw [q]
          omega
        · exact h2 y (List.mem_cons_of_mem _ q)
theorem call_maxT {X : Cx} (hc : X.calm = true) (hu : X.A.units + 64 < cLine) : CallR X (.builtin "max") (rMaxT X.K) := by
  intro pins s σ H vs us Q I r h
  obtain ⟨a, ns, rfl, hs, hne, q⟩ := h
  obtain ⟨its, rv, hl, _⟩ := I.tuple hs
  rw [Vals.ref1 r]
  cases ns with
  | nil => exact (hne rfl).elim
  | cons x xs =>
    obtain ⟨as, rd⟩ := Dp.readsAll I ((x :: xs).map PyData.int) _ its (dpAll_ints (x :: xs)) rv
    refine PySem.W.max_tuple_datum (x := x) (xs := xs) (vs := its.toArray) (I.ok.hd hc) (show s.heap.IsTuple a its.toArray from hl) ⟨as, by rw [show its.toArray.toList = its by simp]; exact rd⟩ (by show X.A.units + 1 + 0 < cLine; omega) fun i v h' tk hv hh hk => ?_
    obtain ⟨bs, rr⟩ := hh
    obtain ⟨t, rfl⟩ : ∃ t, v = .int (PySem.W.maxOf x xs) t := by
      cases rr with
      | int _ t => exact ⟨t, rfl⟩
    obtain ⟨h1, h2⟩ := maxOf_spec xs x
    exact ⟨.int _, H, I.kept hk, ⟨_, rfl⟩, q _ h1 h2⟩

/-! ### enumerate of a tuple -/
def IteT (K : PySem.W.Frag) (a : Addr) : It where
  go := fun i H => ∃ (xs : List V) (x : V), SqT K H a xs ∧ xs[i]? = some x
  yld := fun i H v H' => ∃ T x, v = .ref T ∧ H T = none ∧ H' = upd H T (.tup [.int (i : Nat), x]) ∧ ∀ xs, SqT K H a xs → xs[i]? = some x
  stop := fun i H => ∃ xs : List V, SqT K H a xs ∧ xs.length ≤ i
theorem turn_enumT {P : Program} {w : World} {K : PySem.W.Frag} {elts : List Expr} {kk : Nat} {tpos : Pos} (a e it : Addr) (hea : a ≠ it) (hee : a ≠ e) :
    Turn P w K (.Tuple elts kk tpos) (IteT K a) [e, it] e
      (fun i h => (∃ old, IsEnum h e it ((i : Nat) : Int) old) ∧ h.IsTupleIter it a i ∧ e ≠ it) where
  mem := List.mem_cons_self
  obj := by
    rintro i h ⟨⟨old, he⟩, ⟨o, ho, hc, hd⟩, _⟩ b hb
    rcases List.mem_cons.mp hb with z | z
    · subst z
      exact ⟨_, he, fun v q => nomatch q⟩
    · cases List.mem_singleton.mp z
      exact ⟨o, ho, fun v q => by rw [hd] at q; cases q⟩
  keep := by
    rintro i h h' ⟨⟨old, he⟩, hi, hne⟩ k
    exact ⟨⟨old, k e List.mem_cons_self _ he⟩, hi.at fun o q => k it (List.mem_cons_of_mem _ List.mem_cons_self) o q, hne⟩
  item := by
    intro X hP hw hK hc i pins s σ H E I hf st hg
    subst hP hw hK
    obtain ⟨⟨old, he⟩, hit, hne⟩ := st
    obtain ⟨xs, x, hq, hx⟩ := hg
    obtain ⟨its, rv, p, hz⟩ := I.tuple hq
    obtain ⟨u, hu, ru⟩ := rv.get hx
    have hT : s.heap.IsTuple a its.toArray := p
    have hel : e < s.heap.objs.size := Heap.lt_size he
    have hil : it < s.heap.objs.size := by
      obtain ⟨_, q, _⟩ := hit
      exact Heap.lt_size q
    have hlt : i < its.toArray.size := by
      have := (List.getElem?_eq_some_iff.mp hu).1
      simpa using this
    have D := Draws.tuple (prog := X.prog) (w := X.w) (A := X.A.in1) (I.ok.hd hc) it a hea its.toArray
    have hef : e ∉ [it, a] := by
      intro hm
      rcases List.mem_cons.mp hm with z | z
      · exact hne z
      · exact hee (List.mem_singleton.mp z).symm
    refine wpAny_pyNext_enum_itemD D he ⟨hit, hT⟩ hlt hne hef fun x' h' tk hP ho hit' hT' hsz hk => ?_
    have ex : x' = u := by
      have h1 : its.toArray[i]? = some u := by simpa using hu
      rw [show its.toArray[i]? = some x' from hP] at h1
      exact Option.some.inj h1
    subst ex
    refine ⟨_, rfl, wpAny_letOwnedTupleGo_enum (s := { s with heap := h', toks := tk + 1 }) ho fun h'' he' sb => ?_⟩
    have hT2 : h''.get? s.heap.objs.size = some { cls := .type "tuple", data := .seq #[.int i tk, x'] } :=
      (sb.2 _ (Nat.ne_of_gt hel)).trans hT'
    have new : ObjOk X.prog X.w (upd H s.heap.objs.size (.tup [.int (i : Nat), x])) h'' s.heap.objs.size (.tup [.int (i : Nat), x]) :=
      ⟨show 2 ≤ sizeLine by decide, [.int i tk, x'], .cons ⟨_, rfl⟩ (.cons ru .nil), _, hT2, rfl, _, rfl⟩
    have I1 : Inv X pins σ (upd H s.heap.objs.size (.tup [.int (i : Nat), x])) { s with heap := h'', toks := tk + 1 } := by
      refine I.turnedNew (ch := [e, it]) (fun b ob hb q => ?_) hf (Nat.le_refl _) new
      have hbe : b ≠ e := fun z => hb (by rw [z]; exact List.mem_cons_self)
      have hbi : b ≠ it := fun z => hb (by rw [z]; exact List.mem_cons_of_mem _ List.mem_cons_self)
      exact (sb.2 b hbe).trans (hk b ob hbe hbi q)
    refine ⟨.ref s.heap.objs.size, _, I1, rfl, ⟨_, x, rfl, I.hok.fresh (Nat.le_refl _), rfl, fun ys hy => ?_⟩, ⟨⟨x', ?_⟩, ?_, hne⟩, fun b hb => ?_⟩
    · rw [I.tuple_inj hy hq]
      exact hx
    · rw [show ((i + 1 : Nat) : Int) = (i : Int) + 1 by omega]
      exact he'
    · exact hit'.1.at fun o q => (sb.2 it (Ne.symm hne)).trans q
    · have hb' : b < s.heap.objs.size := by
        rcases List.mem_cons.mp hb with z | z
        · rw [z]
          exact hel
        · rw [List.mem_singleton.mp z]
          exact hil
      rw [upd_ne (Nat.ne_of_lt hb')]
      exact (hf b hb).1
  done := by
    intro X hP hw hK hc i pins s σ H E I hf st hg
    subst hP hw hK
    obtain ⟨⟨old, he⟩, hit, hne⟩ := st
    obtain ⟨xs, hq, hx⟩ := hg
    obtain ⟨its, rv, p, hz⟩ := I.tuple hq
    obtain ⟨f0, f1, f2, f3, f4, f5⟩ := hf it (List.mem_cons_of_mem _ List.mem_cons_self)
    have hl := rv.length
    have hT : s.heap.IsTuple a its.toArray := p
    have hT0 : s.TypeIs (.ref e) "enumerate" := ⟨_, he, rfl⟩
    unfold pyNext
    refine wpAny_bind (wpAny_attempt (wpAny_callSpecial?_slot (name := Str.ofString "__next__") hT0 F.slot_enumerate_next
      (wpAny_call_entry F.slot_enumerate_next hT0 F.entry_enumerate_next ?_ (F.args_enumerate_next_1 _))))
    show wpAny _ _ (field (.ref e) 2 >>= _) _ _ s
    refine wpAny_bind (wpAny_field he rfl (x := .ref it) rfl ?_)
    refine wpAny_bind (wpAny_nextOf_tuple_end (A := X.A.in1) (I.ok.hd hc) hit hT ?_ fun h' x he' hx' => ?_)
    · simp
      omega
    · obtain ⟨o, ho, hcl⟩ := hx'
      refine wpAny_bind (wpAny_isInstance (T := "StopIteration") (b := true) ⟨o, ho, hcl⟩ isSubtype_stop ?_)
      exact wpAny_pure ⟨rfl, I.turned (t' := s.toks) (fun b o hb q => he' b o hb q) f0 f1 f3 f4 f5⟩
  self := fun A i s Q E st h => let ⟨⟨_, he⟩, _⟩ := st; wpAny_pyIter_enum he h
def iEnumT (K : PySem.W.Frag) (ta : TA) : TI := fun σ H R => ta σ H fun vs H1 => ∃ a xs, vs = [.ref a] ∧ SqT K H1 a xs ∧ R (IteT K a) H1
set_option maxHeartbeats 4000000 in
theorem meets_enumT (t : Addr) (items : Array Value) :
    Meets (Builtin.«enumerate.__new__» ⟨[.type "enumerate", .ref t], []⟩) (fun _ R s => s.heap.IsTuple t items ∧
      R (.ok (.ret (.ref (s.heap.push { cls := .type "tuple_iterator", data := .fields #[.ref t, .int 0 0] }).objs.size)))
        { s with heap := (s.heap.push { cls := .type "tuple_iterator", data := .fields #[.ref t, .int 0 0] }).push { cls := .type "enumerate", data := .fields #[.none, .bool false, .ref s.heap.objs.size, rawInt 0, .none, .none] } }) :=
  .of_wp fun prog w A R s h => by
    obtain ⟨hp, g, d, tk, os⟩ := s
    obtain ⟨h1, h⟩ := h
    have hsub := sub_enumerate
    have B := begins_tuple t items
    have q1 : ∀ {A' : Around} {E : Value → Shared → Prop} {Q : Value → Shared → Prop},
        Q (.ref hp.objs.size) ⟨hp.push { cls := .type "tuple_iterator", data := .fields #[.ref t, .int 0 0] }, g, d, tk, os⟩ → wpAny (model prog w) A' (pyIter (.ref t)) Q E ⟨hp, g, d, tk, os⟩ :=
      fun q => B.iter prog w _ _ ⟨hp, g, d, tk, os⟩ _ h1 q
    wp_walk using q1
    refine wpAny_stack_any fun st => wpAny_pure ?_
    split
    · rename_i c _ _ _ _ _
      cases (c == Value.type "enumerate")
      · wp_walk using q1
        exact ⟨_, rfl, h⟩
      · wp_walk using q1
        exact ⟨_, rfl, h⟩
    · wp_walk using q1
      exact ⟨_, rfl, h⟩
theorem call_enumT {prog : Program} {w : World} {A : Around} {E : Value → Shared → Prop} {s : Shared} {t : Addr} {items : Array Value} {Q : Value → Shared → Prop} (hT : s.heap.IsTuple t items)
    (h : ∀ h', IsEnum h' (s.heap.objs.size + 1) s.heap.objs.size 0 .none → h'.IsTupleIter s.heap.objs.size t 0 → h'.objs.size = s.heap.objs.size + 2 →
      (∀ b o, s.heap.get? b = some o → h'.get? b = some o) → Q (.ref (s.heap.objs.size + 1)) { s with heap := h' }) :
    wpAny (model prog w) A (call (.type "enumerate") [.ref t]) Q E s := by
  refine callType_new F.called_enumerate (by decide) (F.typeCall_enumerate_1 _) (F.newCall_enumerate_1 _) (fun obj => F.args_object_init_2 obj _) F.entry_enumerate_new
    (meets_enumT t items) ⟨hT, ?_⟩
  have hz : (s.heap.push { cls := .type "tuple_iterator", data := .fields #[.ref t, .int 0 0] }).objs.size = s.heap.objs.size + 1 := Heap.size_push ..
  show _ ∧ _
  rw [hz]
  have he : IsEnum ((s.heap.push { cls := .type "tuple_iterator", data := .fields #[.ref t, .int 0 0] }).push
      { cls := .type "enumerate", data := .fields #[.none, .bool false, .ref s.heap.objs.size, rawInt 0, .none, .none] }) (s.heap.objs.size + 1) s.heap.objs.size 0 .none := by
    have q := Heap.get?_push_size (s.heap.push { cls := .type "tuple_iterator", data := .fields #[.ref t, .int 0 0] })
      (o := { cls := .type "enumerate", data := .fields #[.none, .bool false, .ref s.heap.objs.size, rawInt 0, .none, .none] }) rfl
    rw [hz] at q
    exact q
  refine ⟨⟨_, he, rfl⟩, h _ he ⟨{ cls := .type "tuple_iterator", data := .fields #[.ref t, .int 0 0] }, Heap.get?_push_of_some _ (Heap.get?_push_size _ rfl), rfl, rfl⟩ (by rw [Heap.size_push, hz]) fun b o x => ?_⟩
  exact Heap.get?_push_of_some _ (Heap.get?_push_of_some _ x)
theorem pi_enumT {X : Cx} {e : Expr} {ta : TA} {p pos tpos : Pos} {elts : List Expr} {kk : Nat} (hg : Gl X "enumerate") (hm : X.mg "enumerate" = none)
    (ha : PA X [e] ta) (hs : starEach [e] X.env = [(false, eval e X.env)] := by rfl) :
    PI X (.Tuple elts kk tpos) (.Call (.Name "enumerate" p) [e] [] pos) (iEnumT X.K ta) := by
  refine ⟨fun pins s σ H R I h => ?_⟩
  refine Call_ (ld_blt I hg hm boot_enumerate (PyProof.Rows.callWith_type1
    (thn (ha.run pos pins s σ H _ I h) fun us s1 ⟨vs, H1, I1, r1, q1⟩ => ?_) hs rfl))
  obtain ⟨a, xs, ex, hq, q⟩ := q1
  subst ex
  rw [Vals.ref1 r1]
  obtain ⟨its, rv, p', hz⟩ := I1.tuple hq
  have hT : s1.heap.IsTuple a its.toArray := p'
  have hal : a < s1.heap.objs.size := by
    obtain ⟨o, ho, _⟩ := id hT
    exact Heap.lt_size ho
  refine call_enumT hT fun h' he hit hsz hk => wpAny_pyIter_enum he ?_
  have I2 : Inv X pins σ H1 { s1 with heap := h' } := I1.kept (t' := s1.toks) hk
  refine ⟨s1.heap.objs.size + 1, [s1.heap.objs.size + 1, s1.heap.objs.size], _, _, H1, rfl, I2,
    turn_enumT a (s1.heap.objs.size + 1) s1.heap.objs.size (Nat.ne_of_lt hal) (Nat.ne_of_lt (Nat.lt_succ_of_lt hal)), ⟨⟨.none, he⟩, hit, Nat.succ_ne_self _⟩, fun b hb => ?_, q⟩
  have hle : s1.heap.objs.size ≤ b := by
    rcases List.mem_cons.mp hb with z | z
    · rw [z]
      exact Nat.le_add_right _ _
    · rw [List.mem_singleton.mp z]
      exact Nat.le_refl _
  exact I1.fpOk hle (I1.hok.fresh hle)
end KR
/-! list(zip(t, u)) of two tuples -/
namespace KR
open PySem PySem.Spec PySem.W PyProof.Rows L2 RZ

section
variable {prog : Program} {w : World} {A : Around} {E : Value → Shared → Prop} {s : Shared}
theorem zipH_item {z TI TO T i1 i2 l1 l2 : Addr} {f : Bool} {oT : Obj} {k1 k2 : Nat} {xs ys : Array Value} {x y : Value} {Q : Option Value → Shared → Prop}
    (D : ZipApart z TI TO i1 i2 l1 l2) (hz : IsZipHeld s.heap z TI TO T f) (hT : s.heap.get? T = some oT) (hTI : IsPair s.heap TI (.ref i1) (.ref i2))
    (h1 : s.heap.IsTupleIter i1 l1 k1) (h2 : s.heap.IsTupleIter i2 l2 k2) (hl1 : s.heap.IsTuple l1 xs) (hl2 : s.heap.IsTuple l2 ys) (hx : xs[k1]? = some x) (hy : ys[k2]? = some y)
    (hQ : ∀ h', IsZipHeld h' z TI TO T true → h'.IsTupleIter i1 l1 (k1 + 1) → h'.IsTupleIter i2 l2 (k2 + 1) → IsPair h' s.heap.objs.size x y → h'.objs.size = s.heap.objs.size + 1 →
      (∀ c o, c ≠ z → c ≠ i1 → c ≠ i2 → s.heap.get? c = some o → h'.get? c = some o) → Q (some (.ref s.heap.objs.size)) { s with heap := h' }) :
    wpAny (model prog w) A (pyNext (.ref z)) Q E s := by
  have hTy : s.TypeIs (.ref z) "zip" := ⟨_, hz, rfl⟩
  unfold pyNext
  refine wpAny_bind (wpAny_attempt (wpAny_callSpecial?_slot (name := Str.ofString "__next__") hTy F.slot_zip_next
    (wpAny_call_entry F.slot_zip_next hTy F.entry_zip_next ?_ (F.args_zip_next_1 _))))
  show wpAny _ _ (field (.ref z) 2 >>= _) _ _ s
  refine wpAny_bind (wpAny_field hz rfl (x := .bool false) rfl ?_)
  show wpAny _ _ (field (.ref z) 3 >>= _) _ _ s
  refine wpAny_bind (wpAny_field hz rfl (x := .ref TI) rfl ?_)
  refine wpAny_bind (wpAny_seqItems hTI rfl ?_)
  show wpAny _ _ (Builtin.SmallTypes.ownedTupleIsFree (.ref z) >>= _) _ _ s
  refine wpAny_bind (wpAny_tupleHeld_zip hz hT fun g1 zz1 sb1 => ?_)
  simp only [Bool.false_eq_true, if_false]
  refine wpAny_bind ?_
  rw [← Array.forIn_toList]
  simp only [List.forIn_cons, List.forIn_nil]
  refine wpAny_bind (wpAny_bind (wpAny_holding ?_))
  show wpAny _ _ (Builtin.SmallTypes.nextOf (.ref i1) >>= _) _ _ { s with heap := g1 }
  refine wpAny_bind (wpAny_nextOf_tuple_item (s := { s with heap := g1 }) (h1.extBut sb1.extBut D.i1z) (hl1.extBut sb1.extBut D.l1z) hx fun g2 it2 sb2 => wpAny_pure ?_)
  refine wpAny_pure ?_
  refine wpAny_bind (wpAny_bind (wpAny_holding ?_))
  show wpAny _ _ (Builtin.SmallTypes.nextOf (.ref i2) >>= _) _ _ { s with heap := g2 }
  refine wpAny_bind (wpAny_nextOf_tuple_item (s := { s with heap := g2 }) ((h2.extBut sb1.extBut D.i2z).extBut sb2.extBut D.i12.symm)
    ((hl2.extBut sb1.extBut D.l2z).extBut sb2.extBut D.l2i1) hy fun g3 it3 sb3 => wpAny_pure ?_)
  refine wpAny_pure (wpAny_pure ?_)
  show wpAny _ _ (newTuple [x, y] >>= _) _ _ { s with heap := g3 }
  refine wpAny_bind (wpAny_newTuple ?_)
  have size3 : g3.objs.size = s.heap.objs.size := by rw [sb3.1, sb2.1, sb1.1]
  have zz3 : IsZipHeld g3 z TI TO T true := sb3.extBut _ _ D.i2z.symm (sb2.extBut _ _ D.i1z.symm zz1)
  have kp : ∀ c o, c ≠ z → c ≠ i1 → c ≠ i2 → s.heap.get? c = some o → g3.get? c = some o :=
    fun c o c1 c2 c3 e => sb3.extBut _ _ c3 (sb2.extBut _ _ c2 (sb1.extBut _ _ c1 e))
  have it1 : g3.IsTupleIter i1 l1 (k1 + 1) := it2.extBut sb3.extBut D.i12
  have pr : IsPair (g3.push { cls := .type "tuple", data := .seq #[x, y] }) g3.objs.size x y := Heap.get?_push_size _ rfl
  have sz4 : (g3.push { cls := .type "tuple", data := .seq #[x, y] }).objs.size = g3.objs.size + 1 := Heap.size_push ..
  refine wpAny_pure ⟨_, rfl, wpAny_pure ?_⟩
  show Q (some (.ref g3.objs.size)) _
  rw [size3] at pr sz4 ⊢
  exact hQ _ (Heap.get?_push_of_some _ zz3) (it1.at fun o e => Heap.get?_push_of_some _ e) (it3.at fun o e => Heap.get?_push_of_some _ e) pr sz4
    fun c o c1 c2 c3 e => Heap.get?_push_of_some _ (kp c o c1 c2 c3 e)
theorem zipH_end {z TI TO T i1 i2 l1 l2 : Addr} {f : Bool} {oT : Obj} {k1 : Nat} {xs : Array Value} {Q : Option Value → Shared → Prop} (hh : A.handled = none)
    (D : ZipApart z TI TO i1 i2 l1 l2) (hz : IsZipHeld s.heap z TI TO T f) (hT : s.heap.get? T = some oT) (hTI : IsPair s.heap TI (.ref i1) (.ref i2))
    (h1 : s.heap.IsTupleIter i1 l1 k1) (hl1 : s.heap.IsTuple l1 xs) (hx : xs[k1]? = none)
    (hQ : ∀ h', (∀ c o, c ≠ z → c ≠ i1 → s.heap.get? c = some o → h'.get? c = some o) → Q none { s with heap := h' }) : wpAny (model prog w) A (pyNext (.ref z)) Q E s := by
  have hTy : s.TypeIs (.ref z) "zip" := ⟨_, hz, rfl⟩
  unfold pyNext
  refine wpAny_bind (wpAny_attempt (wpAny_callSpecial?_slot (name := Str.ofString "__next__") hTy F.slot_zip_next
    (wpAny_call_entry F.slot_zip_next hTy F.entry_zip_next ?_ (F.args_zip_next_1 _))))
  show wpAny _ _ (field (.ref z) 2 >>= _) _ _ s
  refine wpAny_bind (wpAny_field hz rfl (x := .bool false) rfl ?_)
  show wpAny _ _ (field (.ref z) 3 >>= _) _ _ s
  refine wpAny_bind (wpAny_field hz rfl (x := .ref TI) rfl ?_)
  refine wpAny_bind (wpAny_seqItems hTI rfl ?_)
  show wpAny _ _ (Builtin.SmallTypes.ownedTupleIsFree (.ref z) >>= _) _ _ s
  refine wpAny_bind (wpAny_tupleHeld_zip hz hT fun g1 zz1 sb1 => ?_)
  simp only [Bool.false_eq_true, if_false]
  refine wpAny_bind ?_
  rw [← Array.forIn_toList]
  simp only [List.forIn_cons, List.forIn_nil]
  refine wpAny_bind (wpAny_bind (wpAny_holding ?_))
  show wpAny _ _ (Builtin.SmallTypes.nextOf (.ref i1) >>= _) _ _ { s with heap := g1 }
  refine wpAny_bind (wpAny_nextOf_tuple_end (s := { s with heap := g1 }) hh (h1.extBut sb1.extBut D.i1z) (hl1.extBut sb1.extBut D.l1z) hx fun g2 e sb2 he => ?_)
  obtain ⟨o, ho, hcl⟩ := he
  refine wpAny_bind (wpAny_isInstance (T := "StopIteration") (b := true) ⟨o, ho, hcl⟩ isSubtype_stop ?_)
  exact wpAny_pure (hQ g2 fun c o c1 c2 q => sb2 _ _ c2 (sb1.extBut _ _ c1 q))
end

section
variable {X : Cx} {pins : List (Addr × Obj)} {σ : L2.St}
/-- where the zip stands -/
def ZState (z TI TO i1 i2 a b S : Addr) (i : Nat) (h : Heap) : Prop :=
  IsPair h TI (.ref i1) (.ref i2) ∧ h.IsTupleIter i1 a i ∧ h.IsTupleIter i2 b i ∧
  ((IsZip h z TI TO .none ∧ ∃ u v, IsPair h TO u v) ∨
    ∃ T f oT, IsZipHeld h z TI TO T f ∧ h.get? T = some oT ∧ T ≠ S ∧ T ≠ z ∧ T ≠ i1 ∧ T ≠ i2 ∧ ∃ o2, h.get? TO = some o2)

theorem zl_loop {z TI TO i1 i2 a b S : Addr} {xs ys : List V} {R : Result → Shared → Prop} {H₀ : Hp} (D : ZipApart z TI TO i1 i2 a b) (hl : xs.length = ys.length) (hln : xs.length < sizeLine)
    (hS : S ∉ [z, TI, TO, i1, i2]) (hc : X.calm = true) (hS0 : H₀ S = none)
    (hR : ∀ (ts : List Addr) (H' : Hp) s', Inv X pins σ H' s' → Same H₀ H' → H' S = some (.lst (ts.map V.ref)) → ts.length = xs.length →
      (∀ (i : Nat) (t : Addr), ts[i]? = some t → H₀ t = none ∧ ∃ x y, xs[i]? = some x ∧ ys[i]? = some y ∧ H' t = some (.tup [x, y])) → R (.ok (.ret .none)) s') :
    ∀ (k i : Nat) (ts : List Addr) (H : Hp) (s : Shared), xs.length - i = k → i ≤ xs.length → ts.length = i → Inv X pins σ H s → Same H₀ H →
      SqT X.K H a xs → SqT X.K H b ys → H S = some (.lst (ts.map V.ref)) → (∀ c ∈ [z, TI, TO, i1, i2], FpOk X pins H c) →
      (∀ (i : Nat) (t : Addr), ts[i]? = some t → H₀ t = none ∧ ∃ x y, xs[i]? = some x ∧ ys[i]? = some y ∧ H t = some (.tup [x, y])) →
      ZState z TI TO i1 i2 a b S i s.heap → codeAny (model X.prog X.w) X.A.in1 (.builtin "list.extend.loop" ⟨[.ref S, .ref z, .none], []⟩) R s := by
  have Sz : S ≠ z := fun e => hS (by rw [e]; simp)
  have STI : S ≠ TI := fun e => hS (by rw [e]; simp)
  have STO : S ≠ TO := fun e => hS (by rw [e]; simp)
  have Si1 : S ≠ i1 := fun e => hS (by rw [e]; simp)
  have Si2 : S ≠ i2 := fun e => hS (by rw [e]; simp)
  intro k
  induction k with
  | zero =>
    intro i ts H s hk hi hts I sm qa qb eS fp tt st
    have e1 : i = xs.length := by omega
    obtain ⟨hTI, h1, h2, hz⟩ := st
    obtain ⟨its, rv, p1, _⟩ := I.tuple qa
    have l1 := rv.length
    have hend : its.toArray[i]? = none := by
      simp
      omega
    refine codeAny_builtin F.entry_extend_loop ?_
    rw [Around.under_plainId F.plain_extend_loop _]
    show wpAny _ _ (pyNext (.ref z) >>= _) _ _ s
    have fin : ∀ h' : Heap, (∀ c o, c ∉ [z, TI, TO, i1, i2] → s.heap.get? c = some o → h'.get? c = some o) → R (.ok (.ret .none)) { s with heap := h' } := by
      intro h' kp
      refine hR ts H _ (I.turnedL (t' := s.toks) (ch := [z, TI, TO, i1, i2]) kp fp) sm eS (by omega) tt
    rcases hz with ⟨hz, u, v, hTO⟩ | ⟨T, f, oT, hz, hT, n1, n2, n3, n4, o2, hO2⟩
    · obtain ⟨its2, rv2, p2, _⟩ := I.tuple qb
      refine wpAny_bind (pyNext_zipT_end (A := X.A.in1.in1) (I.ok.hd hc) D hz hTI hTO h1 h2 (show s.heap.IsTuple a its.toArray from p1) (show s.heap.IsTuple b its2.toArray from p2) (.inl hend) fun h' kp => ?_)
      exact wpAny_pure (fin h' fun c o hcm e => kp c o (fun q => hcm (by simp [q])) (fun q => hcm (by simp [q])) (fun q => hcm (by simp [q])) (fun q => hcm (by simp [q])) e)
    · refine wpAny_bind (zipH_end (A := X.A.in1.in1) (I.ok.hd hc) D hz hT hTI h1 (show s.heap.IsTuple a its.toArray from p1) hend fun h' kp => ?_)
      exact wpAny_pure (fin h' fun c o hcm e => kp c o (fun q => hcm (by simp [q])) (fun q => hcm (by simp [q])) e)
  | succ k ih =>
    intro i ts H s hk hi hts I sm qa qb eS fp tt st
    have hlt : i < xs.length := by omega
    have hlt2 : i < ys.length := by omega
    obtain ⟨hTI, h1, h2, hz⟩ := st
    obtain ⟨its, rv, p1, _⟩ := I.tuple qa
    obtain ⟨its2, rv2, p2, _⟩ := I.tuple qb
    have gx : xs[i]? = some xs[i] := List.getElem?_eq_getElem hlt
    have gy : ys[i]? = some ys[i] := List.getElem?_eq_getElem hlt2
    obtain ⟨u, hu, ru⟩ := rv.get gx
    obtain ⟨u2, hu2, ru2⟩ := rv2.get gy
    have au : its.toArray[i]? = some u := by simpa using hu
    have au2 : its2.toArray[i]? = some u2 := by simpa using hu2
    refine codeAny_builtin F.entry_extend_loop ?_
    rw [Around.under_plainId F.plain_extend_loop _]
    show wpAny _ _ (pyNext (.ref z) >>= _) _ _ s
    have lt : ∀ {c : Addr}, H c ≠ none → c < s.heap.objs.size := fun {c} hne => by
      cases q : H c with
      | none => exact (hne q).elim
      | some o => exact (I.hok c o q).lt
    have old5 : ∀ c ∈ [z, TI, TO, i1, i2], c < s.heap.objs.size → True := fun _ _ _ => trivial
    have new := I.hok.fresh (Nat.le_refl s.heap.objs.size)
    have go : ∀ h' : Heap, (∀ c o, c ∉ [z, TI, TO, i1, i2] → s.heap.get? c = some o → h'.get? c = some o) → IsPair h' s.heap.objs.size u u2 → h'.objs.size = s.heap.objs.size + 1 →
        (∀ c ∈ [z, TI, TO, i1, i2], c < s.heap.objs.size) → ZState z TI TO i1 i2 a b S (i + 1) h' →
        wpAny (model X.prog X.w) X.A.in1.in1 (updateSeq S (·.push (.ref s.heap.objs.size)) >>= fun _ => again (.builtin "list.extend.loop" ⟨[.ref S, .ref z, .none], []⟩))
          (fun fin s' => match fin with | .done f => R (.ok f) s' | .again c' => c'.quiet = true ∧ codeAny (model X.prog X.w) X.A.in1 c' R s') (fun e s' => R (.error e) s') { s with heap := h' } := by
      intro h' kp pr sz old st'
      have ob : ObjOk X.prog X.w (upd H s.heap.objs.size (.tup [xs[i], ys[i]])) h' s.heap.objs.size (.tup [xs[i], ys[i]]) :=
        ⟨show 2 ≤ sizeLine by decide, [u, u2], .cons ru (.cons ru2 .nil), _, pr, rfl, _, rfl⟩
      have I1 : Inv X pins σ (upd H s.heap.objs.size (.tup [xs[i], ys[i]])) { s with heap := h' } := I.turnedNew (t' := s.toks) kp fp (Nat.le_refl _) ob
      have nS : S ≠ s.heap.objs.size := ne_of_none eS new
      have eS1 : (upd H s.heap.objs.size (.tup [xs[i], ys[i]])) S = some (.lst (ts.map V.ref)) := by
        rw [upd_ne nS]
        exact eS
      obtain ⟨hz', its3, n3, ri, e3⟩ := I1.hok S _ eS1
      have l3 := ri.length
      rw [List.length_map] at l3
      have sm1 : Same H (upd H s.heap.objs.size (.tup [xs[i], ys[i]])) := fun c o e => by
        rw [upd_ne (ne_of_none e new)]
        exact e
      refine wpAny_bind (wpAny_updateSeq e3 rfl (wpAny_pure ⟨plainId_quiet F.plain_extend_loop _, ?_⟩) ?_)
      · have I2 : Inv X pins σ (upd (upd H s.heap.objs.size (.tup [xs[i], ys[i]])) S (.lst ((ts ++ [s.heap.objs.size]).map V.ref)))
            { s with heap := h'.update S (Obj.mapSeq (·.push (.ref s.heap.objs.size))) } := by
          have up := Heap.get?_update_self (Obj.mapSeq (·.push (Value.ref s.heap.objs.size))) e3 rfl
          refine I1.write (t' := s.toks) (by rw [eS1]; trivial) (.inl rfl) (fun c o hcS q => ?_) ⟨_, up⟩ ⟨?_, its3 ++ [.ref s.heap.objs.size], n3 + 1, ?_, ?_⟩
          · exact (Heap.get?_update_other _ _ (fun q' : S = c => hcS q'.symm)).trans q
          · rw [List.length_map, List.length_append]
            show ts.length + 1 ≤ sizeLine
            omega
          · rw [List.map_append]
            exact ri.append (.cons rfl .nil)
          · refine up.trans ?_
            simp [Obj.mapSeq]
        have keepS : ∀ c o, c ≠ S → h'.get? c = some o → (h'.update S (Obj.mapSeq (·.push (.ref s.heap.objs.size)))).get? c = some o :=
          fun c o hcS q => (Heap.get?_update_other _ _ (fun q' : S = c => hcS q'.symm)).trans q
        have sm2 : Same H₀ (upd (upd H s.heap.objs.size (.tup [xs[i], ys[i]])) S (.lst ((ts ++ [s.heap.objs.size]).map V.ref))) := fun c o e => by
          rw [upd_ne (fun q => by rw [q, hS0] at e; cases e)]
          exact sm1 c o (sm c o e)
        have seqs : ∀ (c : Addr) (vs : List V), c ≠ S → SqT X.K H c vs → SqT X.K (upd (upd H s.heap.objs.size (.tup [xs[i], ys[i]])) S (.lst ((ts ++ [s.heap.objs.size]).map V.ref))) c vs := by
          intro c vs hcS q
          rcases q with (q | ⟨o, q⟩) | q
          · exact .inl (.inl (by rw [upd_ne hcS]; exact sm1 _ _ q))
          · exact .inl (.inr ⟨o, by rw [upd_ne hcS]; exact sm1 _ _ q⟩)
          · exact .inr q
        have Sa : a ≠ S := fun q => by
          obtain ⟨o, ho, hcl, _⟩ := p1
          have := (I.hok S _ eS)
          obtain ⟨_, _, _, _, e⟩ := this
          rw [← q, ho] at e
          cases e
          exact nomatch (show Value.type "list" = Value.type "tuple" from hcl)
        have Sb : b ≠ S := fun q => by
          obtain ⟨o, ho, hcl, _⟩ := p2
          have := (I.hok S _ eS)
          obtain ⟨_, _, _, _, e⟩ := this
          rw [← q, ho] at e
          cases e
          exact nomatch (show Value.type "list" = Value.type "tuple" from hcl)
        refine ih (i + 1) (ts ++ [s.heap.objs.size]) _ _ (by omega) hlt (by rw [List.length_append, hts]; rfl) I2 sm2 (seqs a xs Sa qa) (seqs b ys Sb qb) upd_same (fun c hcm => ?_) (fun j t hj => ?_) ?_
        · have hcS : c ≠ S := fun q => hS (by rw [← q]; exact hcm)
          have f := fp c hcm
          refine ⟨?_, f.2⟩
          rw [upd_ne hcS, upd_ne (Nat.ne_of_lt (old c hcm))]
          exact f.1
        · by_cases hjl : j < ts.length
          · rw [List.getElem?_append_left hjl] at hj
            obtain ⟨q0, x, y, q1, q2, q3⟩ := tt j t hj
            refine ⟨q0, x, y, q1, q2, ?_⟩
            have htS : t ≠ S := fun q => by rw [q, eS] at q3; cases q3
            rw [upd_ne htS]
            exact sm1 _ _ q3
          · rw [List.getElem?_append_right (by omega)] at hj
            have hj0 : j - ts.length = 0 := by
              apply Classical.byContradiction
              intro q
              rw [List.getElem?_eq_none (by show 1 ≤ _; omega)] at hj
              cases hj
            rw [hj0] at hj
            cases hj
            have ej : j = i := by omega
            subst ej
            refine ⟨sm.free new, _, _, gx, gy, ?_⟩
            rw [upd_ne nS.symm, upd_same]
        · obtain ⟨s1, s2, s3, s4⟩ := st'
          refine ⟨keepS _ _ STI.symm s1, s2.at fun o e => keepS _ o Si1.symm e, s3.at fun o e => keepS _ o Si2.symm e, ?_⟩
          rcases s4 with ⟨s4, v1, v2, s5⟩ | ⟨T, f, oT, s4, s5, s6, s7⟩
          · exact .inl ⟨keepS _ _ Sz.symm s4, v1, v2, keepS _ _ STO.symm s5⟩
          · obtain ⟨m1, m2, m3, o2, m4⟩ := s7
            exact .inr ⟨T, f, oT, keepS _ _ Sz.symm s4, keepS _ _ s6 s5, s6, m1, m2, m3, o2, keepS _ _ STO.symm m4⟩
      · rw [List.size_toArray]
        omega
    have hil1 : i1 < s.heap.objs.size := by
      obtain ⟨_, q, _⟩ := h1
      exact Heap.lt_size q
    have hil2 : i2 < s.heap.objs.size := by
      obtain ⟨_, q, _⟩ := h2
      exact Heap.lt_size q
    have hSl : S < s.heap.objs.size := lt (by rw [eS]; exact fun q => nomatch q)
    rcases hz with ⟨hz, v1, v2, hTO⟩ | ⟨T, f, oT, hz, hT, n1, n2, n3, n4, o2, hO2⟩
    · have all5 : ∀ c ∈ [z, TI, TO, i1, i2], c < s.heap.objs.size := by
        intro c hcm
        simp only [List.mem_cons, List.not_mem_nil, or_false] at hcm
        rcases hcm with q | q | q | q | q
        · rw [q]; exact Heap.lt_size hz
        · rw [q]; exact Heap.lt_size hTI
        · rw [q]; exact Heap.lt_size hTO
        · rw [q]; exact hil1
        · rw [q]; exact hil2
      refine wpAny_bind (pyNext_zipT_item D hz hTI hTO h1 h2 (show s.heap.IsTuple a its.toArray from p1) (show s.heap.IsTuple b its2.toArray from p2) au au2 fun h' a1 a2 a3 a4 a5 a6 kp => ?_)
      refine go h' (fun c o hcm e => kp c o (fun q => hcm (by simp [q])) (fun q => hcm (by simp [q])) (fun q => hcm (by simp [q])) (fun q => hcm (by simp [q])) e) a5 a6 all5 ?_
      exact ⟨kp _ _ D.TIz D.TITO D.TIi1 D.TIi2 hTI, a3, a4, .inr ⟨s.heap.objs.size, false, _, a1, a5, Nat.ne_of_gt hSl, Nat.ne_of_gt (Heap.lt_size hz), Nat.ne_of_gt hil1, Nat.ne_of_gt hil2, _, a2⟩⟩
    · refine wpAny_bind (zipH_item D hz hT hTI h1 h2 (show s.heap.IsTuple a its.toArray from p1) (show s.heap.IsTuple b its2.toArray from p2) au au2 fun h' a1 a3 a4 a5 a6 kp => ?_)
      refine go h' (fun c o hcm e => kp c o (fun q => hcm (by simp [q])) (fun q => hcm (by simp [q])) (fun q => hcm (by simp [q])) e) a5 a6 ?_ ?_
      · intro c hcm
        simp only [List.mem_cons, List.not_mem_nil, or_false] at hcm
        rcases hcm with q | q | q | q | q
        · rw [q]; exact Heap.lt_size hz
        · rw [q]; exact Heap.lt_size hTI
        · rw [q]; exact Heap.lt_size hO2
        · rw [q]; exact hil1
        · rw [q]; exact hil2
      · exact ⟨kp _ _ D.TIz D.TIi1 D.TIi2 hTI, a3, a4, .inr ⟨T, true, oT, a1, kp _ _ n2 n3 n4 hT, n1, n2, n3, n4, o2, kp _ _ D.TOz D.TOi1 D.TOi2 hO2⟩⟩
end

theorem zip_nolen : typeLookup (.type "zip") "__len__" = pure none := by rw [typeLookup_type, builtinLookup_eq_fast]; kernel_rfl
theorem zip_nohint : typeLookup (.type "zip") "__length_hint__" = pure none := by rw [typeLookup_type, builtinLookup_eq_fast]; kernel_rfl

section
variable {X : Cx} {pins : List (Addr × Obj)} {σ : L2.St}
/-- what list(zip(t, u)) gives -/
def Zipped (xs ys : List V) (H : Hp) (Q : VK) : Prop := ∀ (l : Addr) (ts : List Addr) (H' : Hp), H l = none → Same H H' → H' l = some (.lst (ts.map V.ref)) → ts.length = xs.length →
  (∀ (i : Nat) (t : Addr), ts[i]? = some t → H t = none ∧ ∃ x y, xs[i]? = some x ∧ ys[i]? = some y ∧ H' t = some (.tup [x, y])) → Q (.ref l) H'
theorem call_lzip {z TI TO i1 i2 a b : Addr} {xs ys : List V} {H : Hp} {s : Shared} {Q : VK} (D : ZipApart z TI TO i1 i2 a b) (hl : xs.length = ys.length) (hln : xs.length < sizeLine)
    (hc : X.calm = true) (I : Inv X pins σ H s) (qa : SqT X.K H a xs) (qb : SqT X.K H b ys) (fp : ∀ c ∈ [z, TI, TO, i1, i2], FpOk X pins H c)
    (hz : IsZip s.heap z TI TO .none) (hTI : IsPair s.heap TI (.ref i1) (.ref i2)) (hTO : IsPair s.heap TO .none .none)
    (h1 : s.heap.IsTupleIter i1 a 0) (h2 : s.heap.IsTupleIter i2 b 0) (q : Zipped xs ys H Q) :
    wpAny (model X.prog X.w) X.A (call (.type "list") [.ref z]) (EP X pins σ Q) X.xe s := by
  have all5 : ∀ c ∈ [z, TI, TO, i1, i2], c < s.heap.objs.size := by
    intro c hcm
    simp only [List.mem_cons, List.not_mem_nil, or_false] at hcm
    rcases hcm with q | q | q | q | q
    · rw [q]; exact Heap.lt_size hz
    · rw [q]; exact Heap.lt_size hTI
    · rw [q]; exact Heap.lt_size hTO
    · rw [q]; obtain ⟨_, q', _⟩ := h1; exact Heap.lt_size q'
    · rw [q]; obtain ⟨_, q', _⟩ := h2; exact Heap.lt_size q'
  have hSf : s.heap.objs.size ∉ [z, TI, TO, i1, i2] := fun hm => Nat.lt_irrefl _ (all5 _ hm)
  have new := I.hok.fresh (Nat.le_refl s.heap.objs.size)
  refine callType_codes (Q₁ := fun obj s₁ => obj = .ref s.heap.objs.size ∧ s₁ = { s with heap := s.heap.push { cls := .type "list", data := .seq #[] } }) F.called_list (F.typeCall_list_1 _) F.entry_list_init
    (code_list_new _ ⟨rfl, rfl⟩) fun obj s₁ e => ?_
  obtain ⟨rfl, rfl⟩ := e
  have hS : (s.heap.push { cls := .type "list", data := .seq #[] }).get? s.heap.objs.size = some { cls := .type "list", data := .seq #[] } := Heap.get?_push_size _ rfl
  refine ⟨⟨_, hS, rfl⟩, F.args_list_init_2 _ _, ?_⟩
  have kp0 : ∀ c o, s.heap.get? c = some o → (s.heap.push { cls := .type "list", data := .seq #[] }).get? c = some o := fun c o e => Heap.get?_push_of_some _ e
  show wpAny _ _ (do let old ← Builtin.List.listItems (.ref s.heap.objs.size); Builtin.List.listUpdate (.ref s.heap.objs.size) (fun _ => #[]); letGo old.toList.reverse; Builtin.List.listExtendWith (.ref s.heap.objs.size) (.ref z) .none) _ _ _
  refine wpAny_bind ?_
  unfold Builtin.List.listItems
  refine wpAny_bind (wpAny_seqItems hS rfl (wpAny_pure ?_))
  show wpAny _ _ (updateSeq s.heap.objs.size (fun _ => #[]) >>= fun _ => letGo (#[] : Array Value).toList.reverse >>= fun _ => Builtin.List.listExtendWith (.ref s.heap.objs.size) (.ref z) .none) _ _ _
  refine wpAny_bind (wpAny_updateSeq hS rfl ?_)
  have hS2 := Heap.get?_update_self (Obj.mapSeq (fun _ => (#[] : Array Value))) hS rfl
  have kp1 : ∀ c o, s.heap.get? c = some o → ((s.heap.push { cls := .type "list", data := .seq #[] }).update s.heap.objs.size (Obj.mapSeq (fun _ => (#[] : Array Value)))).get? c = some o :=
    fun c o e => (Heap.get?_update_other _ _ (Nat.ne_of_gt (Heap.lt_size e))).trans (kp0 c o e)
  refine wpAny_bind (wpAny_letGo ?_)
  generalize ((s.heap.push { cls := .type "list", data := .seq #[] }).update s.heap.objs.size (Obj.mapSeq (fun _ => (#[] : Array Value)))) = g1 at hS2 kp1 ⊢
  have hTy : ({ s with heap := g1 } : Shared).TypeIs (.ref z) "zip" := ⟨_, kp1 _ _ hz, rfl⟩
  unfold Builtin.List.listExtendWith
  refine wpAny_bind (wpAny_typeOf hTy ?_)
  have n1 : Builtin.List.listSameRef (.ref s.heap.objs.size) (.ref z) = false := by
    simp [Builtin.List.listSameRef, Nat.ne_of_gt (Heap.lt_size hz)]
  have n2 : (Value.type "zip" == Value.type "list") = false := by decide
  have n3 : (Value.type "zip" == Value.type "tuple") = false := by decide
  simp only [n1, n2, n3, Bool.or_false, Bool.false_eq_true, if_false]
  refine wpAny_bind (wpAny_pyIter_zip (kp1 _ _ hz) ?_)
  refine wpAny_bind (wpAny_holding ?_)
  unfold Builtin.List.listLengthHint
  refine wpAny_bind (wpAny_specialOf hTy zip_nolen ?_)
  show wpAny _ _ (specialOf (Value.ref z) (Str.ofString "__length_hint__") >>= _) _ _ _
  refine wpAny_bind (wpAny_specialOf hTy zip_nohint ?_)
  refine wpAny_pure ?_
  show wpAny _ _ (rule "list.extend.makes-room" >>= fun _ => Builtin.List.listTouch (.ref s.heap.objs.size) >>= fun _ =>
    again (.builtin "list.extend.loop" ⟨[.ref s.heap.objs.size, .ref z, .none], []⟩)) _ _ _
  refine wpAny_bind (wpAny_rule ?_)
  refine wpAny_bind ?_
  show wpAny _ _ (updateSeq s.heap.objs.size (·.push .none) >>= fun _ => updateSeq s.heap.objs.size (·.pop)) _ _ _
  refine wpAny_bind (wpAny_updateSeq hS2 rfl ?_)
  have hS3 := Heap.get?_update_self (Obj.mapSeq (·.push Value.none)) hS2 rfl
  refine wpAny_updateSeq (hz := by seq_fits) hS3 rfl ?_
  have hS4 := Heap.get?_update_self (Obj.mapSeq (·.pop)) hS3 rfl
  have kp2 : ∀ c o, s.heap.get? c = some o → ((g1.update s.heap.objs.size (Obj.mapSeq (·.push Value.none))).update s.heap.objs.size (Obj.mapSeq (·.pop))).get? c = some o :=
    fun c o e => (Heap.get?_update_other _ _ (Nat.ne_of_gt (Heap.lt_size e))).trans ((Heap.get?_update_other _ _ (Nat.ne_of_gt (Heap.lt_size e))).trans (kp1 c o e))
  generalize ((g1.update s.heap.objs.size (Obj.mapSeq (·.push Value.none))).update s.heap.objs.size (Obj.mapSeq (·.pop))) = g2 at hS4 kp2 ⊢
  have I2 : Inv X pins σ (upd H s.heap.objs.size (.lst [])) { s with heap := g2 } := by
    refine I.laid (t' := s.toks) kp2 (Nat.le_refl _) ⟨Nat.zero_le _, [], _, .nil, hS4⟩
  have sm : Same H (upd H s.heap.objs.size (.lst [])) := fun c o e => by
    rw [upd_ne (ne_of_none e new)]
    exact e
  have sqt : ∀ (c : Addr) (vs : List V), SqT X.K H c vs → SqT X.K (upd H s.heap.objs.size (.lst [])) c vs := by
    intro c vs q
    rcases q with (q | ⟨o, q⟩) | q
    · exact .inl (.inl (sm _ _ q))
    · exact .inl (.inr ⟨o, sm _ _ q⟩)
    · exact .inr q
  refine wpAny_pure ⟨plainId_quiet F.plain_extend_loop _, zl_loop D hl hln hSf hc new (fun ts H' s' I' sm' eS len tt => ⟨rfl, .ref s.heap.objs.size, H', I', rfl, q _ ts H' new sm' eS len tt⟩)
    xs.length 0 [] _ _ (Nat.sub_zero _) (Nat.zero_le _) rfl I2 sm (sqt a xs qa) (sqt b ys qb) upd_same (fun c hcm => ?_) (fun i t h => by simp at h) ?_⟩
  · have f := fp c hcm
    refine ⟨?_, f.2⟩
    rw [upd_ne (Nat.ne_of_lt (all5 c hcm))]
    exact f.1
  · exact ⟨kp2 _ _ hTI, h1.at fun o e => kp2 _ o e, h2.at fun o e => kp2 _ o e, .inl ⟨kp2 _ _ hz, _, _, kp2 _ _ hTO⟩⟩

/-- list(zip(e, e2)), two tuples of one length -/
theorem pe_lzip {e e2 : Expr} {ta : TA} {p p2 pos pos2 : Pos} (hc : X.calm = true) (hg : Gl X "list") (hm : X.mg "list" = none) (hg2 : Gl X "zip") (hm2 : X.mg "zip" = none) (ha : PA X [e, e2] ta)
    (hs : starEach [e, e2] X.env = (false, eval e X.env) :: starEach [e2] X.env := by rfl) (hpl : (backTo pos2 (starEach [e2] X.env)).any (·.1) = false := by rfl)
    (hs1 : starEach [.Call (.Name "zip" p2) [e, e2] [] pos2] X.env = [(false, eval (.Call (.Name "zip" p2) [e, e2] [] pos2) X.env)] := by rfl) :
    PE X (.Call (.Name "list" p) [.Call (.Name "zip" p2) [e, e2] [] pos2] [] pos)
      (fun σ H Q => ta σ H fun vs H1 => ∃ a b xs ys, vs = [.ref a, .ref b] ∧ SqT X.K H1 a xs ∧ SqT X.K H1 b ys ∧ xs.length = ys.length ∧ xs.length < sizeLine ∧ Zipped xs ys H1 Q) := by
  refine ⟨fun pins s σ H Q I h => ?_⟩
  refine Call_ (ld_blt I hg hm boot_list (PyProof.Rows.callWith_type1 (args_cons (Call_ (ld_blt I hg2 hm2 PyProof.Rows.boot_zip (PyProof.Rows.callWith_type1
    (thn (ha.run pos2 pins s σ H _ I h) fun us s1 ⟨vs, H1, I1, r1, q1⟩ => ?_) hs hpl))) hs1) hs1 rfl))
  obtain ⟨a, b, xs, ys, ex, qa, qb, hl, hln, q⟩ := q1
  subst ex
  cases r1 with
  | cons r rr =>
    cases rr with
    | cons r' rr =>
      cases rr
      cases r
      cases r'
      obtain ⟨its, rv, p1, _⟩ := I1.tuple qa
      obtain ⟨its2, rv2, p2', _⟩ := I1.tuple qb
      obtain ⟨o1, ho1, _⟩ := id p1
      obtain ⟨o2, ho2, _⟩ := id p2'
      refine call_zipT (show s1.heap.IsTuple a its.toArray from p1) (show s1.heap.IsTuple b its2.toArray from p2') fun h' hz hTI hTO h1 h2 hsz hk => ?_
      have I2 : Inv X pins σ H1 { s1 with heap := h' } := I1.kept (t' := s1.toks) hk
      refine args_nil (call_lzip (PySem.W.ktu_apart s1.heap.objs.size a b (Heap.lt_size ho1) (Heap.lt_size ho2)) hl hln hc I2 qa qb (fun c hcm => ?_) hz hTI hTO h1 h2 q)
      have hle : s1.heap.objs.size ≤ c := by
        simp only [List.mem_cons, List.not_mem_nil, or_false] at hcm
        rcases hcm with z | z | z | z | z
        · rw [z]; exact Nat.le_add_right _ _
        · rw [z]; exact Nat.le_add_right _ _
        · rw [z]; exact Nat.le_add_right _ _
        · rw [z]; exact Nat.le_refl _
        · rw [z]; exact Nat.le_add_right _ _
      exact I1.fpOk hle (I1.hok.fresh hle)
end
end KR
/-! setdefault where the keys are tuples -/
namespace KR
open PySem PySem.Spec PyProof.Rows L2
section
variable {X : Cx} {pins : List (Addr × Obj)} {σ : L2.St} {H : Hp} {s : Shared} {a b : Addr} {d : V} {r : Value} {A : Around} {E : Value → Shared → Prop} {kvs : List (List L2.Key × V)} {k : List L2.Key}
theorem d_setdT {Q : Value → Shared → Prop} (hu : A.units + 1 < cLine) (I : Inv X pins σ H s) (e : H a = some (.dT kvs)) (eb : H b = some (.tup (k.map kV))) (rd : RelV d r) (l : kvs.length < sizeLine)
    (h1 : ∀ v, valV kvs k = some v → ∀ w' s', Inv X pins σ H s' → RelV v w' → Q w' s')
    (h2 : valV kvs k = none → ∀ s', Inv X pins σ (upd H a (.dT (putK kvs k d))) s' → Q r s') :
    wpAny (model X.prog X.w) A (call (.builtin "dict.setdefault") [.ref a, .ref b, r]) Q E s := by
  obtain ⟨z, hd, xs, rel, dd⟩ := dt_of I.hok e
  have hz : xs.length ≤ sizeLine := by
    rw [← Paired.length rel]
    exact z
  have vk := rel.val k
  refine call_setdefault_heap (hsz := hz) (tupleKind_room_in1 hu) (key_of I.hok eb) hd dd (fun p hp => ?_) (fun hn h' dd' hs => ?_)
  · rw [hp] at vk
    cases q0 : valV kvs k with
    | none =>
      rw [q0] at vk
      exact (show False from vk).elim
    | some v0 =>
      rw [q0] at vk
      exact h1 v0 q0 _ _ (I.tok _) vk
  · rw [hn] at vk
    cases q0 : valV kvs k with
    | some v0 =>
      rw [q0] at vk
      exact (show False from vk).elim
    | none =>
      have hl : (putK kvs k d).length ≤ sizeLine := by
        have := length_putK kvs k d
        omega
      refine h2 q0 _ ?_
      obtain ⟨q, es, ep, hq, g2, g3, g4, _, g5⟩ := dd'
      refine d_write I (by rw [e]; exact True.intro) hs ⟨q, hq⟩ ⟨hl, hd, _, (rel.put k eb rd).keeps fun c ys ec => ?_, q, es, ep, hq, g2, g3, g4, g5⟩
      rw [upd_ne (ne_of ec e (fun z => nomatch z))]
      exact ec
end
/-- d.setdefault(y, z), keys that are tuples -/
def tDSetT (td ty tx : TE) : TE := fun σ H Q => td σ H fun x H1 => ∃ a, x = .ref a ∧ IsD H1 a ∧ ty σ H1 fun y H2 => tx σ H2 fun z H3 =>
  ∃ (kvs : List (List L2.Key × V)) (k : List L2.Key) (b : Addr), H3 a = some (.dT kvs) ∧ y = .ref b ∧ H3 b = some (.tup (k.map kV)) ∧ kvs.length < sizeLine ∧
  (∀ v, valV kvs k = some v → Q v H3) ∧ (valV kvs k = none → Q z (upd H3 a (.dT (putK kvs k z))))
theorem pe_dsetdT {X : Cx} {o e f : Expr} {td ty tx : TE} {apos cpos : Pos} (hu : X.A.units + 1 < cLine) (ho : PE X o td) (he : PE X e ty) (hf : PE X f tx) (m : M2 X o "setdefault" apos e f cpos) :
    PE X (.Call (.Attribute o "setdefault" apos) [e, f] [] cpos) (tDSetT td ty tx) := by
  refine ⟨fun pins s σ H Q I h => ?_⟩
  refine wpAny_Call_method m.base m.few m.line PySem.F.plainAttrs_dict PySem.F.slot_dict_setdefault PySem.F.type_dict_setdefault
    (thn (ho.run pins s σ H _ I h) fun u s1 ⟨x, H1, I1, rx, a, ex, d, q1⟩ => ?_)
  subst ex
  obtain rfl : u = Value.ref a := rx
  obtain ⟨t1, t2, _⟩ := isD_at I1 d
  refine ⟨t1, t2, ?_⟩
  rw [m.trees]
  refine Calls.callWith_builtin rfl (Calls.evalArgs_plain (Calls.spliced_cons (thn (he.run pins s1 σ H1 _ I1 q1) fun iv s2 ⟨y, H2, I2, ry, q2⟩ =>
    Calls.spliced_cons (thn (hf.run pins s2 σ H2 _ I2 q2) fun fv s3 ⟨z, H3, I3, rz, kvs, k, b, ea, ey, eb, hl, q3, q4⟩ => Calls.spliced_nil ?_))))
  subst ey
  cases (show iv = Value.ref b from ry)
  exact d_setdT hu I3 ea eb rz hl (fun v hv w' s4 I4 rw' => ⟨v, _, I4, rw', q3 v hv⟩) fun hn s4 I4 => ⟨z, _, I4, rz, q4 hn⟩
end KR
/-! short words: a def by its name and promise -/
namespace KR
open PySem PySem.Spec PyProof.Rows L2

/-- the built-ins that the text does not hide -/
structure Bt (mg : Str → Option Value) : Prop where
  len : mg "len" = none
  range : mg "range" = none
  enumerate : mg "enumerate" = none
  zip : mg "zip" = none
  isinstance : mg "isinstance" = none
  int : mg "int" = none
  bool : mg "bool" = none
  tuple : mg "tuple" = none
  list : mg "list" = none
  max : mg "max" = none
  min : mg "min" = none
  repr : mg "repr" = none
  set : mg "set" = none
  sum : mg "sum" = none
  sorted : mg "sorted" = none
def Cst (mg : Str → Option Value) (x : Str) (v : Int) : Prop := ∃ t, mg x = some (.int v t)
def DefAt (K : PySem.W.Frag) (mg : Str → Option Value) (x : Str) (st : Stmt) : Prop := ∃ f fd, Fun K x x st f fd ∧ mg x = some (.ref f)
def Use (P : Program) (w : World) (K : PySem.W.Frag) (mg : Str → Option Value) (base : Heap) (x : Str) (k : Nat) (ps : List Str) (sp : Sp) : Prop :=
  ∃ f fd, FnOk P w K mg base CX0 k f fd ps sp ∧ mg x = some (.ref f) ∧ PySem.W.keepIn K (.ref f) = true ∧ Binds K fd ps []
def UseG (P : Program) (w : World) (K : PySem.W.Frag) (mg : Str → Option Value) (base : Heap) (x : Str) (k : Nat) (ps : List Str) (sp : Sp) : Prop :=
  ∃ f fd, FnG P w K mg base k f fd ps sp ∧ mg x = some (.ref f) ∧ PySem.W.keepIn K (.ref f) = true ∧ Binds K fd ps []

section
variable {P : Program} {w : World} {K : PySem.W.Frag} {mg : Str → Option Value} {base : Heap} {x : Str} {st : Stmt} {k : Nat} {ps : List Str} {sp : Sp}
theorem use_of (D : DefAt K mg x st) (ok : ∀ f fd, Fun K x x st f fd → FnOk P w K mg base CX0 k f fd ps sp)
    (h : ∀ (kV doc pm : Value) (an : Option Addr) (cdv ct : Value) (us : List Value), us.length = ps.length → bindArgs (PySem.W.fnOf x x (defArgs st) (defBody st) (defScope st) .none kV doc pm an cdv ct) ⟨us, []⟩ = pure (ps.zip us)) :
    Use P w K mg base x k ps sp := by
  obtain ⟨f, fd, F, hm⟩ := D
  exact ⟨f, fd, ok f fd F, hm, F.kp, F.binds h⟩
theorem use_ofG (D : DefAt K mg x st) (ok : ∀ f fd, Fun K x x st f fd → FnG P w K mg base k f fd ps sp)
    (h : ∀ (kV doc pm : Value) (an : Option Addr) (cdv ct : Value) (us : List Value), us.length = ps.length → bindArgs (PySem.W.fnOf x x (defArgs st) (defBody st) (defScope st) .none kV doc pm an cdv ct) ⟨us, []⟩ = pure (ps.zip us)) :
    UseG P w K mg base x k ps sp := by
  obtain ⟨f, fd, F, hm⟩ := D
  exact ⟨f, fd, ok f fd F, hm, F.kp, F.binds h⟩
end
section
variable {X : Cx} {x : Str} {j k : Nat} {ps : List Str} {sp : Sp} {e : Expr} {es : List Expr} {t : TA} {p pos : Pos} {v : Int}
theorem pe_use (u : Use X.prog X.w X.K X.mg X.base x j ps sp) (le : j ≤ k) (hr : Room k X.A) (hg : Gl X x) (ha : PA X (e :: es) t)
    (hdb : (x == ("__debug__" : Str)) = false := by decide) (he : starEach (e :: es) X.env = (false, eval e X.env) :: starEach es X.env := by rfl)
    (hpl : (backTo pos (starEach es X.env)).any (·.1) = false := by rfl) : PE X (.Call (.Name x p) (e :: es) [] pos) (tCall sp [] E0 t) := by
  obtain ⟨f, fd, F, hm, kp, b⟩ := u
  exact pe_call F (hr.mono le) hg hm kp b .nil pass0 ha hdb he hpl
theorem pe_useG (u : UseG X.prog X.w X.K X.mg X.base x j ps sp) (gd : X.A.guards = some []) (le : j ≤ k) (hr : Room k X.A) (hg : Gl X x) (ha : PA X (e :: es) t)
    (hdb : (x == ("__debug__" : Str)) = false := by decide) (he : starEach (e :: es) X.env = (false, eval e X.env) :: starEach es X.env := by rfl)
    (hpl : (backTo pos (starEach es X.env)).any (·.1) = false := by rfl) : PE X (.Call (.Name x p) (e :: es) [] pos) (tCall sp [] E0 t) := by
  obtain ⟨f, fd, F, hm, kp, b⟩ := u
  exact pe_callG F gd (hr.mono le) hg hm kp b .nil ha hdb he hpl
theorem pe_cst (hg : Gl X x) (h : Cst X.mg x v) (hd : (x == ("__debug__" : Str)) = false := by decide) : PE X (.Name x pos) (tC (.int v)) := by
  obtain ⟨t, h⟩ := h
  exact pe_glob hg h ⟨t, rfl⟩ hd
end
/-- seqs kept -/
theorem sameT {K : PySem.W.Frag} {H H' : Hp} {a : Addr} {xs : List V} (e : Same H H') (h : SqT K H a xs) : SqT K H' a xs := by
  rcases h with (h | ⟨o, h⟩) | h
  · exact .inl (.inl (e _ _ h))
  · exact .inl (.inr ⟨o, e _ _ h⟩)
  · exact .inr h
theorem same_new {H : Hp} {p : Addr} {o : HO} (h : H p = none) : Same H (upd H p o) := fun b x e => by
  rw [upd_ne (ne_of_none e h)]
  exact e
/-- an object that H does not know was changed -/
theorem same_mut {H H' : Hp} {p : Addr} {o : HO} (e : Same H H') (h : H p = none) : Same H (upd H' p o) := fun a u ha => by
  rw [upd_ne (ne_of_none ha h)]
  exact e a u ha
theorem sqT {K : PySem.W.Frag} {H : Hp} {a : Addr} {xs : List V} (h : H a = some (.tup xs)) : SqT K H a xs := .inl (.inl h)
theorem sqL {K : PySem.W.Frag} {H : Hp} {a : Addr} {xs : List V} (h : H a = some (.lst xs)) : SqL K H a xs := .inl (.inl h)
end KR
/-! loops over enumerate(tuple), over a tuple, over a range, by an invariant -/
namespace KR
open PySem PySem.Spec PyProof.Rows L2
theorem for_enumT {K : PySem.W.Frag} {a : Addr} {xs : List V} {g : TG} {tb : TS} {D : Ends} {σ : L2.St} {H : Hp} (Pv : Nat → L2.St → Hp → Prop) (h0 : Pv 0 σ H)
    (hq : ∀ i σ H, Pv i σ H → SqT K H a xs)
    (hs : ∀ (i : Nat) (x : V) (T : Addr) (σ : L2.St) (H : Hp), xs[i]? = some x → Pv i σ H → H T = none →
      g (.ref T) σ (upd H T (.tup [.int (i : Nat), x])) fun σ2 H2 => tb { D with nx := Pv (i + 1), ct := Pv (i + 1), bk := D.nx } σ2 H2)
    (hd : ∀ σ H, Pv xs.length σ H → D.nx σ H) :
    ∃ W : Nat → Nat → L2.St → Hp → Prop, (∃ m, W 0 m σ H) ∧ ∀ i m σ H, W i m σ H →
      ((IteT K a).stop i H ∧ D.nx σ H) ∨ ((IteT K a).go i H ∧ ∃ N : L2.St → Hp → Prop, (∀ σ' H', N σ' H' → ∃ m', m' < m ∧ W (i + 1) m' σ' H') ∧
        ∀ v H', (IteT K a).yld i H v H' → g v σ H' fun σ2 H2 => tb { D with nx := N, ct := N, bk := D.nx } σ2 H2) := by
  refine ⟨fun i m σ H => m = xs.length - i ∧ i ≤ xs.length ∧ Pv i σ H, ⟨xs.length, rfl, Nat.zero_le _, h0⟩, ?_⟩
  rintro i m σ H ⟨rfl, hi, p⟩
  have q := hq i σ H p
  by_cases hlt : i < xs.length
  · have hx : xs[i]? = some xs[i] := List.getElem?_eq_getElem hlt
    refine .inr ⟨⟨xs, _, q, hx⟩, Pv (i + 1), fun σ' H' p' => ⟨xs.length - (i + 1), by omega, rfl, hlt, p'⟩, fun v H' y => ?_⟩
    obtain ⟨T, x', rfl, hT, rfl, f1⟩ := y
    exact hs i x' T σ H (f1 xs q) p hT
  · have e : i = xs.length := by omega
    subst e
    exact .inl ⟨⟨xs, q, Nat.le_refl _⟩, hd σ H p⟩
theorem for_enumL {K : PySem.W.Frag} {a : Addr} {xs : List V} {g : TG} {tb : TS} {D : Ends} {σ : L2.St} {H : Hp} (Pv : Nat → L2.St → Hp → Prop) (h0 : Pv 0 σ H)
    (hq : ∀ i σ H, Pv i σ H → SqL K H a xs)
    (hs : ∀ (i : Nat) (x : V) (T : Addr) (σ : L2.St) (H : Hp), xs[i]? = some x → Pv i σ H → H T = none →
      g (.ref T) σ (upd H T (.tup [.int (i : Nat), x])) fun σ2 H2 => tb { D with nx := Pv (i + 1), ct := Pv (i + 1), bk := D.nx } σ2 H2)
    (hd : ∀ σ H, Pv xs.length σ H → D.nx σ H) :
    ∃ W : Nat → Nat → L2.St → Hp → Prop, (∃ m, W 0 m σ H) ∧ ∀ i m σ H, W i m σ H →
      ((Ite K a).stop i H ∧ D.nx σ H) ∨ ((Ite K a).go i H ∧ ∃ N : L2.St → Hp → Prop, (∀ σ' H', N σ' H' → ∃ m', m' < m ∧ W (i + 1) m' σ' H') ∧
        ∀ v H', (Ite K a).yld i H v H' → g v σ H' fun σ2 H2 => tb { D with nx := N, ct := N, bk := D.nx } σ2 H2) := by
  refine ⟨fun i m σ H => m = xs.length - i ∧ i ≤ xs.length ∧ Pv i σ H, ⟨xs.length, rfl, Nat.zero_le _, h0⟩, ?_⟩
  rintro i m σ H ⟨rfl, hi, p⟩
  have q := hq i σ H p
  by_cases hlt : i < xs.length
  · have hx : xs[i]? = some xs[i] := List.getElem?_eq_getElem hlt
    refine .inr ⟨⟨xs, _, q, hx⟩, Pv (i + 1), fun σ' H' p' => ⟨xs.length - (i + 1), by omega, rfl, hlt, p'⟩, fun v H' y => ?_⟩
    obtain ⟨T, x', rfl, hT, rfl, f1⟩ := y
    exact hs i x' T σ H (f1 xs q) p hT
  · have e : i = xs.length := by omega
    subst e
    exact .inl ⟨⟨xs, q, Nat.le_refl _⟩, hd σ H p⟩
/-- an item of a mapped list -/
theorem map_at {α β : Type} {f : α → β} {xs : List α} {i : Nat} {y : β} (h : (xs.map f)[i]? = some y) : ∃ x, xs[i]? = some x ∧ y = f x := by
  rw [List.getElem?_map] at h
  cases e : xs[i]? with
  | none =>
    rw [e] at h
    cases h
  | some x =>
    rw [e] at h
    exact ⟨x, rfl, (Option.some.inj h).symm⟩
theorem at_map {α β : Type} {f : α → β} {xs : List α} {i : Nat} {x : α} (h : xs[i]? = some x) : (xs.map f)[i]? = some (f x) := by
  rw [List.getElem?_map, h]
  rfl
/-- a seq's place -/
theorem atI_of {xs : List V} {i : Int} {j : Nat} {v : V} (e : i = (j : Int)) (h : xs[j]? = some v) : atI xs i = some v := at_of e h
end KR
/-! comprehensions of two clauses: a list, then a range -/
namespace KR
open PySem PySem.Spec PyProof.Rows L2
theorem in_range {lo : Int} {n : Nat} {g1 : TG} {tt1 : TT} {te : TE} {vs1 : List Nat} {σ2 : L2.St} {H4 : Hp} {D : Addr} {Nx : Hp → Prop} (Pw : Nat → Hp → Prop) (h0 : Pw 0 H4)
    (hs : ∀ j H, j < n → Pw j H → g1 (.int (lo + (j : Nat))) (wipe σ2 vs1) H fun σ3 H5 => wipe σ3 vs1 = wipe σ2 vs1 ∧ tt1 σ3 H5 fun b H6 =>
      if b = true then te σ3 H6 fun y H7 => ∃ acc, H7 D = some (.lst acc) ∧ acc.length < sizeLine ∧ Pw (j + 1) (upd H7 D (.lst (acc ++ [y]))) else Pw (j + 1) H6)
    (hd : ∀ H, Pw n H → Nx H) :
    ∃ W1 : Nat → Nat → Hp → Prop, (∃ m, W1 0 m H4) ∧ ∀ j k H, W1 j k H →
      ((Itr lo n).stop j H ∧ Nx H) ∨ ((Itr lo n).go j H ∧ ∃ Nx1 : Hp → Prop, (∀ H', Nx1 H' → ∃ k', k' < k ∧ W1 (j + 1) k' H') ∧
        ∀ x H', (Itr lo n).yld j H x H' → g1 x (wipe σ2 vs1) H' fun σ3 H5 => wipe σ3 vs1 = wipe σ2 vs1 ∧ tt1 σ3 H5 fun b H6 =>
          if b = true then te σ3 H6 fun y H7 => ∃ acc, H7 D = some (.lst acc) ∧ acc.length < sizeLine ∧ Nx1 (upd H7 D (.lst (acc ++ [y]))) else Nx1 H6) := by
  refine ⟨fun j k H => k = n - j ∧ j ≤ n ∧ Pw j H, ⟨n, by simp, Nat.zero_le _, h0⟩, ?_⟩
  rintro j k H ⟨rfl, hj, p⟩
  by_cases hlt : j < n
  · refine .inr ⟨hlt, Pw (j + 1), fun H' p' => ⟨n - (j + 1), by omega, rfl, hlt, p'⟩, fun x H' y => ?_⟩
    obtain ⟨e, y⟩ := y
    subst e y
    exact hs j _ hlt p
  · have e : j = n := by omega
    subst e
    exact .inl ⟨Nat.le_refl _, hd H p⟩
theorem lc2_list {K : PySem.W.Frag} {a : Addr} {xs : List V} {g : TG} {tt : TT} {wi1 : TI} {g1 : TG} {tt1 : TT} {te : TE} {vs vs1 : List Nat} {σ : L2.St} {H1 : Hp} {D : Addr} {Qd : Hp → Prop}
    (Pv : Nat → Hp → Prop) (h0 : Pv 0 (upd H1 D (.lst []))) (hl : ∀ i H, i ≤ xs.length → Pv i H → SqL K H a xs)
    (hs : ∀ i x H, xs[i]? = some x → Pv i H → g x (wipe σ vs) H fun σ2 H2 => wipe σ2 vs = wipe σ vs ∧ tt σ2 H2 fun b H3 =>
      if b = true then wi1 σ2 H3 fun J1 H4 => ∃ W1 : Nat → Nat → Hp → Prop, (∃ m, W1 0 m H4) ∧ ∀ j k H, W1 j k H →
        (J1.stop j H ∧ Pv (i + 1) H) ∨ (J1.go j H ∧ ∃ Nx1 : Hp → Prop, (∀ H', Nx1 H' → ∃ k', k' < k ∧ W1 (j + 1) k' H') ∧ ∀ x H', J1.yld j H x H' →
          g1 x (wipe σ2 vs1) H' fun σ3 H5 => wipe σ3 vs1 = wipe σ2 vs1 ∧ tt1 σ3 H5 fun b H6 =>
          if b = true then te σ3 H6 fun y H7 => ∃ acc, H7 D = some (.lst acc) ∧ acc.length < sizeLine ∧ Nx1 (upd H7 D (.lst (acc ++ [y]))) else Nx1 H6)
      else Pv (i + 1) H3) (hd : ∀ H, Pv xs.length H → Qd H) :
    ∃ W : Nat → Nat → Hp → Prop, (∃ m, W 0 m (upd H1 D (.lst []))) ∧ ∀ i m H, W i m H →
      ((Itl K a).stop i H ∧ Qd H) ∨ ((Itl K a).go i H ∧ ∃ Nx : Hp → Prop, (∀ H', Nx H' → ∃ m', m' < m ∧ W (i + 1) m' H') ∧ ∀ x H', (Itl K a).yld i H x H' →
        g x (wipe σ vs) H' fun σ2 H2 => wipe σ2 vs = wipe σ vs ∧ tt σ2 H2 fun b H3 =>
        if b = true then wi1 σ2 H3 fun J1 H4 => ∃ W1 : Nat → Nat → Hp → Prop, (∃ m, W1 0 m H4) ∧ ∀ j k H, W1 j k H →
          (J1.stop j H ∧ Nx H) ∨ (J1.go j H ∧ ∃ Nx1 : Hp → Prop, (∀ H', Nx1 H' → ∃ k', k' < k ∧ W1 (j + 1) k' H') ∧ ∀ x H', J1.yld j H x H' →
            g1 x (wipe σ2 vs1) H' fun σ3 H5 => wipe σ3 vs1 = wipe σ2 vs1 ∧ tt1 σ3 H5 fun b H6 =>
            if b = true then te σ3 H6 fun y H7 => ∃ acc, H7 D = some (.lst acc) ∧ acc.length < sizeLine ∧ Nx1 (upd H7 D (.lst (acc ++ [y]))) else Nx1 H6)
        else Nx H3) := by
  refine ⟨fun i m H => m = xs.length - i ∧ i ≤ xs.length ∧ Pv i H, ⟨xs.length, by simp, Nat.zero_le _, h0⟩, ?_⟩
  rintro i m H ⟨rfl, hi, p⟩
  have q := hl i H hi p
  by_cases hlt : i < xs.length
  · refine .inr ⟨⟨xs, xs[i], q, by simp [hlt]⟩, Pv (i + 1), fun H' p' => ⟨xs.length - (i + 1), by omega, rfl, hlt, p'⟩, fun x H' y => ?_⟩
    obtain ⟨e, y⟩ := y
    subst e
    exact hs i x _ (y xs q) p
  · have e : i = xs.length := by omega
    subst e
    exact .inl ⟨⟨xs, q, Nat.le_refl _⟩, hd H p⟩
end KR
/-! the rules with the written part told, for a comprehension's block -/
namespace KR
open PySem PySem.Spec PyProof.Rows L2
section
variable {X : Cx} {K : PySem.W.Frag} {tg l e e2 o : Expr} {tl te to : TE} {ta t : TA} {es : List Expr} {T id : String} {r : V → List V → Hp → VK → Prop} {name : Str}
theorem k_ixl (hK : X.K = K) : IxR X (rIxL K) := by
  subst hK
  exact ix_list
theorem k_ixt (hK : X.K = K) : IxR X (rIxT K) := by
  subst hK
  exact ix_tup
theorem k_list (hK : X.K = K) (hl : PE X l tl) : PI X tg l (iList K tl) := by
  subst hK
  exact pi_list hl
theorem k_tup (hK : X.K = K) (hl : PE X l tl) : PI X tg l (iTup K tl) := by
  subst hK
  exact pi_tup hl
theorem k_isi (hK : X.K = K) : CallR X (.builtin "isinstance") (rIsi K) := by
  subst hK
  exact call_isi
theorem k_slt (hK : X.K = K) : SlR X (rSlT K) := by
  subst hK
  exact sl_tup
theorem k_sll (hK : X.K = K) : SlR X (rSlL K) := by
  subst hK
  exact sl_list
theorem k_catT (hK : X.K = K) : OpR X (binaryOp .Add) (rCatT K) := by
  subst hK
  exact op_catT
theorem k_in (hK : X.K = K) : OpR X (compareOp .In) (rIn K false) := by
  subst hK
  exact op_in_seq
theorem k_notIn (hK : X.K = K) : OpR X (compareOp .NotIn) (rIn K true) := by
  subst hK
  exact op_notIn_seq
def rLenK (K : PySem.W.Frag) : List V → Hp → VK → Prop := fun xs H Q => ∃ p ys, xs = [.ref p] ∧ (SqL K H p ys ∨ SqT K H p ys) ∧ Q (.int ys.length) H
theorem k_len (hK : X.K = K) : CallR X (.builtin "len") (rLenK K) := by
  subst hK
  exact call_len_seq
def rListK (K : PySem.W.Frag) : List V → Hp → VK → Prop := fun xs H Q => ∃ p ys, xs = [.ref p] ∧ (SqL K H p ys ∨ SqT K H p ys) ∧ ∀ l, H l = none → Q (.ref l) (upd H l (.lst ys))
theorem k_listOf (hK : X.K = K) : CallR X (.type "list") (rListK K) := by
  subst hK
  exact call_list_of
def rTupK (K : PySem.W.Frag) : List V → Hp → VK → Prop := fun xs H Q => ∃ p ys, xs = [.ref p] ∧ ((SqL K H p ys ∧ ∀ l, H l = none → Q (.ref l) (upd H l (.tup ys))) ∨ (SqT K H p ys ∧ Q (.ref p) H))
theorem k_tupOf (hK : X.K = K) : CallR X (.type "tuple") (rTupK K) := by
  subst hK
  exact call_tuple_of
theorem k_eqD (hK : X.K = K) (hu : X.A.units + 64 < cLine) : OpR X (compareOp .Eq) (rEqD K) := by
  subst hK
  exact op_eqD hu
theorem k_neD (hK : X.K = K) (hu : X.A.units + 64 < cLine) : OpR X (compareOp .NotEq) (rNeD K) := by
  subst hK
  exact op_neD hu
theorem k_maxT (hK : X.K = K) (hc : X.calm = true) (hu : X.A.units + 64 < cLine) : CallR X (.builtin "max") (rMaxT K) := by
  subst hK
  exact call_maxT hc hu
theorem k_max (hK : X.K = K) (hc : X.calm = true) : CallR X (.builtin "max") (rMax K) := by
  subst hK
  exact cr_max hc
theorem k_sum (hK : X.K = K) (hc : X.calm = true) : CallR X (.builtin "sum") (rSum K) := by
  subst hK
  exact cr_sum hc
theorem k_repr (hK : X.K = K) (gd : X.A.guards = some []) (hu : X.A.units + 64 < cLine) : CallR X (.builtin "repr") (rRepr K) := by
  subst hK
  exact call_reprD gd hu
theorem k_enumT {p pos tpos : Pos} {elts : List Expr} {kk : Nat} (hK : X.K = K) (hg : Gl X "enumerate") (hm : X.mg "enumerate" = none) (ha : PA X [e] ta)
    (hs : starEach [e] X.env = [(false, eval e X.env)] := by rfl) : PI X (.Tuple elts kk tpos) (.Call (.Name "enumerate" p) [e] [] pos) (iEnumT K ta) := by
  subst hK
  exact pi_enumT hg hm ha hs
theorem k_enum {p pos tpos : Pos} {elts : List Expr} {kk : Nat} (hK : X.K = K) (hg : Gl X "enumerate") (hm : X.mg "enumerate" = none) (ha : PA X [e] ta)
    (hs : starEach [e] X.env = [(false, eval e X.env)] := by rfl) : PI X (.Tuple elts kk tpos) (.Call (.Name "enumerate" p) [e] [] pos) (iEnum K ta) := by
  subst hK
  exact pi_enum hg hm ha hs
theorem k_zip {p pos tpos : Pos} {elts : List Expr} {kk : Nat} (hK : X.K = K) (hg : Gl X "zip") (hm : X.mg "zip" = none) (ha : PA X [e, e2] ta)
    (hs : starEach [e, e2] X.env = (false, eval e X.env) :: starEach [e2] X.env := by rfl) (hpl : (backTo pos (starEach [e2] X.env)).any (·.1) = false := by rfl) :
    PI X (.Tuple elts kk tpos) (.Call (.Name "zip" p) [e, e2] [] pos) (RZ.iZipA K ta) := by
  subst hK
  exact RZ.pi_zipA hg hm ha hs hpl
def tLzip (K : PySem.W.Frag) (ta : TA) : TE := fun σ H Q => ta σ H fun vs H1 => ∃ a b xs ys, vs = [.ref a, .ref b] ∧ SqT K H1 a xs ∧ SqT K H1 b ys ∧ xs.length = ys.length ∧ xs.length < sizeLine ∧ Zipped xs ys H1 Q
theorem k_lzip {p p2 pos pos2 : Pos} (hK : X.K = K) (hc : X.calm = true) (hg : Gl X "list") (hm : X.mg "list" = none) (hg2 : Gl X "zip") (hm2 : X.mg "zip" = none) (ha : PA X [e, e2] ta)
    (hs : starEach [e, e2] X.env = (false, eval e X.env) :: starEach [e2] X.env := by rfl) (hpl : (backTo pos2 (starEach [e2] X.env)).any (·.1) = false := by rfl)
    (hs1 : starEach [.Call (.Name "zip" p2) [e, e2] [] pos2] X.env = [(false, eval (.Call (.Name "zip" p2) [e, e2] [] pos2) X.env)] := by rfl) :
    PE X (.Call (.Name "list" p) [.Call (.Name "zip" p2) [e, e2] [] pos2] [] pos) (tLzip K ta) := by
  subst hK
  exact pe_lzip hc hg hm hg2 hm2 ha hs hpl hs1
theorem k_bm {apos cpos : Pos} (hK : X.K = K) (pa : PlainAttrs T) (slot : Slot T name id) (hty : typeOf (.builtin id) = pure (.type "method_descriptor")) (hm : MtR X id r) (ho : PE X o to) (ha : PA X (e :: es) t)
    (hbase : attributeBase o name X.env (eval o X.env) = eval o X.env := by rfl)
    (hfew : ((backTo cpos (starEach (e :: es) X.env)).all (fun x => !x.1) && (backToKw cpos (keywordEach [] X.env)).all (fun x => x.1.isSome)
      && decide ((e :: es).length + ([] : List Keyword).length + (if ([] : List Keyword).isEmpty then 0 else 1) < 30)) = true := by rfl)
    (hline : (apos.endLine == cpos.line) = true := by rfl) (hs : starEach (e :: es) X.env = (false, eval e X.env) :: starEach es X.env := by rfl)
    (hplain : (backTo cpos (starEach es X.env)).any (·.1) = false := by rfl) : PE X (.Call (.Attribute o name apos) (e :: es) [] cpos) (tBM K T r to t) := by
  subst hK
  exact pe_bm pa slot hty hm ho ha hbase hfew hline hs hplain
theorem k_star {p : Pos} {e : Expr} (hK : X.K = K) (he : PE X e te) (hr : PA X es t) (hs : starEach (.Starred e p :: es) X.env = (true, eval e X.env) :: starEach es X.env := by rfl) : PA X (.Starred e p :: es) (StX.tStar K te t) := by
  subst hK
  exact StX.pa_star he hr hs
theorem k_fld {apos : Pos} {f : Str} (hK : X.K = K) (h : PE X o te) (hx : attributeBase o f X.env (eval o X.env) = eval o X.env) : PE X (.Attribute o f apos) (tFld K te f) := by
  subst hK
  exact pe_fld h hx
end
end KR
/-! methods and instances by their names -/
namespace KR
open PySem PySem.Spec PyProof.Rows L2
def MAt (K : PySem.W.Frag) (C : Addr) (m qual : Str) (st : Stmt) : Prop := ∃ f fd, Fun K m qual st f fd ∧ Meth K C m f
def IAt (K : PySem.W.Frag) (C : Addr) (qual : Str) (st : Stmt) : Prop := ∃ f fd, Fun K "__init__" qual st f fd ∧ Mk K C f
def MUse (P : Program) (w : World) (K : PySem.W.Frag) (mg : Str → Option Value) (base : Heap) (C : Addr) (m : Str) (k : Nat) (ps : List Str) (sp : Sp) : Prop :=
  ∃ f fd, FnOk P w K mg base CX0 k f fd ps sp ∧ Meth K C m f ∧ Binds K fd ps []
def KUse (P : Program) (w : World) (K : PySem.W.Frag) (mg : Str → Option Value) (base : Heap) (C : Addr) (x : Str) (k : Nat) (ps : List Str) (sp : Sp) : Prop :=
  ∃ f fd, FnOk P w K mg base CX0 k f fd ps sp ∧ Mk K C f ∧ mg x = some (.ref C) ∧ Binds K fd ps []
section
variable {P : Program} {w : World} {K : PySem.W.Frag} {mg : Str → Option Value} {base : Heap} {x m qual : Str} {st : Stmt} {k : Nat} {ps : List Str} {sp : Sp} {C : Addr}
theorem muse_of (D : MAt K C m qual st) (ok : ∀ f fd, Fun K m qual st f fd → FnOk P w K mg base CX0 k f fd ps sp)
    (h : ∀ (kV doc pm : Value) (an : Option Addr) (cdv ct : Value) (us : List Value), us.length = ps.length → bindArgs (PySem.W.fnOf m qual (defArgs st) (defBody st) (defScope st) .none kV doc pm an cdv ct) ⟨us, []⟩ = pure (ps.zip us)) :
    MUse P w K mg base C m k ps sp := by
  obtain ⟨f, fd, F, hm⟩ := D
  exact ⟨f, fd, ok f fd F, hm, F.binds h⟩
theorem kuse_of (D : IAt K C qual st) (hm : mg x = some (.ref C)) (ok : ∀ f fd, Fun K "__init__" qual st f fd → FnOk P w K mg base CX0 k f fd ps sp)
    (h : ∀ (kV doc pm : Value) (an : Option Addr) (cdv ct : Value) (us : List Value), us.length = ps.length → bindArgs (PySem.W.fnOf "__init__" qual (defArgs st) (defBody st) (defScope st) .none kV doc pm an cdv ct) ⟨us, []⟩ = pure (ps.zip us)) :
    KUse P w K mg base C x k ps sp := by
  obtain ⟨f, fd, F, mk⟩ := D
  exact ⟨f, fd, ok f fd F, mk, hm, F.binds h⟩
end
section
variable {X : Cx} {x m : Str} {j k : Nat} {ps : List Str} {sp : Sp} {o e : Expr} {es : List Expr} {ta : TE} {t : TA} {p pos apos : Pos} {C : Addr}
theorem pe_mUse {pl : Sem Bool} (he : PE X o ta) (c : Cls X.K C) (u : MUse X.prog X.w X.K X.mg X.base C m j ps sp) (le : j ≤ k) (hr : Room k X.A) (ha : PA X (e :: es) t)
    (hst : starEach (e :: es) X.env = (false, eval e X.env) :: starEach es X.env := by rfl) (hpl : (backTo pos (starEach es X.env)).any (·.1) = false := by rfl)
    (ht : eval (.Call (.Attribute o m apos) (e :: es) [] pos) X.env = (do
      let ov ← eval o X.env
      standAt apos.atName
      let (f, first) ← holding [ov] (getMethod ov m pl)
      callWith pos f first (backTo pos (starEach (e :: es) X.env)) (backToKw pos (keywordEach [] X.env))) := by rfl) :
    PE X (.Call (.Attribute o m apos) (e :: es) [] pos) (tMeth C m sp [] E0 ta t) := by
  obtain ⟨f, fd, F, hm, b⟩ := u
  exact pe_meth he c hm F (hr.mono le) b .nil pass0 ha hst hpl ht
theorem pe_kUse (u : KUse X.prog X.w X.K X.mg X.base C x j ps sp) (le : j + 1 ≤ k) (hr : Room k X.A) (hg : Gl X x) (ha : PA X (e :: es) t)
    (hdb : (x == ("__debug__" : Str)) = false := by decide) (he : starEach (e :: es) X.env = (false, eval e X.env) :: starEach es X.env := by rfl)
    (hpl : (backTo pos (starEach es X.env)).any (·.1) = false := by rfl) : PE X (.Call (.Name x p) (e :: es) [] pos) (tMake C sp [] E0 t) := by
  obtain ⟨f, fd, F, mk, hm, b⟩ := u
  exact pe_make mk F (hr.mono le) hg hm b .nil pass0 ha hdb he hpl
end
theorem ixN_nat {n j : Nat} {i : Int} (e : i = (j : Int)) (h : j < n) : ixN n i = some j := by
  subst e
  unfold ixN
  rw [if_pos (by omega), if_pos (by omega)]
  rfl
end KR
/-! partings: the mathematics -/
namespace KM
/-- blocks numbered as they are first met, m of them ahead -/
def Rg : Int → List Int → Prop
  | _, [] => True
  | m, x :: r => 0 ≤ x ∧ x ≤ m ∧ Rg (if x = m then m + 1 else m) r
/-- how many blocks, m of them ahead -/
def bc : Int → List Int → Int
  | m, [] => m
  | m, x :: r => bc (if x = m then m + 1 else m) r
structure Par (p : List Int) : Prop where
  ne : p ≠ []
  le : p.length ≤ 60
  rg : Rg 0 p
theorem bc_app : ∀ (m : Int) (xs ys : List Int), bc m (xs ++ ys) = bc (bc m xs) ys
  | _, [], _ => rfl
  | m, x :: xs, ys => bc_app (if x = m then m + 1 else m) xs ys
theorem rg_app : ∀ (m : Int) (xs ys : List Int), Rg m (xs ++ ys) ↔ Rg m xs ∧ Rg (bc m xs) ys
  | _, [], _ => ⟨fun h => ⟨trivial, h⟩, fun h => h.2⟩
  | m, x :: xs, ys => by
    show (0 ≤ x ∧ x ≤ m ∧ Rg _ (xs ++ ys)) ↔ (0 ≤ x ∧ x ≤ m ∧ Rg _ xs) ∧ _
    rw [rg_app]
    exact ⟨fun ⟨a, b, c, d⟩ => ⟨⟨a, b, c⟩, d⟩, fun ⟨⟨a, b, c⟩, d⟩ => ⟨a, b, c, d⟩⟩
theorem bc_ge : ∀ (m : Int) (xs : List Int), m ≤ bc m xs
  | _, [] => Int.le_refl _
  | m, x :: xs => by
    have h := bc_ge (if x = m then m + 1 else m) xs
    show m ≤ bc (if x = m then m + 1 else m) xs
    split at h <;> split <;> first | omega | contradiction
theorem bc_le : ∀ (m : Int) (xs : List Int), bc m xs ≤ m + xs.length
  | m, [] => by
    show m ≤ m + ((0 : Nat) : Int)
    omega
  | m, x :: xs => by
    have h := bc_le (if x = m then m + 1 else m) xs
    show bc (if x = m then m + 1 else m) xs ≤ m + ((xs.length + 1 : Nat) : Int)
    split at h <;> split <;> first | omega | contradiction
theorem rg_at {p : List Int} {i : Nat} {x : Int} (h : Rg 0 p) (hx : p[i]? = some x) : 0 ≤ x ∧ x ≤ bc 0 (p.take i) := by
  obtain ⟨hi, e⟩ := List.getElem?_eq_some_iff.mp hx
  have e2 : p = p.take i ++ (x :: p.drop (i + 1)) := by
    rw [← e, List.getElem_cons_drop, List.take_append_drop]
  rw [e2, rg_app] at h
  have h2 : 0 ≤ x ∧ x ≤ bc 0 (p.take i) ∧ Rg _ (p.drop (i + 1)) := h.2
  exact ⟨h2.1, h2.2.1⟩
theorem bc_take {p : List Int} {i : Nat} {x : Int} (hx : p[i]? = some x) : bc 0 (p.take (i + 1)) = if x = bc 0 (p.take i) then bc 0 (p.take i) + 1 else bc 0 (p.take i) := by
  rw [List.take_add_one, hx, bc_app]
  rfl
/-- all values lie below the number of blocks, each number below it is one -/
theorem rg_mem : ∀ (m : Int) (p : List Int), 0 ≤ m → Rg m p → (∀ x ∈ p, 0 ≤ x ∧ x < bc m p) ∧ ∀ y, m ≤ y → y < bc m p → y ∈ p
  | m, [], hm, _ => ⟨fun x hx => (nomatch hx), fun y h1 h2 => by
    have h2' : y < m := h2
    omega⟩
  | m, x :: r, hm, h => by
    obtain ⟨h0, h1, h2⟩ := h
    have hm2 : 0 ≤ (if x = m then m + 1 else m) := by split <;> omega
    obtain ⟨ih1, ih2⟩ := rg_mem (if x = m then m + 1 else m) r hm2 h2
    have e : bc m (x :: r) = bc (if x = m then m + 1 else m) r := rfl
    have g := bc_ge (if x = m then m + 1 else m) r
    rw [e]
    refine ⟨fun y hy => ?_, fun y h3 h4 => ?_⟩
    · rcases List.mem_cons.mp hy with q | q
      · subst q
        refine ⟨h0, ?_⟩
        split at g <;> split <;> first | omega | contradiction
      · exact ih1 y q
    · by_cases hy : x = y
      · rw [hy]
        exact List.mem_cons_self
      · refine List.mem_cons_of_mem _ (ih2 y ?_ h4)
        split <;> omega
theorem par_max {p : List Int} (h : Par p) {m : Int} (hm : m ∈ p) (hle : ∀ y ∈ p, y ≤ m) : m + 1 = bc 0 p := by
  obtain ⟨h1, h2⟩ := rg_mem 0 p (Int.le_refl _) h.rg
  have a := (h1 m hm).2
  have b0 := (h1 m hm).1
  by_cases e : m + 1 = bc 0 p
  · exact e
  · have := hle (bc 0 p - 1) (h2 _ (by omega) (by omega))
    omega
/-- two partings with the same kernel are one -/
theorem rg_unique : ∀ (n : Nat) (p q : List Int), p.length = n → q.length = n → Rg 0 p → Rg 0 q →
    (∀ (i j : Nat) (x y u v : Int), p[i]? = some x → p[j]? = some y → q[i]? = some u → q[j]? = some v → (x = y ↔ u = v)) → p = q ∧ bc 0 p = bc 0 q
  | 0, p, q, hp, hq, _, _, _ => by
    rw [List.eq_nil_of_length_eq_zero hp, List.eq_nil_of_length_eq_zero hq]
    exact ⟨rfl, rfl⟩
  | n + 1, p, q, hp, hq, rp, rq, h => by
    obtain ⟨p', x, rfl⟩ : ∃ p' x, p = p' ++ [x] := ⟨p.dropLast, p.getLast (by intro e; rw [e] at hp; cases hp), (List.dropLast_concat_getLast _).symm⟩
    obtain ⟨q', u, rfl⟩ : ∃ q' u, q = q' ++ [u] := ⟨q.dropLast, q.getLast (by intro e; rw [e] at hq; cases hq), (List.dropLast_concat_getLast _).symm⟩
    have lp : p'.length = n := by simpa using hp
    have lq : q'.length = n := by simpa using hq
    rw [rg_app] at rp rq
    have gp : ∀ {i : Nat} {z : Int}, p'[i]? = some z → (p' ++ [x])[i]? = some z := fun {i z} e => by
      have := (List.getElem?_eq_some_iff.mp e).1
      rw [List.getElem?_append_left this]
      exact e
    have gq : ∀ {i : Nat} {z : Int}, q'[i]? = some z → (q' ++ [u])[i]? = some z := fun {i z} e => by
      have := (List.getElem?_eq_some_iff.mp e).1
      rw [List.getElem?_append_left this]
      exact e
    obtain ⟨e1, e2⟩ := rg_unique n p' q' lp lq rp.1 rq.1 fun i j a b c d h1 h2 h3 h4 => h i j a b c d (gp h1) (gp h2) (gq h3) (gq h4)
    subst e1
    have lastp : (p' ++ [x])[n]? = some x := by
      rw [List.getElem?_append_right (by omega), lp]
      simp
    have lastq : (p' ++ [u])[n]? = some u := by
      rw [List.getElem?_append_right (by omega), lp]
      simp
    obtain ⟨x0, x1, _⟩ := rp.2
    obtain ⟨u0, u1, _⟩ := rq.2
    obtain ⟨m1, m2⟩ := rg_mem 0 p' (Int.le_refl _) rp.1
    have exu : x = u := by
      by_cases hx : x < bc 0 p'
      · obtain ⟨i, hi, ei⟩ := List.getElem_of_mem (m2 x x0 hx)
        have e3 : p'[i]? = some x := by rw [List.getElem?_eq_getElem hi, ei]
        exact ((h i n x x x u (gp e3) lastp (gq e3) lastq).mp rfl)
      · by_cases hu : u < bc 0 p'
        · obtain ⟨i, hi, ei⟩ := List.getElem_of_mem (m2 u u0 hu)
          have e3 : p'[i]? = some u := by rw [List.getElem?_eq_getElem hi, ei]
          exact ((h i n u x u u (gp e3) lastp (gq e3) lastq).mpr rfl).symm
        · omega
    subst exu
    exact ⟨rfl, rfl⟩

/-! ### numbering -/
variable {α : Type} [DecidableEq α]
def ins (ks : List α) (x : α) : List α := if x ∈ ks then ks else ks ++ [x]
def firsts (xs : List α) : List α := xs.foldl ins []
def num (xs : List α) : List Int := xs.map fun x => (((firsts xs).idxOf x : Nat) : Int)
theorem firsts_snoc (xs : List α) (x : α) : firsts (xs ++ [x]) = ins (firsts xs) x := by
  unfold firsts
  rw [List.foldl_append]
  rfl
theorem ins_nodup {ks : List α} (h : ks.Nodup) (x : α) : (ins ks x).Nodup := by
  unfold ins
  split
  · exact h
  · rename_i hx
    rw [List.nodup_append]
    refine ⟨h, by simp, fun a ha b hb => ?_⟩
    rw [List.mem_singleton.mp hb]
    intro e
    exact hx (e ▸ ha)
theorem mem_ins {ks : List α} {x y : α} : y ∈ ins ks x ↔ y ∈ ks ∨ y = x := by
  unfold ins
  split
  · rename_i hx
    exact ⟨Or.inl, fun h => h.elim id fun e => e ▸ hx⟩
  · rw [List.mem_append, List.mem_singleton]
theorem firsts_rec {P : List α → Prop} (h0 : P []) (hs : ∀ xs x, P xs → P (xs ++ [x])) : ∀ xs, P xs := by
  intro xs
  have : ∀ n (xs : List α), xs.length = n → P xs := by
    intro n
    induction n with
    | zero =>
      intro xs h
      rw [List.eq_nil_of_length_eq_zero h]
      exact h0
    | succ n ih =>
      intro xs h
      have hne : xs ≠ [] := by
        intro e
        rw [e] at h
        cases h
      rw [← List.dropLast_concat_getLast hne]
      exact hs _ _ (ih _ (by rw [List.length_dropLast, h]; rfl))
  exact this _ xs rfl
theorem firsts_nodup (xs : List α) : (firsts xs).Nodup := by
  refine firsts_rec (P := fun xs => (firsts xs).Nodup) (by exact List.nodup_nil) (fun xs x h => ?_) xs
  rw [firsts_snoc]
  exact ins_nodup h x
theorem mem_firsts {y : α} (xs : List α) : y ∈ firsts xs ↔ y ∈ xs := by
  refine firsts_rec (P := fun xs => y ∈ firsts xs ↔ y ∈ xs) (by exact Iff.rfl) (fun xs x h => ?_) xs
  rw [firsts_snoc, mem_ins, h, List.mem_append, List.mem_singleton]
theorem idx_ins {ks : List α} {x y : α} (hy : y ∈ ks) : (ins ks x).idxOf y = ks.idxOf y := by
  unfold ins
  split
  · rfl
  · rw [List.idxOf_append, if_pos hy]
theorem num_snoc (xs : List α) (x : α) : num (xs ++ [x]) = num xs ++ [if x ∈ firsts xs then (((firsts xs).idxOf x : Nat) : Int) else ((firsts xs).length : Int)] := by
  unfold num
  rw [List.map_append, firsts_snoc]
  congr 1
  · refine List.map_congr_left fun y hy => ?_
    rw [idx_ins ((mem_firsts xs).mpr hy)]
  · show [_] = [_]
    congr 1
    split
    · rename_i h
      show (((ins (firsts xs) x).idxOf x : Nat) : Int) = _
      rw [idx_ins h]
    · rename_i h
      show (((ins (firsts xs) x).idxOf x : Nat) : Int) = _
      unfold ins
      rw [if_neg h, List.idxOf_append, if_neg h]
      simp
theorem firsts_len (xs : List α) : ((firsts xs).length : Int) = bc 0 (num xs) ∧ Rg 0 (num xs) := by
  refine firsts_rec (P := fun xs => ((firsts xs).length : Int) = bc 0 (num xs) ∧ Rg 0 (num xs)) ⟨rfl, trivial⟩ (fun xs x h => ?_) xs
  obtain ⟨h1, h2⟩ := h
  rw [num_snoc, firsts_snoc, bc_app, rg_app, ← h1]
  unfold ins
  by_cases hx : x ∈ firsts xs
  · rw [if_pos hx, if_pos hx]
    have hl := List.idxOf_lt_length_of_mem hx
    refine ⟨?_, h2, ?_⟩
    · show _ = if _ then _ else _
      rw [if_neg (by omega)]
    · exact ⟨by omega, by omega, trivial⟩
  · rw [if_neg hx, if_neg hx]
    refine ⟨?_, h2, ?_⟩
    · show _ = if _ then _ else _
      rw [if_pos rfl, List.length_append]
      show ((_ + 1 : Nat) : Int) = _
      show _ = bc _ []
      show _ = (_ : Int) + 1
      omega
    · exact ⟨by omega, by omega, trivial⟩
theorem num_rg (xs : List α) : Rg 0 (num xs) := (firsts_len xs).2
theorem num_len (xs : List α) : (num xs).length = xs.length := by
  unfold num
  rw [List.length_map]
theorem num_get {xs : List α} {i : Nat} {x : α} (h : xs[i]? = some x) : (num xs)[i]? = some (((firsts xs).idxOf x : Nat) : Int) := by
  unfold num
  rw [List.getElem?_map, h]
  rfl
theorem num_ker {xs : List α} {i j : Nat} {x y : α} {u v : Int} (hi : xs[i]? = some x) (hj : xs[j]? = some y) (ui : (num xs)[i]? = some u) (vj : (num xs)[j]? = some v) : u = v ↔ x = y := by
  rw [num_get hi] at ui
  rw [num_get hj] at vj
  cases ui
  cases vj
  constructor
  · intro e
    have e' : (firsts xs).idxOf x = (firsts xs).idxOf y := by omega
    have hx := (mem_firsts xs).mpr (List.mem_of_getElem? hi)
    have hy := (mem_firsts xs).mpr (List.mem_of_getElem? hj)
    have a := List.getElem_idxOf (List.idxOf_lt_length_of_mem hx)
    have b := List.getElem_idxOf (List.idxOf_lt_length_of_mem hy)
    rw [← a, ← b]
    congr 1
  · intro e
    rw [e]
theorem num_par {xs : List α} (h : xs ≠ []) (hl : xs.length ≤ 60) : Par (num xs) :=
  ⟨fun e => h (List.eq_nil_of_length_eq_zero (by rw [← num_len xs, e]; rfl)), by rw [num_len]; exact hl, num_rg xs⟩
/-- a parting is told by its kernel -/
theorem num_is {xs : List α} {q : List Int} (hl : q.length = xs.length) (hq : Rg 0 q)
    (h : ∀ (i j : Nat) (x y : α) (u v : Int), xs[i]? = some x → xs[j]? = some y → q[i]? = some u → q[j]? = some v → (x = y ↔ u = v)) : num xs = q := by
  refine (rg_unique xs.length (num xs) q (num_len xs) hl (num_rg xs) hq fun i j a b u v h1 h2 h3 h4 => ?_).1
  have li := (List.getElem?_eq_some_iff.mp h1).1
  have lj := (List.getElem?_eq_some_iff.mp h2).1
  rw [num_len] at li lj
  have gi : xs[i]? = some xs[i] := List.getElem?_eq_getElem li
  have gj : xs[j]? = some xs[j] := List.getElem?_eq_getElem lj
  rw [num_ker gi gj h1 h2]
  exact h i j _ _ u v gi gj h3 h4
end KM
namespace KM
/-! doors by block; all partings -/
def doorsOf (p : List Int) (b : Int) : List Int := (p.zipIdx.filter fun q => decide (q.1 = b)).map fun q => ((q.2 : Nat) : Int)
theorem doorsOf_snoc (p : List Int) (x b : Int) : doorsOf (p ++ [x]) b = doorsOf p b ++ (if x = b then [((p.length : Nat) : Int)] else []) := by
  unfold doorsOf
  rw [List.zipIdx_append, List.filter_append, List.map_append]
  by_cases h : x = b
  · simp [h]
  · simp [h]
theorem doorsOf_len (p : List Int) (b : Int) : (doorsOf p b).length ≤ p.length := by
  unfold doorsOf
  rw [List.length_map]
  refine Nat.le_trans (List.length_filter_le _ _) ?_
  rw [List.length_zipIdx]
  exact Nat.le_refl _
theorem doorsOf_small (p : List Int) (b : Int) : ∀ x ∈ doorsOf p b, 0 ≤ x ∧ x < p.length := by
  intro x hx
  unfold doorsOf at hx
  obtain ⟨q, hq, rfl⟩ := List.mem_map.mp hx
  have h1 := (List.mem_filter.mp hq).1
  have h2 := List.mem_zipIdx h1
  omega
/-- a row and one door more, into each block and a new one -/
def ext (row : List Int) : List (List Int) := (List.range (bc 0 row + 1).toNat).map fun b => row ++ [((b : Nat) : Int)]
def allP : Nat → List (List Int)
  | 0 => [[0]]
  | n + 1 => (allP n).flatMap ext
theorem allP_ok : ∀ (n : Nat), ∀ r ∈ allP n, Rg 0 r ∧ r.length = n + 1
  | 0, r, h => by
    rw [List.mem_singleton.mp h]
    exact ⟨⟨Int.le_refl _, Int.le_refl _, trivial⟩, rfl⟩
  | n + 1, r, h => by
    obtain ⟨q, hq, hr⟩ := List.mem_flatMap.mp h
    obtain ⟨b, hb, rfl⟩ := List.mem_map.mp hr
    obtain ⟨h1, h2⟩ := allP_ok n q hq
    have hb := List.mem_range.mp hb
    have := bc_ge 0 q
    refine ⟨?_, by rw [List.length_append, h2]; rfl⟩
    rw [rg_app]
    exact ⟨h1, by omega, by omega, trivial⟩
theorem allP_count : ∀ n : Fin 8, (allP n.val).length ≤ 4140 := by decide +kernel
theorem ext_len (row : List Int) : (ext row).length = (bc 0 row + 1).toNat := by
  unfold ext
  rw [List.length_map, List.length_range]
theorem flat_take {α β : Type} (f : α → List β) {xs : List α} {i : Nat} {x : α} (h : xs[i]? = some x) : (xs.take (i + 1)).flatMap f = (xs.take i).flatMap f ++ f x := by
  rw [List.take_add_one, h]
  simp
theorem flat_le {α β : Type} (f : α → List β) {xs : List α} {i : Nat} {x : α} (h : xs[i]? = some x) : ((xs.take i).flatMap f).length + (f x).length ≤ (xs.flatMap f).length := by
  have e : xs = xs.take (i + 1) ++ xs.drop (i + 1) := (List.take_append_drop _ _).symm
  have e2 : (xs.flatMap f).length = ((xs.take (i + 1)).flatMap f).length + ((xs.drop (i + 1)).flatMap f).length := by
    conv => lhs; rw [e]
    rw [List.flatMap_append, List.length_append]
  rw [e2, flat_take f h, List.length_append]
  omega
theorem ext_take {row : List Int} {j : Nat} (hj : j < (bc 0 row + 1).toNat) : (ext row).take (j + 1) = (ext row).take j ++ [row ++ [((j : Nat) : Int)]] := by
  have h : (ext row)[j]? = some (row ++ [((j : Nat) : Int)]) := by
    unfold ext
    rw [List.getElem?_map, List.getElem?_range hj]
    rfl
  rw [List.take_add_one, h]
  rfl
end KM
namespace KM
/-! ### clumps: roots -/
def up (hs : List Nat) (x : Nat) : Nat := hs.getD x x
def Dn (hs : List Nat) : Prop := ∀ x, up hs x ≤ x
def rt (hs : List Nat) : Nat → Nat → Nat
  | 0, x => x
  | f + 1, x => if up hs x = x then x else rt hs f (up hs x)
/-- more fuel changes nothing -/
theorem rt_more {hs : List Nat} (h : Dn hs) : ∀ (f x k : Nat), x ≤ f → rt hs (f + k) x = rt hs f x := by
  intro f
  induction f with
  | zero =>
    intro x k hx
    have e0 : x = 0 := by omega
    subst e0
    have e : up hs 0 = 0 := by have := h 0; omega
    cases k with
    | zero => rfl
    | succ k =>
      show rt hs (0 + (k + 1)) 0 = 0
      rw [Nat.zero_add]
      show (if up hs 0 = 0 then 0 else _) = 0
      rw [if_pos e]
  | succ f ih =>
    intro x k hx
    rw [show f + 1 + k = (f + k) + 1 by omega]
    show (if up hs x = x then x else rt hs (f + k) (up hs x)) = (if up hs x = x then x else rt hs f (up hs x))
    have hx0 := h x
    by_cases e : up hs x = x
    · rw [if_pos e, if_pos e]
    · rw [if_neg e, if_neg e, ih _ k (by omega)]
def root (hs : List Nat) (x : Nat) : Nat := rt hs x x
theorem root_fuel {hs : List Nat} (h : Dn hs) {f x : Nat} (hx : x ≤ f) : rt hs f x = root hs x := by
  have := rt_more h x x (f - x) (Nat.le_refl _)
  rw [show x + (f - x) = f by omega] at this
  exact this
theorem root_at {hs : List Nat} (h : Dn hs) (x : Nat) : root hs x = if up hs x = x then x else root hs (up hs x) := by
  have hx0 := h x
  cases x with
  | zero =>
    rw [if_pos (by omega)]
    rfl
  | succ x =>
    show (if up hs (x + 1) = x + 1 then x + 1 else rt hs x (up hs (x + 1))) = _
    by_cases e : up hs (x + 1) = x + 1
    · rw [if_pos e, if_pos e]
    · rw [if_neg e, if_neg e, root_fuel h (by omega)]
theorem root_self {hs : List Nat} (h : Dn hs) {x : Nat} (e : up hs x = x) : root hs x = x := by
  rw [root_at h, if_pos e]
theorem root_up {hs : List Nat} (h : Dn hs) (x : Nat) : root hs (up hs x) = root hs x := by
  rw [root_at h x]
  by_cases e : up hs x = x
  · rw [if_pos e, e, root_self h e]
  · rw [if_neg e]
theorem root_le {hs : List Nat} (h : Dn hs) : ∀ (n x : Nat), x ≤ n → root hs x ≤ x ∧ up hs (root hs x) = root hs x
  | 0, x, hx => by
    have e0 : x = 0 := by omega
    subst e0
    have e : up hs 0 = 0 := by have := h 0; omega
    rw [root_self h e]
    exact ⟨Nat.le_refl _, e⟩
  | n + 1, x, hx => by
    have hx0 := h x
    by_cases e : up hs x = x
    · rw [root_self h e]
      exact ⟨Nat.le_refl _, e⟩
    · have ih := root_le h n (up hs x) (by omega)
      rw [root_up h] at ih
      exact ⟨by omega, ih.2⟩
theorem up_root {hs : List Nat} (h : Dn hs) (x : Nat) : up hs (root hs x) = root hs x := (root_le h x x (Nat.le_refl _)).2
theorem root_le' {hs : List Nat} (h : Dn hs) (x : Nat) : root hs x ≤ x := (root_le h x x (Nat.le_refl _)).1
theorem up_set {hs : List Nat} {x v y : Nat} (hx : x < hs.length) : up (hs.set x v) y = if y = x then v else up hs y := by
  unfold up
  rw [List.getD_eq_getElem?_getD, List.getElem?_set, List.getD_eq_getElem?_getD]
  by_cases e : x = y
  · subst e
    simp [hx]
  · have e2 : ¬ y = x := fun q => e q.symm
    simp [e, e2]
theorem dn_set {hs : List Nat} (h : Dn hs) {x v : Nat} (hx : x < hs.length) (hv : v ≤ x) : Dn (hs.set x v) := fun y => by
  rw [up_set hx]
  split
  · omega
  · exact h y
/-- a shorter way: the roots stay -/
theorem root_halve {hs : List Nat} (h : Dn hs) {x : Nat} (hx : x < hs.length) : ∀ (n y : Nat), y ≤ n → root (hs.set x (up hs (up hs x))) y = root hs y := by
  have hv : up hs (up hs x) ≤ x := Nat.le_trans (h _) (h x)
  have h2 := dn_set h hx hv
  intro n
  induction n with
  | zero =>
    intro y hy
    have e0 : y = 0 := by omega
    subst e0
    have a := root_le' h 0
    have b := root_le' h2 0
    omega
  | succ n ih =>
    intro y hy
    rw [root_at h2, up_set hx]
    by_cases e : y = x
    · subst e
      rw [if_pos rfl]
      by_cases e2 : up hs (up hs y) = y
      · have e3 : up hs y = y := by
          have := h (up hs y)
          have := h y
          omega
        rw [if_pos e2, root_self h e3]
      · have lt : up hs (up hs y) < y := by
          have := h (up hs y)
          have := h y
          omega
        rw [if_neg e2, ih _ (by omega), root_up h, root_up h]
    · rw [if_neg e]
      have hy0 := h y
      by_cases e2 : up hs y = y
      · rw [if_pos e2, root_self h e2]
      · rw [if_neg e2, ih _ (by omega), root_up h]
/-- two roots made one -/
theorem root_unite {hs : List Nat} (h : Dn hs) {a b : Nat} (hb : b < hs.length) (ea : up hs a = a) (eb : up hs b = b) (lt : a < b) : ∀ (n y : Nat), y ≤ n → root (hs.set b a) y = if root hs y = b then a else root hs y := by
  have h2 := dn_set h hb (Nat.le_of_lt lt)
  intro n
  induction n with
  | zero =>
    intro y hy
    have e0 : y = 0 := by omega
    subst e0
    have p := root_le' h 0
    have q := root_le' h2 0
    rw [if_neg (by omega)]
    omega
  | succ n ih =>
    intro y hy
    rw [root_at h2, up_set hb]
    by_cases e : y = b
    · subst e
      rw [if_pos rfl, if_neg (by omega), ih _ (by omega), root_self h ea, root_self h eb, if_neg (by omega), if_pos rfl]
    · rw [if_neg e]
      have hy0 := h y
      by_cases e2 : up hs y = y
      · rw [if_pos e2, root_self h e2, if_neg e]
      · rw [if_neg e2, ih _ (by omega), root_up h]
/-! ### what is glued together -/
def J (R : Nat → Nat → Prop) (a b x y : Nat) : Prop := R x y ∨ (R x a ∧ R b y) ∨ (R x b ∧ R a y)
def glue (ts : List (Nat × Nat)) : Nat → Nat → Prop := ts.foldl (fun R t => J R t.1 t.2) Eq
theorem glue_snoc (ts : List (Nat × Nat)) (t : Nat × Nat) : glue (ts ++ [t]) = J (glue ts) t.1 t.2 := by
  unfold glue
  rw [List.foldl_append]
  rfl
structure Eqv (R : Nat → Nat → Prop) : Prop where
  refl : ∀ x, R x x
  symm : ∀ x y, R x y → R y x
  trans : ∀ x y z, R x y → R y z → R x z
theorem J_eqv {R : Nat → Nat → Prop} (h : Eqv R) (a b : Nat) : Eqv (J R a b) := by
  refine ⟨fun x => .inl (h.refl x), fun x y q => ?_, fun x y z q1 q2 => ?_⟩
  · rcases q with q | ⟨q, r⟩ | ⟨q, r⟩
    · exact .inl (h.symm _ _ q)
    · exact .inr (.inr ⟨h.symm _ _ r, h.symm _ _ q⟩)
    · exact .inr (.inl ⟨h.symm _ _ r, h.symm _ _ q⟩)
  · have t := h.trans
    have s := h.symm
    rcases q1 with q1 | ⟨q1, r1⟩ | ⟨q1, r1⟩ <;> rcases q2 with q2 | ⟨q2, r2⟩ | ⟨q2, r2⟩
    · exact .inl (t _ _ _ q1 q2)
    · exact .inr (.inl ⟨t _ _ _ q1 q2, r2⟩)
    · exact .inr (.inr ⟨t _ _ _ q1 q2, r2⟩)
    · exact .inr (.inl ⟨q1, t _ _ _ r1 q2⟩)
    · exact .inr (.inl ⟨q1, r2⟩)
    · exact .inl (t _ _ _ q1 r2)
    · exact .inr (.inr ⟨q1, t _ _ _ r1 q2⟩)
    · exact .inl (t _ _ _ q1 r2)
    · exact .inr (.inr ⟨q1, r2⟩)
theorem glue_eqv (ts : List (Nat × Nat)) : Eqv (glue ts) := by
  refine firsts_rec' (P := fun ts => Eqv (glue ts)) ⟨fun _ => rfl, fun _ _ h => Eq.symm h, fun _ _ _ h1 h2 => Eq.trans h1 h2⟩ (fun ts t h => ?_) ts
  rw [glue_snoc]
  exact J_eqv h _ _
where
  firsts_rec' {α : Type} {P : List α → Prop} (h0 : P []) (hs : ∀ xs x, P xs → P (xs ++ [x])) : ∀ xs, P xs := by
    intro xs
    have : ∀ n (xs : List α), xs.length = n → P xs := by
      intro n
      induction n with
      | zero =>
        intro xs h
        rw [List.eq_nil_of_length_eq_zero h]
        exact h0
      | succ n ih =>
        intro xs h
        have hne : xs ≠ [] := by
          intro e
          rw [e] at h
          cases h
        rw [← List.dropLast_concat_getLast hne]
        exact hs _ _ (ih _ (by rw [List.length_dropLast, h]; rfl))
    exact this _ xs rfl
/-- the roots behind a tie -/
theorem tie_roots {hs hs' : List Nat} {R : Nat → Nat → Prop} {a b : Nat} (e : Eqv R) (h : ∀ x y, root hs x = root hs y ↔ R x y)
    (h' : ∀ y, root hs' y = if root hs y = max (root hs a) (root hs b) then min (root hs a) (root hs b) else root hs y) (x y : Nat) : root hs' x = root hs' y ↔ J R a b x y := by
  unfold J
  rw [h' x, h' y, ← h x y, ← h x a, ← h b y, ← h x b, ← h a y]
  generalize root hs x = rx
  generalize root hs y = ry
  generalize root hs a = ra
  generalize root hs b = rb
  rcases Nat.lt_trichotomy ra rb with g | g | g
  · rw [Nat.max_eq_right (by omega), Nat.min_eq_left (by omega)]
    split <;> split <;> omega
  · subst g
    rw [Nat.max_self, Nat.min_self]
    split <;> split <;> omega
  · rw [Nat.max_eq_left (by omega), Nat.min_eq_right (by omega)]
    split <;> split <;> omega
/-- labels behind a tie -/
theorem tie_labels {L L' : Nat → Int} {R : Nat → Nat → Prop} {a b : Nat} {S : Nat → Prop} (h : ∀ x y, S x → S y → (L x = L y ↔ R x y)) (sa : S a) (sb : S b)
    (h' : ∀ y, S y → L' y = if L y = L b then L a else L y) (x y : Nat) (sx : S x) (sy : S y) : L' x = L' y ↔ J R a b x y := by
  unfold J
  rw [h' x sx, h' y sy, ← h x y sx sy, ← h x a sx sa, ← h b y sb sy, ← h x b sx sb, ← h a y sa sy]
  generalize L x = rx
  generalize L y = ry
  generalize L a = ra
  generalize L b = rb
  split <;> split <;> omega
theorem up_range (n x : Nat) : up (List.range n) x = x := by
  unfold up
  rw [List.getD_eq_getElem?_getD]
  by_cases h : x < n
  · rw [List.getElem?_range h]
    rfl
  · rw [List.getElem?_eq_none (by rw [List.length_range]; omega)]
    rfl
theorem dn_range (n : Nat) : Dn (List.range n) := fun x => by
  rw [up_range]
  exact Nat.le_refl _
theorem root_range (n x : Nat) : root (List.range n) x = x := root_self (dn_range n) (up_range n x)
end KM
namespace KQ
open PySem PySem.Spec PyProof.Rows L2 KR
def topS (i : Nat) : Stmt := PySem.Challenge.pw_fittingdoors_k16_whole_closed_lots.main.body.getD i (.Pass ⟨0, 0, 0, 0⟩)
section
variable {P : Program} {w : World} {K : PySem.W.Frag} {mg : Str → Option Value} {base : Heap}
abbrev s_is_integer : Stmt := topS 5
theorem sc_is_integer : FnScope ["value"] ["value"] (defScope s_is_integer) := ⟨rfl, rfl, rfl, by decide +kernel, rfl, by decide +kernel, by decide +kernel⟩
def spIsInteger : Sp := fun vs H Q _ => ∃ i : Int, vs = [.int i] ∧ Q (.bl true) H
theorem ok_is_integer (D : DefAt K mg "is_integer" s_is_integer) (T : Bt mg) : Use P w K mg base "is_integer" 1 ["value"] spIsInteger := by
  refine use_of D (fun f fd F => F.ok sc_is_integer (fun vs H Q E h => ?_) (fun cdv A outer s H vs Q E hr h => ?_)) (fun _ _ _ _ _ _ us hl => match us, hl with | [_], _ => rfl)
  · obtain ⟨i, rfl, _⟩ := h
    rfl
  · obtain ⟨i, rfl, q⟩ := h
    refine ⟨_, (pss_one (ps_ret (pe_and (pe_callB (k_isi (K := K) rfl) (by rfl) T.isinstance (by decide +kernel) (pa_cons (pv 0) (pa_cons (pe_bltn (v := .ty "int") (by rfl) T.int (by decide +kernel) rfl) pa_nil))) (pe_one (pe_not (pe_callB (k_isi (K := K) rfl) (by rfl) T.isinstance (by decide +kernel) (pa_cons (pv 0) (pa_cons (pe_bltn (v := .ty "bool") (by rfl) T.bool (by decide +kernel) rfl) pa_nil)))))))), ?_⟩
    refine ⟨_, rfl, _, _, _, _, true, rfl, .ty _, .base (.int i), kit_ty (by decide +kernel), true, rfl, iteT ?_⟩
    exact ⟨_, rfl, _, _, _, _, false, rfl, .ty _, .base (.int i), kit_ty (by decide +kernel), _, rfl, q⟩
abbrev s_is_integer_within : Stmt := topS 6
theorem sc_is_integer_within : FnScope ["value", "least", "most"] ["value", "least", "most"] (defScope s_is_integer_within) := ⟨rfl, rfl, rfl, by decide +kernel, rfl, by decide +kernel, by decide +kernel⟩
def spIntW : Sp := fun vs H Q _ => ∃ i lo hi : Int, vs = [.int i, .int lo, .int hi] ∧ Q (.bl (decide (lo ≤ i ∧ i ≤ hi))) H
theorem ok_is_integer_within (D : DefAt K mg "is_integer_within" s_is_integer_within) (T : Bt mg) (u_is_integer : Use P w K mg base "is_integer" 1 ["value"] spIsInteger) :
    Use P w K mg base "is_integer_within" 2 ["value", "least", "most"] spIntW := by
  refine use_of D (fun f fd F => F.ok sc_is_integer_within (fun vs H Q E h => ?_) (fun cdv A outer s H vs Q E hr h => ?_)) (fun _ _ _ _ _ _ us hl => match us, hl with | [_, _, _], _ => rfl)
  · obtain ⟨i, lo, hi, rfl, _⟩ := h
    rfl
  · obtain ⟨i, lo, hi, rfl, q⟩ := h
    refine ⟨_, (pss_one (ps_ret (pe_and (pe_use u_is_integer (by decide) hr (by rfl) (pa_cons (pv 0) pa_nil)) (pe_one (pe_chain op_le op_le (pv 1) (pv 0) (pv 2)))))), ?_⟩
    refine ⟨_, rfl, i, rfl, true, rfl, iteT ?_⟩
    refine ⟨_, rfl, _, rfl, lo, i, rfl, rfl, _, rfl, ?_⟩
    by_cases h1 : lo ≤ i
    · rw [decide_eq_true h1]
      refine iteT ⟨_, rfl, i, hi, rfl, rfl, ?_⟩
      have e : decide (lo ≤ i ∧ i ≤ hi) = decide (i ≤ hi) := by simp [h1]
      rw [e] at q
      exact q
    · rw [decide_eq_false h1]
      refine iteF ?_
      have e : decide (lo ≤ i ∧ i ≤ hi) = false := by simp [h1]
      rw [e] at q
      exact q
abbrev s_is_tuple_within : Stmt := topS 7
theorem sc_is_tuple_within : FnScope ["value", "least", "most"] ["value", "least", "most"] (defScope s_is_tuple_within) := ⟨rfl, rfl, rfl, by decide +kernel, rfl, by decide +kernel, by decide +kernel⟩
def spTupW (K : PySem.W.Frag) : Sp := fun vs H Q _ => ∃ (a : Addr) (xs : List V) (lo hi : Int), vs = [.ref a, .int lo, .int hi] ∧ SqT K H a xs ∧ TyX K H (.ref a) (.type "tuple") ∧ Q (.bl (decide (lo ≤ xs.length ∧ (xs.length : Int) ≤ hi))) H
theorem ok_is_tuple_within (D : DefAt K mg "is_tuple_within" s_is_tuple_within) (T : Bt mg) :
    Use P w K mg base "is_tuple_within" 1 ["value", "least", "most"] (spTupW K) := by
  refine use_of D (fun f fd F => F.ok sc_is_tuple_within (fun vs H Q E h => ?_) (fun cdv A outer s H vs Q E hr h => ?_)) (fun _ _ _ _ _ _ us hl => match us, hl with | [_, _, _], _ => rfl)
  · obtain ⟨a, xs, lo, hi, rfl, _⟩ := h
    rfl
  · obtain ⟨a, xs, lo, hi, rfl, hs, ht, q⟩ := h
    refine ⟨_, (pss_one (ps_ret (pe_and (pe_callB (k_isi (K := K) rfl) (by rfl) T.isinstance (by decide +kernel) (pa_cons (pv 0) (pa_cons (pe_bltn (v := .ty "tuple") (by rfl) T.tuple (by decide +kernel) rfl) pa_nil))) (pe_one (pe_chain op_le op_le (pv 1) (pe_callB (k_len (K := K) rfl) (by rfl) T.len PySem.boot_len (pa_cons (pv 0) pa_nil)) (pv 2)))))), ?_⟩
    refine ⟨_, rfl, _, _, _, _, true, rfl, .ty _, ht, kit_ty (by decide +kernel), true, rfl, iteT ?_⟩
    refine ⟨_, rfl, _, rfl, a, xs, rfl, .inr hs, lo, _, rfl, rfl, _, rfl, ?_⟩
    by_cases h1 : lo ≤ (xs.length : Int)
    · rw [decide_eq_true h1]
      refine iteT ⟨_, rfl, _, hi, rfl, rfl, ?_⟩
      have e : decide (lo ≤ (xs.length : Int) ∧ (xs.length : Int) ≤ hi) = decide ((xs.length : Int) ≤ hi) := by simp [h1]
      rw [e] at q
      exact q
    · rw [decide_eq_false h1]
      refine iteF ?_
      have e : decide (lo ≤ (xs.length : Int) ∧ (xs.length : Int) ≤ hi) = false := by simp [h1]
      rw [e] at q
      exact q
end
end KQ
namespace KQ
open PySem PySem.Spec PyProof.Rows L2 KR KM
section
variable {P : Program} {w : World} {K : PySem.W.Frag} {mg : Str → Option Value} {base : Heap}
/-- a tuple of whole numbers stands at a -/
def TI (H : Hp) (a : Addr) (p : List Int) : Prop := H a = some (.tup (p.map V.int))
theorem TI.mono {H H' : Hp} {a : Addr} {p : List Int} (h : TI H a p) (e : Same H H') : TI H' a p := e _ _ h
theorem TI.ty {H : Hp} {a : Addr} {p : List Int} (h : TI H a p) : TyX K H (.ref a) (.type "tuple") := .base (.tup h)
theorem TI.seq {H : Hp} {a : Addr} {p : List Int} (h : TI H a p) : SqT K H a (p.map V.int) := .inl (.inl h)
abbrev s_first_wrong_block : Stmt := topS 10
theorem sc_first_wrong_block : FnScope ["blocks", "many", "place", "block"] ["blocks"] (defScope s_first_wrong_block) := ⟨rfl, rfl, rfl, by decide +kernel, rfl, by decide +kernel, by decide +kernel⟩
def spFwb : Sp := fun vs H Q _ => ∃ a p, vs = [.ref a] ∧ TI H a p ∧ Par p ∧ ∀ H', Same H H' → Q .non H'
theorem ok_first_wrong_block (D : DefAt K mg "first_wrong_block" s_first_wrong_block) (T : Bt mg) :
    Use P w K mg base "first_wrong_block" 3 ["blocks"] spFwb := by
  refine use_of D (fun f fd F => F.ok sc_first_wrong_block (fun vs H Q E h => ?_) (fun cdv A outer s H vs Q E hr h => ?_)) (fun _ _ _ _ _ _ us hl => match us, hl with | [_], _ => rfl)
  · obtain ⟨a, p, rfl, _⟩ := h
    rfl
  · obtain ⟨a, p, rfl, hp, par, q⟩ := h
    refine ⟨_, (pss_cons (ps_set (i := 1) sc_first_wrong_block.nd rfl (Or.inl rfl) pe_int)
      (pss_cons (ps_for PassesOwn.never rfl (k_enumT (K := K) rfl (by rfl) T.enumerate (pa_cons (pv 0) pa_nil)) (pg_tup rfl (pgs_cons (pg_name (i := 2) sc_first_wrong_block.nd rfl (Or.inl rfl)) (pgs_cons (pg_name (i := 3) sc_first_wrong_block.nd rfl (Or.inl rfl)) pgs_nil)))
      (pss_cons (ps_if (PW.pt (pw_or (pt_not (pt_val (pe_callB (k_isi (K := K) rfl) (by rfl) T.isinstance (by decide +kernel) (pa_cons (pv 3) (pa_cons (pe_bltn (v := .ty "int") (by rfl) T.int (by decide +kernel) rfl) pa_nil))))) (pw_or (pt_val (pe_callB (k_isi (K := K) rfl) (by rfl) T.isinstance (by decide +kernel) (pa_cons (pv 3) (pa_cons (pe_bltn (v := .ty "bool") (by rfl) T.bool (by decide +kernel) rfl) pa_nil)))) (pw_or (pt_cmpR op_lt (pv 3) pe_int (nomark _)) (pw_or1 (pt_cmpR op_gt (pv 3) (pv 1) (nomark _))))))) (pss_one (ps_ret (pv 2))) pss_nil)
      (pss_one (ps_if (pt_cmpR op_eq (pv 3) (pv 1) (nomark _)) (pss_one (ps_aug (i := 1) sc_first_wrong_block.nd rfl (Or.inl rfl) pe_int ip_add)) pss_nil))))
      (pss_one (ps_ret pe_non)))), ?_⟩
    refine ⟨_, rfl, a, _, rfl, hp.seq, for_enumT (K := K) (a := a) (xs := p.map V.int)
      (fun i σ H1 => ∃ y2 y3, σ = [some (.ref a), some (.int (bc 0 (p.take i))), y2, y3] ∧ Same H H1)
      ⟨none, none, rfl, Same.refl H⟩ (fun i σ H1 ⟨_, _, _, sm⟩ => (hp.mono sm).seq) ?_ ?_⟩
    · rintro i v T1 σ H1 hi ⟨y2, y3, rfl, sm⟩ hT
      obtain ⟨x, hx, rfl⟩ := map_at hi
      obtain ⟨x0, x1⟩ := rg_at par.rg hx
      refine ⟨T1, _, rfl, .inl (.inl upd_same), rfl, _, _, rfl, _, [], rfl, rfl, ?_⟩
      refine ⟨_, rfl, _, _, _, _, true, rfl, .ty _, .base (.int x), kit_ty (by decide +kernel), true, rfl, iteF ?_⟩
      refine ⟨_, rfl, _, _, _, _, false, rfl, .ty _, .base (.int x), kit_ty (by decide +kernel), false, rfl, iteF ?_⟩
      refine ⟨_, rfl, x, 0, rfl, rfl, _, rfl, ?_⟩
      rw [decide_eq_false (show ¬ x < 0 by omega)]
      refine iteF ⟨_, rfl, _, rfl, x, bc 0 (p.take i), rfl, rfl, _, rfl, ?_⟩
      rw [decide_eq_false (show ¬ x > bc 0 (p.take i) by omega)]
      refine iteF ?_
      · refine ⟨_, rfl, _, rfl, rfl, _, rfl, ite2 (fun e => ?_) (fun e => ?_)⟩
        · have e' : x = bc 0 (p.take i) := V.int.inj (of_decide_eq_true e)
          refine ⟨_, rfl, _, _, rfl, rfl, ?_⟩
          refine ⟨some (.int (i : Nat)), some (.int x), ?_, sm.trans (same_new hT)⟩
          rw [bc_take hx, if_pos e']
          rfl
        · have e' : ¬ x = bc 0 (p.take i) := fun z => e (decide_eq_true (by rw [z]))
          refine ⟨some (.int (i : Nat)), some (.int x), ?_, sm.trans (same_new hT)⟩
          rw [bc_take hx, if_neg e']
          rfl
    · rintro σ H1 ⟨y2, y3, rfl, sm⟩
      exact q H1 sm
abbrev s_is_parting : Stmt := topS 11
theorem sc_is_parting : FnScope ["value"] ["value"] (defScope s_is_parting) := ⟨rfl, rfl, rfl, by decide +kernel, rfl, by decide +kernel, by decide +kernel⟩
def spIsPar : Sp := fun vs H Q _ => ∃ a p, vs = [.ref a] ∧ TI H a p ∧ Par p ∧ ∀ H', Same H H' → Q (.bl true) H'
theorem par_le {p : List Int} (h : Par p) : decide ((1 : Int) ≤ ((p.map V.int).length : Int) ∧ ((p.map V.int).length : Int) ≤ 60) = true := by
  refine decide_eq_true ?_
  rw [List.length_map]
  have h1 := h.le
  have h2 : p.length ≠ 0 := fun e => h.ne (List.eq_nil_of_length_eq_zero e)
  omega
theorem ok_is_parting (D : DefAt K mg "is_parting" s_is_parting) (T : Bt mg) (c_MOST_DOORS : Cst mg "MOST_DOORS" 60) (u_is_tuple_within : Use P w K mg base "is_tuple_within" 1 ["value", "least", "most"] (spTupW K))
    (u_first_wrong_block : Use P w K mg base "first_wrong_block" 3 ["blocks"] spFwb) : Use P w K mg base "is_parting" 4 ["value"] spIsPar := by
  refine use_of D (fun f fd F => F.ok sc_is_parting (fun vs H Q E h => ?_) (fun cdv A outer s H vs Q E hr h => ?_)) (fun _ _ _ _ _ _ us hl => match us, hl with | [_], _ => rfl)
  · obtain ⟨a, p, rfl, _⟩ := h
    rfl
  · obtain ⟨a, p, rfl, hp, par, q⟩ := h
    refine ⟨_, (pss_one (ps_ret (pe_and (pe_use u_is_tuple_within (by decide) hr (by rfl) (pa_cons (pv 0) (pa_cons pe_int (pa_cons (pe_cst (by rfl) c_MOST_DOORS) pa_nil)))) (pe_one (pe_cmpR op_isN (pe_use u_first_wrong_block (by decide) hr (by rfl) (pa_cons (pv 0) pa_nil)) pe_non (nomark _)))))), ?_⟩
    refine ⟨_, rfl, a, _, _, _, rfl, hp.seq, hp.ty, true, ?_, iteT ?_⟩
    · rw [par_le par]
    · refine ⟨_, rfl, a, p, rfl, hp, par, fun H1 sm => ?_⟩
      exact ⟨rfl, q H1 sm⟩
def spNeed : Sp := fun vs H Q _ => ∃ a p, vs = [.ref a] ∧ TI H a p ∧ Par p ∧ ∀ H', Same H H' → Q (.ref a) H'
def spNeedOf : Sp := fun vs H Q _ => ∃ a p, vs = [.ref a, .int (p.length : Int)] ∧ TI H a p ∧ Par p ∧ ∀ H', Same H H' → Q (.ref a) H'
def spTwo : Sp := fun vs H Q _ => ∃ a b p r, vs = [.ref a, .ref b] ∧ TI H a p ∧ TI H b r ∧ Par p ∧ Par r ∧ p.length = r.length ∧ ∀ H', Same H H' → Q .non H'
abbrev s_block_count : Stmt := topS 12
theorem sc_block_count : FnScope ["parting"] ["parting"] (defScope s_block_count) := ⟨rfl, rfl, rfl, by decide +kernel, rfl, by decide +kernel, by decide +kernel⟩
def spCount : Sp := fun vs H Q _ => ∃ a p, vs = [.ref a] ∧ TI H a p ∧ Par p ∧ Q (.int (bc 0 p)) H
theorem ok_block_count (D : DefAt K mg "block_count" s_block_count) (T : Bt mg) : Use P w K mg base "block_count" 1 ["parting"] spCount := by
  refine use_of D (fun f fd F => F.ok sc_block_count (fun vs H Q E h => ?_) (fun cdv A outer s H vs Q E hr h => ?_)) (fun _ _ _ _ _ _ us hl => match us, hl with | [_], _ => rfl)
  · obtain ⟨a, p, rfl, _⟩ := h
    rfl
  · obtain ⟨a, p, rfl, hp, par, q⟩ := h
    refine ⟨_, (pss_one (ps_ret (pe_op op_add (pe_callB (k_maxT (K := K) rfl rfl hr.units) (by rfl) T.max (by decide +kernel) (pa_cons (pv 0) pa_nil)) pe_int))), ?_⟩
    refine ⟨_, rfl, a, p, rfl, hp.seq, par.ne, fun m hm hle => ?_⟩
    refine ⟨_, _, rfl, rfl, ?_⟩
    show Q (.int (m + 1)) H
    rw [par_max par hm hle]
    exact q
def spSize : Sp := fun vs H Q _ => ∃ a p, vs = [.ref a] ∧ TI H a p ∧ Par p ∧ ∀ H', Same H H' → Q (.int (bc 0 p)) H'
end
end KQ
namespace KQ
open PySem PySem.Spec PyProof.Rows L2 KR KM
/-! ### a dict of the first ones' places -/
section
variable {α κ : Type} [DecidableEq α] [DecidableEq κ]
def dg (f : α → κ) (ks : List α) : List (κ × V) := ks.zipIdx.map fun p => (f p.1, V.int ((p.2 : Nat) : Int))
theorem dg_len (f : α → κ) (ks : List α) : (dg f ks).length = ks.length := by
  unfold dg
  rw [List.length_map, List.length_zipIdx]
theorem dg_snoc (f : α → κ) (ks : List α) (x : α) : dg f (ks ++ [x]) = dg f ks ++ [(f x, V.int ((ks.length : Nat) : Int))] := by
  unfold dg
  rw [List.zipIdx_append, List.map_append]
  simp
theorem dg_any {f : α → κ} (hf : ∀ a b, f a = f b → a = b) (ks : List α) (x : α) : ((dg f ks).any fun kv => decide (kv.1 = f x)) = decide (x ∈ ks) := by
  refine firsts_rec (P := fun ks => ((dg f ks).any fun kv => decide (kv.1 = f x)) = decide (x ∈ ks)) (by simp [dg]) (fun ks y h => ?_) ks
  rw [dg_snoc, List.any_append, h]
  simp only [List.any_cons, List.any_nil, Bool.or_false, List.mem_append, List.mem_singleton]
  by_cases e : x = y
  · subst e
    simp
  · have e2 : f y ≠ f x := fun q => e (hf _ _ q).symm
    simp [e, e2]
theorem dg_val {f : α → κ} (hf : ∀ a b, f a = f b → a = b) (ks : List α) (x : α) (h : ks.Nodup) :
    valV (dg f ks) (f x) = if x ∈ ks then some (V.int ((ks.idxOf x : Nat) : Int)) else none := by
  refine firsts_rec (P := fun ks => ks.Nodup → valV (dg f ks) (f x) = if x ∈ ks then some (V.int ((ks.idxOf x : Nat) : Int)) else none) (fun _ => rfl) (fun ks y ih hn => ?_) ks h
  rw [List.nodup_append] at hn
  have ih := ih hn.1
  have hy : y ∉ ks := fun hm => hn.2.2 y hm y (List.mem_singleton.mpr rfl) rfl
  unfold valV at ih ⊢
  rw [dg_snoc, List.find?_append, Option.map_or, ih]
  by_cases hx : x ∈ ks
  · rw [if_pos hx, if_pos (List.mem_append_left _ hx), List.idxOf_append, if_pos hx]
    rfl
  · rw [if_neg hx]
    by_cases e : x = y
    · subst e
      rw [if_pos (List.mem_append_right _ (List.mem_singleton.mpr rfl)), List.idxOf_append, if_neg hx]
      simp
    · have e2 : f y ≠ f x := fun q => e (hf _ _ q).symm
      rw [if_neg (by simp [hx, e])]
      simp [e2]
theorem dg_put {f : α → κ} (hf : ∀ a b, f a = f b → a = b) (ks : List α) (x : α) (hx : x ∉ ks) : putK (dg f ks) (f x) (V.int ((ks.length : Nat) : Int)) = dg f (ks ++ [x]) := by
  unfold putK
  rw [if_neg (by rw [dg_any hf]; simp [hx]), dg_snoc]
end
def kI (x : Int) : L2.Key := Sum.inl x
theorem kI_inj : ∀ a b, kI a = kI b → a = b := fun _ _ e => Sum.inl.inj e
def kP (x : Int × Int) : List L2.Key := [Sum.inl x.1, Sum.inl x.2]
theorem kP_inj : ∀ a b, kP a = kP b → a = b := fun a b e => by
  unfold kP at e
  simp only [List.cons.injEq, Sum.inl.injEq, and_true] at e
  exact Prod.ext e.1 e.2
theorem take_snoc {α : Type} {xs : List α} {i : Nat} {x : α} (h : xs[i]? = some x) : xs.take (i + 1) = xs.take i ++ [x] := by
  rw [List.take_add_one, h]
  rfl
theorem small_of {n : Nat} (h : n ≤ 100000) : n < sizeLine := Nat.lt_of_le_of_lt h (by decide)
/-- one more: what comes, where the key is there, where it isn't -/
theorem num_old {α : Type} [DecidableEq α] {xs : List α} {x : α} (h : x ∈ firsts xs) : num (xs ++ [x]) = num xs ++ [(((firsts xs).idxOf x : Nat) : Int)] ∧ firsts (xs ++ [x]) = firsts xs := by
  rw [num_snoc, firsts_snoc, if_pos h]
  exact ⟨rfl, if_pos h⟩
theorem num_new {α : Type} [DecidableEq α] {xs : List α} {x : α} (h : x ∉ firsts xs) : num (xs ++ [x]) = num xs ++ [((firsts xs).length : Int)] ∧ firsts (xs ++ [x]) = firsts xs ++ [x] := by
  rw [num_snoc, firsts_snoc, if_neg h]
  exact ⟨rfl, if_neg h⟩
theorem firsts_le {α : Type} [DecidableEq α] (xs : List α) : (firsts xs).length ≤ xs.length := by
  refine firsts_rec (P := fun xs => (firsts xs).length ≤ xs.length) (Nat.le_refl _) (fun xs x h => ?_) xs
  rw [firsts_snoc]
  unfold ins
  split
  · rw [List.length_append]
    omega
  · rw [List.length_append, List.length_append]
    show _ + 1 ≤ _ + 1
    omega
section
variable {P : Program} {w : World} {K : PySem.W.Frag} {mg : Str → Option Value} {base : Heap}
/-- numbered of whole numbers: a tuple (b = true), a list -/
def spNumT : Sp := fun vs H Q _ => ∃ a xs, vs = [.ref a] ∧ TI H a xs ∧ xs.length ≤ 1000 ∧ ∀ H' p, Same H H' → TI H' p (num xs) → Q (.ref p) H'
def spNumL : Sp := fun vs H Q _ => ∃ (a : Addr) (xs : List Int), vs = [.ref a] ∧ H a = some (.lst (xs.map V.int)) ∧ xs.length ≤ 1000 ∧ ∀ H' p, Same H H' → TI H' p (num xs) → Q (.ref p) H'
/-- of pairs -/
def PairsAt (H : Hp) (ts : List Addr) (xs : List (Int × Int)) : Prop := ts.length = xs.length ∧ ∀ (i : Nat) (t : Addr), ts[i]? = some t → ∃ x, xs[i]? = some x ∧ H t = some (.tup [.int x.1, .int x.2])
def spNumP : Sp := fun vs H Q _ => ∃ (a : Addr) (ts : List Addr) (xs : List (Int × Int)), vs = [.ref a] ∧ H a = some (.lst (ts.map V.ref)) ∧ PairsAt H ts xs ∧ xs.length ≤ 1000 ∧ ∀ H' p, Same H H' → TI H' p (num xs) → Q (.ref p) H'
end
end KQ
namespace KQ
open PySem PySem.Spec PyProof.Rows L2 KR KM
section
variable {P : Program} {w : World} {K : PySem.W.Frag} {mg : Str → Option Value} {base : Heap}
def spPof : Sp := fun vs H Q _ => ∃ a xs, vs = [.ref a] ∧ TI H a xs ∧ xs ≠ [] ∧ xs.length ≤ 60 ∧ ∀ H' p, Same H H' → TI H' p (num xs) → Q (.ref p) H'
/-- unlike doors below many -/
structure Drs (ds : List Int) (many : Int) : Prop where
  ne : ds ≠ []
  le : ds.length ≤ 60
  nd : ds.Nodup
  at_ : ∀ d ∈ ds, 0 ≤ d ∧ d < many
def spDrs : Sp := fun vs H Q _ => ∃ a ds many, vs = [.ref a, .int many] ∧ TI H a ds ∧ Drs ds many ∧ ∀ H', Same H H' → Q .non H'
end
end KQ
namespace KQ
open PySem PySem.Spec PyProof.Rows L2 KR KM StX
section
variable {P : Program} {w : World} {K : PySem.W.Frag} {mg : Str → Option Value} {base : Heap}
/-- a list of tuples of whole numbers; a tuple of such -/
def LT (H : Hp) (a : Addr) (xss : List (List Int)) : Prop := ∃ ts : List Addr, H a = some (.lst (ts.map V.ref)) ∧ ts.length = xss.length ∧ ∀ (i : Nat) (t : Addr), ts[i]? = some t → ∃ xs, xss[i]? = some xs ∧ TI H t xs
def TT (H : Hp) (a : Addr) (xss : List (List Int)) : Prop := ∃ ts : List Addr, H a = some (.tup (ts.map V.ref)) ∧ ts.length = xss.length ∧ ∀ (i : Nat) (t : Addr), ts[i]? = some t → ∃ xs, xss[i]? = some xs ∧ TI H t xs
theorem TT.mono {H H' : Hp} {a : Addr} {xss : List (List Int)} (h : TT H a xss) (e : Same H H') : TT H' a xss := by
  obtain ⟨ts, h1, h2, h3⟩ := h
  exact ⟨ts, e _ _ h1, h2, fun i t ht => let ⟨xs, q1, q2⟩ := h3 i t ht; ⟨xs, q1, q2.mono e⟩⟩
theorem LT.mono {H H' : Hp} {a : Addr} {xss : List (List Int)} (h : LT H a xss) (e : Same H H') : LT H' a xss := by
  obtain ⟨ts, h1, h2, h3⟩ := h
  exact ⟨ts, e _ _ h1, h2, fun i t ht => let ⟨xs, q1, q2⟩ := h3 i t ht; ⟨xs, q1, q2.mono e⟩⟩
def pick (p ds : List Int) : List Int := ds.map fun d => p.getD d.toNat 0
theorem get_of {p : List Int} {d : Int} (h0 : 0 ≤ d) (h1 : d < p.length) : p[d.toNat]? = some (p.getD d.toNat 0) := by
  have h : d.toNat < p.length := by omega
  rw [List.getElem?_eq_getElem h, List.getD_eq_getElem?_getD, List.getElem?_eq_getElem h]
  rfl
def spSome : Sp := fun vs H Q _ => ∃ a b p ds, vs = [.ref a, .ref b] ∧ TI H a p ∧ TI H b ds ∧ Par p ∧ Drs ds p.length ∧ ∀ H' r, Same H H' → TI H' r (num (pick p ds)) → Q (.ref r) H'
/-- the rows: a list of lists -/
def Rows (H : Hp) (a : Addr) (p : List Int) (many : Nat) : Prop := ∃ rs : List Addr, H a = some (.lst (rs.map V.ref)) ∧ rs.length = many ∧ rs.Nodup ∧ ∀ (b : Nat) (t : Addr), rs[b]? = some t → H t = some (.lst ((doorsOf p b).map V.int))
def spRows : Sp := fun vs H Q _ => ∃ a p, vs = [.ref a] ∧ TI H a p ∧ Par p ∧ ∀ H' l, Same H H' → Rows H' l p (bc 0 p).toNat → Q (.ref l) H'
end
end KQ
namespace KQ
open PySem PySem.Spec PyProof.Rows L2 KR KM StX
section
variable {P : Program} {w : World} {K : PySem.W.Frag} {mg : Str → Option Value} {base : Heap}
def blockList (p : List Int) : List (List Int) := (List.range (bc 0 p).toNat).map fun b => doorsOf p ((b : Nat) : Int)
theorem blockList_at {p : List Int} {b : Nat} (h : b < (bc 0 p).toNat) : (blockList p)[b]? = some (doorsOf p b) := by
  unfold blockList
  rw [List.getElem?_map, List.getElem?_range h]
  rfl
def spBlocks : Sp := fun vs H Q _ => ∃ a p, vs = [.ref a] ∧ TI H a p ∧ Par p ∧ ∀ H' r, Same H H' → TT H' r (blockList p) → Q (.ref r) H'
def besideP (p r : List Int) : List Int := p ++ r.map fun b => bc 0 p + b
def spBeside : Sp := fun vs H Q _ => ∃ a b p r, vs = [.ref a, .ref b] ∧ TI H a p ∧ TI H b r ∧ Par p ∧ Par r ∧ p.length + r.length ≤ 60 ∧ ∀ H' t, Same H H' → TI H' t (besideP p r) → Q (.ref t) H'
/-- two doors in one block of the one are in one block of the other -/
def Finer (p r : List Int) : Prop := ∀ (i j : Nat) (x y z : Int), p[i]? = some x → p[j]? = some x → r[i]? = some y → r[j]? = some z → y = z
def spLies : Sp := fun vs H Q _ => ∃ a b p r, vs = [.ref a, .ref b] ∧ TI H a p ∧ TI H b r ∧ p.length = r.length ∧ p.length ≤ 60 ∧ ∀ H' c, Same H H' → (c = true ↔ Finer p r) → Q (.bl c) H'
/-- what the dict knows: each block of the one so far with that of the other at its first door -/
def Known (p r : List Int) (i : Nat) (kvs : List (L2.Key × V)) : Prop := kvs.length ≤ i ∧ ∀ x : Int, (∀ v, valV kvs (kI x) = some v → ∃ (j : Nat) (y : Int), j < i ∧ p[j]? = some x ∧ r[j]? = some y ∧ v = .int y) ∧
  (valV kvs (kI x) = none → ∀ j, j < i → p[j]? ≠ some x)
theorem valV_put {κ : Type} [DecidableEq κ] (kvs : List (κ × V)) (k k' : κ) (v : V) (h : valV kvs k = none) : valV (putK kvs k v) k' = if k' = k then some v else valV kvs k' := by
  have hn : (kvs.any fun kv => decide (kv.1 = k)) = false := by
    unfold valV at h
    rw [Option.map_eq_none_iff, List.find?_eq_none] at h
    rw [List.any_eq_false]
    exact h
  unfold putK
  rw [if_neg (by rw [hn]; exact Bool.false_ne_true)]
  unfold valV
  rw [List.find?_append, Option.map_or]
  by_cases e : k' = k
  · subst e
    rw [if_pos rfl]
    unfold valV at h
    rw [h]
    simp
  · rw [if_neg e]
    have e2 : ¬ k = k' := fun q => e q.symm
    simp [e2]
theorem putK_len {κ : Type} [DecidableEq κ] (kvs : List (κ × V)) (k : κ) (v : V) : (putK kvs k v).length ≤ kvs.length + 1 := length_putK kvs k v
end
end KQ
namespace KQ
open PySem PySem.Spec PyProof.Rows L2 KR KM StX
section
variable {P : Program} {w : World} {K : PySem.W.Frag} {mg : Str → Option Value} {base : Heap}
def spFiner : Sp := fun vs H Q _ => ∃ a b p r, vs = [.ref a, .ref b] ∧ TI H a p ∧ TI H b r ∧ Par p ∧ Par r ∧ p.length = r.length ∧ ∀ H' c, Same H H' → (c = true ↔ Finer p r) → Q (.bl c) H'
def spBelow : Sp := fun vs H Q _ => ∃ a b p r, vs = [.ref a, .ref b] ∧ TI H a p ∧ TI H b r ∧ Par p ∧ Par r ∧ p.length = r.length ∧ ∀ H' t, Same H H' → TI H' t (num (p.zip r)) → Q (.ref t) H'
theorem zipped_pairs {p r : List Int} {H H' : Hp} {ts : List Addr} (hl : p.length = r.length) (tl : ts.length = (p.map V.int).length)
    (tt : ∀ (i : Nat) (t : Addr), ts[i]? = some t → H t = none ∧ ∃ x y, (p.map V.int)[i]? = some x ∧ (r.map V.int)[i]? = some y ∧ H' t = some (.tup [x, y])) : PairsAt H' ts (p.zip r) := by
  refine ⟨?_, fun i t ht => ?_⟩
  · rw [tl, List.length_map, List.length_zip]
    omega
  · obtain ⟨_, x, y, h1, h2, h3⟩ := tt i t ht
    obtain ⟨x', hx, rfl⟩ := map_at h1
    obtain ⟨y', hy, rfl⟩ := map_at h2
    refine ⟨(x', y'), ?_, h3⟩
    rw [List.getElem?_zip_eq_some]
    exact ⟨hx, hy⟩
abbrev s_partings_of_doors : Stmt := topS 13
theorem sc_partings_of_doors : FnScope ["doors", "rows", "_", "row", "block"] ["doors"] (defScope s_partings_of_doors) := ⟨rfl, rfl, rfl, by decide +kernel, rfl, by decide +kernel, by decide +kernel⟩
def spPofD : Sp := fun vs H Q _ => ∃ n : Nat, vs = [.int ((n + 1 : Nat) : Int)] ∧ n < 8 ∧ ∀ H' t, Same H H' → TT H' t (allP n) → Q (.ref t) H'
theorem ok_partings_of_doors (D : DefAt K mg "partings_of_doors" s_partings_of_doors) (T : Bt mg) : Use P w K mg base "partings_of_doors" 1 ["doors"] spPofD := by
  refine use_of D (fun f fd F => F.ok sc_partings_of_doors (fun vs H Q E h => ?_) (fun cdv A outer s H vs Q E hr h => ?_)) (fun _ _ _ _ _ _ us hl => match us, hl with | [_], _ => rfl)
  · obtain ⟨n, rfl, _⟩ := h
    rfl
  · obtain ⟨n, rfl, hn, q⟩ := h
    refine ⟨_, (pss_cons (ps_set (i := 1) sc_partings_of_doors.nd rfl (Or.inl rfl) (pe_lst (pa_cons (pe_tup (pa_cons pe_int pa_nil)) pa_nil)))
      (pss_cons (ps_for PassesOwn.never rfl (pi_range1 (by rfl) T.range (pa_cons (pe_op op_sub (pv 0) pe_int) pa_nil)) (pg_name (i := 2) sc_partings_of_doors.nd rfl (Or.inl rfl))
      (pss_one (ps_setLc2 (i := 1) (own := [("row", 3), ("block", 4)]) (vs1 := [4]) rfl sc_partings_of_doors.nd rfl rfl (sw_true rfl rfl rfl (by decide +kernel)) (k_list (K := K) rfl (pv 1)) (blkOk_by (N := ["doors", "rows", "_", "row", "block"]) (sc := defScope s_partings_of_doors) (by decide +kernel)) (by decide) (fun _ _ _ _ _ => (pg_name (i := 3) sc_partings_of_doors.nd rfl (Or.inl rfl))) (fun _ _ _ _ _ => pts_nil) (fun _ _ _ _ _ => (pi_range1 (by rfl) T.range (pa_cons (pe_op op_add (pe_callB (k_maxT (K := K) rfl rfl hr.units) (by rfl) T.max (by decide +kernel) (pa_cons (pv 3) pa_nil)) pe_int) pa_nil))) (fun _ _ _ _ _ => (pg_name (i := 4) sc_partings_of_doors.nd rfl (Or.inl rfl))) (fun _ _ _ _ _ => pts_nil) (fun _ _ _ _ _ => (pe_op (k_catT (K := K) rfl) (pv 3) (pe_tup (pa_cons (pv 4) pa_nil)))))))
      (pss_one (ps_ret (pe_callTy (k_tupOf (K := K) rfl) (by rfl) T.tuple (by decide +kernel) (pa_cons (pv 1) pa_nil)))))), ?_⟩
    refine ⟨by show 1 ≤ sizeLine; decide, fun t0 n0 => ⟨by show 1 ≤ sizeLine; decide, fun l0 nl0 => ?_⟩⟩
    have nt0 : t0 ≠ l0 := fun e => by rw [← e, upd_same] at nl0; cases nl0
    have s0 : Same H (upd (upd H t0 (.tup [.int 0])) l0 (.lst [.ref t0])) := (same_new n0).trans (same_new nl0)
    refine ⟨_, rfl, _, _, rfl, rfl, _, rfl, by omega, by omega, for_range (lo := 0) (n := (((n + 1 : Nat) : Int) - 1).toNat)
      (fun i σ H1 => ∃ l y2, σ = [some (.int ((n + 1 : Nat) : Int)), some (.ref l), y2, none, none] ∧ Same H H1 ∧ LT H1 l (allP i))
      ⟨l0, none, rfl, s0, [t0], upd_same, rfl, fun i t ht => ?_⟩ ?_ ?_⟩
    · match i, ht with
      | 0, ht =>
        have e : t0 = t := Option.some.inj ht
        subst e
        refine ⟨[0], rfl, ?_⟩
        show upd _ l0 _ t0 = _
        rw [upd_ne nt0, upd_same]
        rfl
      | i + 1, ht => simp at ht
    · rintro i σ H1 hi ⟨l, y2, rfl, sm, ts, el, tl, tt⟩
      have hi8 : i + 1 < 8 := by omega
      have cnt := allP_count ⟨i + 1, hi8⟩
      refine ⟨_, rfl, l, rfl, ⟨_, .inl (.inl el)⟩, fun L nL => ?_⟩
      refine lc2_list (K := K) (a := l) (xs := ts.map V.ref) (fun k H2 => Same H1 H2 ∧ LT H2 L (((allP i).take k).flatMap ext))
        ⟨same_new nL, [], upd_same, rfl, fun k t h => by simp at h⟩ (fun k H2 _ ⟨s2, _⟩ => .inl (.inl (s2 _ _ el))) ?_ ?_
      · rintro k v H2 hk ⟨s2, us, eL, ul, ut⟩
        obtain ⟨t, ht, rfl⟩ := map_at hk
        obtain ⟨row, hrow, et⟩ := tt k t ht
        obtain ⟨rg, rl⟩ := allP_ok i row (List.mem_of_getElem? hrow)
        have et2 : TI H2 t row := et.mono s2
        have rne : row ≠ [] := fun e => by rw [e] at rl; cases rl
        have rpar : Par row := ⟨rne, by omega, rg⟩
        have b0 := bc_ge 0 row
        have b1 := bc_le 0 row
        refine ⟨rfl, ?_⟩
        refine ⟨_, rfl, t, row, rfl, et2.seq, rne, fun m hm hle => ?_⟩
        have em := par_max rpar hm hle
        refine ⟨_, _, rfl, rfl, (m + 2 : Int), rfl, by omega, by omega, ?_⟩
        have en : (m + 2).toNat = (bc 0 row + 1).toNat := by omega
        have fl := flat_le ext hrow
        have e9 : ((allP i).flatMap ext).length ≤ 4140 := cnt
        rw [ext_len] at fl
        refine in_range (fun j H3 => Same H1 H3 ∧ LT H3 L (((allP i).take k).flatMap ext ++ (ext row).take j)) ⟨s2, us, eL, by rw [List.take_zero, List.append_nil]; exact ul, fun x u hu => by rw [List.take_zero, List.append_nil]; exact ut x u hu⟩ ?_ ?_
        · rintro j H3 hj ⟨s3, us3, eL3, ul3, ut3⟩
          have et3 : TI H3 t row := et.mono s3
          have hj2 : j < (bc 0 row + 1).toNat := by omega
          refine ⟨rfl, _, rfl, _, rfl, by show 1 ≤ sizeLine; decide, fun c nc => ?_⟩
          have et4 : TI (upd H3 c (.tup [.int (0 + (j : Nat))])) t row := et3.mono (same_new nc)
          refine ⟨t, c, _, _, rfl, rfl, et4.seq, .inl (.inl upd_same), ?_, ?_, fun e => (by cases e), fun _ d nd => ?_⟩
          · intro e
            exact rne (List.map_eq_nil_iff.mp e)
          · rw [List.length_map]
            exact Nat.le_of_lt (small_of (by show row.length + 1 ≤ _; omega))
          · have ncL : c ≠ L := fun e => by rw [e, eL3] at nc; cases nc
            have eL4 : upd H3 c (.tup [.int (0 + (j : Nat))]) L = some (.lst (us3.map V.ref)) := by rw [upd_ne ncL.symm]; exact eL3
            have ndL : d ≠ L := fun e => by rw [e, eL4] at nd; cases nd
            rw [List.length_append, List.length_take, ext_len] at ul3
            refine ⟨_, by rw [upd_ne ndL.symm]; exact eL4, ?_, same_mut (s3.trans ((same_new nc).trans (same_new nd))) nL, us3 ++ [d], ?_, ?_, fun x u hu => ?_⟩
            · rw [List.length_map]
              exact small_of (by omega)
            · rw [upd_same, List.map_append]
              rfl
            · rw [ext_take hj2, List.length_append, ul3, List.length_append, List.length_append, List.length_take, ext_len]
              show _ + 1 = _ + (_ + 1)
              omega
            · rw [ext_take hj2, ← List.append_assoc]
              by_cases hx : x < us3.length
              · rw [List.getElem?_append_left hx] at hu
                obtain ⟨q', q1, q2⟩ := ut3 x u hu
                have lq := (List.getElem?_eq_some_iff.mp q1).1
                refine ⟨q', by rw [List.getElem?_append_left lq]; exact q1, ?_⟩
                have q2' : H3 u = some (.tup (q'.map V.int)) := q2
                show upd _ L _ u = some (.tup (q'.map V.int))
                rw [upd_ne (fun e => by rw [e, eL3] at q2'; cases q2')]
                exact same_new nd _ _ (same_new nc _ _ q2')
              · have hx2 := (List.getElem?_eq_some_iff.mp hu).1
                rw [List.length_append] at hx2
                have hx3 : x = us3.length := by
                  have : x < us3.length + 1 := hx2
                  omega
                subst hx3
                rw [List.getElem?_append_right (Nat.le_refl _), Nat.sub_self] at hu
                cases hu
                refine ⟨row ++ [((j : Nat) : Int)], ?_, ?_⟩
                · rw [List.getElem?_append_right (by rw [List.length_append, List.length_take, ext_len]; omega)]
                  rw [show us3.length - (((allP i).take k).flatMap ext ++ (ext row).take j).length = 0 by rw [List.length_append, List.length_take, ext_len]; omega]
                  rfl
                · show upd _ L _ d = _
                  rw [upd_ne ndL, upd_same, List.map_append]
                  rw [show (0 : Int) + (j : Nat) = (j : Nat) by omega]
                  rfl
        · rintro H3 ⟨s3, h3⟩
          refine ⟨s3, ?_⟩
          rw [flat_take ext hrow]
          rw [show (ext row).take (m + 2).toNat = ext row from List.take_of_length_le (by rw [ext_len]; omega)] at h3
          exact h3
      · rintro H2 ⟨s2, h2⟩
        refine ⟨L, some (.int (0 + (i : Nat))), rfl, sm.trans s2, ?_⟩
        rw [List.length_map, tl, List.take_length] at h2
        exact h2
    · rintro σ H1 ⟨l, y2, rfl, sm, ts, el, tl, tt⟩
      refine ⟨_, rfl, l, _, rfl, .inl ⟨.inl (.inl el), fun r nr => ?_⟩⟩
      have e : (((n + 1 : Nat) : Int) - 1).toNat = n := by omega
      rw [e] at tl tt
      exact q _ r (sm.trans (same_new nr)) ⟨ts, upd_same, tl, fun i t ht => let ⟨xs, q1, q2⟩ := tt i t ht; ⟨xs, q1, q2.mono (same_new nr)⟩⟩
end
end KQ
namespace KQ
open PySem PySem.Spec PyProof.Rows L2 KR KM StX
section
variable {P : Program} {w : World} {K : PySem.W.Frag} {mg : Str → Option Value} {base : Heap}
/-! ### clumps -/
def cf (l : Addr) (m : Int) : List (Str × V) := putF "many" (.int m) (putF "heads" (.ref l) [])
theorem hm_ne : ¬ (("heads" : Str) = "many") := by decide +kernel
theorem cf_heads (l : Addr) (m : Int) : (cf l m).lookup ("heads" : Str) = some (.ref l) := by
  unfold cf
  rw [lookup_putF, if_neg hm_ne, lookup_putF, if_pos rfl]
theorem cf_many (l : Addr) (m : Int) : (cf l m).lookup ("many" : Str) = some (.int m) := by
  unfold cf
  rw [lookup_putF, if_pos rfl]
theorem cf_no (l : Addr) (m : Int) {x : Str} (h1 : ¬ x = "many") (h2 : ¬ x = "heads") : (cf l m).lookup x = none := by
  unfold cf
  rw [lookup_putF, if_neg h1, lookup_putF, if_neg h2]
  rfl
theorem cf_eq (l : Addr) (m : Int) : cf l m = ([("heads", V.ref l), ("many", V.int m)] : List (Str × V)) := by
  show (if ("heads" : Str) = "many" then [(("heads" : Str), V.int m)] else (("heads" : Str), V.ref l) :: putF "many" (V.int m) []) = _
  rw [if_neg hm_ne]
  rfl
theorem cf_put (l : Addr) (m m' : Int) : putF "many" (.int m') (cf l m) = cf l m' := by
  rw [cf_eq, cf_eq]
  show (if ("heads" : Str) = "many" then _ else (("heads" : Str), V.ref l) :: (if ("many" : Str) = "many" then [(("many" : Str), V.int m')] else _)) = _
  rw [if_neg hm_ne, if_pos rfl]
def hv (hs : List Nat) : List V := hs.map fun n => V.int ((n : Nat) : Int)
/-- clumps stand at o, their heads in the list at l -/
def CAt (C : Addr) (H : Hp) (o l : Addr) (hs : List Nat) (m : Int) : Prop := (∃ dx, H o = some (.ins C dx (cf l m))) ∧ H l = some (.lst (hv hs))
def But (l : Addr) (H H' : Hp) : Prop := ∀ b u, H b = some u → b ≠ l → H' b = some u
theorem hv_at {hs : List Nat} {x : Nat} (h : x < hs.length) : (hv hs)[x]? = some (.int ((up hs x : Nat) : Int)) := by
  unfold hv up
  rw [List.getElem?_map, List.getElem?_eq_getElem h, List.getD_eq_getElem?_getD, List.getElem?_eq_getElem h]
  rfl
theorem hv_set (hs : List Nat) (x v : Nat) : (hv hs).set x (.int ((v : Nat) : Int)) = hv (hs.set x v) := by
  unfold hv
  rw [List.map_set]
theorem hv_len (hs : List Nat) : (hv hs).length = hs.length := List.length_map ..
theorem rgV_hv (n : Nat) : rgV 0 ((n : Nat) : Int) = hv (List.range n) := by
  unfold rgV hv
  rw [show (((n : Nat) : Int) - 0).toNat = n by omega]
  refine List.map_congr_left fun x _ => ?_
  show V.int (0 + _) = _
  rw [Int.zero_add]
def spInit (C : Addr) : Sp := fun vs H Q _ => ∃ (o dx : Addr) (n : Nat), vs = [.ref o, .int ((n : Nat) : Int)] ∧ H o = some (.ins C dx []) ∧ n ≤ 1000 ∧
  ∀ H' l, CAt C H' o l (List.range n) n → H l = none → But o H H' → Q .non H'
def spHead (C : Addr) : Sp := fun vs H Q _ => ∃ (o l : Addr) (hs : List Nat) (m : Int) (x : Nat), vs = [.ref o, .int ((x : Nat) : Int)] ∧ CAt C H o l hs m ∧ Dn hs ∧ x < hs.length ∧
  ∀ H' hs', CAt C H' o l hs' m → Dn hs' → hs'.length = hs.length → (∀ y, root hs' y = root hs y) → But l H H' → Q (.int ((root hs x : Nat) : Int)) H'
def spUnite (C : Addr) : Sp := fun vs H Q _ => ∃ (o l : Addr) (hs : List Nat) (m : Int) (a b : Nat), vs = [.ref o, .int ((a : Nat) : Int), .int ((b : Nat) : Int)] ∧ CAt C H o l hs m ∧ Dn hs ∧ a < hs.length ∧ b < hs.length ∧
  ∀ H' hs', CAt C H' o l hs' (if root hs a = root hs b then m else m - 1) → Dn hs' → hs'.length = hs.length →
    (∀ y, root hs' y = if root hs y = max (root hs a) (root hs b) then min (root hs a) (root hs b) else root hs y) → (∀ c u, H c = some u → c ≠ l → c ≠ o → H' c = some u) → Q (.bl (!decide (root hs a = root hs b))) H'
end
end KQ
namespace KQ
open PySem PySem.Spec PyProof.Rows L2 KR KM StX
section
variable {P : Program} {w : World} {K : PySem.W.Frag} {mg : Str → Option Value} {base : Heap}
def tiesOf (p r : List Int) : List (Nat × Nat) := (p.zip r).map fun q => (q.1.toNat, (bc 0 p + q.2).toNat)
theorem ties_at {p r : List Int} {i : Nat} {x y : Int} (hx : p[i]? = some x) (hy : r[i]? = some y) : (tiesOf p r)[i]? = some (x.toNat, (bc 0 p + y).toNat) := by
  unfold tiesOf
  refine at_map (x := (x, y)) ?_
  rw [List.getElem?_zip_eq_some]
  exact ⟨hx, hy⟩
theorem ties_len {p r : List Int} (h : p.length = r.length) : (tiesOf p r).length = p.length := by
  unfold tiesOf
  rw [List.length_map, List.length_zip]
  omega
def spAbove : Sp := fun vs H Q _ => ∃ a b p r, vs = [.ref a, .ref b] ∧ TI H a p ∧ TI H b r ∧ Par p ∧ Par r ∧ p.length = r.length ∧
  ∀ H' t (L : Nat → Int), Same H H' → (∀ x y, L x = L y ↔ glue (tiesOf p r) x y) → TI H' t (num (p.map fun b => L b.toNat)) → Q (.ref t) H'
end
end KQ
namespace KQ
open PySem PySem.Spec PyProof.Rows L2 KR KM StX
section
variable {P : Program} {w : World} {K : PySem.W.Frag} {mg : Str → Option Value} {base : Heap}
theorem nb {i : Int} {b : Nat} (h0 : 0 ≤ i) (h : i < 2 ^ b) : i.natAbs < 2 ^ b := by
  have : ((i.natAbs : Nat) : Int) < ((2 ^ b : Nat) : Int) := by
    rw [Int.natAbs_of_nonneg h0]
    push_cast
    exact h
  omega
theorem fm {i j : Int} (h : 0 < j) : 0 ≤ i.fmod j ∧ i.fmod j < j := ⟨Int.fmod_nonneg_of_pos _ h, Int.fmod_lt_of_pos _ h⟩
abbrev s__law_mixed : Stmt := topS 34
theorem sc__law_mixed : FnScope ["cell", "n", "blend"] ["cell", "n"] (defScope s__law_mixed) := ⟨rfl, rfl, rfl, by decide +kernel, rfl, by decide +kernel, by decide +kernel⟩
def spMixed : Sp := fun vs H Q _ => ∃ c n, vs = [.int c, .int n] ∧ 0 ≤ c ∧ c < 2 ^ 40 ∧ 0 ≤ n ∧ n < 2 ^ 24 ∧ ∀ r, 0 ≤ r → r < 2 ^ 31 → Q (.int r) H
theorem ok_mixed (D : DefAt K mg "_law_mixed" s__law_mixed) (T : Bt mg) : Use P w K mg base "_law_mixed" 1 ["cell", "n"] spMixed := by
  refine use_of D (fun f fd F => F.ok sc__law_mixed (fun vs H Q E h => ?_) (fun cdv A outer s H vs Q E hr h => ?_)) (fun _ _ _ _ _ _ us hl => match us, hl with | [_, _], _ => rfl)
  · obtain ⟨c, n, rfl, _⟩ := h
    rfl
  · obtain ⟨c, n, rfl, c0, c1, n0, n1, q⟩ := h
    refine ⟨_, (pss_cons (ps_set (i := 2) sc__law_mixed.nd rfl (Or.inl rfl) (pe_op op_add (pe_op op_add (pe_op op_modN (pe_callTy call_int1 (by rfl) T.int (by decide +kernel) (pa_cons (pe_op op_mulW (pe_op op_mulW (pv 0) (pe_op op_add pe_int (pe_op op_mulW pe_int (pv 1)))) pe_int) pa_nil)) pe_int) (pe_op op_mulW (pe_op op_mulW pe_int (pv 1)) (pv 1))) (pe_op op_mulW pe_int (pv 1))))
      (pss_one (ps_ret (pe_op op_fdivW (pe_op op_modN (pe_callTy call_int1 (by rfl) T.int (by decide +kernel) (pa_cons (pe_op op_mulW (pv 2) pe_int) pa_nil)) pe_int) pe_int)))), ?_⟩
    have e2 : (2 : Int) ^ 24 = 16777216 := by decide
    have hn : n.natAbs < 2 ^ 24 := nb n0 n1
    have hc : c.natAbs < 2 ^ 40 := nb c0 c1
    have h1 : (2 * n).natAbs < 2 ^ (2 + 24) := wide_lt (by decide) hn
    have h2 : (1 + 2 * n).natAbs < 2 ^ 27 := nb (by omega) (by omega)
    have h3 : (c * (1 + 2 * n)).natAbs < 2 ^ (40 + 27) := wide_lt hc h2
    have h4 : (7919 * n).natAbs < 2 ^ (13 + 24) := wide_lt (by decide) hn
    have h5 : (7919 * n * n).natAbs < 2 ^ (37 + 24) := wide_lt h4 hn
    have h6 : (104729 * n).natAbs < 2 ^ (17 + 24) := wide_lt (by decide) hn
    have f1 := fm (i := c * (1 + 2 * n) * 48271) (j := 2147483647) (by decide)
    generalize hX : (c * (1 + 2 * n) * 48271).fmod 2147483647 = X at f1
    have e3 : (2 : Nat) ^ (37 + 24) = 2305843009213693952 := by decide
    have e4 : (2 : Nat) ^ (17 + 24) = 2199023255552 := by decide
    have e5 : (2 : Nat) ^ 70 = 1180591620717411303424 := by decide
    have h7 : (X + 7919 * n * n + 104729 * n).natAbs < 2 ^ 70 := by
      generalize 7919 * n * n = u at *
      generalize 104729 * n = v at *
      omega
    generalize hY : X + 7919 * n * n + 104729 * n = Y at h7
    have f2 := fm (i := Y * 69621) (j := 2147483629) (by decide)
    generalize hZ : (Y * 69621).fmod 2147483629 = Z at f2
    subst hZ hY hX
    refine ⟨_, rfl, _, rfl, 2, n, rfl, rfl, wide_mul (by decide : (2 : Int).natAbs < 2 ^ 2) hn (by decide) (by decide) (by decide), 1, 2 * n, rfl, rfl, c, 1 + 2 * n, rfl, rfl, wide_mul hc h2 (by decide) (by decide) (by decide), ?_⟩
    refine ⟨c * (1 + 2 * n), 48271, rfl, rfl, wide_mul h3 (by decide : (48271 : Int).natAbs < 2 ^ 16) (by decide) (by decide) (by decide), .inl ⟨_, rfl, ?_⟩⟩
    refine ⟨_, 2147483647, rfl, rfl, (show (2147483647 : Int) ≠ 0 by decide), ?_⟩
    refine ⟨_, rfl, 7919, n, rfl, rfl, wide_mul (by decide : (7919 : Int).natAbs < 2 ^ 13) hn (by decide) (by decide) (by decide), _, rfl, 7919 * n, n, rfl, rfl, wide_mul h4 hn (by decide) (by decide) (by decide), ?_⟩
    refine ⟨_, _, rfl, rfl, _, rfl, 104729, n, rfl, rfl, wide_mul (by decide : (104729 : Int).natAbs < 2 ^ 17) hn (by decide) (by decide) (by decide), _, _, rfl, rfl, ?_⟩
    refine ⟨_, rfl, _, 69621, rfl, rfl, wide_mul h7 (by decide : (69621 : Int).natAbs < 2 ^ 17) (by decide) (by decide) (by decide), .inl ⟨_, rfl, ?_⟩⟩
    refine ⟨_, 2147483629, rfl, rfl, (show (2147483629 : Int) ≠ 0 by decide), _, 7, rfl, rfl, wide_div (by decide) (by decide : (7 : Int).natAbs < 2 ^ 3) (by decide) (by decide), ?_⟩
    exact q _ (by omega) (by omega)
theorem depth0 : ∀ (ns : List Int), PyData.depthAll (ns.map .int) = 0
  | [] => rfl
  | n :: r => by simp only [List.map, PyData.depthAll, PyData.depth, depth0 r]; rfl
theorem lay0 : ∀ (ns : List Int), PyData.canLayAll0 (ns.map .int) = true
  | [] => rfl
  | n :: r => by simp only [List.map, PyData.canLayAll0, PyData.canLay0, lay0 r, Bool.and_self]
theorem shaped_ints (ns : List Int) : SeqAt.shaped (.list (ns.map .int)) = true := by
  unfold SeqAt.shaped
  simp only [PyData.canLay0, lay0, PyData.depth, depth0]
  rfl
theorem eqv_nil (ns : List Int) : (!PyData.eqv (.list (ns.map .int)) (.list [])) = !ns.isEmpty := by
  cases ns <;> rfl
abbrev s__law_draw : Stmt := topS 36
theorem sc__law_draw : FnScope ["m", "limit", "n", "lot", "here", "cell"] ["m", "limit"] (defScope s__law_draw) := ⟨rfl, rfl, rfl, by decide +kernel, rfl, by decide +kernel, by decide +kernel⟩
/-- the state of the draws: the dict, its lists, at most b draws so far -/
structure MS (H : Hp) (m c g : Addr) (b : Int) : Prop where
  ex : ∃ (cs gs : List Int) (n : Int), H m = some (.dK [(.inr "cells", .ref c), (.inr "great", .ref g), (.inr "spot", .int n)]) ∧ H c = some (.lst (cs.map V.int)) ∧ H g = some (.lst (gs.map V.int)) ∧
    cs.length = 64 ∧ (∀ x ∈ cs, 0 ≤ x ∧ x < 2147483647) ∧ c ≠ g ∧ gs.length ≤ 63 ∧ 0 ≤ n ∧ n ≤ b
/-- all but m and g stays -/
def Kept (H H' : Hp) (m g : Addr) : Prop := ∀ a u, H a = some u → a ≠ m → a ≠ g → H' a = some u
def spDraw : Sp := fun vs H Q _ => ∃ m c g b limit, vs = [.ref m, .int limit] ∧ MS H m c g b ∧ b ≤ 1000000 ∧ 1 ≤ limit ∧ limit ≤ 2 ^ 30 ∧ ∀ H' d, Kept H H' m g → MS H' m c g (b + 1) → 0 ≤ d → d < limit → Q (.int d) H'
theorem ok_draw (D : DefAt K mg "_law_draw" s__law_draw) (T : Bt mg) (u__law_mixed : Use P w K mg base "_law_mixed" 1 ["cell", "n"] spMixed) : Use P w K mg base "_law_draw" 2 ["m", "limit"] spDraw := by
  refine use_of D (fun f fd F => F.ok sc__law_draw (fun vs H Q E h => ?_) (fun cdv A outer s H vs Q E hr h => ?_)) (fun _ _ _ _ _ _ us hl => match us, hl with | [_, _], _ => rfl)
  · obtain ⟨m, c, g, b, limit, rfl, _⟩ := h
    rfl
  · obtain ⟨m, c, g, b, limit, rfl, ⟨cs, gs, n, hm, hc, hg, lc, rc, cg, lg, n0, n1⟩, b1, l1, l2, q⟩ := h
    refine ⟨_, (pss_cons (ps_set (i := 2) sc__law_draw.nd rfl (Or.inl rfl) (pe_dget (hu_of hr) (pv 0) pe_str (fun _ _ => rfl)))
      (pss_cons (ps_dput (hu_of hr) (pv 0) pe_str (pe_op op_add (pv 2) pe_int) rfl)
      (pss_cons (ps_if (pt_cmpR (k_neD (K := K) rfl hr.units) (pe_dget (hu_of hr) (pv 0) pe_str (fun _ _ => rfl)) (pe_lst pa_nil) (nomark _)) (pss_cons (ps_set (i := 3) sc__law_draw.nd rfl (Or.inl rfl) (pe_dget (hu_of hr) (pv 0) pe_str (fun _ _ => rfl)))
      (pss_cons (ps_set (i := 4) sc__law_draw.nd rfl (Or.inl rfl) (pe_op op_modN (pe_callTy call_int1 (by rfl) T.int (by decide +kernel) (pa_cons (pv 2) pa_nil)) (pe_callB (k_len (K := K) rfl) (by rfl) T.len PySem.boot_len (pa_cons (pv 3) pa_nil))))
      (pss_cons (ps_set (i := 5) sc__law_draw.nd rfl (Or.inl rfl) (pe_ix (k_ixl (K := K) rfl) (pv 3) (pv 4) (fun _ _ => rfl)))
      (pss_one (ps_if (pt_cmpR op_gt (pv 5) pe_int (nomark _)) (pss_cons (ps_asg (pe_op op_fdivW (pv 5) (pv 1)) (pg_sub (pv 3) (pv 4) set_list))
      (pss_one (ps_ret (pe_op op_modN (pe_callTy call_int1 (by rfl) T.int (by decide +kernel) (pa_cons (pv 5) pa_nil)) (pv 1))))) pss_nil))))) pss_nil)
      (pss_cons (ps_set (i := 3) sc__law_draw.nd rfl (Or.inl rfl) (pe_dget (hu_of hr) (pv 0) pe_str (fun _ _ => rfl)))
      (pss_one (ps_ret (pe_op op_modN (pe_callTy call_int1 (by rfl) T.int (by decide +kernel) (pa_cons (pe_use u__law_mixed (by decide) hr (by rfl) (pa_cons (pe_use u__law_mixed (by decide) hr (by rfl) (pa_cons (pe_op op_add (pe_ix (k_ixl (K := K) rfl) (pv 3) (pe_op op_modN (pe_callTy call_int1 (by rfl) T.int (by decide +kernel) (pa_cons (pv 2) pa_nil)) pe_int) (fun _ _ => rfl)) (pe_op op_mulW pe_int (pe_op op_fdivW (pv 2) pe_int))) (pa_cons (pv 2) pa_nil))) (pa_cons (pe_op op_add (pv 2) pe_int) pa_nil))) pa_nil)) (pv 1)))))))), ?_⟩
    have mc : m ≠ c := fun e => by rw [e, hc] at hm; cases hm
    have mg' : m ≠ g := fun e => by rw [e, hg] at hm; cases hm
    have e2 : (2 : Int) ^ 30 = 1073741824 := by decide
    refine ⟨_, rfl, m, _, rfl, .k (k := .inr "spot") hm, ?_⟩
    refine ⟨_, rfl, _, _, rfl, rfl, _, rfl, m, _, rfl, .k (k := .inr "spot") hm (small_of (Nat.le_of_ble_eq_true rfl)), ?_⟩
    rw [show putK [((.inr "cells" : L2.Key), V.ref c), (.inr "great", .ref g), (.inr "spot", .int n)] (.inr "spot") (V.int (n + 1)) = [(.inr "cells", .ref c), (.inr "great", .ref g), (.inr "spot", .int (n + 1))] from rfl]
    generalize hH1 : upd H m (.dK [((.inr "cells" : L2.Key), V.ref c), (.inr "great", .ref g), (.inr "spot", .int (n + 1))]) = H1
    have hm1 : H1 m = some (.dK [((.inr "cells" : L2.Key), V.ref c), (.inr "great", .ref g), (.inr "spot", .int (n + 1))]) := by rw [← hH1, upd_same]
    have hc1 : H1 c = some (.lst (cs.map V.int)) := by rw [← hH1, upd_ne mc.symm]; exact hc
    have hg1 : H1 g = some (.lst (gs.map V.int)) := by rw [← hH1, upd_ne mg'.symm]; exact hg
    have k1 : Kept H H1 m g := fun a u ha na _ => by rw [← hH1, upd_ne na]; exact ha
    refine ⟨_, rfl, m, _, rfl, .k (k := .inr "great") hm1, Nat.zero_le _, fun p np => ?_⟩
    have npg : p ≠ g := fun e => by rw [e, hg1] at np; cases np
    have npm : p ≠ m := fun e => by rw [e, hm1] at np; cases np
    have npc : p ≠ c := fun e => by rw [e, hc1] at np; cases np
    have hm2 : (upd H1 p (.lst [])) m = some (.dK [((.inr "cells" : L2.Key), V.ref c), (.inr "great", .ref g), (.inr "spot", .int (n + 1))]) := by rw [upd_ne npm.symm]; exact hm1
    have hc2 : (upd H1 p (.lst [])) c = some (.lst (cs.map V.int)) := by rw [upd_ne npc.symm]; exact hc1
    have hg2 : (upd H1 p (.lst [])) g = some (.lst (gs.map V.int)) := by rw [upd_ne npg.symm]; exact hg1
    have k2 : Kept H (upd H1 p (.lst [])) m g := fun a u ha na nb => by rw [upd_ne (ne_of_none (k1 a u ha na nb) np)]; exact k1 a u ha na nb
    refine ⟨.list (gs.map PyData.int), .list [], .lst (sqL hg2) (dpAll_ints gs), .lst (sqL (xs := []) upd_same) .nil, shaped_ints gs, rfl, _, rfl, ?_⟩
    rw [eqv_nil]
    generalize hH2 : upd H1 p (.lst []) = H2 at *
    have fin : ∀ H3, (∀ a u, H2 a = some u → a ≠ g → H3 a = some u) → (∃ gs' : List Int, H3 g = some (.lst (gs'.map V.int)) ∧ gs'.length = gs.length) → Kept H H3 m g ∧ MS H3 m c g (b + 1) := by
      intro H3 h3 ⟨gs', hg3, lg3⟩
      exact ⟨fun a u ha na nb => h3 a u (k2 a u ha na nb) nb, ⟨cs, gs', n + 1, h3 _ _ hm2 mg', h3 _ _ hc2 cg, hg3, lc, rc, cg, by omega, by omega, by omega⟩⟩
    have fin2 := fin H2 (fun a u ha _ => ha) ⟨gs, hg2, rfl⟩
    have f64 := fm (i := n) (j := 64) (by decide)
    have hat : ∃ x, cs[(n.fmod 64).toNat]? = some x ∧ 0 ≤ x ∧ x < 2147483647 := by
      have hl : (n.fmod 64).toNat < cs.length := by omega
      exact ⟨_, List.getElem?_eq_getElem hl, rc _ (List.getElem_mem hl)⟩
    obtain ⟨x, hx, x0, x1⟩ := hat
    have hd : 0 ≤ n / 64 ∧ n / 64 ≤ n := ⟨by omega, by omega⟩
    have e24 : (2 : Int) ^ 24 = 16777216 := by decide
    have e40 : (2 : Int) ^ 40 = 1099511627776 := by decide
    have e31 : (2 : Int) ^ 31 = 2147483648 := by decide
    cases gs with
    | nil =>
      refine ⟨_, rfl, m, _, rfl, .k (k := .inr "cells") hm2, ?_⟩
      refine ⟨_, rfl, _, rfl, .inl ⟨n, rfl, n, 64, rfl, rfl, (show (64 : Int) ≠ 0 by decide), c, _, n.fmod 64, V.int x, rfl, rfl, sqL hc2, atI_of (j := (n.fmod 64).toNat) (by omega) (at_map hx), ?_⟩⟩
      refine ⟨_, rfl, n, 64, rfl, rfl, wide_div (by decide) (by decide : (64 : Int).natAbs < 2 ^ 7) (by decide) (by decide), 31, n / 64, rfl, rfl, wide_mul (by decide : (31 : Int).natAbs < 2 ^ 5) (nb (b := 24) (by omega) (by omega)) (by decide) (by decide) (by decide), x, 31 * (n / 64), rfl, rfl, _, rfl, ?_⟩
      refine ⟨x + 31 * (n / 64), n, rfl, by omega, by omega, by omega, by omega, fun r r0 r1 => ⟨_, rfl, n, 7, rfl, rfl, r, n + 7, rfl, r0, by omega, by omega, by omega, fun r2 r3 r4 => .inl ⟨r2, rfl, _, rfl, r2, limit, rfl, rfl, (show limit ≠ 0 by omega), ?_⟩⟩⟩
      exact q _ _ fin2.1 fin2.2 (fm (by omega)).1 (fm (by omega)).2
    | cons g0 gr =>
      have fG := fm (i := n) (j := (((g0 :: gr).length : Nat) : Int)) (by rw [List.length_cons]; omega)
      have hat2 : ∃ y, (g0 :: gr)[(n.fmod ((g0 :: gr).length : Nat)).toNat]? = some y := ⟨_, List.getElem?_eq_getElem (by omega)⟩
      obtain ⟨y, hy⟩ := hat2
      refine ⟨_, rfl, m, _, rfl, .k (k := .inr "great") hm2, ?_⟩
      refine ⟨_, rfl, .inl ⟨n, rfl, _, rfl, g, _, rfl, .inl (sqL hg2), n, _, rfl, rfl, ?_, ?_⟩⟩
      · rw [List.length_map, List.length_cons]
        omega
      rw [List.length_map]
      refine ⟨_, rfl, _, rfl, g, _, _, V.int y, rfl, rfl, sqL hg2, atI_of (j := (n.fmod ((g0 :: gr).length : Nat)).toNat) (by omega) (at_map hy), ?_⟩
      refine ⟨_, rfl, y, 0, rfl, rfl, _, rfl, ?_⟩
      by_cases hpos : 0 < y
      · rw [decide_eq_true hpos]
        refine ⟨_, rfl, _, rfl, y, limit, rfl, rfl, wide_div (by omega) (nb (b := 31) (by omega) (by omega)) (by decide) (by decide), _, rfl, _, rfl, g, _, _, (n.fmod ((g0 :: gr).length : Nat)).toNat, rfl, rfl, hg2, ?_, ?_⟩
        · unfold ixN
          rw [List.length_map, if_pos fG.1, if_pos fG.2]
        refine ⟨_, rfl, .inl ⟨y, rfl, _, rfl, y, limit, rfl, rfl, (show limit ≠ 0 by omega), ?_⟩⟩
        have fin3 := fin (upd H2 g (.lst (((g0 :: gr).map V.int).set (n.fmod ((g0 :: gr).length : Nat)).toNat (V.int (y / limit))))) (fun a u ha na => by rw [upd_ne na]; exact ha)
          ⟨(g0 :: gr).set (n.fmod ((g0 :: gr).length : Nat)).toNat (y / limit), by rw [upd_same, List.map_set], by rw [List.length_set]⟩
        exact q _ _ fin3.1 fin3.2 (fm (by omega)).1 (fm (by omega)).2
      · rw [decide_eq_false hpos]
        refine ⟨_, rfl, m, _, rfl, .k (k := .inr "cells") hm2, ?_⟩
        refine ⟨_, rfl, _, rfl, .inl ⟨n, rfl, n, 64, rfl, rfl, (show (64 : Int) ≠ 0 by decide), c, _, n.fmod 64, V.int x, rfl, rfl, sqL hc2, atI_of (j := (n.fmod 64).toNat) (by omega) (at_map hx), ?_⟩⟩
        refine ⟨_, rfl, n, 64, rfl, rfl, wide_div (by decide) (by decide : (64 : Int).natAbs < 2 ^ 7) (by decide) (by decide), 31, n / 64, rfl, rfl, wide_mul (by decide : (31 : Int).natAbs < 2 ^ 5) (nb (b := 24) (by omega) (by omega)) (by decide) (by decide) (by decide), x, 31 * (n / 64), rfl, rfl, _, rfl, ?_⟩
        refine ⟨x + 31 * (n / 64), n, rfl, by omega, by omega, by omega, by omega, fun r r0 r1 => ⟨_, rfl, n, 7, rfl, rfl, r, n + 7, rfl, r0, by omega, by omega, by omega, fun r2 r3 r4 => .inl ⟨r2, rfl, _, rfl, r2, limit, rfl, rfl, (show limit ≠ 0 by omega), ?_⟩⟩⟩
        exact q _ _ fin2.1 fin2.2 (fm (by omega)).1 (fm (by omega)).2
end
end KQ
namespace KQ
open PySem PySem.Spec PyProof.Rows L2 KR KM StX
section
variable {P : Program} {w : World} {K : PySem.W.Frag} {mg : Str → Option Value} {base : Heap}
theorem sameSL {K : PySem.W.Frag} {H H' : Hp} {a : Addr} {xs : List V} (e : Same H H') (h : SqL K H a xs) : SqL K H' a xs := by
  rcases h with (h | ⟨o, h⟩) | h
  · exact .inl (.inl (e _ _ h))
  · exact .inl (.inr ⟨o, e _ _ h⟩)
  · exact .inr h
def Cells (cs : List Int) : Prop := cs.length = 64 ∧ ∀ x ∈ cs, 0 ≤ x ∧ x < 2147483647
theorem Cells.set {cs : List Int} (h : Cells cs) (j : Nat) {v : Int} (h0 : 0 ≤ v) (h1 : v < 2147483647) : Cells (cs.set j v) := by
  refine ⟨by rw [List.length_set]; exact h.1, fun x hx => ?_⟩
  rcases List.mem_or_eq_of_mem_set hx with hx | rfl
  · exact h.2 x hx
  · exact ⟨h0, h1⟩
theorem Cells.at_ {cs : List Int} (h : Cells cs) {j : Nat} (hj : j < 64) : ∃ x, cs[j]? = some x ∧ 0 ≤ x ∧ x < 2147483647 :=
  ⟨_, List.getElem?_eq_getElem (by rw [h.1]; exact hj), h.2 _ (List.getElem_mem _)⟩
theorem ixN_of {n : Nat} {i : Int} (h0 : 0 ≤ i) (h1 : i < (n : Int)) : ixN n i = some i.toNat := by
  unfold ixN
  rw [if_pos h0, if_pos h1]
abbrev s__law_folded : Stmt := topS 35
theorem sc__law_folded : FnScope ["script", "found", "n", "cell"] ["script"] (defScope s__law_folded) := ⟨rfl, rfl, rfl, by decide +kernel, rfl, by decide +kernel, by decide +kernel⟩
def spFolded (K : PySem.W.Frag) : Sp := fun vs H Q _ => ∃ (a : Addr) (ns : List Int), vs = [.ref a] ∧ SqL K H a (ns.map V.int) ∧ ns.length ≤ 63 ∧
  ∀ H' l cs, Same H H' → H l = none → H' l = some (.lst (List.map V.int cs)) → Cells cs → Q (.ref l) H'
theorem ok_folded (D : DefAt K mg "_law_folded" s__law_folded) (T : Bt mg) : Use P w K mg base "_law_folded" 1 ["script"] (spFolded K) := by
  refine use_of D (fun f fd F => F.ok sc__law_folded (fun vs H Q E h => ?_) (fun cdv A outer s H vs Q E hr h => ?_)) (fun _ _ _ _ _ _ us hl => match us, hl with | [_], _ => rfl)
  · obtain ⟨a, ns, rfl, _⟩ := h
    rfl
  · obtain ⟨a, ns, rfl, hs, hl, q⟩ := h
    refine ⟨_, (pss_cons (ps_setLc (i := 1) (own := [("n", 2)]) rfl sc__law_folded.nd rfl rfl (sw_true rfl rfl rfl (by decide +kernel)) (pi_range1 (by rfl) T.range (pa_cons pe_int pa_nil)) (blkOk_by (N := ["script", "found", "n", "cell"]) (sc := defScope s__law_folded) (by decide +kernel)) (fun _ _ _ _ _ => (pg_name (i := 2) sc__law_folded.nd rfl (Or.inl rfl))) (fun _ _ _ _ _ => pts_nil) (fun _ _ _ _ _ => (pe_op op_add pe_int (pv 2))))
      (pss_cons (ps_for PassesOwn.never rfl (k_enum (K := K) rfl (by rfl) T.enumerate (pa_cons (pv 0) pa_nil)) (pg_tup rfl (pgs_cons (pg_name (i := 2) sc__law_folded.nd rfl (Or.inl rfl)) (pgs_cons (pg_name (i := 3) sc__law_folded.nd rfl (Or.inl rfl)) pgs_nil)))
      (pss_one (ps_asg (pe_op op_modN (pe_callTy call_int1 (by rfl) T.int (by decide +kernel) (pa_cons (pe_op op_add (pe_op op_mulW (pe_ix (k_ixl (K := K) rfl) (pv 1) (pe_op op_modN (pe_callTy call_int1 (by rfl) T.int (by decide +kernel) (pa_cons (pv 2) pa_nil)) pe_int) (fun _ _ => rfl)) pe_int) (pv 3)) pa_nil)) pe_int) (pg_sub (pv 1) (pe_op op_modN (pe_callTy call_int1 (by rfl) T.int (by decide +kernel) (pa_cons (pv 2) pa_nil)) pe_int) set_list))))
      (pss_cons (ps_for PassesOwn.never rfl (pi_range2 (by rfl) T.range (pa_cons pe_int (pa_cons pe_int pa_nil))) (pg_name (i := 2) sc__law_folded.nd rfl (Or.inl rfl))
      (pss_one (ps_asg (pe_op op_modN (pe_callTy call_int1 (by rfl) T.int (by decide +kernel) (pa_cons (pe_op op_add (pe_ix (k_ixl (K := K) rfl) (pv 1) (pv 2) (fun _ _ => rfl)) (pe_op op_mulW (pe_ix (k_ixl (K := K) rfl) (pv 1) (pe_op op_sub (pv 2) pe_int) (fun _ _ => rfl)) pe_int)) pa_nil)) pe_int) (pg_sub (pv 1) (pv 2) set_list))))
      (pss_one (ps_ret (pv 1)))))), ?_⟩
    refine ⟨_, rfl, by decide, by decide, fun L nL => ?_⟩
    refine lc_range (fun i H1 => Same H H1 ∧ H1 L = some (.lst (((List.range i).map fun k => (17 + (k : Nat) : Int)).map V.int))) ⟨same_new nL, upd_same⟩ ?_ ?_
    · rintro i H1 hi ⟨sm, eL⟩
      refine ⟨rfl, _, rfl, _, _, rfl, rfl, _, eL, ?_, same_mut sm nL, ?_⟩
      · rw [List.length_map, List.length_map, List.length_range]
        exact small_of (by omega)
      · rw [upd_same, List.range_succ, List.map_append, List.map_append, Int.zero_add]
        rfl
    · rintro H1 ⟨sm, eL⟩
      refine ⟨_, rfl, a, _, rfl, sameSL sm hs, for_enumL (K := K) (a := a) (xs := ns.map V.int)
        (fun i σ H2 => ∃ y2 y3, σ = [some (.ref a), some (.ref L), y2, y3] ∧ Same H H2 ∧ ∃ cs, H2 L = some (.lst (List.map V.int cs)) ∧ Cells cs)
        ⟨none, none, rfl, sm, _, eL, ?_⟩ (fun i σ H2 ⟨_, _, _, sm, _⟩ => sameSL sm hs) ?_ ?_⟩
      · refine ⟨by rw [List.length_map, List.length_range]; rfl, fun x hx => ?_⟩
        obtain ⟨k, hk, rfl⟩ := List.mem_map.mp hx
        have := List.mem_range.mp hk
        have e : ((64 : Int)).toNat = 64 := rfl
        omega
      · rintro i v T1 σ H2 hi ⟨y2, y3, rfl, sm, cs, eL, ok⟩ hT
        obtain ⟨x, hx, rfl⟩ := map_at hi
        have nTL : T1 ≠ L := fun e => by rw [e, eL] at hT; cases hT
        have eL2 : (upd H2 T1 (.tup [.int (i : Nat), .int x])) L = some (.lst (cs.map V.int)) := by rw [upd_ne nTL.symm]; exact eL
        have f64 := fm (i := ((i : Nat) : Int)) (j := 64) (by decide)
        obtain ⟨y, hy, y0, y1⟩ := ok.at_ (j := (((i : Nat) : Int).fmod 64).toNat) (by omega)
        refine ⟨T1, _, rfl, .inl (.inl upd_same), rfl, _, _, rfl, _, [], rfl, rfl, ?_⟩
        refine ⟨_, rfl, _, rfl, .inl ⟨_, rfl, _, 64, rfl, rfl, (show (64 : Int) ≠ 0 by decide), L, _, _, V.int y, rfl, rfl, sqL eL2, atI_of (j := (((i : Nat) : Int).fmod 64).toNat) (by omega) (at_map hy), ?_⟩⟩
        refine ⟨y, 48271, rfl, rfl, wide_mul (nb (b := 31) y0 (by omega)) (by decide : (48271 : Int).natAbs < 2 ^ 16) (by decide) (by decide) (by decide), _, rfl, y * 48271, x, rfl, rfl, .inl ⟨_, rfl, ?_⟩⟩
        refine ⟨_, 2147483647, rfl, rfl, (show (2147483647 : Int) ≠ 0 by decide), _, rfl, _, rfl, .inl ⟨_, rfl, _, 64, rfl, rfl, (show (64 : Int) ≠ 0 by decide), L, _, _, (((i : Nat) : Int).fmod 64).toNat, rfl, rfl, eL2, ?_, ?_⟩⟩
        · rw [List.length_map, ok.1]
          exact ixN_of f64.1 f64.2
        have fz := fm (i := y * 48271 + x) (j := 2147483647) (by decide)
        refine ⟨some (.int (i : Nat)), some (.int x), rfl, same_mut (same_new hT |> sm.trans) nL, cs.set (((i : Nat) : Int).fmod 64).toNat _, ?_, ok.set _ fz.1 fz.2⟩
        rw [upd_same, List.map_set]
      · rintro σ H2 ⟨y2, y3, rfl, sm, cs, eL, ok⟩
        refine ⟨1, 64, rfl, by decide, for_range (lo := 1) (n := ((64 : Int) - 1).toNat)
          (fun i σ H3 => ∃ y2, σ = [some (.ref a), some (.ref L), y2, y3] ∧ Same H H3 ∧ ∃ cs, H3 L = some (.lst (List.map V.int cs)) ∧ Cells cs)
          ⟨y2, rfl, sm, cs, eL, ok⟩ ?_ ?_⟩
        · rintro i σ H3 hi ⟨y2, rfl, sm, cs, eL, ok⟩
          have hi63 : i < 63 := hi
          obtain ⟨x, hx, x0, x1⟩ := ok.at_ (j := i + 1) (by omega)
          obtain ⟨y, hy, y0, y1⟩ := ok.at_ (j := i) (by omega)
          refine ⟨_, rfl, _, rfl, L, _, 1 + (i : Nat), V.int x, rfl, rfl, sqL eL, atI_of (j := i + 1) (by omega) (at_map hx), ?_⟩
          refine ⟨_, rfl, _, rfl, _, _, rfl, rfl, L, _, 1 + (i : Nat) - 1, V.int y, rfl, rfl, sqL eL, atI_of (j := i) (by omega) (at_map hy), ?_⟩
          refine ⟨y, 16807, rfl, rfl, wide_mul (nb (b := 31) y0 (by omega)) (by decide : (16807 : Int).natAbs < 2 ^ 15) (by decide) (by decide) (by decide), x, y * 16807, rfl, rfl, .inl ⟨_, rfl, ?_⟩⟩
          refine ⟨_, 2147483647, rfl, rfl, (show (2147483647 : Int) ≠ 0 by decide), _, rfl, _, rfl, L, _, 1 + (i : Nat), i + 1, rfl, rfl, eL, ?_, ?_⟩
          · rw [List.length_map, ok.1]
            exact ixN_nat (by omega) (by omega)
          have fz := fm (i := x + y * 16807) (j := 2147483647) (by decide)
          refine ⟨_, rfl, same_mut sm nL, cs.set (i + 1) _, ?_, ok.set _ fz.1 fz.2⟩
          rw [upd_same, List.map_set]
        · rintro σ H3 ⟨y2, rfl, sm, cs, eL, ok⟩
          exact ⟨_, rfl, q _ _ _ sm nL eL ok⟩
abbrev s__law_begun : Stmt := topS 37
theorem sc__law_begun : FnScope ["script", "m", "cell"] ["script"] (defScope s__law_begun) := ⟨rfl, rfl, rfl, by decide +kernel, rfl, by decide +kernel, by decide +kernel⟩
def spBegun (K : PySem.W.Frag) : Sp := fun vs H Q _ => ∃ (a : Addr) (ns : List Int), vs = [.ref a] ∧ SqL K H a (ns.map V.int) ∧ ns.length ≤ 63 ∧
  ∀ H' m c g, MS H' m c g 0 → Q (.ref m) H'
theorem ok_begun (D : DefAt K mg "_law_begun" s__law_begun) (T : Bt mg) (u__law_folded : Use P w K mg base "_law_folded" 1 ["script"] (spFolded K)) : Use P w K mg base "_law_begun" 2 ["script"] (spBegun K) := by
  refine use_of D (fun f fd F => F.ok sc__law_begun (fun vs H Q E h => ?_) (fun cdv A outer s H vs Q E hr h => ?_)) (fun _ _ _ _ _ _ us hl => match us, hl with | [_], _ => rfl)
  · obtain ⟨a, ns, rfl, _⟩ := h
    rfl
  · obtain ⟨a, ns, rfl, hs, hl, q⟩ := h
    refine ⟨_, (pss_cons (ps_set (i := 1) sc__law_begun.nd rfl (Or.inl rfl) (pe_disp (pps_cons pe_str (pe_use u__law_folded (by decide) hr (by rfl) (pa_cons (pv 0) pa_nil)) (pps_cons pe_str (pe_lst pa_nil) (pps_cons pe_str pe_int pps_nil))) (by rfl) (by rfl) (fun z => by cases z) (by decide)))
      (pss_cons (ps_dput (hu_of hr) (pv 1) pe_str (pe_lc (own := [("cell", 2)]) rfl sc__law_begun.nd (k_list (K := K) rfl (pv 0)) (blkOk_by (N := ["script", "m", "cell"]) (sc := defScope s__law_begun) (by decide +kernel)) (fun _ _ _ _ _ => (pg_name (i := 2) sc__law_begun.nd rfl (Or.inl rfl))) (fun _ _ _ _ _ => pts_nil) (fun _ _ _ _ _ => (pe_ifExp (pt_cmpR op_ge (pv 2) (pe_op op_pow pe_int pe_int) (nomark _)) (pv 2) pe_int))) rfl)
      (pss_one (ps_ret (pv 1))))), ?_⟩
    refine fun m nm => ⟨_, rfl, a, ns, rfl, sameSL (same_new nm) hs, hl, fun H1 c cs s1 nc hc ok => ⟨Nat.zero_le _, fun g ng => ?_⟩⟩
    have mc : m ≠ c := fun e => by rw [← e, upd_same] at nc; cases nc
    have hm1 : H1 m = some (.dK []) := s1 _ _ upd_same
    have mg1 : m ≠ g := fun e => by rw [e, ng] at hm1; cases hm1
    have cg : c ≠ g := fun e => by rw [e, ng] at hc; cases hc
    refine ⟨by rw [upd_ne mg1]; exact hm1, [(.inr "cells", .ref c), (.inr "great", .ref g), (.inr "spot", .int 0)], rfl, Nat.le_of_ble_eq_true rfl, ?_⟩
    rw [show mergeK [] [((.inr "cells" : L2.Key), V.ref c), (.inr "great", .ref g), (.inr "spot", .int 0)] = [(.inr "cells", .ref c), (.inr "great", .ref g), (.inr "spot", .int 0)] from rfl]
    generalize hH2 : upd (upd H1 g (.lst [])) m (.dK [((.inr "cells" : L2.Key), V.ref c), (.inr "great", .ref g), (.inr "spot", .int 0)]) = H2
    have hm2 : H2 m = some (.dK [((.inr "cells" : L2.Key), V.ref c), (.inr "great", .ref g), (.inr "spot", .int 0)]) := by rw [← hH2, upd_same]
    have hc2 : H2 c = some (.lst (cs.map V.int)) := by rw [← hH2, upd_ne mc.symm, upd_ne cg]; exact hc
    have hs2 : SqL K H2 a (ns.map V.int) := by
      refine sameSL (fun b u hb => ?_) hs
      have h1 : H1 b = some u := (Same.trans (same_new nm) s1) b u hb
      rw [← hH2, upd_ne (ne_of_none hb nm), upd_ne (ne_of_none h1 ng)]
      exact h1
    refine ⟨_, rfl, a, rfl, ⟨_, hs2⟩, fun L nL => ?_⟩
    have Lm : L ≠ m := fun e => by rw [e, hm2] at nL; cases nL
    have Lc : L ≠ c := fun e => by rw [e, hc2] at nL; cases nL
    refine lc_list (K := K) (a := a) (xs := ns.map V.int) (fun i H3 => Same H2 H3 ∧ ∃ gs : List Int, H3 L = some (.lst (gs.map V.int)) ∧ gs.length = i) ⟨same_new nL, [], upd_same, rfl⟩
      (fun i H3 _ ⟨sm, _⟩ => sameSL sm hs2) ?_ ?_
    · rintro i v H3 hi ⟨sm, gs, eL, lg⟩
      obtain ⟨x, hx, rfl⟩ := map_at hi
      have hi63 : i < ns.length := (List.getElem?_eq_some_iff.mp hx).1
      have put : ∀ y : Int, ∃ acc, H3 L = some (.lst acc) ∧ acc.length < sizeLine ∧ (Same H2 (upd H3 L (.lst (acc ++ [V.int y]))) ∧ ∃ gs : List Int, upd H3 L (.lst (acc ++ [V.int y])) L = some (.lst (gs.map V.int)) ∧ gs.length = i + 1) := fun y =>
        ⟨_, eL, by rw [List.length_map]; exact small_of (by omega), same_mut sm nL, gs ++ [y], by rw [upd_same, List.map_append]; rfl, by rw [List.length_append, lg]; rfl⟩
      refine ⟨rfl, _, rfl, 10, 18, rfl, rfl, ⟨by decide, by decide, by decide⟩, x, _, rfl, rfl, _, rfl, ?_⟩
      by_cases hx2 : (10 : Int) ^ (18 : Int).toNat ≤ x
      · rw [decide_eq_true hx2]
        exact ⟨_, rfl, put x⟩
      · rw [decide_eq_false hx2]
        exact put 0
    · rintro H3 ⟨sm, gs, eL, lg⟩
      rw [List.length_map] at lg
      have hm3 := sm _ _ hm2
      refine ⟨_, rfl, m, _, rfl, .k (k := .inr "great") hm3 (small_of (Nat.le_of_ble_eq_true rfl)), ?_⟩
      rw [show putK [((.inr "cells" : L2.Key), V.ref c), (.inr "great", .ref g), (.inr "spot", .int 0)] (.inr "great") (V.ref L) = [(.inr "cells", .ref c), (.inr "great", .ref L), (.inr "spot", .int 0)] from rfl]
      refine ⟨_, rfl, q _ m c L ⟨cs, gs, 0, upd_same, ?_, ?_, ok.1, ok.2, Lc.symm, by omega, Int.le_refl _, Int.le_refl _⟩⟩
      · rw [upd_ne mc.symm]
        exact sm _ _ hc2
      · rw [upd_ne Lm]
        exact eL
end
end KQ
namespace KQ
open PySem PySem.Spec PyProof.Rows L2 KR KM StX
/-! ### data that repr shows in short -/
structure Nc (k W : Nat) (d : PyData) : Prop where
  sh : d.showable = true
  nd : d.hasDict = false
  dp : d.depth ≤ k
  lf : d.leavesShort 13 = true
  wt : d.weight ≤ W
structure NcA (k W : Nat) (ds : List PyData) : Prop where
  sh : PyData.showableAll ds = true
  nd : PyData.hasDictAll ds = false
  dp : PyData.depthAll ds ≤ k
  lf : PyData.leavesShortAll 13 ds = true
  wt : PyData.weightAll ds ≤ W
theorem Nc.le {k W k' W' : Nat} {d : PyData} (h : Nc k W d) (h1 : k ≤ k') (h2 : W ≤ W') : Nc k' W' d := ⟨h.sh, h.nd, Nat.le_trans h.dp h1, h.lf, Nat.le_trans h.wt h2⟩
theorem NcA.le {k W k' W' : Nat} {d : List PyData} (h : NcA k W d) (h1 : k ≤ k') (h2 : W ≤ W') : NcA k' W' d := ⟨h.sh, h.nd, Nat.le_trans h.dp h1, h.lf, Nat.le_trans h.wt h2⟩
theorem nc_nat : ∀ i : Fin 1024, Nc 0 10 (.int ((i.val : Nat) : Int)) := fun i => by
  have e : ((i.val : Int)).natAbs = i.val := rfl
  have hlog : i.val.log2 < 10 := by
    by_cases h0 : i.val = 0
    · rw [h0]
      decide
    · exact (Nat.log2_lt h0).2 (by have := i.isLt; omega)
  refine ⟨?_, rfl, Nat.le_refl _, ?_, ?_⟩
  · simp only [PyData.showable, e]
    exact decide_eq_true (by omega)
  · simp only [PyData.leavesShort]
    exact decide_eq_true (PyData.shown_int_le (by have := i.isLt; rw [e]; omega))
  · simp only [PyData.weight, e]
    split <;> omega
theorem nc_int {i : Int} (h0 : 0 ≤ i) (h1 : i < 1024) : Nc 0 10 (.int i) := by
  have h := nc_nat ⟨i.toNat, by omega⟩
  have e : ((i.toNat : Nat) : Int) = i := by omega
  rw [show (((⟨i.toNat, by omega⟩ : Fin 1024).val : Nat) : Int) = i from e] at h
  exact h
theorem nc_bool (b : Bool) : Nc 0 0 (.bool b) := ⟨rfl, rfl, Nat.le_refl _, rfl, Nat.le_refl _⟩
theorem nc_nil (k : Nat) : NcA k 0 [] := ⟨rfl, rfl, Nat.zero_le _, rfl, Nat.le_refl _⟩
theorem nc_cons {k W1 W2 : Nat} {d : PyData} {ds : List PyData} (h : Nc k W1 d) (hs : NcA k W2 ds) : NcA k (W1 + 1 + W2) (d :: ds) := by
  refine ⟨?_, ?_, ?_, ?_, ?_⟩
  · simp only [PyData.showableAll, h.sh, hs.sh]; rfl
  · simp only [PyData.hasDictAll, h.nd, hs.nd]; rfl
  · have a := h.dp
    have b := hs.dp
    simp only [PyData.depthAll]
    exact Nat.max_le.mpr ⟨a, b⟩
  · simp only [PyData.leavesShortAll, h.lf, hs.lf]; rfl
  · have a := h.wt
    have b := hs.wt
    simp only [PyData.weightAll]
    omega
theorem nc_all {k W : Nat} : ∀ {ds : List PyData}, (∀ d ∈ ds, Nc k W d) → NcA k ((W + 1) * ds.length) ds
  | [], _ => (nc_nil k).le (Nat.le_refl _) (Nat.zero_le _)
  | d :: ds, h => by
    refine (nc_cons (h d List.mem_cons_self) (nc_all fun x hx => h x (List.mem_cons_of_mem _ hx))).le (Nat.le_refl _) ?_
    rw [List.length_cons, Nat.mul_add]
    omega
theorem nc_tup {k W : Nat} {ds : List PyData} (h : NcA k W ds) : Nc (k + 1) W (.tuple ds) := by
  refine ⟨by simp only [PyData.showable, h.sh], by simp only [PyData.hasDict, h.nd], ?_, by simp only [PyData.leavesShort, h.lf], by simp only [PyData.weight]; exact h.wt⟩
  have := h.dp
  simp only [PyData.depth]
  omega
theorem nc_lst {k W : Nat} {ds : List PyData} (h : NcA k W ds) : Nc (k + 1) W (.list ds) := by
  refine ⟨by simp only [PyData.showable, h.sh], by simp only [PyData.hasDict, h.nd], ?_, by simp only [PyData.leavesShort, h.lf], by simp only [PyData.weight]; exact h.wt⟩
  have := h.dp
  simp only [PyData.depth]
  omega
theorem nc_ints {p : List Int} (h : ∀ x ∈ p, 0 ≤ x ∧ x < 1024) : NcA 0 (11 * p.length) (p.map PyData.int) := by
  have := nc_all (k := 0) (W := 10) (ds := p.map PyData.int) (fun d hd => by
    obtain ⟨x, hx, rfl⟩ := List.mem_map.mp hd
    exact nc_int (h x hx).1 (h x hx).2)
  rw [List.length_map] at this
  exact this
section
variable {P : Program} {w : World} {K : PySem.W.Frag} {mg : Str → Option Value} {base : Heap}
theorem dp_ti {H : Hp} {a : Addr} {p : List Int} (h : TI H a p) : Dp K H (.ref a) (.tuple (p.map PyData.int)) := .tup (h.seq) (dpAll_ints p)
abbrev s__law_like : Stmt := topS 38
theorem sc__law_like : FnScope ["got", "due"] ["got", "due"] (defScope s__law_like) := ⟨rfl, rfl, rfl, by decide +kernel, rfl, by decide +kernel, by decide +kernel⟩
def spLike (K : PySem.W.Frag) : Sp := fun vs H Q _ => ∃ x y d, vs = [x, y] ∧ Dp K H x d ∧ Dp K H y d ∧ isDisplay d = true ∧ Nc 20 (2 ^ 20) d ∧ Q (.bl true) H
theorem ok_like (D : DefAt K mg "_law_like" s__law_like) (T : Bt mg) : UseG P w K mg base "_law_like" 1 ["got", "due"] (spLike K) := by
  refine use_ofG D (fun f fd F => Fun.okG F sc__law_like (fun vs H Q E h => ?_) (fun cdv A outer s H vs Q E gd hr h => ?_)) (fun _ _ _ _ _ _ us hl => match us, hl with | [_, _], _ => rfl)
  · obtain ⟨x, y, d, rfl, _⟩ := h
    rfl
  · obtain ⟨x, y, d, rfl, hx, hy, dis, nc, q⟩ := h
    refine ⟨_, (pss_one (ps_ret (pe_cmpR op_eq (pe_callB (k_repr (K := K) rfl gd hr.units) (by rfl) T.repr (by decide +kernel) (pa_cons (pv 0) pa_nil)) (pe_callB (k_repr (K := K) rfl gd hr.units) (by rfl) T.repr (by decide +kernel) (pa_cons (pv 1) pa_nil)) (nomark _)))), ?_⟩
    have hl := PyData.shown_fits (B := 13) (by decide) (by decide) nc.lf nc.wt
    have dp : d.depth ≤ 30 := Nat.le_trans nc.dp (by decide)
    refine ⟨_, rfl, x, d, rfl, hx, dis, nc.sh, nc.nd, dp, hl, _, rfl, y, d, rfl, hy, dis, nc.sh, nc.nd, dp, hl, ?_⟩
    refine ⟨rfl, ?_⟩
    rw [decide_eq_true rfl]
    exact q
theorem Kept.trans {H H1 H2 : Hp} {m g : Addr} (h : Kept H H1 m g) (h2 : Kept H1 H2 m g) : Kept H H2 m g := fun a u ha na nb => h2 a u (h a u ha na nb) na nb
theorem Kept.of {H H' : Hp} {m g : Addr} (h : Same H H') : Kept H H' m g := fun a u ha _ _ => h a u ha
theorem MS.mono {H H' : Hp} {m c g : Addr} {b : Int} (h : MS H m c g b) (s : Same H H') : MS H' m c g b := by
  obtain ⟨cs, gs, n, h1, h2, h3, r⟩ := h
  exact ⟨cs, gs, n, s _ _ h1, s _ _ h2, s _ _ h3, r⟩
theorem MS.le {H : Hp} {m c g : Addr} {b b' : Int} (h : MS H m c g b) (l : b ≤ b') : MS H m c g b' := by
  obtain ⟨cs, gs, n, h1, h2, h3, h4, h5, h6, h7, h8, h9⟩ := h
  exact ⟨cs, gs, n, h1, h2, h3, h4, h5, h6, h7, h8, by omega⟩
/-- the state stays where another object is changed -/
theorem MS.put {H : Hp} {m c g : Addr} {b : Int} (h : MS H m c g b) {a : Addr} {o : HO} (n1 : a ≠ m) (n2 : a ≠ c) (n3 : a ≠ g) : MS (L2.upd H a o) m c g b := by
  obtain ⟨cs, gs, n, h1, h2, h3, r⟩ := h
  exact ⟨cs, gs, n, by rw [upd_ne n1.symm]; exact h1, by rw [upd_ne n2.symm]; exact h2, by rw [upd_ne n3.symm]; exact h3, r⟩
theorem MS.ne {H : Hp} {m c g : Addr} {b : Int} (h : MS H m c g b) {a : Addr} (n : H a = none) : a ≠ m ∧ a ≠ c ∧ a ≠ g := by
  obtain ⟨cs, gs, k, h1, h2, h3, r⟩ := h
  exact ⟨ne_of_none h1 n |>.symm, ne_of_none h2 n |>.symm, ne_of_none h3 n |>.symm⟩
theorem kept_mut {H H' : Hp} {m g p : Addr} {o : HO} (e : Kept H H' m g) (h : H p = none) : Kept H (L2.upd H' p o) m g := fun a u ha na nb => by
  rw [upd_ne (ne_of_none ha h)]
  exact e a u ha na nb
theorem Kept.ti {H H' : Hp} {m c g a : Addr} {b : Int} {p : List Int} (h : Kept H H' m g) (s : MS H m c g b) (t : TI H a p) : TI H' a p := by
  obtain ⟨cs, gs, k, h1, h2, h3, r⟩ := s
  refine h a _ t (fun e => ?_) (fun e => ?_)
  · have t' : H a = _ := t
    rw [e, h1] at t'
    cases t'
  · have t' : H a = _ := t
    rw [e, h3] at t'
    cases t'
theorem erase_perm {α : Type} : ∀ {ls : List α} {k : Nat} {x : α}, ls[k]? = some x → ([x] ++ ls.eraseIdx k).Perm ls
  | [], k, x, h => by simp at h
  | a :: r, 0, x, h => by
    obtain rfl : a = x := Option.some.inj h
    exact List.Perm.refl _
  | a :: r, k + 1, x, h => by
    have h' : r[k]? = some x := h
    exact (List.Perm.swap a x _).trans (List.Perm.cons a (erase_perm h'))
theorem erase_map {α β : Type} (f : α → β) : ∀ (ls : List α) (k : Nat), (ls.map f).eraseIdx k = (ls.eraseIdx k).map f
  | [], k => by simp
  | a :: r, 0 => rfl
  | a :: r, k + 1 => by
    show f a :: (r.map f).eraseIdx k = f a :: (r.eraseIdx k).map f
    rw [erase_map f r k]
def spOrder : Sp := fun vs H Q _ => ∃ m c g b many, vs = [.ref m, .int many] ∧ MS H m c g b ∧ b ≤ 100000 ∧ 1 ≤ many ∧ many ≤ 64 ∧
  ∀ H' l (ds : List Int), Kept H H' m g → MS H' m c g (b + many) → H' l = some (.lst (ds.map V.int)) → H l = none → ds.length = many.toNat → ds.Nodup → (∀ d ∈ ds, 0 ≤ d ∧ d < many) → Q (.ref l) H'
end
end KQ
namespace KQ
open PySem PySem.Spec PyProof.Rows L2 KR KM StX
theorem dg_new {α κ : Type} [DecidableEq α] [DecidableEq κ] {f : α → κ} (hf : ∀ a b, f a = f b → a = b) {ks : List α} {x : α} (h : ks.Nodup) (hx : x ∉ ks) : valV (dg f (ks ++ [x])) (f x) = some (V.int ((ks.length : Nat) : Int)) := by
  have hn : (ks ++ [x]).Nodup := by
    rw [List.nodup_append]
    refine ⟨h, by simp, fun a ha b hb e => ?_⟩
    rw [List.mem_singleton.mp hb] at e
    exact hx (e ▸ ha)
  rw [dg_val hf _ _ hn, if_pos (by simp), List.idxOf_append, if_neg hx]
  simp
section
variable {P : Program} {w : World} {K : PySem.W.Frag} {mg : Str → Option Value} {base : Heap}
abbrev s__law_numbered : Stmt := topS 40
theorem sc__law_numbered : FnScope ["labels", "spots", "found", "label"] ["labels"] (defScope s__law_numbered) := ⟨rfl, rfl, rfl, by decide +kernel, rfl, by decide +kernel, by decide +kernel⟩
theorem ok_lnumL (D : DefAt K mg "_law_numbered" s__law_numbered) (T : Bt mg) : Use P w K mg base "_law_numbered" 1 ["labels"] spNumL := by
  refine use_of D (fun f fd F => F.ok sc__law_numbered (fun vs H Q E h => ?_) (fun cdv A outer s H vs Q E hr h => ?_)) (fun _ _ _ _ _ _ us hl => match us, hl with | [_], _ => rfl)
  · obtain ⟨a, p, rfl, _⟩ := h
    rfl
  · obtain ⟨a, xs, rfl, hp, hl, q⟩ := h
    refine ⟨_, (pss_cons (ps_par (i := 1) (j := 2) rfl sc__law_numbered.nd rfl rfl (by decide) rfl rfl (pa_cons pe_dnewK (pa_cons (pe_lst pa_nil) pa_nil)) (by rfl))
      (pss_cons (ps_for PassesOwn.never rfl (k_list (K := K) rfl (pv 0)) (pg_name (i := 3) sc__law_numbered.nd rfl (Or.inl rfl))
      (pss_cons (ps_if (pt_cmp (pc_dnotin (hu_of hr) (pv 3) (pv 1))) (pss_one (ps_dput (hu_of hr) (pv 1) (pv 3) (pe_callB call_lenD (by rfl) T.len PySem.boot_len (pa_cons (pv 1) pa_nil)) rfl)) pss_nil)
      (pss_one (ps_expr (k_bm (K := K) rfl PySem.F.plainAttrs_list PySem.F.slot_list_append PySem.F.type_list_append mt_append (pv 2) (pa_cons (pe_dget (hu_of hr) (pv 1) (pv 3) (fun _ _ => rfl)) pa_nil))))))
      (pss_one (ps_ret (pe_callTy (k_tupOf (K := K) rfl) (by rfl) T.tuple (by decide +kernel) (pa_cons (pv 2) pa_nil)))))), ?_⟩
    refine fun d nd => ⟨Nat.zero_le _, fun L nL => ?_⟩
    have s0 : Same H (upd H d (.dK [])) := same_new nd
    have s1 : Same H (upd (upd H d (.dK [])) L (.lst [])) := s0.trans (same_new nL)
    have nL0 : H L = none := s0.free nL
    have ndL : d ≠ L := fun e => by rw [e, upd_same] at nL; cases nL
    refine ⟨_, _, rfl, ?_⟩
    refine ⟨_, rfl, a, rfl, ⟨_, sqL (s1 _ _ hp)⟩, for_list (K := K) (a := a) (xs := xs.map V.int)
      (fun i σ H1 => ∃ y3, σ = [some (.ref a), some (.ref d), some (.ref L), y3] ∧ Same H H1 ∧ H1 d = some (.dK (dg kI (firsts (xs.take i)))) ∧ H1 L = some (.lst ((num (xs.take i)).map V.int)))
      ⟨none, rfl, s1, ?_, ?_⟩ (fun i σ H1 _ ⟨_, _, sm, _⟩ => sqL (sm _ _ hp)) ?_ ?_⟩
    · rw [upd_ne ndL, upd_same]
      rfl
    · rw [upd_same]
      rfl
    · rintro i v σ H1 hi ⟨y3, rfl, sm, ed, eL⟩
      obtain ⟨x, hx, rfl⟩ := map_at hi
      have small : ((num (xs.take i)).map V.int).length < sizeLine := by
        rw [List.length_map, num_len, List.length_take]
        exact small_of (by omega)
      have small2 : (dg kI (firsts (xs.take i))).length < sizeLine := by
        rw [dg_len]
        have := firsts_le (xs.take i)
        rw [List.length_take] at this
        exact small_of (by omega)
      by_cases hm : x ∈ firsts (xs.take i)
      · obtain ⟨e1, e2⟩ := num_old hm
        have gv : DGet H1 d (V.int x) (some (V.int (((firsts (xs.take i)).idxOf x : Nat) : Int))) := by
          have := DGet.k (k := kI x) ed
          rw [dg_val kI_inj _ _ (firsts_nodup _), if_pos hm] at this
          exact this
        refine ⟨_, rfl, _, rfl, d, _, rfl, gv, _, rfl, _, rfl, .inl ⟨rfl, _, .inl (.inl eL)⟩, _, rfl, _, rfl, d, _, rfl, gv, L, _, _, rfl, rfl, eL, small, some (.int x), rfl, same_mut sm nL0, ?_, ?_⟩
        · rw [upd_ne ndL, take_snoc hx, e2]
          exact ed
        · rw [upd_same, take_snoc hx, e1, List.map_append]
          rfl
      · obtain ⟨e1, e2⟩ := num_new hm
        have gv : DGet H1 d (V.int x) none := by
          have := DGet.k (k := kI x) ed
          rw [dg_val kI_inj _ _ (firsts_nodup _), if_neg hm] at this
          exact this
        have ed2 : (upd H1 d (.dK (putK (dg kI (firsts (xs.take i))) (kI x) (.int (((firsts (xs.take i)).length : Nat) : Int))))) d = some (.dK (dg kI (firsts (xs.take i) ++ [x]))) := by
          rw [upd_same, dg_put kI_inj _ _ hm]
        have gv2 : DGet (upd H1 d (.dK (putK (dg kI (firsts (xs.take i))) (kI x) (.int (((firsts (xs.take i)).length : Nat) : Int))))) d (V.int x) (some (V.int (((firsts (xs.take i)).length : Nat) : Int))) := by
          have := DGet.k (k := kI x) ed2
          rw [dg_new kI_inj (firsts_nodup _) hm] at this
          exact this
        have eL2 : (upd H1 d (.dK (putK (dg kI (firsts (xs.take i))) (kI x) (.int (((firsts (xs.take i)).length : Nat) : Int))))) L = some (.lst ((num (xs.take i)).map V.int)) := by
          rw [upd_ne ndL.symm]
          exact eL
        refine ⟨_, rfl, _, rfl, d, _, rfl, gv, _, rfl, _, rfl, d, _, rfl, ed, ?_⟩
        rw [dg_len]
        refine ⟨_, rfl, _, rfl, d, _, rfl, DPut.k (k := kI x) ed small2, ?_⟩
        refine ⟨_, rfl, .inl ⟨rfl, _, .inl (.inl eL2)⟩, _, rfl, _, rfl, d, _, rfl, gv2, L, _, _, rfl, rfl, eL2, small, some (.int x), rfl, same_mut (same_mut sm nd) nL0, ?_, ?_⟩
        · rw [upd_ne ndL, ed2, take_snoc hx, e2]
        · rw [upd_same, take_snoc hx, e1, List.map_append]
          rfl
    · rintro σ H1 ⟨y3, rfl, sm, ed, eL⟩
      refine ⟨_, rfl, L, _, rfl, .inl ⟨.inl (.inl eL), fun l hl => ?_⟩⟩
      refine q _ l (sm.trans (same_new hl)) ?_
      show upd H1 l _ l = _
      rw [upd_same, List.length_map, List.take_length]
theorem ok_lnumP (D : DefAt K mg "_law_numbered" s__law_numbered) (T : Bt mg) : Use P w K mg base "_law_numbered" 1 ["labels"] spNumP := by
  refine use_of D (fun f fd F => F.ok sc__law_numbered (fun vs H Q E h => ?_) (fun cdv A outer s H vs Q E hr h => ?_)) (fun _ _ _ _ _ _ us hl => match us, hl with | [_], _ => rfl)
  · obtain ⟨a, ts, xs, rfl, _⟩ := h
    rfl
  · obtain ⟨a, ts, xs, rfl, hp, pa, hl, q⟩ := h
    refine ⟨_, (pss_cons (ps_par (i := 1) (j := 2) rfl sc__law_numbered.nd rfl rfl (by decide) rfl rfl (pa_cons pe_dnewT (pa_cons (pe_lst pa_nil) pa_nil)) (by rfl))
      (pss_cons (ps_for PassesOwn.never rfl (k_list (K := K) rfl (pv 0)) (pg_name (i := 3) sc__law_numbered.nd rfl (Or.inl rfl))
      (pss_cons (ps_if (pt_cmp (pc_dnotin (hu_of hr) (pv 3) (pv 1))) (pss_one (ps_dput (hu_of hr) (pv 1) (pv 3) (pe_callB call_len_dT (by rfl) T.len PySem.boot_len (pa_cons (pv 1) pa_nil)) rfl)) pss_nil)
      (pss_one (ps_expr (k_bm (K := K) rfl PySem.F.plainAttrs_list PySem.F.slot_list_append PySem.F.type_list_append mt_append (pv 2) (pa_cons (pe_dget (hu_of hr) (pv 1) (pv 3) (fun _ _ => rfl)) pa_nil))))))
      (pss_one (ps_ret (pe_callTy (k_tupOf (K := K) rfl) (by rfl) T.tuple (by decide +kernel) (pa_cons (pv 2) pa_nil)))))), ?_⟩
    refine fun d nd => ⟨Nat.zero_le _, fun L nL => ?_⟩
    have s0 : Same H (upd H d (.dT [])) := same_new nd
    have s1 : Same H (upd (upd H d (.dT [])) L (.lst [])) := s0.trans (same_new nL)
    have nL0 : H L = none := s0.free nL
    have ndL : d ≠ L := fun e => by rw [e, upd_same] at nL; cases nL
    refine ⟨_, _, rfl, ?_⟩
    refine ⟨_, rfl, a, rfl, ⟨_, sqL (s1 _ _ hp)⟩, for_list (K := K) (a := a) (xs := ts.map V.ref)
      (fun i σ H1 => ∃ y3, σ = [some (.ref a), some (.ref d), some (.ref L), y3] ∧ Same H H1 ∧ H1 d = some (.dT (dg kP (firsts (xs.take i)))) ∧ H1 L = some (.lst ((num (xs.take i)).map V.int)))
      ⟨none, rfl, s1, ?_, ?_⟩ (fun i σ H1 _ ⟨_, _, sm, _⟩ => sqL (sm _ _ hp)) ?_ ?_⟩
    · rw [upd_ne ndL, upd_same]
      rfl
    · rw [upd_same]
      rfl
    · rintro i v σ H1 hi ⟨y3, rfl, sm, ed, eL⟩
      obtain ⟨t, ht, rfl⟩ := map_at hi
      obtain ⟨x, hx, et0⟩ := pa.2 i t ht
      have et : H1 t = some (.tup ((kP x).map kV)) := sm _ _ et0
      have etd : ∀ o : HO, (upd H1 d o) t = some (.tup ((kP x).map kV)) := fun o => by rw [upd_ne (fun e => by rw [e, nd] at et0; cases et0)]; exact et
      have small : ((num (xs.take i)).map V.int).length < sizeLine := by
        rw [List.length_map, num_len, List.length_take]
        exact small_of (by omega)
      have small2 : (dg kP (firsts (xs.take i))).length < sizeLine := by
        rw [dg_len]
        have := firsts_le (xs.take i)
        rw [List.length_take] at this
        exact small_of (by omega)
      by_cases hm : x ∈ firsts (xs.take i)
      · obtain ⟨e1, e2⟩ := num_old hm
        have gv : DGet H1 d (V.ref t) (some (V.int ((@List.idxOf (Int × Int) instBEqOfDecidableEq x (firsts (xs.take i)) : Nat) : Int))) := by
          have := DGet.t (k := kP x) ed et
          rw [dg_val kP_inj _ _ (firsts_nodup _), if_pos hm] at this
          exact this
        refine ⟨_, rfl, _, rfl, d, _, rfl, gv, _, rfl, _, rfl, .inl ⟨rfl, _, .inl (.inl eL)⟩, _, rfl, _, rfl, d, _, rfl, gv, L, _, _, rfl, rfl, eL, small, some (.ref t), rfl, same_mut sm nL0, ?_, ?_⟩
        · rw [upd_ne ndL, take_snoc hx, e2]
          exact ed
        · rw [upd_same, take_snoc hx, e1, List.map_append]
          rfl
      · obtain ⟨e1, e2⟩ := num_new hm
        have gv : DGet H1 d (V.ref t) none := by
          have := DGet.t (k := kP x) ed et
          rw [dg_val kP_inj _ _ (firsts_nodup _), if_neg hm] at this
          exact this
        have ed2 : (upd H1 d (.dT (putK (dg kP (firsts (xs.take i))) (kP x) (.int (((firsts (xs.take i)).length : Nat) : Int))))) d = some (.dT (dg kP (firsts (xs.take i) ++ [x]))) := by
          rw [upd_same, dg_put kP_inj _ _ hm]
        have gv2 : DGet (upd H1 d (.dT (putK (dg kP (firsts (xs.take i))) (kP x) (.int (((firsts (xs.take i)).length : Nat) : Int))))) d (V.ref t) (some (V.int (((firsts (xs.take i)).length : Nat) : Int))) := by
          have := DGet.t (k := kP x) ed2 (etd _)
          rw [dg_new kP_inj (firsts_nodup _) hm] at this
          exact this
        have eL2 : (upd H1 d (.dT (putK (dg kP (firsts (xs.take i))) (kP x) (.int (((firsts (xs.take i)).length : Nat) : Int))))) L = some (.lst ((num (xs.take i)).map V.int)) := by
          rw [upd_ne ndL.symm]
          exact eL
        refine ⟨_, rfl, _, rfl, d, _, rfl, gv, _, rfl, _, rfl, d, _, rfl, ed, ?_⟩
        rw [dg_len]
        refine ⟨_, rfl, _, rfl, d, _, rfl, DPut.t (k := kP x) ed et small2, ?_⟩
        refine ⟨_, rfl, .inl ⟨rfl, _, .inl (.inl eL2)⟩, _, rfl, _, rfl, d, _, rfl, gv2, L, _, _, rfl, rfl, eL2, small, some (.ref t), rfl, same_mut (same_mut sm nd) nL0, ?_, ?_⟩
        · rw [upd_ne ndL, ed2, take_snoc hx, e2]
        · rw [upd_same, take_snoc hx, e1, List.map_append]
          rfl
    · rintro σ H1 ⟨y3, rfl, sm, ed, eL⟩
      refine ⟨_, rfl, L, _, rfl, .inl ⟨.inl (.inl eL), fun l hl => ?_⟩⟩
      refine q _ l (sm.trans (same_new hl)) ?_
      show upd H1 l _ l = _
      rw [upd_same, List.length_map, pa.1, List.take_length]
end
end KQ
namespace KQ
open PySem PySem.Spec PyProof.Rows L2 KR KM StX
section
variable {P : Program} {w : World} {K : PySem.W.Frag} {mg : Str → Option Value} {base : Heap}
theorem Kept.free {H H1 : Hp} {m g L : Addr} (h : Kept H H1 m g) (n : H1 L = none) (n1 : L ≠ m) (n2 : L ≠ g) : H L = none := by
  cases e : H L with
  | none => rfl
  | some u =>
    rw [h L u e n1 n2] at n
    cases n
def spAny : Sp := fun vs H Q _ => ∃ m c g b many, vs = [.ref m, .int many] ∧ MS H m c g b ∧ b ≤ 100000 ∧ 1 ≤ many ∧ many ≤ 60 ∧
  ∀ H' t p, Kept H H' m g → MS H' m c g (b + 1 + many) → TI H' t p → Par p → p.length = many.toNat → Q (.ref t) H'
def spCoarser : Sp := fun vs H Q _ => ∃ m c g b a p, vs = [.ref m, .ref a] ∧ MS H m c g b ∧ b ≤ 100000 ∧ TI H a p ∧ Par p ∧
  ∀ H' t r, Kept H H' m g → MS H' m c g (b + 61) → TI H' t r → Par r → r.length = p.length → Q (.ref t) H'
def Gd (p r : List Int) (s t : Nat) : Prop := p[s]? = p[t]? → r[s]? = r[t]?
theorem finer_gd {p r : List Int} (hl : p.length = r.length) : Finer p r ↔ ∀ t, t < p.length → ∀ s, s < t → Gd p r s t := by
  constructor
  · intro h t ht s hs e
    have hp := List.getElem?_eq_getElem ht
    have hr : r[t]? = some _ := List.getElem?_eq_getElem (by omega)
    have hr2 : r[s]? = some _ := List.getElem?_eq_getElem (by omega)
    rw [hp] at e
    rw [hr, hr2, h s t _ _ _ e hp hr2 hr]
  · intro h i j x y z hi hj yi zj
    have li := (List.getElem?_eq_some_iff.mp hi).1
    have lj := (List.getElem?_eq_some_iff.mp hj).1
    rcases Nat.lt_trichotomy i j with c | c | c
    · have := h j lj i c (by rw [hi, hj])
      rw [yi, zj] at this
      exact Option.some.inj this
    · subst c
      rw [yi] at zj
      exact Option.some.inj zj
    · have := h i li j c (by rw [hi, hj])
      rw [yi, zj] at this
      exact (Option.some.inj this).symm
def spLFiner : Sp := fun vs H Q _ => ∃ a b p r, vs = [.ref a, .ref b] ∧ TI H a p ∧ TI H b r ∧ p.length ≤ 60 ∧ p.length = r.length ∧ ∀ H' c, Same H H' → (c = true ↔ Finer p r) → Q (.bl c) H'
end
end KQ
namespace KQ
open PySem PySem.Spec PyProof.Rows L2 KR KM StX
section
variable {P : Program} {w : World} {K : PySem.W.Frag} {mg : Str → Option Value} {base : Heap}
/-- tuples of whole numbers, in their order -/
def Its (H : Hp) (ts : List Addr) (xss : List (List Int)) : Prop := ts.length = xss.length ∧ ∀ (i : Nat) (t : Addr), ts[i]? = some t → ∃ xs, xss[i]? = some xs ∧ TI H t xs
theorem Its.mono {H H' : Hp} {ts : List Addr} {xss : List (List Int)} (h : Its H ts xss) (s : Same H H') : Its H' ts xss := ⟨h.1, fun i t ht => let ⟨xs, a, b⟩ := h.2 i t ht; ⟨xs, a, b.mono s⟩⟩
theorem Its.put {H : Hp} {ts : List Addr} {xss : List (List Int)} {L : Addr} {xs : List V} {o : HO} (h : Its H ts xss) (e : H L = some (.lst xs)) : Its (upd H L o) ts xss := ⟨h.1, fun i t ht => by
  obtain ⟨ys, a, b⟩ := h.2 i t ht
  refine ⟨ys, a, ?_⟩
  have b' : H t = some (.tup (ys.map V.int)) := b
  show upd H L o t = _
  rw [upd_ne (fun q => by rw [q, e] at b'; cases b')]
  exact b'⟩
theorem Its.app {H : Hp} {ts us : List Addr} {xss yss : List (List Int)} (h : Its H ts xss) (g : Its H us yss) : Its H (ts ++ us) (xss ++ yss) := by
  refine ⟨by rw [List.length_append, List.length_append, h.1, g.1], fun i t ht => ?_⟩
  by_cases hi : i < ts.length
  · rw [List.getElem?_append_left hi] at ht
    obtain ⟨xs, a, b⟩ := h.2 i t ht
    exact ⟨xs, by rw [List.getElem?_append_left (by rw [← h.1]; exact hi)]; exact a, b⟩
  · rw [List.getElem?_append_right (by omega)] at ht
    obtain ⟨xs, a, b⟩ := g.2 _ t ht
    refine ⟨xs, ?_, b⟩
    rw [List.getElem?_append_right (by rw [← h.1]; omega), ← h.1]
    exact a
theorem Its.nil {H : Hp} : Its H [] [] := ⟨rfl, fun i t ht => by simp at ht⟩
theorem Its.one {H : Hp} {t : Addr} {xs : List Int} (h : TI H t xs) : Its H [t] [xs] := ⟨rfl, fun i u hu => by
  match i, hu with
  | 0, hu =>
    obtain rfl : t = u := Option.some.inj hu
    exact ⟨xs, rfl, h⟩
  | i + 1, hu => simp at hu⟩
theorem Its.lt {H : Hp} {l : Addr} {ts : List Addr} {xss : List (List Int)} (h : Its H ts xss) (e : H l = some (.lst (ts.map V.ref))) : LT H l xss := ⟨ts, e, h.1, h.2⟩
abbrev s__law_partings : Stmt := topS 41
theorem sc__law_partings : FnScope ["many", "rows", "turn", "longer", "row", "block"] ["many"] (defScope s__law_partings) := ⟨rfl, rfl, rfl, by decide +kernel, rfl, by decide +kernel, by decide +kernel⟩
def spLParts : Sp := fun vs H Q _ => ∃ n : Nat, vs = [.int ((n + 1 : Nat) : Int)] ∧ n < 8 ∧ ∀ H' l, Same H H' → LT H' l (allP n) → Q (.ref l) H'
theorem ok_lparts (D : DefAt K mg "_law_partings" s__law_partings) (T : Bt mg) : Use P w K mg base "_law_partings" 1 ["many"] spLParts := by
  refine use_of D (fun f fd F => F.ok sc__law_partings (fun vs H Q E h => ?_) (fun cdv A outer s H vs Q E hr h => ?_)) (fun _ _ _ _ _ _ us hl => match us, hl with | [_], _ => rfl)
  · obtain ⟨n, rfl, _⟩ := h
    rfl
  · obtain ⟨n, rfl, hn, q⟩ := h
    refine ⟨_, (pss_cons (ps_set (i := 1) sc__law_partings.nd rfl (Or.inl rfl) (pe_lst (pa_cons (pe_tup (pa_cons pe_int pa_nil)) pa_nil)))
      (pss_cons (ps_for PassesOwn.never rfl (pi_range1 (by rfl) T.range (pa_cons (pe_op op_sub (pv 0) pe_int) pa_nil)) (pg_name (i := 2) sc__law_partings.nd rfl (Or.inl rfl))
      (pss_cons (ps_set (i := 3) sc__law_partings.nd rfl (Or.inl rfl) (pe_lst pa_nil))
      (pss_cons (ps_for PassesOwn.never rfl (k_list (K := K) rfl (pv 1)) (pg_name (i := 4) sc__law_partings.nd rfl (Or.inr rfl))
      (pss_one (ps_expr (k_bm (K := K) rfl PySem.F.plainAttrs_list PySem.F.slot_list_extend PySem.F.type_list_extend mt_extend (pv 3) (pa_cons (pe_lc (own := [("block", 5)]) rfl sc__law_partings.nd (pi_range1 (by rfl) T.range (pa_cons (pe_op op_add (pe_callB (k_maxT (K := K) rfl rfl hr.units) (by rfl) T.max (by decide +kernel) (pa_cons (pv 4) pa_nil)) pe_int) pa_nil)) (blkOk_by (N := ["many", "rows", "turn", "longer", "row", "block"]) (sc := defScope s__law_partings) (by decide +kernel)) (fun _ _ _ _ _ => (pg_name (i := 5) sc__law_partings.nd rfl (Or.inl rfl))) (fun _ _ _ _ _ => pts_nil) (fun _ _ _ _ _ => (pe_op (k_catT (K := K) rfl) (pv 4) (pe_tup (pa_cons (pv 5) pa_nil))))) pa_nil)))))
      (pss_one (ps_set (i := 1) sc__law_partings.nd rfl (Or.inl rfl) (pv 3))))))
      (pss_one (ps_ret (pv 1))))), ?_⟩
    refine ⟨by show 1 ≤ sizeLine; decide, fun t0 n0 => ⟨by show 1 ≤ sizeLine; decide, fun l0 nl0 => ?_⟩⟩
    have nt0 : t0 ≠ l0 := fun e => by rw [← e, upd_same] at nl0; cases nl0
    have s0 : Same H (upd (upd H t0 (.tup [.int 0])) l0 (.lst [.ref t0])) := (same_new n0).trans (same_new nl0)
    refine ⟨_, rfl, _, _, rfl, rfl, _, rfl, by omega, by omega, for_range (lo := 0) (n := (((n + 1 : Nat) : Int) - 1).toNat)
      (fun i σ H1 => ∃ l y2 y3 y4, σ = [some (.int ((n + 1 : Nat) : Int)), some (.ref l), y2, y3, y4, none] ∧ Same H H1 ∧ ∃ ts, H1 l = some (.lst (ts.map V.ref)) ∧ Its H1 ts (allP i))
      ⟨l0, none, none, none, rfl, s0, [t0], upd_same, Its.one ?_⟩ ?_ ?_⟩
    · show upd _ l0 _ t0 = _
      rw [upd_ne nt0, upd_same]
      rfl
    · rintro i σ H1 hi ⟨l, y2, y3, y4, rfl, sm, ts, el, it⟩
      have hi8 : i + 1 < 8 := by omega
      have cnt := allP_count ⟨i + 1, hi8⟩
      have e9 : ((allP i).flatMap ext).length ≤ 4140 := cnt
      refine ⟨Nat.zero_le _, fun L nL => ⟨_, rfl, l, rfl, ⟨_, sqL (same_new nL _ _ el)⟩, for_list (K := K) (a := l) (xs := ts.map V.ref)
        (fun k σ H2 => ∃ y4, σ = [some (.int ((n + 1 : Nat) : Int)), some (.ref l), some (.int (0 + (i : Nat))), some (.ref L), y4, none] ∧ Same H1 H2 ∧ ∃ us, H2 L = some (.lst (us.map V.ref)) ∧ Its H2 us (((allP i).take k).flatMap ext))
        ⟨y4, rfl, same_new nL, [], upd_same, Its.nil⟩ (fun k σ H2 _ ⟨_, _, s2, _⟩ => sqL (s2 _ _ el)) ?_ ?_⟩⟩
      · rintro k v σ H2 hk ⟨y4, rfl, s2, us, eL, iu⟩
        obtain ⟨t, ht, rfl⟩ := map_at hk
        obtain ⟨row, hrow, et⟩ := it.2 k t ht
        obtain ⟨rg, rl⟩ := allP_ok i row (List.mem_of_getElem? hrow)
        have et2 : TI H2 t row := et.mono s2
        have rne : row ≠ [] := fun e => by rw [e] at rl; cases rl
        have rpar : Par row := ⟨rne, by omega, rg⟩
        have b0 := bc_ge 0 row
        have b1 := bc_le 0 row
        refine ⟨_, rfl, .inl ⟨rfl, _, .inl (.inl eL)⟩, ?_⟩
        refine ⟨_, rfl, t, row, rfl, et2.seq, rne, fun m hm hle => ?_⟩
        have em := par_max rpar hm hle
        refine ⟨_, _, rfl, rfl, (m + 2 : Int), rfl, by omega, by omega, fun C nC => ?_⟩
        have en : (m + 2).toNat = (bc 0 row + 1).toNat := by omega
        have fl := flat_le ext hrow
        rw [ext_len] at fl
        refine lc_range (fun j H3 => Same H2 H3 ∧ ∃ cs, H3 C = some (.lst (cs.map V.ref)) ∧ Its H3 cs ((ext row).take j)) ⟨same_new nC, [], upd_same, Its.nil⟩ ?_ ?_
        · rintro j H3 hj ⟨s3, cs, eC, ic⟩
          have hj2 : j < (bc 0 row + 1).toNat := by omega
          have et3 : TI H3 t row := et2.mono s3
          refine ⟨rfl, _, rfl, _, rfl, by show 1 ≤ sizeLine; decide, fun c nc => ?_⟩
          have et4 : TI (upd H3 c (.tup [.int (0 + (j : Nat))])) t row := et3.mono (same_new nc)
          refine ⟨t, c, _, _, rfl, rfl, et4.seq, .inl (.inl upd_same), ?_, ?_, fun e => (by cases e), fun _ d nd => ?_⟩
          · intro e
            exact rne (List.map_eq_nil_iff.mp e)
          · rw [List.length_map]
            exact Nat.le_of_lt (small_of (by show row.length + 1 ≤ _; omega))
          · have ncC : c ≠ C := fun e => by rw [e, eC] at nc; cases nc
            have eC4 : upd H3 c (.tup [.int (0 + (j : Nat))]) C = some (.lst (cs.map V.ref)) := by rw [upd_ne ncC.symm]; exact eC
            have ndC : d ≠ C := fun e => by rw [e, eC4] at nd; cases nd
            have s34 : Same H3 (upd (upd H3 c (.tup [.int (0 + (j : Nat))])) d (.tup (row.map V.int ++ [.int (0 + (j : Nat))]))) := (same_new nc).trans (same_new nd)
            have lc' := ic.1
            rw [List.length_take, ext_len] at lc'
            refine ⟨_, s34 _ _ eC, ?_, same_mut (s3.trans s34) nC, cs ++ [d], ?_, ?_⟩
            · rw [List.length_map]
              exact small_of (by omega)
            · rw [upd_same, List.map_append]
              rfl
            · rw [ext_take hj2]
              refine Its.app ((ic.mono s34).put (s34 _ _ eC)) (Its.one ?_)
              show upd _ C _ d = _
              rw [upd_ne ndC, upd_same, List.map_append, show (0 : Int) + (j : Nat) = (j : Nat) by omega]
              rfl
        · rintro H3 ⟨s3, cs, eC, ic⟩
          rw [show (ext row).take (m + 2).toNat = ext row from List.take_of_length_le (by rw [ext_len]; omega)] at ic
          have l1 := ic.1
          have l2 := iu.1
          rw [ext_len] at l1
          have eL3 := s3 _ _ eL
          have nCL : C ≠ L := fun e => by rw [e, eL] at nC; cases nC
          refine ⟨L, C, _, _, rfl, rfl, eL3, eC, ?_, some (.ref t), rfl, same_mut (s2.trans s3) nL, us ++ cs, ?_, ?_⟩
          · rw [List.length_map, List.length_map]
            exact Nat.le_of_lt (small_of (by omega))
          · rw [upd_same, List.map_append]
          · rw [flat_take ext hrow]
            exact ((iu.mono s3).put eL3).app (ic.put eL3)
      · rintro σ H2 ⟨y4, rfl, s2, us, eL, iu⟩
        refine ⟨_, rfl, L, some (.int (0 + (i : Nat))), some (.ref L), y4, rfl, sm.trans s2, us, eL, ?_⟩
        rw [List.length_map, it.1, List.take_length] at iu
        exact iu
    · rintro σ H1 ⟨l, y2, y3, y4, rfl, sm, ts, el, it⟩
      have e : (((n + 1 : Nat) : Int) - 1).toNat = n := by omega
      rw [e] at it
      exact ⟨_, rfl, q H1 l sm (it.lt el)⟩
end
end KQ
namespace KQ
open PySem PySem.Spec PyProof.Rows L2 KR KM StX
section
variable {P : Program} {w : World} {K : PySem.W.Frag} {mg : Str → Option Value} {base : Heap}
def LabOf (L : List Int) (x : Nat) : Int := L.getD x 0
def spHung : Sp := fun vs H Q _ => ∃ a b p r, vs = [.ref a, .ref b] ∧ TI H a p ∧ TI H b r ∧ Par p ∧ Par r ∧ p.length = r.length ∧
  ∀ H' t l cl (ls : List Int), Same H H' → H' t = some (.tup [.ref l, cl]) → H' l = some (.lst (ls.map V.int)) → ls.length = (bc 0 p + bc 0 r).toNat →
    (∀ x y, x < ls.length → y < ls.length → (LabOf ls x = LabOf ls y ↔ glue (tiesOf p r) x y)) → Q (.ref t) H'
end
end KQ
namespace KQ
open PySem PySem.Spec PyProof.Rows L2 KR KM
/-- lists of one kernel number alike -/
theorem num_congr {α β : Type} [DecidableEq α] [DecidableEq β] {xs : List α} {ys : List β} (hl : ys.length = xs.length)
    (h : ∀ (i j : Nat) (x y : α) (u v : β), xs[i]? = some x → xs[j]? = some y → ys[i]? = some u → ys[j]? = some v → (x = y ↔ u = v)) : num xs = num ys := by
  refine num_is (by rw [num_len, hl]) (num_rg ys) fun i j x y u v hi hj ui vj => ?_
  have li := (List.getElem?_eq_some_iff.mp hi).1
  have lj := (List.getElem?_eq_some_iff.mp hj).1
  have yi : ys[i]? = some _ := List.getElem?_eq_getElem (by omega)
  have yj : ys[j]? = some _ := List.getElem?_eq_getElem (by omega)
  rw [num_ker yi yj ui vj]
  exact h i j x y _ _ hi hj yi yj
/-- ties and glue -/
theorem glue_mem {t : Nat × Nat} : ∀ {ts : List (Nat × Nat)}, t ∈ ts → glue ts t.1 t.2 := by
  intro ts
  have : ∀ n (ts : List (Nat × Nat)), ts.length = n → t ∈ ts → glue ts t.1 t.2 := by
    intro n
    induction n with
    | zero => intro ts hl ht; rw [List.eq_nil_of_length_eq_zero hl] at ht; cases ht
    | succ n ih =>
      intro ts hl ht
      have hne : ts ≠ [] := fun e => by rw [e] at hl; cases hl
      rw [← List.dropLast_concat_getLast hne] at ht ⊢
      rw [glue_snoc]
      rcases List.mem_append.mp ht with ht | ht
      · exact .inl (ih _ (by rw [List.length_dropLast, hl]; rfl) ht)
      · rw [List.mem_singleton.mp ht]
        exact .inr (.inl ⟨(glue_eqv _).refl _, (glue_eqv _).refl _⟩)
  exact this _ ts rfl
theorem glue_map {φ : Nat → Nat} : ∀ (ts : List (Nat × Nat)) (R R' : Nat → Nat → Prop), (∀ x y, R' (φ x) (φ y) ↔ R x y) →
    ∀ x y, (ts.map fun t => (φ t.2, φ t.1)).foldl (fun R t => J R t.1 t.2) R' (φ x) (φ y) ↔ ts.foldl (fun R t => J R t.1 t.2) R x y
  | [], R, R', h, x, y => h x y
  | t :: ts, R, R', h, x, y => by
    refine glue_map ts (J R t.1 t.2) (J R' (φ t.2) (φ t.1)) (fun a b => ?_) x y
    unfold J
    rw [h, h, h, h, h]
    constructor
    · rintro (q | q | q)
      · exact .inl q
      · exact .inr (.inr q)
      · exact .inr (.inl q)
    · rintro (q | q | q)
      · exact .inl q
      · exact .inr (.inr q)
      · exact .inr (.inl q)
theorem zip_swap : ∀ (p r : List Int), r.zip p = (p.zip r).map fun q => (q.2, q.1)
  | [], [] => rfl
  | [], _ :: _ => rfl
  | _ :: _, [] => rfl
  | a :: p, b :: r => by
    rw [List.zip_cons_cons, List.zip_cons_cons, List.map_cons, zip_swap p r]
section
variable {p r : List Int}
theorem zip_at {i : Nat} {x y : Int} (hx : p[i]? = some x) (hy : r[i]? = some y) : (p.zip r)[i]? = some (x, y) := by
  rw [List.getElem?_zip_eq_some]
  exact ⟨hx, hy⟩
theorem tie_at {i : Nat} {x y : Int} (hx : p[i]? = some x) (hy : r[i]? = some y) : glue (tiesOf p r) x.toNat (bc 0 p + y).toNat :=
  glue_mem (t := (x.toNat, (bc 0 p + y).toNat)) (List.mem_of_getElem? (ties_at hx hy))
/-- the blocks of the one and of the other, named the other way about -/
def flip (P R x : Nat) : Nat := if x < P then R + x else if x < P + R then x - P else x
theorem flip_inj {P R x y : Nat} : flip P R x = flip P R y ↔ x = y := by
  unfold flip
  split <;> split <;> (try split) <;> (try split) <;> omega
theorem glue_flip (hp : Rg 0 p) (hr : Rg 0 r) (x y : Nat) :
    glue (tiesOf r p) (flip (bc 0 p).toNat (bc 0 r).toNat x) (flip (bc 0 p).toNat (bc 0 r).toNat y) ↔ glue (tiesOf p r) x y := by
  have e : tiesOf r p = (tiesOf p r).map fun t => (flip (bc 0 p).toNat (bc 0 r).toNat t.2, flip (bc 0 p).toNat (bc 0 r).toNat t.1) := by
    unfold tiesOf
    rw [List.map_map, zip_swap p r, List.map_map]
    refine List.map_congr_left fun q hq => ?_
    have h1 := (rg_mem 0 p (Int.le_refl _) hp).1 q.1 (List.of_mem_zip hq).1
    have h2 := (rg_mem 0 r (Int.le_refl _) hr).1 q.2 (List.of_mem_zip hq).2
    have e1 : flip (bc 0 p).toNat (bc 0 r).toNat (bc 0 p + q.2).toNat = q.2.toNat := by
      unfold flip
      rw [if_neg (by omega), if_pos (by omega)]
      omega
    have e2 : flip (bc 0 p).toNat (bc 0 r).toNat q.1.toNat = (bc 0 r + q.1).toNat := by
      unfold flip
      rw [if_pos (by omega)]
      omega
    show (q.2.toNat, (bc 0 r + q.1).toNat) = (_, _)
    rw [e1, e2]
  rw [e]
  exact glue_map (tiesOf p r) Eq Eq (fun _ _ => flip_inj) x y
/-- above of the one and the other, either way -/
theorem above_flip (hp : Rg 0 p) (hr : Rg 0 r) (hl : p.length = r.length) {L L' : Nat → Int} (h : ∀ x y, L x = L y ↔ glue (tiesOf p r) x y) (h' : ∀ x y, L' x = L' y ↔ glue (tiesOf r p) x y) :
    num (r.map fun b => L' b.toNat) = num (p.map fun b => L b.toNat) := by
  refine num_congr (by rw [List.length_map, List.length_map, hl]) fun i j x y u v hx hy hu hv => ?_
  obtain ⟨x, hx', rfl⟩ := map_at hx
  obtain ⟨y, hy', rfl⟩ := map_at hy
  obtain ⟨u, hu', rfl⟩ := map_at hu
  obtain ⟨v, hv', rfl⟩ := map_at hv
  rw [h, h']
  have a1 := (rg_mem 0 r (Int.le_refl _) hr).1 x (List.mem_of_getElem? hx')
  have a2 := (rg_mem 0 r (Int.le_refl _) hr).1 y (List.mem_of_getElem? hy')
  have f : ∀ z : Int, 0 ≤ z → z < bc 0 r → flip (bc 0 p).toNat (bc 0 r).toNat (bc 0 p + z).toNat = z.toNat := by
    intro z z0 z1
    have := bc_ge 0 p
    unfold flip
    rw [if_neg (by omega), if_pos (by omega)]
    omega
  rw [← f x a1.1 a1.2, ← f y a2.1 a2.2, glue_flip hp hr]
  have E := glue_eqv (tiesOf p r)
  have t1 := tie_at hu' hx'
  have t2 := tie_at hv' hy'
  constructor
  · intro q
    exact E.trans _ _ _ t1 (E.trans _ _ _ q (E.symm _ _ t2))
  · intro q
    exact E.trans _ _ _ (E.symm _ _ t1) (E.trans _ _ _ q t2)
/-- above by labels -/
theorem above_labels (hp : Rg 0 p) {L : Nat → Int} {ls : List Int} (hlen : bc 0 p ≤ ls.length) (h : ∀ x y, L x = L y ↔ glue (tiesOf p r) x y)
    (hg : ∀ x y, x < ls.length → y < ls.length → (LabOf ls x = LabOf ls y ↔ glue (tiesOf p r) x y)) : num (p.map fun b => LabOf ls b.toNat) = num (p.map fun b => L b.toNat) := by
  refine num_congr (by rw [List.length_map, List.length_map]) fun i j x y u v hx hy hu hv => ?_
  obtain ⟨x, hx', rfl⟩ := map_at hx
  obtain ⟨y, hy', rfl⟩ := map_at hy
  obtain ⟨u, hu', rfl⟩ := map_at hu
  obtain ⟨v, hv', rfl⟩ := map_at hv
  rw [hx'] at hu'
  rw [hy'] at hv'
  obtain rfl := Option.some.inj hu'
  obtain rfl := Option.some.inj hv'
  have a1 := (rg_mem 0 p (Int.le_refl _) hp).1 x (List.mem_of_getElem? hx')
  have a2 := (rg_mem 0 p (Int.le_refl _) hp).1 y (List.mem_of_getElem? hy')
  rw [hg x.toNat y.toNat (by omega) (by omega), h]
theorem num_at {α : Type} [DecidableEq α] {xs : List α} {i j : Nat} {x y : α} {u v : Int} (hi : xs[i]? = some x) (hj : xs[j]? = some y) (ui : (num xs)[i]? = some u) (vj : (num xs)[j]? = some v) (e : x = y) : u = v :=
  (num_ker hi hj ui vj).mpr e
theorem at_some {α : Type} {xs : List α} {i : Nat} (h : i < xs.length) : ∃ x, xs[i]? = some x := ⟨_, List.getElem?_eq_getElem h⟩
theorem finer_above1 {L : Nat → Int} : Finer p (num (p.map fun b => L b.toNat)) := by
  intro i j x y z hi hj yi zj
  exact num_at (at_map (f := fun b : Int => L b.toNat) hi) (at_map hj) yi zj rfl
theorem finer_above2 (hl : p.length = r.length) {L : Nat → Int} (h : ∀ x y, L x = L y ↔ glue (tiesOf p r) x y) : Finer r (num (p.map fun b => L b.toNat)) := by
  intro i j x y z hi hj yi zj
  have li := (List.getElem?_eq_some_iff.mp hi).1
  have lj := (List.getElem?_eq_some_iff.mp hj).1
  obtain ⟨u, hu⟩ := at_some (xs := p) (i := i) (by omega)
  obtain ⟨v, hv⟩ := at_some (xs := p) (i := j) (by omega)
  refine num_at (at_map (f := fun b : Int => L b.toNat) hu) (at_map hv) yi zj ((h _ _).mpr ?_)
  have E := glue_eqv (tiesOf p r)
  exact E.trans _ _ _ (tie_at hu hi) (E.symm _ _ (tie_at hv hj))
theorem finer_below1 (hl : p.length = r.length) : Finer (num (p.zip r)) p := by
  intro i j x y z hi hj yi zj
  have li := (List.getElem?_eq_some_iff.mp yi).1
  have lj := (List.getElem?_eq_some_iff.mp zj).1
  obtain ⟨u, hu⟩ := at_some (xs := r) (i := i) (by omega)
  obtain ⟨v, hv⟩ := at_some (xs := r) (i := j) (by omega)
  have := (num_ker (zip_at yi hu) (zip_at zj hv) hi hj).mp rfl
  exact (Prod.mk.inj this).1
theorem finer_below2 (hl : p.length = r.length) : Finer (num (p.zip r)) r := by
  intro i j x y z hi hj yi zj
  have li := (List.getElem?_eq_some_iff.mp yi).1
  have lj := (List.getElem?_eq_some_iff.mp zj).1
  obtain ⟨u, hu⟩ := at_some (xs := p) (i := i) (by omega)
  obtain ⟨v, hv⟩ := at_some (xs := p) (i := j) (by omega)
  have := (num_ker (zip_at hu yi) (zip_at hv zj) hi hj).mp rfl
  exact (Prod.mk.inj this).2
end
/-- codes of blocks -/
def Code (b v : Int) : Prop := ∃ d s : Int, 0 ≤ d ∧ (s = 1 ∨ s = -1) ∧ v = (d * 61 + b) * s
theorem code_inj {b b' v : Int} (h : Code b v) (h' : Code b' v) (b0 : 0 ≤ b) (b1 : b < 61) (c0 : 0 ≤ b') (c1 : b' < 61) : b = b' := by
  obtain ⟨d, s, d0, hs, e⟩ := h
  obtain ⟨d', s', d0', hs', e'⟩ := h'
  rcases hs with rfl | rfl <;> rcases hs' with rfl | rfl <;> omega
theorem num_codes {p xs : List Int} (hp : Rg 0 p) (p60 : p.length ≤ 60) (hl : xs.length = p.length) (h : ∀ (i : Nat) (x v : Int), p[i]? = some x → xs[i]? = some v → Code x v)
    (hf : ∀ (i j : Nat) (x u v : Int), p[i]? = some x → p[j]? = some x → xs[i]? = some u → xs[j]? = some v → u = v) : num xs = p := by
  refine num_is hl.symm hp fun i j x y u v hx hy hu hv => ⟨fun e => ?_, fun e => ?_⟩
  · have a1 := (rg_mem 0 p (Int.le_refl _) hp).1 u (List.mem_of_getElem? hu)
    have a2 := (rg_mem 0 p (Int.le_refl _) hp).1 v (List.mem_of_getElem? hv)
    have g := bc_le 0 p
    subst e
    exact code_inj (h i u x hu hx) (h j v x hv hy) a1.1 (by omega) a2.1 (by omega)
  · subst e
    exact hf i j u x y hu hv hx hy
end KQ
namespace KM
/-! ### heads that lead to roots, in any order -/
structure Wood (hs : List Nat) (ρ d : Nat → Nat) : Prop where
  root : ∀ x, up hs (ρ x) = ρ x
  self : ∀ x, up hs x = x → ρ x = x
  step : ∀ x, ρ (up hs x) = ρ x
  down : ∀ x, up hs x ≠ x → d (up hs x) < d x
  lt : ∀ x, x < hs.length → up hs x < hs.length
  rlt : ∀ x, x < hs.length → ρ x < hs.length
theorem wood_range (n : Nat) : Wood (List.range n) id (fun _ => 0) :=
  ⟨fun x => up_range n x, fun _ _ => rfl, fun x => up_range n x, fun x h => absurd (up_range n x) h, fun x h => by rw [up_range]; exact h, fun _ h => h⟩
theorem wood_unite {hs : List Nat} {ρ d : Nat → Nat} (w : Wood hs ρ d) {a b : Nat} (ha : a < hs.length) (hb : b < hs.length) (ea : up hs a = a) (eb : up hs b = b) (ne : a ≠ b) :
    Wood (hs.set b a) (fun y => if ρ y = b then a else ρ y) (fun y => d y + if ρ y = b then d a + 1 else 0) := by
  have ra := w.self a ea
  have rb := w.self b eb
  refine ⟨fun x => ?_, fun x => ?_, fun x => ?_, fun x => ?_, fun x hx => ?_, fun x hx => ?_⟩
  · show up (hs.set b a) (if ρ x = b then a else ρ x) = if ρ x = b then a else ρ x
    rw [up_set hb]
    by_cases e : ρ x = b
    · rw [if_pos e, if_neg ne, ea]
    · rw [if_neg e, if_neg e, w.root]
  · rw [up_set hb]
    show _ → (if ρ x = b then a else ρ x) = x
    by_cases e : x = b
    · rw [if_pos e]
      intro z
      exact absurd (z.trans e) ne
    · rw [if_neg e]
      intro z
      rw [w.self x z, if_neg e]
  · show (if ρ (up (hs.set b a) x) = b then a else ρ (up (hs.set b a) x)) = if ρ x = b then a else ρ x
    rw [up_set hb]
    by_cases e : x = b
    · subst e
      rw [if_pos rfl, ra, if_neg ne, rb, if_pos rfl]
    · rw [if_neg e, w.step]
  · show _ → d (up (hs.set b a) x) + (if ρ (up (hs.set b a) x) = b then d a + 1 else 0) < d x + (if ρ x = b then d a + 1 else 0)
    rw [up_set hb]
    by_cases e : x = b
    · subst e
      rw [if_pos rfl, ra, if_neg ne, rb, if_pos rfl]
      intro _
      omega
    · rw [if_neg e, w.step]
      intro z
      have := w.down x z
      omega
  · rw [List.length_set] at hx ⊢
    rw [up_set hb]
    split
    · exact ha
    · exact w.lt x hx
  · rw [List.length_set] at hx ⊢
    show (if ρ x = b then a else ρ x) < hs.length
    split
    · exact ha
    · exact w.rlt x hx
theorem wood_tie {ρ : Nat → Nat} {R : Nat → Nat → Prop} {a b : Nat} (h : ∀ x y, ρ x = ρ y ↔ R x y) (x y : Nat) :
    ((if ρ x = ρ b then ρ a else ρ x) = if ρ y = ρ b then ρ a else ρ y) ↔ J R a b x y := by
  unfold J
  rw [← h x y, ← h x a, ← h b y, ← h x b, ← h a y]
  generalize ρ x = rx
  generalize ρ y = ry
  generalize ρ a = ra
  generalize ρ b = rb
  split <;> split <;> omega
end KM
namespace KQ
open PySem PySem.Spec PyProof.Rows L2 KR KM StX
section
variable {P : Program} {w : World} {K : PySem.W.Frag} {mg : Str → Option Value} {base : Heap}
/-- no door closes a ring with doors ahead of it -/
def RingAt (p r : List Int) (i : Nat) : Prop := ∃ x y, p[i]? = some x ∧ r[i]? = some y ∧ glue ((tiesOf p r).take i) x.toNat (bc 0 p + y).toNat
def NoRing (p r : List Int) : Prop := ∀ i, ¬ RingAt p r i
theorem ring_lt {p r : List Int} {i : Nat} (h : RingAt p r i) : i < p.length := by
  obtain ⟨x, y, hx, _⟩ := h
  exact (List.getElem?_eq_some_iff.mp hx).1
abbrev s_has_no_ring : Stmt := topS 22
theorem sc_has_no_ring : FnScope ["parting", "other", "many", "heads", "low", "high"] ["parting", "other"] (defScope s_has_no_ring) := ⟨rfl, rfl, rfl, by decide +kernel, rfl, by decide +kernel, by decide +kernel⟩
def spNoRing : Sp := fun vs H Q _ => ∃ a b p r, vs = [.ref a, .ref b] ∧ TI H a p ∧ TI H b r ∧ Par p ∧ Par r ∧ p.length = r.length ∧
  ∀ H' c, Same H H' → (c = true ↔ NoRing p r) → Q (.bl c) H'
theorem ok_has_no_ring (D : DefAt K mg "has_no_ring" s_has_no_ring) (T : Bt mg) (u_block_count : Use P w K mg base "block_count" 1 ["parting"] spCount) : Use P w K mg base "has_no_ring" 3 ["parting", "other"] spNoRing := by
  refine use_of D (fun f fd F => F.ok sc_has_no_ring (fun vs H Q E h => ?_) (fun cdv A outer s H vs Q E hr h => ?_)) (fun _ _ _ _ _ _ us hl => match us, hl with | [_, _], _ => rfl)
  · obtain ⟨a, b, p, r, rfl, _⟩ := h
    rfl
  · obtain ⟨a, b, p, r, rfl, hp, hb, par, parb, hl, q⟩ := h
    refine ⟨_, (pss_cons (ps_set (i := 2) sc_has_no_ring.nd rfl (Or.inl rfl) (pe_use u_block_count (by decide) hr (by rfl) (pa_cons (pv 0) pa_nil)))
      (pss_cons (ps_set (i := 3) sc_has_no_ring.nd rfl (Or.inl rfl) (pe_listRg rfl (by rfl) T.list (prg_1 (by rfl) T.range (pe_op op_add (pv 2) (pe_use u_block_count (by decide) hr (by rfl) (pa_cons (pv 1) pa_nil))))))
      (pss_cons (ps_for PassesOwn.never rfl (k_zip (K := K) rfl (by rfl) T.zip (pa_cons (pv 0) (pa_cons (pv 1) pa_nil))) (pg_tup rfl (pgs_cons (pg_name (i := 4) sc_has_no_ring.nd rfl (Or.inl rfl)) (pgs_cons (pg_name (i := 5) sc_has_no_ring.nd rfl (Or.inl rfl)) pgs_nil)))
      (pss_cons (ps_aug (i := 5) sc_has_no_ring.nd rfl (Or.inl rfl) (pv 2) ip_add)
      (pss_cons (ps_while PassesOwn.never (pt_cmpR op_ne (pe_ix (k_ixl (K := K) rfl) (pv 3) (pv 4) (fun _ _ => rfl)) (pv 4) (nomark _)) (pss_one (ps_set (i := 4) sc_has_no_ring.nd rfl (Or.inl rfl) (pe_ix (k_ixl (K := K) rfl) (pv 3) (pv 4) (fun _ _ => rfl)))))
      (pss_cons (ps_while PassesOwn.never (pt_cmpR op_ne (pe_ix (k_ixl (K := K) rfl) (pv 3) (pv 5) (fun _ _ => rfl)) (pv 5) (nomark _)) (pss_one (ps_set (i := 5) sc_has_no_ring.nd rfl (Or.inl rfl) (pe_ix (k_ixl (K := K) rfl) (pv 3) (pv 5) (fun _ _ => rfl)))))
      (pss_cons (ps_if (pt_cmpR op_eq (pv 4) (pv 5) (nomark _)) (pss_one (ps_ret pe_bl)) pss_nil)
      (pss_one (ps_asg (pv 4) (pg_sub (pv 3) (pv 5) set_list))))))))
      (pss_one (ps_ret pe_bl))))), ?_⟩
    have g0 := bc_ge 0 p
    have g1 := bc_le 0 p
    have g2 := par.le
    have g3 := bc_ge 0 r
    have g4 := bc_le 0 r
    have g5 := parb.le
    refine ⟨_, rfl, a, p, rfl, hp, par, ?_⟩
    refine ⟨_, rfl, _, rfl, b, r, rfl, hb, parb, bc 0 p, bc 0 r, rfl, rfl, _, rfl, RgOk.of_le (by omega) (by omega) (by omega) (by omega), fun l nl => ?_⟩
    have s2 : Same H (upd H l (.lst (rgV 0 (bc 0 p + bc 0 r)))) := same_new nl
    have el2 : (upd H l (.lst (rgV 0 (bc 0 p + bc 0 r)))) l = some (.lst (hv (List.range (bc 0 p + bc 0 r).toNat))) := by
      rw [upd_same, ← rgV_hv, show (((bc 0 p + bc 0 r).toNat : Nat) : Int) = bc 0 p + bc 0 r by omega]
    refine ⟨_, rfl, _, rfl, a, b, _, _, rfl, .inr ⟨(hp.mono s2).seq, (hb.mono s2).seq, ?_⟩⟩
    refine RZ.for_zipT (K := K) (a := a) (b := b) (xs := p.map V.int) (ys := r.map V.int) (by rw [List.length_map, List.length_map, hl])
      (fun i σ H3 => ∃ y4 y5, σ = [some (.ref a), some (.ref b), some (.int (bc 0 p)), some (.ref l), y4, y5] ∧ Same H H3 ∧ (∀ j, j < i → ¬ RingAt p r j) ∧ ∃ hs ρ d, H3 l = some (.lst (hv hs)) ∧ Wood hs ρ d ∧ hs.length = (bc 0 p + bc 0 r).toNat ∧
        ∀ x y, ρ x = ρ y ↔ glue ((tiesOf p r).take i) x y)
      ⟨none, none, rfl, s2, fun j hj => absurd hj (Nat.not_lt_zero _), List.range (bc 0 p + bc 0 r).toNat, _, _, el2, wood_range _, List.length_range, fun x y => Iff.rfl⟩
      (fun i σ H3 ⟨_, _, _, sm, _⟩ => ⟨(hp.mono sm).seq, (hb.mono sm).seq⟩) ?_ ?_
    · rintro i v1 v2 T1 σ H3 hi1 hi2 ⟨y4, y5, rfl, sm, nr, hs, ρ, d, el3, wd, hlen, hgl⟩ hT
      obtain ⟨x, hx, rfl⟩ := map_at hi1
      obtain ⟨y, hy, rfl⟩ := map_at hi2
      obtain ⟨x0, x1⟩ := (rg_mem 0 p (Int.le_refl _) par.rg).1 x (List.mem_of_getElem? hx)
      obtain ⟨y0, y1⟩ := (rg_mem 0 r (Int.le_refl _) parb.rg).1 y (List.mem_of_getElem? hy)
      refine ⟨T1, _, rfl, .inl (.inl upd_same), rfl, _, _, rfl, _, [], rfl, rfl, ?_⟩
      have el4 : (upd H3 T1 (.tup [.int x, .int y])) l = some (.lst (hv hs)) := by rw [upd_ne (ne_of_none el3 hT)]; exact el3
      refine ⟨_, rfl, _, rfl, y, bc 0 p, rfl, rfl, ?_⟩
      have hyh : y + bc 0 p = (((bc 0 p + y).toNat : Nat) : Int) := by omega
      have hxh : x = ((x.toNat : Nat) : Int) := by omega
      generalize hX : x.toNat = xn at hxh
      generalize hY : (bc 0 p + y).toNat = yn at hyh
      have hxn : xn < hs.length := by omega
      have hyn : yn < hs.length := by omega
      refine ⟨fun g σ H4 => ∃ z : Nat, σ = [some (.ref a), some (.ref b), some (.int (bc 0 p)), some (.ref l), some (.int ((z : Nat) : Int)), some (.int ((yn : Nat) : Int))] ∧ g = d z ∧ ρ z = ρ xn ∧ z < hs.length ∧
        H4 = upd H3 T1 (.tup [.int x, .int y]), ⟨_, xn, by rw [← hxh, ← hyh]; rfl, rfl, rfl, hxn, rfl⟩, ?_⟩
      rintro g σ H4 ⟨z, rfl, rfl, hz, hzl, rfl⟩
      have az := hv_at hzl
      refine ⟨_, rfl, _, rfl, l, hv hs, ((z : Nat) : Int), .int ((up hs z : Nat) : Int), rfl, rfl, .inl (.inl el4), atI_of rfl az, _, rfl, rfl, _, rfl, ite2 (fun e => ?_) (fun e => ?_)⟩
      · have ne : up hs z ≠ z := by
          intro e2
          rw [e2, decide_eq_true rfl] at e
          cases e
        refine ⟨_, fun σ' H' n => n, ?_⟩
        refine ⟨_, rfl, _, rfl, l, hv hs, ((z : Nat) : Int), .int ((up hs z : Nat) : Int), rfl, rfl, .inl (.inl el4), atI_of rfl az, ?_⟩
        exact ⟨d (up hs z), wd.down z ne, up hs z, rfl, rfl, by rw [wd.step]; exact hz, wd.lt z hzl, rfl⟩
      · have ez : up hs z = z := by
          apply Classical.byContradiction
          intro ne
          refine e ?_
          rw [decide_eq_false (fun z => ne (by have := V.int.inj z; omega))]
          rfl
        have rz := wd.self z ez
        refine ⟨fun g σ H4 => ∃ u : Nat, σ = [some (.ref a), some (.ref b), some (.int (bc 0 p)), some (.ref l), some (.int ((z : Nat) : Int)), some (.int ((u : Nat) : Int))] ∧ g = d u ∧ ρ u = ρ yn ∧ u < hs.length ∧
          H4 = upd H3 T1 (.tup [.int x, .int y]), ⟨_, yn, rfl, rfl, rfl, hyn, rfl⟩, ?_⟩
        rintro g σ H4 ⟨u, rfl, rfl, hu, hul, rfl⟩
        have au := hv_at hul
        refine ⟨_, rfl, _, rfl, l, hv hs, ((u : Nat) : Int), .int ((up hs u : Nat) : Int), rfl, rfl, .inl (.inl el4), atI_of rfl au, _, rfl, rfl, _, rfl, ite2 (fun e => ?_) (fun e => ?_)⟩
        · have ne : up hs u ≠ u := by
            intro e2
            rw [e2, decide_eq_true rfl] at e
            cases e
          refine ⟨_, fun σ' H' n => n, ?_⟩
          refine ⟨_, rfl, _, rfl, l, hv hs, ((u : Nat) : Int), .int ((up hs u : Nat) : Int), rfl, rfl, .inl (.inl el4), atI_of rfl au, ?_⟩
          exact ⟨d (up hs u), wd.down u ne, up hs u, rfl, rfl, by rw [wd.step]; exact hu, wd.lt u hul, rfl⟩
        · have eu : up hs u = u := by
            apply Classical.byContradiction
            intro ne
            refine e ?_
            rw [decide_eq_false (fun z => ne (by have := V.int.inj z; omega))]
            rfl
          have ru := wd.self u eu
          refine ⟨_, rfl, _, rfl, rfl, _, rfl, ite2 (fun e2 => ?_) (fun e2 => ?_)⟩
          · have e3 : z = u := by have := V.int.inj (of_decide_eq_true e2); omega
            refine q _ false (fun c v hc => same_new hT c v (sm c v hc)) ⟨fun z => absurd z (by decide), fun nring => ?_⟩
            refine absurd ⟨x, y, hx, hy, (hgl _ _).mp ?_⟩ (nring i)
            rw [hX, hY, ← hz, ← hu, e3]
          · have e3 : z ≠ u := fun e4 => e2 (decide_eq_true (by rw [e4]))
            refine ⟨_, rfl, _, rfl, _, rfl, l, _, _, _, rfl, rfl, el4, ixN_nat rfl (by rw [hv_len]; exact hul), ?_⟩
            rw [hv_set]
            refine ⟨_, _, rfl, fun c v hc => by rw [upd_ne (ne_of_none hc nl)]; exact same_new hT c v (sm c v hc), fun j hj => ?_, hs.set u z, _, _, upd_same, wood_unite wd hzl hul ez eu e3, by rw [List.length_set]; exact hlen, fun v1 v2 => ?_⟩
            · by_cases ej : j = i
              · rintro ⟨x', y', hx', hy', hg'⟩
                subst ej
                rw [hx] at hx'
                rw [hy] at hy'
                obtain rfl := Option.some.inj hx'
                obtain rfl := Option.some.inj hy'
                have := (hgl _ _).mpr hg'
                rw [hX, hY, ← hz, ← hu, rz, ru] at this
                exact e3 this
              · exact nr j (by omega)
            · rw [take_snoc (ties_at hx hy), glue_snoc]
              have := wood_tie (a := xn) (b := yn) hgl v1 v2
              rw [← hz, ← hu, rz, ru] at this
              rw [hX, hY]
              exact this
    · rintro σ H3 ⟨y4, y5, rfl, sm, nr, _⟩
      rw [List.length_map] at nr
      exact q H3 true sm ⟨fun _ i hi => nr i (ring_lt hi) hi, fun _ => rfl⟩
def Tree (p r : List Int) : Prop := bc 0 p + bc 0 r = p.length + 1 ∧ NoRing p r
def spMeets : Sp := fun vs H Q _ => ∃ a b p r, vs = [.ref a, .ref b] ∧ TI H a p ∧ TI H b r ∧ Par p ∧ Par r ∧ p.length = r.length ∧ ∀ H' c, Same H H' → (c = true ↔ Tree p r) → Q (.bl c) H'
end
end KQ
namespace KM
/-- how many unlike items -/
def dcount (xs : List Int) : Nat := (firsts xs).length
theorem sub_len {α : Type} [DecidableEq α] : ∀ {xs ys : List α}, xs.Nodup → (∀ x ∈ xs, x ∈ ys) → xs.length ≤ ys.length
  | [], _, _, _ => Nat.zero_le _
  | x :: xs, ys, h, s => by
    have hx := s x List.mem_cons_self
    rw [List.nodup_cons] at h
    have e := List.length_erase_of_mem hx
    have l := List.length_pos_of_mem hx
    have := sub_len (xs := xs) (ys := ys.erase x) h.2 fun y hy => (List.mem_erase_of_ne (fun q : y = x => h.1 (by rw [← q]; exact hy))).mpr (s y (List.mem_cons_of_mem _ hy))
    rw [List.length_cons]
    omega
theorem same_len {α : Type} [DecidableEq α] {xs ys : List α} (h : xs.Nodup) (g : ys.Nodup) (e : ∀ x, x ∈ xs ↔ x ∈ ys) : xs.length = ys.length :=
  Nat.le_antisymm (sub_len h fun x hx => (e x).mp hx) (sub_len g fun x hx => (e x).mpr hx)
/-- one of two unlike items put for the other -/
theorem dcount_merge {xs : List Int} {u v : Int} (hu : u ∈ xs) (hv : v ∈ xs) (n : u ≠ v) : dcount (xs.map fun z => if z = v then u else z) + 1 = dcount xs := by
  unfold dcount
  have hv' : v ∈ firsts xs := (mem_firsts xs).mpr hv
  have l := List.length_pos_of_mem hv'
  have e := List.length_erase_of_mem hv'
  have := same_len (firsts_nodup (xs.map fun z => if z = v then u else z)) ((firsts_nodup xs).erase v) (fun x => by
    rw [mem_firsts, (firsts_nodup xs).mem_erase_iff, mem_firsts, List.mem_map]
    constructor
    · rintro ⟨z, hz, rfl⟩
      by_cases q : z = v
      · rw [if_pos q]
        exact ⟨n, hu⟩
      · rw [if_neg q]
        exact ⟨q, hz⟩
    · rintro ⟨q, hx⟩
      exact ⟨x, hx, by rw [if_neg q]⟩)
  omega
theorem dcount_range (n : Nat) : dcount ((List.range n).map fun k => ((k : Nat) : Int)) = n := by
  unfold dcount
  have nd : ((List.range n).map fun k => ((k : Nat) : Int)).Nodup := List.pairwise_map.mpr (List.nodup_range.imp fun h e => h (by omega))
  rw [same_len (firsts_nodup _) nd fun x => mem_firsts _, List.length_map, List.length_range]
/-- lists of the same items -/
theorem dcount_same {xs ys : List Int} (h : ∀ x, x ∈ xs ↔ x ∈ ys) : dcount xs = dcount ys :=
  same_len (firsts_nodup _) (firsts_nodup _) fun x => by rw [mem_firsts, mem_firsts, h]
theorem dcount_num (xs : List Int) : ((dcount xs : Nat) : Int) = bc 0 (num xs) := (firsts_len xs).1
end KM
namespace KQ
open PySem PySem.Spec PyProof.Rows L2 KR KM StX
section
variable {P : Program} {w : World} {K : PySem.W.Frag} {mg : Str → Option Value} {base : Heap}
/-- what the door says that closes the first ring, with the doors ahead of i -/
def ClosedBy (p r : List Int) (i : Nat) (cl : V) : Prop := (cl = .non ∧ ∀ j, j < i → ¬ RingAt p r j) ∨ ∃ n : Nat, cl = .int ((n : Nat) : Int) ∧ n < i ∧ RingAt p r n ∧ ∀ j, j < n → ¬ RingAt p r j
theorem closed_next {p r : List Int} {i : Nat} {cl : V} (h : ClosedBy p r i cl) (n : ¬ RingAt p r i) : ClosedBy p r (i + 1) cl := by
  rcases h with ⟨e, h⟩ | ⟨k, e, hk, h1, h2⟩
  · refine .inl ⟨e, fun j hj => ?_⟩
    by_cases q : j = i
    · rw [q]
      exact n
    · exact h j (by omega)
  · exact .inr ⟨k, e, by omega, h1, h2⟩
def spHung2 : Sp := fun vs H Q _ => ∃ a b p r, vs = [.ref a, .ref b] ∧ TI H a p ∧ TI H b r ∧ Par p ∧ Par r ∧ p.length = r.length ∧
  ∀ H' t l cl (ls : List Int), Same H H' → H' t = some (.tup [.ref l, cl]) → H' l = some (.lst (ls.map V.int)) → ls.length = (bc 0 p + bc 0 r).toNat →
    (∀ x y, x < ls.length → y < ls.length → (LabOf ls x = LabOf ls y ↔ glue (tiesOf p r) x y)) → ClosedBy p r p.length cl → (cl = .non → dcount ls + p.length = ls.length) → (∀ x ∈ ls, 0 ≤ x ∧ x < ls.length) → Q (.ref t) H'
end
end KQ
namespace KQ
open PySem PySem.Spec PyProof.Rows L2 KR KM StX
/-- labels of blocks of the one (the first sh) and of those put on so far, i doors of the order ds being done -/
structure Met (p ds ls : List Int) (sh i q : Nat) : Prop where
  len : ls.length = sh + q
  c1 : ∀ j d x, j < i → ds[j]? = some d → p[d.toNat]? = some x → ∃ k, k < q ∧ ls[sh + k]? = ls[x.toNat]?
  c2 : ∀ b b', b < sh → b' < sh → b ≠ b' → ls[b]? = ls[b']? → ∃ k, k < q ∧ ls[sh + k]? = ls[b]?
/-- an order of all doors -/
structure Ord (ds : List Int) (n : Nat) : Prop where
  len : ds.length = n
  nd : ds.Nodup
  at_ : ∀ d ∈ ds, 0 ≤ d ∧ d < n
theorem Ord.all {ds : List Int} {n : Nat} (h : Ord ds n) {d : Int} (d0 : 0 ≤ d) (d1 : d < n) : d ∈ ds := by
  apply Classical.byContradiction
  intro hn
  have nd : (d :: ds).Nodup := List.nodup_cons.mpr ⟨hn, h.nd⟩
  have := sub_len (ys := (List.range n).map fun k => ((k : Nat) : Int)) nd fun x hx => by
    have hb : 0 ≤ x ∧ x < n := by
      rcases List.mem_cons.mp hx with rfl | hx
      · exact ⟨d0, d1⟩
      · exact h.at_ x hx
    exact List.mem_map.mpr ⟨x.toNat, List.mem_range.mpr (by omega), by omega⟩
  rw [List.length_cons, h.len, List.length_map, List.length_range] at this
  omega
theorem met_some {p ds ls : List Int} {sh i q : Nat} (par : Par p) (hsh : (sh : Int) = bc 0 p) (o : Ord ds p.length) (M : Met p ds ls sh i q) {d x own : Int} (hd : ds[i]? = some d) (hx : p[d.toNat]? = some x)
    (ho : ls[x.toNat]? = some own) (hq : ∀ k, k < q → ls[sh + k]? = some own) : dcount ls + (i + 1) ≤ p.length + 1 := by
  have him := (List.getElem?_eq_some_iff.mp hd).1
  rw [o.len] at him
  have own_in : own ∈ firsts ls := (mem_firsts ls).mpr (List.mem_of_getElem? ho)
  have e1 := List.length_erase_of_mem own_in
  have l1 := List.length_pos_of_mem own_in
  have := sub_len (xs := (firsts ls).erase own) (ys := (ds.drop (i + 1)).map fun d => ls.getD (p.getD d.toNat 0).toNat 0) ((firsts_nodup ls).erase own) fun z hz => by
    obtain ⟨zn, hz⟩ := ((firsts_nodup ls).mem_erase_iff).mp hz
    obtain ⟨b, hb⟩ := List.mem_iff_getElem?.mp ((mem_firsts ls).mp hz)
    have hbl := (List.getElem?_eq_some_iff.mp hb).1
    rw [M.len] at hbl
    have hbs : b < sh := by
      apply Classical.byContradiction
      intro hn
      have := hq (b - sh) (by omega)
      rw [show sh + (b - sh) = b by omega, hb] at this
      exact zn (Option.some.inj this)
    have hbp := (rg_mem 0 p (Int.le_refl _) par.rg).2 ((b : Nat) : Int) (by omega) (by omega)
    obtain ⟨j, hj⟩ := List.mem_iff_getElem?.mp hbp
    have hjl := (List.getElem?_eq_some_iff.mp hj).1
    obtain ⟨t, ht⟩ := List.mem_iff_getElem?.mp (o.all (d := ((j : Nat) : Int)) (by omega) (by omega))
    have htp : p[(((j : Nat) : Int)).toNat]? = some ((b : Nat) : Int) := by rw [Int.toNat_natCast]; exact hj
    have hti : i < t := by
      rcases Nat.lt_trichotomy t i with c | c | c
      · obtain ⟨k, hk, e⟩ := M.c1 t _ _ c ht htp
        rw [hq k hk, Int.toNat_natCast, hb] at e
        exact absurd (Option.some.inj e).symm zn
      · subst c
        rw [hd] at ht
        obtain rfl := Option.some.inj ht
        rw [hx] at htp
        obtain rfl := Option.some.inj htp
        rw [Int.toNat_natCast, hb] at ho
        exact absurd (Option.some.inj ho) zn
      · exact c
    refine List.mem_map.mpr ⟨((j : Nat) : Int), List.mem_iff_getElem?.mpr ⟨t - (i + 1), ?_⟩, ?_⟩
    · rw [List.getElem?_drop, show i + 1 + (t - (i + 1)) = t by omega]
      exact ht
    · rw [List.getD_eq_getElem?_getD, List.getD_eq_getElem?_getD, htp]
      show (ls[(((b : Nat) : Int)).toNat]?).getD 0 = z
      rw [Int.toNat_natCast, hb]
      rfl
  rw [List.length_map, List.length_drop, o.len] at this
  unfold dcount
  omega
theorem met_new {p ds ls : List Int} {sh i q : Nat} (hsh : ∀ x ∈ p, 0 ≤ x ∧ x < (sh : Int)) (M : Met p ds ls sh i q) {d x own : Int} (hd : ds[i]? = some d) (hx : p[d.toNat]? = some x)
    (ho : ls[x.toNat]? = some own) : Met p ds (ls ++ [own]) sh (i + 1) (q + 1) := by
  have low : ∀ k, k < sh + q → (ls ++ [own])[k]? = ls[k]? := fun k hk => List.getElem?_append_left (by rw [M.len]; exact hk)
  have top : (ls ++ [own])[sh + q]? = some own := by
    rw [List.getElem?_append_right (by rw [M.len]; exact Nat.le_refl _), M.len, Nat.sub_self]
    rfl
  refine ⟨by rw [List.length_append, M.len]; rfl, fun j e y hj he hy => ?_, fun b b' hb hb' n e => ?_⟩
  · have hys := hsh y (List.mem_of_getElem? hy)
    rw [low y.toNat (by omega)]
    by_cases c : j = i
    · subst c
      rw [hd] at he
      obtain rfl := Option.some.inj he
      rw [hx] at hy
      obtain rfl := Option.some.inj hy
      exact ⟨q, by omega, by rw [top, ho]⟩
    · obtain ⟨k, hk, e⟩ := M.c1 j e y (by omega) he hy
      exact ⟨k, by omega, by rw [low _ (by omega)]; exact e⟩
  · rw [low _ (by omega), low _ (by omega)] at e
    obtain ⟨k, hk, e⟩ := M.c2 b b' hb hb' n e
    exact ⟨k, by omega, by rw [low _ (by omega), low _ (by omega)]; exact e⟩
theorem met_glue {p ds ls : List Int} {sh i q : Nat} (hsh : ∀ x ∈ p, 0 ≤ x ∧ x < (sh : Int)) (M : Met p ds ls sh i q) {d x own two : Int} {k : Nat} (hd : ds[i]? = some d) (hx : p[d.toNat]? = some x)
    (ho : ls[x.toNat]? = some own) (hk : k < q) (ht : ls[sh + k]? = some two) (n : own ≠ two) : Met p ds (ls.map fun z => if z = two then own else z) sh (i + 1) q := by
  have mp : ∀ a, (ls.map fun z => if z = two then own else z)[a]? = (ls[a]?).map fun z => if z = two then own else z := fun a => List.getElem?_map
  have keep : ∀ a b : Nat, ls[a]? = ls[b]? → (ls.map fun z => if z = two then own else z)[a]? = (ls.map fun z => if z = two then own else z)[b]? := fun a b e => by rw [mp, mp, e]
  have tw : ∀ a : Nat, ls[a]? = some own ∨ ls[a]? = some two → (ls.map fun z => if z = two then own else z)[a]? = some own := fun a e => by
    rw [mp]
    rcases e with e | e
    · rw [e]
      show some (if own = two then own else own) = _
      rw [if_neg n]
    · rw [e]
      show some (if two = two then own else two) = _
      rw [if_pos rfl]
  refine ⟨by rw [List.length_map, M.len], fun j e y hj he hy => ?_, fun b b' hb hb' nb e => ?_⟩
  · by_cases c : j = i
    · subst c
      rw [hd] at he
      obtain rfl := Option.some.inj he
      rw [hx] at hy
      obtain rfl := Option.some.inj hy
      exact ⟨k, hk, by rw [tw _ (.inr ht), tw _ (.inl ho)]⟩
    · obtain ⟨k2, hk2, e⟩ := M.c1 j e y (by omega) he hy
      exact ⟨k2, hk2, keep _ _ e⟩
  · by_cases c : ls[b]? = ls[b']?
    · obtain ⟨k2, hk2, e2⟩ := M.c2 b b' hb hb' nb c
      exact ⟨k2, hk2, keep _ _ e2⟩
    · obtain ⟨u, hu⟩ := at_some (xs := ls) (i := b) (by rw [M.len]; omega)
      obtain ⟨v, hv⟩ := at_some (xs := ls) (i := b') (by rw [M.len]; omega)
      rw [mp, mp, hu, hv] at e
      have e : (if u = two then own else u) = (if v = two then own else v) := Option.some.inj e
      refine ⟨k, hk, ?_⟩
      rw [tw _ (.inr ht)]
      by_cases c1 : u = two
      · rw [tw b (.inr (by rw [hu, c1]))]
      · rw [if_neg c1] at e
        by_cases c2 : v = two
        · rw [if_pos c2] at e
          rw [tw b (.inl (by rw [hu, e]))]
        · rw [if_neg c2] at e
          exact absurd (by rw [hu, hv, e]) c
end KQ
namespace KQ
open PySem PySem.Spec PyProof.Rows L2 KR KM StX
theorem ints_of {vs : List V} (h : ∀ j, j < vs.length → ∃ v, vs[j]? = some (.int v)) : ∃ rs : List Int, vs = rs.map V.int := by
  induction vs with
  | nil => exact ⟨[], rfl⟩
  | cons v vs ih =>
    obtain ⟨x, hx⟩ := h 0 (by rw [List.length_cons]; omega)
    obtain rfl : v = .int x := Option.some.inj hx
    obtain ⟨rs, rfl⟩ := ih fun j hj => h (j + 1) (by rw [List.length_cons]; omega)
    exact ⟨x :: rs, rfl⟩
theorem ifs_fact {b : Bool} {t u : TS} {D : Ends} {σ : L2.St} {H : Hp} (Fact : Hp → Prop) (h1 : b = true → ∀ D : Ends, (∀ H', Fact H' → D.nx σ H') → t D σ H) (h2 : b = false → ∀ D : Ends, (∀ H', Fact H' → D.nx σ H') → u D σ H)
    (k : ∀ H', Fact H' → D.nx σ H') : if b = true then t D σ H else u D σ H := by
  cases b
  · exact h2 rfl D k
  · exact h1 rfl D k
section
variable {P : Program} {w : World} {K : PySem.W.Frag} {mg : Str → Option Value} {base : Heap}
abbrev s__law_of : Stmt := topS 39
theorem sc__law_of : FnScope ["m", "some"] ["m", "some"] (defScope s__law_of) := ⟨rfl, rfl, rfl, by decide +kernel, rfl, by decide +kernel, by decide +kernel⟩
def spOf : Sp := fun vs H Q _ => ∃ m c g b l xs, vs = [.ref m, .ref l] ∧ MS H m c g b ∧ b ≤ 1000000 ∧ H l = some (.lst (xs.map V.int)) ∧ l ≠ g ∧ xs ≠ [] ∧ xs.length ≤ 1000000 ∧
  ∀ H' x, Kept H H' m g → MS H' m c g (b + 1) → x ∈ xs → Q (.int x) H'
theorem ok_of (D : DefAt K mg "_law_of" s__law_of) (T : Bt mg) (u__law_draw : Use P w K mg base "_law_draw" 2 ["m", "limit"] spDraw) : Use P w K mg base "_law_of" 3 ["m", "some"] spOf := by
  refine use_of D (fun f fd F => F.ok sc__law_of (fun vs H Q E h => ?_) (fun cdv A outer s H vs Q E hr h => ?_)) (fun _ _ _ _ _ _ us hl => match us, hl with | [_, _], _ => rfl)
  · obtain ⟨m, c, g, b, l, xs, rfl, _⟩ := h
    rfl
  · obtain ⟨m, c, g, b, l, xs, rfl, ms, hb, el, lg, ne, hle, q⟩ := h
    refine ⟨_, (pss_one (ps_ret (pe_ix (k_ixl (K := K) rfl) (pv 1) (pe_use u__law_draw (by decide) hr (by rfl) (pa_cons (pv 0) (pa_cons (pe_callB (k_len (K := K) rfl) (by rfl) T.len PySem.boot_len (pa_cons (pv 1) pa_nil)) pa_nil))) (fun _ _ => rfl)))), ?_⟩
    have lm : l ≠ m := by
      obtain ⟨cs, gs, k, h1, h2, h3, r⟩ := ms
      intro e
      rw [e, h1] at el
      cases el
    have pos := List.length_pos_iff.mpr ne
    refine ⟨_, rfl, _, rfl, _, rfl, l, _, rfl, .inl (sqL el), m, c, g, b, _, rfl, ms, hb, ?_, ?_, fun H1 d k1 ms1 d0 d1 => ?_⟩
    · rw [List.length_map]
      omega
    · rw [List.length_map]
      omega
    rw [List.length_map] at d1
    obtain ⟨x, hx⟩ := at_some (xs := xs) (i := d.toNat) (by omega)
    exact ⟨l, _, d, .int x, rfl, rfl, sqL (k1 _ _ el lm lg), atI_of (j := d.toNat) (by omega) (at_map hx), q H1 x k1 ms1 (List.mem_of_getElem? hx)⟩
def spMetL : Sp := fun vs H Q _ => ∃ m c g b a p, vs = [.ref m, .ref a] ∧ MS H m c g b ∧ b ≤ 100000 ∧ TI H a p ∧ Par p ∧
  ∀ H' t r, Kept H H' m g → MS H' m c g (b + 120) → TI H' t r → Par r → r.length = p.length → Q (.ref t) H'
end
end KQ
namespace KQ
open PySem PySem.Spec PyProof.Rows L2 KR KM StX
theorem ifs_fact2 {b : Bool} {t u : TS} {D : Ends} {σ : L2.St} {H : Hp} (Fact : L2.St → Hp → Prop) (h1 : b = true → ∀ D : Ends, (∀ σ' H', Fact σ' H' → D.nx σ' H') → t D σ H) (h2 : b = false → ∀ D : Ends, (∀ σ' H', Fact σ' H' → D.nx σ' H') → u D σ H)
    (k : ∀ σ' H', Fact σ' H' → D.nx σ' H') : if b = true then t D σ H else u D σ H := by
  cases b
  · exact h2 rfl D k
  · exact h1 rfl D k
section
variable {P : Program} {w : World} {K : PySem.W.Frag} {mg : Str → Option Value} {base : Heap}
def spSecond : Sp := fun vs H Q _ => ∃ m c g b a p, vs = [.ref m, .ref a] ∧ MS H m c g b ∧ b ≤ 90000 ∧ TI H a p ∧ Par p ∧
  ∀ H' t r, Kept H H' m g → MS H' m c g (b + 130) → TI H' t r → Par r → r.length = p.length → Q (.ref t) H'
/-- the second one as it is being made -/
def Sec (m c g a : Addr) (b kd : Int) (n : Nat) (H : Hp) (B : Int) (σ : L2.St) (H' : Hp) : Prop := ∃ (l : Addr) (xs : List Int) (y5 y6 : Option V),
  σ = [some (.ref m), some (.ref a), some (.int kd), some (.int ((n : Nat) : Int)), some (.ref l), y5, y6, none] ∧ Kept H H' m g ∧ MS H' m c g (b + B) ∧ H' l = some (.lst (xs.map V.int)) ∧ xs.length = n ∧ H l = none
end
end KQ
/-! len(set(xs)) of whole numbers -/
namespace KR
open PySem PySem.Spec PyProof.Rows L2 KM
section
variable {X : Cx}
def tLenSetI (K : PySem.W.Frag) (ta : TE) : TE := fun σ H Q => ta σ H fun x H1 => ∃ (l : Addr) (xs : List Int), x = .ref l ∧ SqT K H1 l (xs.map V.int) ∧ xs.length ≤ 1000 ∧ Q (.int ((dcount xs : Nat) : Int)) H1
theorem pe_lenSetI {a : Expr} {ta : TE} {p p2 q pos : Pos} (hc : X.calm = true) (hg : Gl X "len") (hm : X.mg "len" = none) (hg2 : Gl X "set") (hm2 : X.mg "set" = none) (ha : PE X a ta)
    (na : starEach [a] X.env = (false, eval a X.env) :: starEach [] X.env := by rfl) : PE X (.Call (.Name "len" p) [.Call (.Name "set" p2) [a] [] q] [] pos) (tLenSetI X.K ta) := by
  refine ⟨fun pins s σ H Q I h => ?_⟩
  refine Call_ (ld_blt I hg hm boot_len ?_)
  refine PyProof.Rows.callWith_builtin1 (PyProof.Rows.args_cons ?_ rfl) rfl rfl
  refine Call_ (ld_blt I hg2 hm2 boot_set ?_)
  refine PyProof.Rows.callWith_type1 (PyProof.Rows.args_cons (thn (ha.run pins s σ H _ I h) fun v s1 ⟨x, H1, I1, r1, q1⟩ => PyProof.Rows.args_nil ?_) na) na rfl
  obtain ⟨l, xs, rfl, hq, hle, q1⟩ := q1
  cases r1
  obtain ⟨its, r, pl, hz⟩ := I1.tuple hq
  refine call_set_tupI xs (I1.ok.hd hc) pl (by simpa using r.ints) ?_ fun h' tk c R hcl hk => ?_
  · exact Nat.lt_of_le_of_lt (Nat.succ_le_succ hle) (by decide)
  refine PyProof.Rows.args_nil ?_
  obtain ⟨o, es, ep, t, ho, hex, hd, hg1, hnd, hS, hlt, hf, hn, _⟩ := R
  have I2 : Inv X pins σ H1 { s1 with heap := h', toks := tk } := I1.kept hk
  have ec : es.size = dcount xs := by
    have := same_len hnd (firsts_nodup xs) fun k => by rw [← hS k, mem_firsts, decide_eq_true_iff]
    rw [List.length_map, Array.length_toList] at this
    exact this
  refine call_len_set ho hex hd hf (by omega) ⟨.int ((dcount xs : Nat) : Int), H1, I2.tok _, ⟨_, by rw [ec]⟩, q1⟩
theorem met_nodup (val : Nat → Int) : ∀ i, (firstMet val i).Nodup
  | 0 => List.nodup_nil
  | i + 1 => by
    rw [firstMet_succ]
    unfold step_dedup
    split
    · exact met_nodup val i
    · rename_i h
      have hn : val i ∉ firstMet val i := fun hm => h (List.any_eq_true.mpr ⟨val i, hm, beq_self_eq_true _⟩)
      first
      | exact List.nodup_cons.mpr ⟨hn, met_nodup val i⟩
      | (rw [List.nodup_append]
         refine ⟨met_nodup val i, by simp, fun a ha b hb e => ?_⟩
         rw [List.mem_singleton.mp hb] at e
         exact hn (e ▸ ha))
theorem met_count (xs : List Int) : (firstMet (fun i => xs.getD i 0) xs.length).length = dcount xs := by
  refine same_len (met_nodup _ _) (firsts_nodup xs) fun k => ?_
  rw [mem_firsts]
  have h := firstMet_any (fun i => xs.getD i 0) xs.length k
  rw [show (List.range xs.length).map (fun i => xs.getD i 0) = xs from by
    refine List.ext_getElem? fun i => ?_
    by_cases hi : i < xs.length
    · rw [at_map (List.getElem?_range hi), List.getD_eq_getElem?_getD, List.getElem?_eq_getElem hi]
      rfl
    · rw [List.getElem?_eq_none (by rw [List.length_map, List.length_range]; omega), List.getElem?_eq_none (by omega)]] at h
  have e : ∀ ys : List Int, ys.any (· == k) = true ↔ k ∈ ys := fun ys => by
    rw [List.any_eq_true]
    exact ⟨fun ⟨a, ha, q⟩ => (eq_of_beq q) ▸ ha, fun hk => ⟨k, hk, beq_self_eq_true _⟩⟩
  rw [← e, h, e]
def tLenSetL (K : PySem.W.Frag) (ta : TE) : TE := fun σ H Q => ta σ H fun x H1 => ∃ (l : Addr) (xs : List Int), x = .ref l ∧ SqL K H1 l (xs.map V.int) ∧ xs.length ≤ 1000 ∧ Q (.int ((dcount xs : Nat) : Int)) H1
theorem pe_lenSetL {a : Expr} {ta : TE} {p p2 q pos : Pos} (hc : X.calm = true) (hg : Gl X "len") (hm : X.mg "len" = none) (hg2 : Gl X "set") (hm2 : X.mg "set" = none) (ha : PE X a ta)
    (na : starEach [a] X.env = (false, eval a X.env) :: starEach [] X.env := by rfl) : PE X (.Call (.Name "len" p) [.Call (.Name "set" p2) [a] [] q] [] pos) (tLenSetL X.K ta) := by
  refine ⟨fun pins s σ H Q I h => ?_⟩
  refine Call_ (ld_blt I hg hm boot_len ?_)
  refine PyProof.Rows.callWith_builtin1 (PyProof.Rows.args_cons ?_ rfl) rfl rfl
  refine Call_ (ld_blt I hg2 hm2 boot_set ?_)
  refine PyProof.Rows.callWith_type1 (PyProof.Rows.args_cons (thn (ha.run pins s σ H _ I h) fun v s1 ⟨x, H1, I1, r1, q1⟩ => PyProof.Rows.args_nil ?_) na) na rfl
  obtain ⟨l, xs, rfl, hq, hle, q1⟩ := q1
  cases r1
  obtain ⟨its, r, pl, hz⟩ := I1.list hq
  have hlen : its.toArray.size = xs.length := by
    rw [List.size_toArray, ← r.length, List.length_map]
  refine PySem.call_set_list (I1.ok.hd hc) pl.isList (by simpa using r.ints) (by rw [hlen]; exact Nat.lt_of_le_of_lt (Nat.succ_le_succ hle) (by decide)) fun h' tk R hk => ?_
  refine PyProof.Rows.args_nil ?_
  rw [hlen, met_count] at R
  obtain ⟨o, es, ep, t, ho, hex, hd, _, _, hlt, hf, hn⟩ := R
  have I2 : Inv X pins σ H1 { s1 with heap := h', toks := tk } := I1.kept fun b o e => hk b o (Heap.lt_size e) e
  have hdl : dcount xs ≤ xs.length := KQ.firsts_le xs
  refine call_len_set ho hex hd hf (by rw [hn]; omega) ⟨.int ((dcount xs : Nat) : Int), H1, I2.tok _, ⟨_, by rw [hn]⟩, q1⟩
end
end KR
namespace KQ
open PySem PySem.Spec PyProof.Rows L2 KR KM StX
section
variable {P : Program} {w : World} {K : PySem.W.Frag} {mg : Str → Option Value} {base : Heap}
theorem dcount_nodup (xs : List Int) : dcount xs = xs.length ↔ xs.Nodup := by
  constructor
  · intro h
    refine firsts_rec (P := fun xs => dcount xs = xs.length → xs.Nodup) (fun _ => List.nodup_nil) (fun xs x ih h => ?_) xs h
    have l := firsts_le xs
    unfold dcount at h ih
    rw [firsts_snoc] at h
    unfold ins at h
    rw [List.length_append] at h
    have l1 : [x].length = 1 := rfl
    split at h
    · omega
    · rename_i hx
      rw [List.length_append] at h
      rw [List.nodup_append]
      refine ⟨ih (by omega), by simp, fun a ha b hb e => ?_⟩
      rw [List.mem_singleton.mp hb] at e
      exact hx ((mem_firsts xs).mpr (e ▸ ha))
  · intro h
    exact same_len (firsts_nodup xs) h fun x => mem_firsts xs
def spLikeT (K : PySem.W.Frag) : Sp := fun vs H Q _ => ∃ (a : Addr) (xs : List Int), vs = [.ref a] ∧ SqT K H a (xs.map V.int) ∧ xs.length ≤ 1000 ∧ ∀ c, (c = true ↔ ¬ xs.Nodup) → Q (.bl c) H
def spLikeL (K : PySem.W.Frag) : Sp := fun vs H Q _ => ∃ (a : Addr) (xs : List Int), vs = [.ref a] ∧ SqL K H a (xs.map V.int) ∧ xs.length ≤ 1000 ∧ ∀ c, (c = true ↔ ¬ xs.Nodup) → Q (.bl c) H
end
end KQ
namespace KQ
open PySem PySem.Spec PyProof.Rows L2 KR KM StX
section
variable {P : Program} {w : World} {K : PySem.W.Frag} {mg : Str → Option Value} {base : Heap}
/-- the doors from the first one of ps back to where the dict says none -/
def Back (kvs : List (L2.Key × V)) : List Int → Prop
  | [] => False
  | [d] => valV kvs (kI d) = some .non
  | d :: e :: r => valV kvs (kI d) = some (.int e) ∧ Back kvs (e :: r)
def headV : List Int → V
  | [] => .non
  | d :: _ => .int d
def spBack : Sp := fun vs H Q _ => ∃ (a : Addr) (kvs : List (L2.Key × V)) (d : Int) (r : List Int), vs = [.ref a, .int d] ∧ Rd H a (.dK kvs) ∧ Back kvs (d :: r) ∧ r.length ≤ 1000 ∧
  ∀ H' l, Same H H' → H l = none → H' l = some (.lst ((d :: r).map V.int)) → Q (.ref l) H'
end
end KQ
namespace KQ
open PySem PySem.Spec PyProof.Rows L2 KR KM
/-! ### every second one -/
def ev {α : Type} : List α → List α
  | [] => []
  | [a] => [a]
  | a :: _ :: r => a :: ev r
theorem ev_cons {α : Type} (a : α) (r : List α) : ev (a :: r) = a :: ev r.tail := by
  cases r <;> rfl
theorem ev_at {α : Type} : ∀ (f : List α) (i : Nat), (ev f)[i]? = f[2 * i]?
  | [], i => by simp [ev]
  | [a], 0 => rfl
  | [a], i + 1 => by
    show ([a] : List α)[i + 1]? = [a][2 * (i + 1)]?
    rw [List.getElem?_eq_none (by simp), List.getElem?_eq_none (by simp; omega)]
  | a :: b :: r, 0 => rfl
  | a :: b :: r, i + 1 => by
    show (ev r)[i]? = _
    rw [ev_at r i, show 2 * (i + 1) = 2 * i + 1 + 1 by omega]
    rfl
theorem ev_map {α β : Type} (f : α → β) : ∀ xs : List α, ev (xs.map f) = (ev xs).map f
  | [] => rfl
  | [a] => rfl
  | a :: b :: r => by
    show f a :: ev (r.map f) = f a :: (ev r).map f
    rw [ev_map f r]
theorem ev_len {α : Type} : ∀ xs : List α, (ev xs).length ≤ xs.length
  | [] => Nat.le_refl _
  | [a] => Nat.le_refl _
  | a :: b :: r => by
    have := ev_len r
    show (ev r).length + 1 ≤ r.length + 1 + 1
    omega
/-- by twos alike -/
def Twos (f : List Int) : Prop := ev f = ev f.tail
theorem twos_at (f : List Int) : Twos f ↔ ∀ i, f[2 * i]? = f[2 * i + 1]? := by
  unfold Twos
  constructor
  · intro h i
    have := congrArg (fun l : List Int => l[i]?) h
    simp only [ev_at, List.getElem?_tail] at this
    exact this
  · intro h
    refine List.ext_getElem? fun i => ?_
    rw [ev_at, ev_at, List.getElem?_tail]
    exact h i
theorem twos_count : ∀ (f : List Int), f.length % 2 = 0 → Twos f → ∀ x, f.count x = 2 * (ev f).count x
  | [], _, _, x => rfl
  | [a], h, _, x => by simp at h
  | a :: b :: r, h, t, x => by
    have t' : (a :: ev r : List Int) = ev (b :: r) := t
    rw [ev_cons] at t'
    obtain ⟨rfl, t2⟩ := List.cons.inj t'
    have hl : r.length % 2 = 0 := by
      rw [List.length_cons, List.length_cons] at h
      omega
    have ih := twos_count r hl t2 x
    show (a :: a :: r).count x = 2 * (a :: ev r).count x
    rw [List.count_cons, List.count_cons, List.count_cons, ih]
    split <;> omega
theorem nodup_count : ∀ l : List Int, l.Nodup ↔ ∀ x ∈ l, l.count x = 1
  | [] => by simp
  | a :: l => by
    rw [List.nodup_cons, nodup_count l]
    constructor
    · rintro ⟨h1, h2⟩ x hx
      rw [List.count_cons]
      by_cases e : a = x
      · subst e
        rw [List.count_eq_zero_of_not_mem h1]
        simp
      · rcases List.mem_cons.mp hx with q | q
        · exact absurd q.symm e
        · rw [h2 x q]
          simp [e]
    · intro h
      have h1 : a ∉ l := fun hm => by
        have := h a List.mem_cons_self
        rw [List.count_cons] at this
        have p := List.count_pos_iff.mpr hm
        simp at this
        omega
      refine ⟨h1, fun x hx => ?_⟩
      have := h x (List.mem_cons_of_mem _ hx)
      rw [List.count_cons] at this
      have e : a ≠ x := fun e => h1 (e ▸ hx)
      simpa [e] using this
theorem twos_nodup {f : List Int} (hl : f.length % 2 = 0) (t : Twos f) : (∀ x ∈ f, f.count x = 2) ↔ (ev f).Nodup := by
  rw [nodup_count]
  have hm : ∀ x, x ∈ f ↔ x ∈ ev f := fun x => by
    rw [← List.count_pos_iff, ← List.count_pos_iff, twos_count f hl t x]
    omega
  constructor
  · intro h x hx
    have := h x ((hm x).mpr hx)
    rw [twos_count f hl t x] at this
    omega
  · intro h x hx
    rw [twos_count f hl t x, h x ((hm x).mp hx)]
/-! ### rings -/
def bk (p : List Int) (d : Int) : Int := p.getD d.toNat (-1)
def rot (ds : List Int) : List Int := ds.tail ++ ds.take 1
theorem rot_at {ds : List Int} (ne : ds ≠ []) (j : Nat) : (rot ds)[j]? = if j + 1 < ds.length then ds[j + 1]? else if j + 1 = ds.length then ds[0]? else none := by
  cases ds with
  | nil => exact absurd rfl ne
  | cons d t =>
    show (t ++ [d])[j]? = if j + 1 < t.length + 1 then (d :: t)[j + 1]? else if j + 1 = t.length + 1 then (d :: t)[0]? else none
    rw [List.getElem?_append]
    by_cases h : j < t.length
    · rw [if_pos h, if_pos (by omega), List.getElem?_cons_succ]
    · rw [if_neg h, if_neg (by omega)]
      by_cases e : j = t.length
      · subst e
        rw [Nat.sub_self, if_pos rfl]
        rfl
      · rw [if_neg (by omega), List.getElem?_eq_none (by simp; omega)]
theorem rot_count (ds : List Int) (f : Int → Int) (x : Int) : ((rot ds).map f).count x = (ds.map f).count x := by
  cases ds with
  | nil => rfl
  | cons d t =>
    show ((t ++ [d]).map f).count x = (f d :: t.map f).count x
    rw [List.map_append, List.count_append, List.count_cons]
    show _ + [f d].count x = _
    rw [List.count_cons]
    simp
theorem rot_len (ds : List Int) : (rot ds).length = ds.length := by
  cases ds with
  | nil => rfl
  | cons d t => simp [rot]
/-- rings as the program looks at them -/
structure IsRing (p r ds : List Int) : Prop where
  ne : ds ≠ []
  even : ds.length % 2 = 0
  rng : ∀ d ∈ ds, 0 ≤ d ∧ d < p.length
  nodup : ds.Nodup
  low : (ev (ds.map (bk p))).Nodup
  high : (ev ((rot ds).map (bk r))).Nodup
  lows : Twos (ds.map (bk p))
  highs : Twos ((rot ds).map (bk r))
/-- the next one's place -/
def nx (ds : List Int) (n : Nat) : Nat := if n + 1 < ds.length then n + 1 else 0
/-- .. and as the law does -/
structure RingR (p r ds : List Int) : Prop where
  len : 2 ≤ ds.length
  even : ds.length % 2 = 0
  rng : ∀ d ∈ ds, 0 ≤ d ∧ d < p.length
  nodup : ds.Nodup
  step : ∀ n x y, ds[n]? = some x → ds[nx ds n]? = some y → bk (if n % 2 = 0 then p else r) x = bk (if n % 2 = 0 then p else r) y
  low : ∀ d ∈ ds, (ds.map (bk p)).count (bk p d) = 2
  high : ∀ d ∈ ds, (ds.map (bk r)).count (bk r d) = 2
theorem map_all {ds : List Int} {f : Int → Int} (P : Int → Prop) : (∀ x ∈ ds.map f, P x) ↔ ∀ d ∈ ds, P (f d) :=
  ⟨fun h d hd => h _ (List.mem_map_of_mem hd), fun h x hx => by
    obtain ⟨d, hd, rfl⟩ := List.mem_map.mp hx
    exact h d hd⟩
theorem ring_iff {p r ds : List Int} : IsRing p r ds ↔ RingR p r ds := by
  have twos : ds ≠ [] → ds.length % 2 = 0 → (Twos (ds.map (bk p)) ∧ Twos ((rot ds).map (bk r)) ↔ ∀ n x y, ds[n]? = some x → ds[nx ds n]? = some y → bk (if n % 2 = 0 then p else r) x = bk (if n % 2 = 0 then p else r) y) := by
    intro ne ev2
    rw [twos_at, twos_at]
    have hpos := List.length_pos_iff.mpr ne
    constructor
    · rintro ⟨h1, h2⟩ n x y hx hy
      have ln := (List.getElem?_eq_some_iff.mp hx).1
      unfold nx at hy
      by_cases e : n % 2 = 0
      · rw [if_pos e]
        rw [if_pos (by omega)] at hy
        have := h1 (n / 2)
        rw [show 2 * (n / 2) = n by omega, at_map hx, at_map hy] at this
        exact Option.some.inj this
      · rw [if_neg e]
        have := h2 (n / 2)
        have ea : (rot ds)[2 * (n / 2)]? = some x := by
          rw [rot_at ne, show 2 * (n / 2) + 1 = n by omega, if_pos ln, hx]
        have eb : (rot ds)[2 * (n / 2) + 1]? = some y := by
          rw [rot_at ne, show 2 * (n / 2) + 1 + 1 = n + 1 by omega]
          by_cases e2 : n + 1 < ds.length
          · rw [if_pos e2] at hy ⊢
            exact hy
          · rw [if_neg e2] at hy ⊢
            rw [if_pos (by omega)]
            exact hy
        rw [at_map ea, at_map eb] at this
        exact Option.some.inj this
    · intro h
      refine ⟨fun i => ?_, fun i => ?_⟩
      · by_cases hi : 2 * i < ds.length
        · obtain ⟨x, hx⟩ := at_some (xs := ds) hi
          obtain ⟨y, hy⟩ := at_some (xs := ds) (i := 2 * i + 1) (by omega)
          rw [at_map hx, at_map hy]
          have := h (2 * i) x y hx (by unfold nx; rw [if_pos (by omega)]; exact hy)
          rw [if_pos (by omega)] at this
          rw [this]
        · rw [List.getElem?_eq_none (by rw [List.length_map]; omega), List.getElem?_eq_none (by rw [List.length_map]; omega)]
      · by_cases hi : 2 * i < ds.length
        · obtain ⟨x, hx⟩ := at_some (xs := ds) (i := 2 * i + 1) (by omega)
          have ea : (rot ds)[2 * i]? = some x := by
            rw [rot_at ne, if_pos (by omega), hx]
          obtain ⟨y, hy⟩ := at_some (xs := rot ds) (i := 2 * i + 1) (by rw [rot_len]; omega)
          have hy' := hy
          rw [rot_at ne] at hy'
          have hn : ds[nx ds (2 * i + 1)]? = some y := by
            unfold nx
            by_cases e2 : 2 * i + 1 + 1 < ds.length
            · rw [if_pos e2] at hy' ⊢
              exact hy'
            · rw [if_neg e2] at hy' ⊢
              rw [if_pos (by omega)] at hy'
              exact hy'
          have := h (2 * i + 1) x y hx hn
          rw [if_neg (by omega)] at this
          rw [at_map ea, at_map hy, this]
        · rw [List.getElem?_eq_none (by rw [List.length_map, rot_len]; omega), List.getElem?_eq_none (by rw [List.length_map, rot_len]; omega)]
  have counts : ∀ x, ((rot ds).map (bk r)).count x = (ds.map (bk r)).count x := rot_count ds (bk r)
  have rmem : ∀ x, x ∈ (rot ds).map (bk r) ↔ x ∈ ds.map (bk r) := fun x => by
    rw [← List.count_pos_iff, ← List.count_pos_iff, counts]
  have rl : ds.length % 2 = 0 → ((rot ds).map (bk r)).length % 2 = 0 := fun h => by
    rw [List.length_map, rot_len]
    exact h
  constructor
  · rintro ⟨ne, e, rng, nd, l, h, ls, hs⟩
    have hpos := List.length_pos_iff.mpr ne
    refine ⟨by omega, e, rng, nd, (twos ne e).mp ⟨ls, hs⟩, ?_, ?_⟩
    · exact (map_all fun x => (ds.map (bk p)).count x = 2).mp ((twos_nodup (by rw [List.length_map]; exact e) ls).mpr l)
    · have := (twos_nodup (rl e) hs).mpr h
      refine (map_all fun x => (ds.map (bk r)).count x = 2).mp fun x hx => ?_
      rw [← counts]
      exact this x ((rmem x).mpr hx)
  · rintro ⟨ln, e, rng, nd, st, l, h⟩
    have ne : ds ≠ [] := fun e => by
      rw [e] at ln
      simp at ln
    obtain ⟨ls, hs⟩ := (twos ne e).mpr st
    refine ⟨ne, e, rng, nd, (twos_nodup (by rw [List.length_map]; exact e) ls).mp ((map_all fun x => (ds.map (bk p)).count x = 2).mpr l), (twos_nodup (rl e) hs).mp fun x hx => ?_, ls, hs⟩
    rw [counts]
    exact (map_all fun x => (ds.map (bk r)).count x = 2).mpr h x ((rmem x).mp hx)
end KQ
namespace KQ
open PySem PySem.Spec PyProof.Rows L2 KR KM
/-! ### doors found ahead of one another -/
structure Ent where
  d : Int
  s : Int
  par : Int
  q : Nat
def kvsOf (st : Int) (E : List Ent) : List (L2.Key × V) := (kI st, V.non) :: E.map fun e => (kI e.d, V.int e.par)
def Qu (B : List Int) (st : Int) (E : List Ent) : List (Int × Int) := B.map (fun b => (b, st)) ++ E.map fun e => (1 - e.s, e.d)
def prt (p r : List Int) (s : Int) : List Int := if s = 0 then p else r
structure Bfs (p r B : List Int) (st : Int) (N : Nat) (E : List Ent) : Prop where
  keys : (st :: E.map Ent.d).Nodup
  rng : ∀ e ∈ E, 0 ≤ e.d ∧ e.d < N
  par : ∀ k e, E[k]? = some e → e.q < B.length + k ∧ (Qu B st E)[e.q]? = some (e.s, e.par) ∧ bk (prt p r e.s) e.d = bk (prt p r e.s) e.par
  apart : ∀ e ∈ E, ∀ j w x, j < e.q → (Qu B st E)[j]? = some (w, x) → bk (prt p r w) e.d ≠ bk (prt p r w) x
/-- all doors up to n in the block of what stands at j in the row are found -/
def FullTo (p r B : List Int) (st : Int) (E : List Ent) (j n : Nat) : Prop := ∀ w x, (Qu B st E)[j]? = some (w, x) → ∀ d : Int, 0 ≤ d → d < n → bk (prt p r w) d = bk (prt p r w) x → d ∈ st :: E.map Ent.d
theorem qu_len (B : List Int) (st : Int) (E : List Ent) : (Qu B st E).length = B.length + E.length := by
  unfold Qu
  rw [List.length_append, List.length_map, List.length_map]
theorem qu_snoc (B : List Int) (st : Int) (E : List Ent) (e : Ent) : Qu B st (E ++ [e]) = Qu B st E ++ [(1 - e.s, e.d)] := by
  unfold Qu
  rw [List.map_append, ← List.append_assoc]
  rfl
theorem qu_keep {B : List Int} {st : Int} {E : List Ent} {j : Nat} (e : Ent) (h : j < (Qu B st E).length) : (Qu B st (E ++ [e]))[j]? = (Qu B st E)[j]? := by
  rw [qu_snoc, List.getElem?_append_left h]
theorem full_keep {p r B : List Int} {st : Int} {E : List Ent} {j n : Nat} (e : Ent) (h : j < (Qu B st E).length) (f : FullTo p r B st E j n) : FullTo p r B st (E ++ [e]) j n := by
  intro w x hq d d0 d1 hb
  rw [qu_keep e h] at hq
  have := f w x hq d d0 d1 hb
  rw [List.map_append, ← List.cons_append]
  exact List.mem_append_left _ this
theorem bfs_add {p r B : List Int} {st : Int} {N : Nat} {E : List Ent} (h : Bfs p r B st N E) {a : Nat} {w x d : Int} (full : ∀ j, j < a → FullTo p r B st E j N)
    (hq : (Qu B st E)[a]? = some (w, x)) (d0 : 0 ≤ d) (d1 : d < N) (nd : d ∉ st :: E.map Ent.d) (hb : bk (prt p r w) d = bk (prt p r w) x) : Bfs p r B st N (E ++ [⟨d, w, x, a⟩]) := by
  have ha := (List.getElem?_eq_some_iff.mp hq).1
  have hal := ha
  rw [qu_len] at hal
  refine ⟨?_, fun e he => ?_, fun k e hk => ?_, fun e he j w' x' hj hq' => ?_⟩
  · rw [List.map_append, ← List.cons_append, List.nodup_append]
    exact ⟨h.keys, by simp, fun u hu v hv e => nd (by rw [List.map_cons, List.map_nil, List.mem_singleton] at hv; exact (e.trans hv : u = d) ▸ hu)⟩
  · rcases List.mem_append.mp he with he | he
    · exact h.rng e he
    · rw [List.mem_singleton.mp he]
      exact ⟨d0, d1⟩
  · by_cases hkl : k < E.length
    · rw [List.getElem?_append_left hkl] at hk
      obtain ⟨h1, h2, h3⟩ := h.par k e hk
      refine ⟨h1, ?_, h3⟩
      rw [qu_keep _ (List.getElem?_eq_some_iff.mp h2).1]
      exact h2
    · have hk2 := (List.getElem?_eq_some_iff.mp hk).1
      rw [List.length_append, List.length_singleton] at hk2
      have : k = E.length := by omega
      subst this
      rw [List.getElem?_append_right (Nat.le_refl _), Nat.sub_self] at hk
      obtain rfl := Option.some.inj hk
      exact ⟨hal, by rw [qu_keep _ ha]; exact hq, hb⟩
  · rcases List.mem_append.mp he with he | he
    · obtain ⟨k, hk⟩ := List.mem_iff_getElem?.mp he
      have := (h.par k e hk).1
      have hk2 := (List.getElem?_eq_some_iff.mp hk).1
      have hjl : j < (Qu B st E).length := by
        rw [qu_len]
        omega
      rw [qu_keep _ hjl] at hq'
      exact h.apart e he j w' x' hj hq'
    · rw [List.mem_singleton.mp he] at hj ⊢
      have hj' : j < a := hj
      rw [qu_keep _ (by omega)] at hq'
      exact fun e => nd (full j hj' w' x' hq' d d0 d1 e)
theorem full_next {p r B : List Int} {st : Int} {E : List Ent} {a n : Nat} (f : FullTo p r B st E a n) (hn : ∀ w x, (Qu B st E)[a]? = some (w, x) → bk (prt p r w) (n : Int) = bk (prt p r w) x → ((n : Nat) : Int) ∈ st :: E.map Ent.d) :
    FullTo p r B st E a (n + 1) := by
  intro w x hq d d0 d1 hb
  by_cases e : d = n
  · subst e
    exact hn w x hq hb
  · exact f w x hq d d0 (by omega) hb
theorem bfs_len {p r B : List Int} {st : Int} {N : Nat} {E : List Ent} (h : Bfs p r B st N E) : E.length ≤ N := by
  have := sub_len (xs := E.map Ent.d) (ys := (List.range N).map fun n => ((n : Nat) : Int)) (List.nodup_cons.mp h.keys).2 fun x hx => by
    obtain ⟨e, he, rfl⟩ := List.mem_map.mp hx
    obtain ⟨h0, h1⟩ := h.rng e he
    exact List.mem_map.mpr ⟨e.d.toNat, List.mem_range.mpr (by omega), by omega⟩
  rw [List.length_map, List.length_map, List.length_range] at this
  exact this
/-- the row's places, from the first one on, each found by the one before it -/
inductive Path (b : Nat) (E : List Ent) : List Nat → Prop
  | base {j : Nat} : j < b → Path b E [j]
  | step {k : Nat} {e : Ent} {ks : List Nat} : E[k]? = some e → Path b E ks → ks.getLast? = some e.q → Path b E (ks ++ [b + k])
theorem path_ex {p r B : List Int} {st : Int} {N : Nat} {E : List Ent} (h : Bfs p r B st N E) : ∀ n j : Nat, j < n → j < (Qu B st E).length → ∃ ks, Path B.length E ks ∧ ks.getLast? = some j := by
  intro n
  induction n with
  | zero => exact fun j hj => absurd hj (Nat.not_lt_zero _)
  | succ n ih =>
    intro j hj hl
    by_cases hb : j < B.length
    · exact ⟨[j], .base hb, rfl⟩
    · rw [qu_len] at hl
      obtain ⟨e, he⟩ := at_some (xs := E) (i := j - B.length) (by omega)
      obtain ⟨h1, h2, _⟩ := h.par _ e he
      obtain ⟨ks, hks, hlast⟩ := ih e.q (by omega) (List.getElem?_eq_some_iff.mp h2).1
      refine ⟨ks ++ [B.length + (j - B.length)], .step he hks hlast, ?_⟩
      rw [List.getLast?_concat]
      congr 1
      omega
def dr (B : List Int) (st : Int) (E : List Ent) (j : Nat) : Int := ((Qu B st E)[j]?.getD (0, 0)).2
def fl (B : List Int) (st : Int) (E : List Ent) (j : Nat) : Int := ((Qu B st E)[j]?.getD (0, 0)).1
section
variable {p r B : List Int} {st : Int} {N : Nat} {E : List Ent}
theorem qu_at {j : Nat} {w x : Int} (h : (Qu B st E)[j]? = some (w, x)) : dr B st E j = x ∧ fl B st E j = w := by
  unfold dr fl
  rw [h]
  exact ⟨rfl, rfl⟩
theorem qu_ent {k : Nat} {e : Ent} (h : E[k]? = some e) : (Qu B st E)[B.length + k]? = some (1 - e.s, e.d) := by
  unfold Qu
  rw [List.getElem?_append_right (by rw [List.length_map]; omega), List.length_map, Nat.add_sub_cancel_left, at_map (f := fun e : Ent => (1 - e.s, e.d)) h]
theorem qu_base {j : Nat} (h : j < B.length) : ∃ b, B[j]? = some b ∧ (Qu B st E)[j]? = some (b, st) := by
  obtain ⟨b, hb⟩ := at_some h
  refine ⟨b, hb, ?_⟩
  unfold Qu
  rw [List.getElem?_append_left (by rw [List.length_map]; exact h), at_map (f := fun b : Int => (b, st)) hb]
theorem path_ne {b : Nat} {ks : List Nat} (h : Path b E ks) : ks ≠ [] := by
  cases h with
  | base => simp
  | step => simp
theorem last_at {α : Type} {ks : List α} {x : α} (h : ks.getLast? = some x) : ks ≠ [] ∧ ks[ks.length - 1]? = some x := by
  rw [List.getLast?_eq_getElem?] at h
  refine ⟨fun e => by rw [e] at h; simp at h, h⟩
/-- what holds of two that stand one behind the other -/
structure Next (p r B : List Int) (st : Int) (E : List Ent) (ks : List Nat) (i x y : Nat) : Prop where
  lt : x < y
  turn : fl B st E y = 1 - fl B st E x
  blk : bk (prt p r (fl B st E x)) (dr B st E y) = bk (prt p r (fl B st E x)) (dr B st E x)
  far : ∀ j z, j < i → ks[j]? = some z → bk (prt p r (fl B st E z)) (dr B st E y) ≠ bk (prt p r (fl B st E z)) (dr B st E z)
theorem path_next (h : Bfs p r B st N E) : ∀ {ks : List Nat}, Path B.length E ks → (∀ (i j x y : Nat), i < j → ks[i]? = some x → ks[j]? = some y → x < y) ∧ (∀ x ∈ ks, x < (Qu B st E).length) ∧ ∀ i x y, ks[i]? = some x → ks[i + 1]? = some y → Next p r B st E ks i x y := by
  intro ks hp
  induction hp with
  | base hj =>
    refine ⟨fun i j x y hij hi hj' => ?_, fun x hx => ?_, fun i x y hi hi1 => ?_⟩
    · have := (List.getElem?_eq_some_iff.mp hj').1
      rw [List.length_singleton] at this
      omega
    · rw [List.mem_singleton.mp hx, qu_len]
      omega
    · have := (List.getElem?_eq_some_iff.mp hi1).1
      rw [List.length_singleton] at this
      omega
  | @step k e ks he hks hlast ih =>
    obtain ⟨up, bd, nxt⟩ := ih
    obtain ⟨ne, hl⟩ := last_at hlast
    have hpos := List.length_pos_iff.mpr ne
    obtain ⟨h1, h2, h3⟩ := h.par k e he
    have hk := (List.getElem?_eq_some_iff.mp he).1
    obtain ⟨q1, q2⟩ := qu_at h2
    obtain ⟨q3, q4⟩ := qu_at (qu_ent (B := B) (st := st) he)
    have old : ∀ i x, (ks ++ [B.length + k])[i]? = some x → (i < ks.length ∧ ks[i]? = some x) ∨ (i = ks.length ∧ x = B.length + k) := by
      intro i x hi
      by_cases hil : i < ks.length
      · rw [List.getElem?_append_left hil] at hi
        exact .inl ⟨hil, hi⟩
      · have := (List.getElem?_eq_some_iff.mp hi).1
        rw [List.length_append, List.length_singleton] at this
        have e2 : i = ks.length := by omega
        subst e2
        rw [List.getElem?_append_right (Nat.le_refl _), Nat.sub_self] at hi
        exact .inr ⟨rfl, (Option.some.inj hi).symm⟩
    have lt_last : ∀ i x, ks[i]? = some x → x ≤ e.q := fun i x hi => by
      have := (List.getElem?_eq_some_iff.mp hi).1
      by_cases e2 : i = ks.length - 1
      · rw [e2, hl] at hi
        obtain rfl := Option.some.inj hi
        exact Nat.le_refl _
      · exact Nat.le_of_lt (up i (ks.length - 1) x e.q (by omega) hi hl)
    refine ⟨fun i j x y hij hi hj => ?_, fun x hx => ?_, fun i x y hi hi1 => ?_⟩
    · rcases old j y hj with ⟨jl, hj⟩ | ⟨rfl, rfl⟩
      · rcases old i x hi with ⟨il, hi⟩ | ⟨rfl, rfl⟩
        · exact up i j x y hij hi hj
        · omega
      · rcases old i x hi with ⟨il, hi⟩ | ⟨rfl, rfl⟩
        · have := lt_last i x hi
          omega
        · omega
    · rcases List.mem_append.mp hx with hx | hx
      · exact bd x hx
      · rw [List.mem_singleton.mp hx, qu_len]
        omega
    · rcases old (i + 1) y hi1 with ⟨jl, hj⟩ | ⟨e2, rfl⟩
      · rcases old i x hi with ⟨il, hi'⟩ | ⟨rfl, rfl⟩
        · obtain ⟨a, b, c, d⟩ := nxt i x y hi' hj
          exact ⟨a, b, c, fun j z hji hz => by
            rcases old j z hz with ⟨zl, hz⟩ | ⟨rfl, rfl⟩
            · exact d j z hji hz
            · omega⟩
        · omega
      · rcases old i x hi with ⟨il, hi'⟩ | ⟨rfl, rfl⟩
        · have ei : i = ks.length - 1 := by omega
          rw [ei, hl] at hi'
          obtain rfl := Option.some.inj hi'
          refine ⟨h1, ?_, ?_, fun j z hji hz => ?_⟩
          · rw [q4, q2]
          · rw [q2, q3, q1]
            exact h3
          · rcases old j z hz with ⟨zl, hz⟩ | ⟨rfl, rfl⟩
            · have zlt : z < e.q := up j (ks.length - 1) z e.q (by omega) hz hl
              rw [q3]
              have hzl : z < (Qu B st E).length := bd z (List.mem_of_getElem? hz)
              obtain ⟨⟨w', x'⟩, hz2⟩ := at_some hzl
              obtain ⟨r1, r2⟩ := qu_at hz2
              rw [r1, r2]
              exact h.apart e (List.mem_of_getElem? he) z w' x' zlt hz2
            · omega
        · omega
theorem val_start : valV (kvsOf st E) (kI st) = some .non := by
  unfold kvsOf valV
  simp
theorem val_ent (h : (st :: E.map Ent.d).Nodup) {k : Nat} {e : Ent} (he : E[k]? = some e) : valV (kvsOf st E) (kI e.d) = some (.int e.par) := by
  have hm := List.mem_of_getElem? he
  unfold kvsOf valV
  have hs : st ≠ e.d := fun q => (List.nodup_cons.mp h).1 (q ▸ List.mem_map_of_mem hm)
  have hn := (List.nodup_cons.mp h).2
  have go : ∀ E : List Ent, (E.map Ent.d).Nodup → e ∈ E → ((E.map fun e => (kI e.d, V.int e.par)).find? fun kv => decide (kv.1 = kI e.d)) = some (kI e.d, V.int e.par) := by
    intro E
    induction E with
    | nil => exact fun _ hm => absurd hm (by simp)
    | cons f E ih =>
      intro hn hm
      rw [List.map_cons, List.nodup_cons] at hn
      rw [List.map_cons, List.find?_cons]
      rcases List.mem_cons.mp hm with q | q
      · subst q
        simp
      · have hne : f.d ≠ e.d := fun z => hn.1 (z ▸ List.mem_map_of_mem q)
        have : decide ((kI f.d, V.int f.par).1 = kI e.d) = false := decide_eq_false fun z => hne (kI_inj _ _ z)
        rw [this]
        exact ih hn.2 q
  rw [List.find?_cons]
  have : decide ((kI st, V.non).1 = kI e.d) = false := decide_eq_false fun z => hs (kI_inj _ _ z)
  rw [this]
  rw [go E hn hm]
  rfl
theorem path_back (h : Bfs p r B st N E) {ks : List Nat} (hp : Path B.length E ks) : Back (kvsOf st E) (ks.map (dr B st E)).reverse := by
  induction hp with
  | base hj =>
    obtain ⟨b, _, hq⟩ := qu_base (st := st) (E := E) hj
    show valV (kvsOf st E) (kI (dr B st E _)) = some .non
    rw [(qu_at hq).1]
    exact val_start
  | @step k e ks he hks hlast ih =>
    obtain ⟨ne, hl⟩ := last_at hlast
    obtain ⟨h1, h2, h3⟩ := h.par k e he
    rw [List.map_append, List.reverse_append]
    show Back (kvsOf st E) (dr B st E (B.length + k) :: (ks.map (dr B st E)).reverse)
    have hc : (ks.map (dr B st E)).reverse = e.par :: (ks.map (dr B st E)).reverse.tail := by
      have : (ks.map (dr B st E)).reverse.head? = some e.par := by
        rw [List.head?_reverse, List.getLast?_map, hlast]
        show some (dr B st E e.q) = _
        rw [(qu_at h2).1]
      cases hh : (ks.map (dr B st E)).reverse with
      | nil => rw [hh] at this; cases this
      | cons a t =>
        rw [hh] at this
        obtain rfl := Option.some.inj this
        rfl
    rw [hc] at ih ⊢
    rw [(qu_at (qu_ent he)).1]
    exact ⟨val_ent h.keys he, ih⟩
end
end KQ
namespace KQ
open PySem PySem.Spec PyProof.Rows L2 KR KM
theorem glue_fold {S : Nat → Prop} : ∀ (ts : List (Nat × Nat)) (R : Nat → Nat → Prop), (∀ x y, R x y → (S x ↔ S y)) → (∀ t ∈ ts, S t.1 ↔ S t.2) → ∀ x y, ts.foldl (fun R t => J R t.1 t.2) R x y → (S x ↔ S y)
  | [], R, h, _, x, y, q => h x y q
  | t :: ts, R, h, ht, x, y, q => by
    refine glue_fold ts (J R t.1 t.2) (fun a b hab => ?_) (fun u hu => ht u (List.mem_cons_of_mem _ hu)) x y q
    have t0 := ht t List.mem_cons_self
    rcases hab with q | ⟨q1, q2⟩ | ⟨q1, q2⟩
    · exact h _ _ q
    · exact (h _ _ q1).trans (t0.trans (h _ _ q2))
    · exact (h _ _ q1).trans (t0.symm.trans (h _ _ q2))
theorem glue_keep {S : Nat → Prop} {ts : List (Nat × Nat)} (h : ∀ t ∈ ts, S t.1 ↔ S t.2) {x y : Nat} (g : glue ts x y) : S x ↔ S y :=
  glue_fold ts Eq (fun _ _ e => by rw [e]) h x y g
section
variable {p r : List Int} {st : Int} {N : Nat} {E : List Ent}
theorem bk_at {p : List Int} {d : Int} {x : Int} (h : p[d.toNat]? = some x) : bk p d = x := by
  unfold bk
  rw [List.getD_eq_getElem?_getD, h]
  rfl
theorem bk_some {p : List Int} {d : Int} (d0 : 0 ≤ d) (d1 : d < p.length) : p[d.toNat]? = some (bk p d) := by
  obtain ⟨x, hx⟩ := at_some (xs := p) (i := d.toNat) (by omega)
  rw [hx, bk_at hx]
theorem bk_rng (par : Par p) {d : Int} (d0 : 0 ≤ d) (d1 : d < p.length) : 0 ≤ bk p d ∧ bk p d < bc 0 p :=
  (rg_mem 0 p (Int.le_refl _) par.rg).1 _ (List.mem_of_getElem? (bk_some d0 d1))
theorem mem_keys {d : Int} : d ∈ st :: E.map Ent.d ↔ d = st ∨ ∃ e ∈ E, e.d = d := by
  rw [List.mem_cons, List.mem_map]
/-- where nothing found has the first door's block of the other one, it closes no ring -/
theorem no_ring_at (par : Par p) (parr : Par r) (hl : p.length = r.length) (s0 : 0 ≤ st) (s1 : st < p.length) (hN : (N : Int) = st) (h : Bfs p r [0] st N E) (full : ∀ j, j < (Qu [0] st E).length → FullTo p r [0] st E j N)
    (no : ∀ e ∈ E, bk r e.d ≠ bk r st) : ¬ RingAt p r st.toNat := by
  rintro ⟨x, y, hx, hy, hg⟩
  have ex := bk_at hx
  have ey := bk_at hy
  have px := bk_rng par s0 s1
  have py := bk_rng parr s0 (by omega)
  have g := glue_keep (S := fun u => (∃ d, d ∈ st :: E.map Ent.d ∧ u = (bk p d).toNat) ∨ ∃ e ∈ E, u = (bc 0 p + bk r e.d).toNat) ?_ hg
  · rcases g.mp (.inl ⟨st, List.mem_cons_self, by rw [ex]⟩) with ⟨d, hd, ed⟩ | ⟨e, he, eq⟩
    · have dr : 0 ≤ d ∧ d < p.length := by
        rcases mem_keys.mp hd with rfl | ⟨e, he, rfl⟩
        · exact ⟨s0, s1⟩
        · have := h.rng e he
          omega
      have := bk_rng par dr.1 dr.2
      omega
    · have := h.rng e he
      have := bk_rng parr (d := e.d) (by omega) (by omega)
      exact no e he (by omega)
  intro t ht
  obtain ⟨i, hi⟩ := List.mem_iff_getElem?.mp ht
  have il := (List.getElem?_eq_some_iff.mp hi).1
  rw [List.length_take, ties_len hl] at il
  rw [List.getElem?_take_of_lt (by omega)] at hi
  obtain ⟨u, hu⟩ := at_some (xs := p) (i := i) (by omega)
  obtain ⟨v, hv⟩ := at_some (xs := r) (i := i) (by omega)
  rw [ties_at hu hv] at hi
  obtain rfl := Option.some.inj hi
  have bu : bk p (i : Int) = u := bk_at (by rw [Int.toNat_natCast]; exact hu)
  have bv : bk r (i : Int) = v := bk_at (by rw [Int.toNat_natCast]; exact hv)
  have ru := bk_rng par (d := (i : Int)) (by omega) (by omega)
  have rv := bk_rng parr (d := (i : Int)) (by omega) (by omega)
  rw [bu] at ru
  rw [bv] at rv
  have iN : (i : Int) < N := by omega
  have all : ∀ (j : Nat) (w x : Int), (Qu [0] st E)[j]? = some (w, x) → bk (prt p r w) (i : Int) = bk (prt p r w) x → (i : Int) ∈ st :: E.map Ent.d := fun j w x hq hb =>
    full j (List.getElem?_eq_some_iff.mp hq).1 w x hq i (by omega) iN hb
  have ne_st : (i : Int) ≠ st := by omega
  have ent : (i : Int) ∈ st :: E.map Ent.d → ∃ e ∈ E, e.d = (i : Int) := fun hm => (mem_keys.mp hm).resolve_left ne_st
  have viaE : ∀ (k : Nat) (e : Ent), E[k]? = some e → ∀ w, w = 0 ∨ w = 1 → bk (prt p r w) (i : Int) = bk (prt p r w) e.d → e.s = 0 ∨ e.s = 1 → (i : Int) ∈ st :: E.map Ent.d := by
    intro k e he w hw hb hs
    obtain ⟨_, h2, h3⟩ := h.par k e he
    by_cases e1 : w = e.s
    · subst e1
      exact all _ _ _ h2 (hb.trans h3)
    · have e2 : w = 1 - e.s := by omega
      subst e2
      exact all _ _ _ (qu_ent he) hb
  have sides : ∀ (n k : Nat) (e : Ent), k < n → E[k]? = some e → e.s = 0 ∨ e.s = 1 := by
    intro n
    induction n with
    | zero => exact fun k e hk => absurd hk (Nat.not_lt_zero _)
    | succ n ih =>
      intro k e hk he
      obtain ⟨h1, h2, _⟩ := h.par k e he
      by_cases e0 : e.q < ([0] : List Int).length
      · obtain ⟨b, hb, hq⟩ := qu_base (st := st) (E := E) e0
        rw [hq] at h2
        have : b = e.s := (Prod.mk.inj (Option.some.inj h2)).1
        have q0 : e.q = 0 := by simpa using e0
        rw [q0] at hb
        exact .inl (this ▸ (Option.some.inj hb).symm)
      · have hql : e.q < (Qu [0] st E).length := (List.getElem?_eq_some_iff.mp h2).1
        rw [qu_len] at hql
        obtain ⟨e', he'⟩ := at_some (xs := E) (i := e.q - 1) (by simp at hql e0; omega)
        have := qu_ent (B := [0]) (st := st) he'
        rw [show ([0] : List Int).length + (e.q - 1) = e.q by simp at e0 ⊢; omega, h2] at this
        have hs : e.s = 1 - e'.s := (Prod.mk.inj (Option.some.inj this)).1
        have := ih (e.q - 1) e' (by simp at h1 e0; omega) he'
        omega
  show ((∃ d, d ∈ st :: E.map Ent.d ∧ u.toNat = (bk p d).toNat) ∨ ∃ e ∈ E, u.toNat = (bc 0 p + bk r e.d).toNat) ↔ ((∃ d, d ∈ st :: E.map Ent.d ∧ (bc 0 p + v).toNat = (bk p d).toNat) ∨ ∃ e ∈ E, (bc 0 p + v).toNat = (bc 0 p + bk r e.d).toNat)
  have drng : ∀ d, d ∈ st :: E.map Ent.d → 0 ≤ d ∧ d < p.length := fun d hd => by
    rcases mem_keys.mp hd with rfl | ⟨e, he, rfl⟩
    · exact ⟨s0, s1⟩
    · have := h.rng e he
      omega
  constructor
  · rintro (⟨d, hd, ed⟩ | ⟨e, he, eq⟩)
    · have := drng d hd
      have := bk_rng par this.1 this.2
      have eb : bk p (i : Int) = bk p d := by omega
      have im : (i : Int) ∈ st :: E.map Ent.d := by
        rcases mem_keys.mp hd with rfl | ⟨e, he, rfl⟩
        · refine all 0 0 d (by rfl) ?_
          exact eb
        · obtain ⟨k, hk⟩ := List.mem_iff_getElem?.mp he
          exact viaE k e hk 0 (.inl rfl) eb (sides (k + 1) k e (Nat.lt_succ_self _) hk)
      obtain ⟨e, he, ed⟩ := ent im
      exact .inr ⟨e, he, by rw [ed, bv]⟩
    · have := h.rng e he
      have := bk_rng parr (d := e.d) (by omega) (by omega)
      omega
  · rintro (⟨d, hd, ed⟩ | ⟨e, he, eq⟩)
    · have := drng d hd
      have := bk_rng par this.1 this.2
      omega
    · have := h.rng e he
      have := bk_rng parr (d := e.d) (by omega) (by omega)
      have eb : bk r (i : Int) = bk r e.d := by omega
      obtain ⟨k, hk⟩ := List.mem_iff_getElem?.mp he
      have im := viaE k e hk 1 (.inr rfl) eb (sides (k + 1) k e (Nat.lt_succ_self _) hk)
      exact .inl ⟨i, im, by rw [bu]⟩
theorem side01 (h : Bfs p r [0] st N E) : ∀ (n k : Nat) (e : Ent), k < n → E[k]? = some e → e.s = 0 ∨ e.s = 1 := by
  intro n
  induction n with
  | zero => exact fun k e hk => absurd hk (Nat.not_lt_zero _)
  | succ n ih =>
    intro k e hk he
    obtain ⟨h1, h2, _⟩ := h.par k e he
    by_cases e0 : e.q < ([0] : List Int).length
    · obtain ⟨b, hb, hq⟩ := qu_base (st := st) (E := E) e0
      rw [hq] at h2
      have : b = e.s := (Prod.mk.inj (Option.some.inj h2)).1
      have q0 : e.q = 0 := by simpa using e0
      rw [q0] at hb
      exact .inl (this ▸ (Option.some.inj hb).symm)
    · have hql : e.q < (Qu [0] st E).length := (List.getElem?_eq_some_iff.mp h2).1
      rw [qu_len] at hql
      obtain ⟨e', he'⟩ := at_some (xs := E) (i := e.q - 1) (by simp at hql e0; omega)
      have := qu_ent (B := [0]) (st := st) he'
      rw [show ([0] : List Int).length + (e.q - 1) = e.q by simp at e0 ⊢; omega, h2] at this
      have hs : e.s = 1 - e'.s := (Prod.mk.inj (Option.some.inj this)).1
      have := ih (e.q - 1) e' (by simp at h1 e0; omega) he'
      omega
/-- what is found hangs together with the first door's block -/
theorem found_glue (hl : p.length = r.length) (s0 : 0 ≤ st) (s1 : st < p.length) (hN : (N : Int) = st) (h : Bfs p r [0] st N E) : ∀ (n k : Nat) (e : Ent), k < n → E[k]? = some e → glue ((tiesOf p r).take N) (bk p st).toNat (bk p e.d).toNat := by
  have tie : ∀ d : Int, 0 ≤ d → d < N → glue ((tiesOf p r).take N) (bk p d).toNat (bc 0 p + bk r d).toNat := fun d d0 d1 => by
    refine glue_mem (t := ((bk p d).toNat, (bc 0 p + bk r d).toNat)) (List.mem_of_getElem? (i := d.toNat) ?_)
    rw [List.getElem?_take_of_lt (by omega)]
    exact ties_at (bk_some d0 (by omega)) (bk_some d0 (by omega))
  have G := glue_eqv ((tiesOf p r).take N)
  intro n
  induction n with
  | zero => exact fun k e hk => absurd hk (Nat.not_lt_zero _)
  | succ n ih =>
    intro k e hk he
    obtain ⟨h1, h2, h3⟩ := h.par k e he
    have er := h.rng e (List.mem_of_getElem? he)
    have pr : e.par = st ∧ e.s = 0 ∨ ∃ e', E[e.q - 1]? = some e' ∧ e.q - 1 < n ∧ e.par = e'.d := by
      by_cases e0 : e.q < ([0] : List Int).length
      · obtain ⟨b, hb, hq⟩ := qu_base (st := st) (E := E) e0
        rw [hq] at h2
        have q0 : e.q = 0 := by simpa using e0
        rw [q0] at hb
        have q1 : b = 0 := (Option.some.inj hb).symm
        exact .inl ⟨(Prod.mk.inj (Option.some.inj h2)).2.symm, (Prod.mk.inj (Option.some.inj h2)).1 ▸ q1⟩
      · have hql : e.q < (Qu [0] st E).length := (List.getElem?_eq_some_iff.mp h2).1
        rw [qu_len] at hql
        obtain ⟨e', he'⟩ := at_some (xs := E) (i := e.q - 1) (by simp at hql e0; omega)
        have := qu_ent (B := [0]) (st := st) he'
        rw [show ([0] : List Int).length + (e.q - 1) = e.q by simp at e0 ⊢; omega, h2] at this
        exact .inr ⟨e', he', by simp at h1 e0; omega, (Prod.mk.inj (Option.some.inj this)).2⟩
    rcases pr with ⟨e1, e2⟩ | ⟨e', he', hn, e1⟩
    · rw [e1, e2] at h3
      have h3' : bk p e.d = bk p st := h3
      rw [h3']
      exact G.refl _
    · have g := ih _ e' hn he'
      have er' := h.rng e' (List.mem_of_getElem? he')
      rw [e1] at h3
      rcases side01 h (k + 1) k e (Nat.lt_succ_self _) he with e2 | e2
      · rw [e2] at h3
        have h3' : bk p e.d = bk p e'.d := h3
        rw [h3']
        exact g
      · rw [e2] at h3
        have h3' : bk r e.d = bk r e'.d := h3
        refine G.trans _ _ _ g (G.trans _ _ _ (tie e'.d er'.1 er'.2) ?_)
        rw [← h3']
        exact G.symm _ _ (tie e.d er.1 er.2)
theorem ring_at (hl : p.length = r.length) (s0 : 0 ≤ st) (s1 : st < p.length) (hN : (N : Int) = st) (h : Bfs p r [0] st N E) {e : Ent} (he : e ∈ E) (hb : bk r e.d = bk r st) : RingAt p r st.toNat := by
  obtain ⟨k, hk⟩ := List.mem_iff_getElem?.mp he
  have er := h.rng e he
  refine ⟨bk p st, bk r st, bk_some s0 s1, bk_some s0 (by omega), ?_⟩
  have g := found_glue hl s0 s1 hN h (k + 1) k e (Nat.lt_succ_self _) hk
  have G := glue_eqv ((tiesOf p r).take N)
  rw [show st.toNat = N by omega]
  refine G.trans _ _ _ g ?_
  rw [← hb]
  refine glue_mem (t := ((bk p e.d).toNat, (bc 0 p + bk r e.d).toNat)) (List.mem_of_getElem? (i := e.d.toNat) ?_)
  rw [List.getElem?_take_of_lt (by omega)]
  exact ties_at (bk_some er.1 (by omega)) (bk_some er.1 (by omega))
/-- the way to the first one found with the first door's block of the other one is a ring -/
theorem ring_of (hl : p.length = r.length) (s0 : 0 ≤ st) (s1 : st < p.length) (hN : (N : Int) = st) (h : Bfs p r [0] st N E) {k : Nat} {e : Ent} (he : E[k]? = some e) (hb : bk r e.d = bk r st)
    (first : ∀ k' e', k' < k → E[k']? = some e' → bk r e'.d ≠ bk r st) {ks : List Nat} (hp : Path 1 E ks) (hlast : ks.getLast? = some (1 + k)) :
    IsRing p r (ks.map (dr [0] st E)) ∧ (ks.map (dr [0] st E))[0]? = some st ∧ ∀ d ∈ ks.map (dr [0] st E), d ≤ st := by
  obtain ⟨up, bd, nxt⟩ := path_next (B := [0]) h hp
  obtain ⟨ne, hl1⟩ := last_at hlast
  have hpos := List.length_pos_iff.mpr ne
  have z0 : ∀ j : Nat, j < 1 → j = 0 := fun j hj => by omega
  have q0 : (Qu [0] st E)[0]? = some (0, st) := rfl
  -- the first place
  have h0 : ks[0]? = some 0 := by
    clear hlast hl1 first
    induction hp with
    | base hj => rw [z0 _ hj]; rfl
    | @step k e ks he hks hl2 ih =>
      obtain ⟨ne2, _⟩ := last_at hl2
      obtain ⟨a, b, c⟩ := path_next (B := [0]) h hks
      rw [List.getElem?_append_left (List.length_pos_iff.mpr ne2)]
      exact ih a b c ne2 (List.length_pos_iff.mpr ne2)
  have flag : ∀ (i x : Nat), ks[i]? = some x → fl [0] st E x = ((i % 2 : Nat) : Int) := by
    intro i
    induction i with
    | zero =>
      intro x hx
      rw [h0] at hx
      obtain rfl := Option.some.inj hx
      rfl
    | succ i ih =>
      intro y hy
      obtain ⟨x, hx⟩ := at_some (xs := ks) (i := i) (by have := (List.getElem?_eq_some_iff.mp hy).1; omega)
      have := ih x hx
      rw [(nxt i x y hx hy).turn, this]
      omega
  have place : ∀ (i x : Nat), ks[i]? = some x → (x = 0 ∧ dr [0] st E x = st) ∨ ∃ k' e', x = 1 + k' ∧ E[k']? = some e' ∧ dr [0] st E x = e'.d ∧ k' ≤ k ∧ (i + 1 < ks.length → k' < k) := by
    intro i x hx
    by_cases e0 : x = 0
    · exact .inl ⟨e0, by rw [e0]; rfl⟩
    · have hxl := bd x (List.mem_of_getElem? hx)
      rw [qu_len] at hxl
      obtain ⟨e', he'⟩ := at_some (xs := E) (i := x - 1) (by simp at hxl; omega)
      have hq := qu_ent (B := [0]) (st := st) he'
      rw [show ([0] : List Int).length + (x - 1) = x by simp; omega] at hq
      have ilt := (List.getElem?_eq_some_iff.mp hx).1
      have : x ≤ 1 + k ∧ (i + 1 < ks.length → x < 1 + k) := by
        by_cases e2 : i = ks.length - 1
        · rw [e2, hl1] at hx
          have := Option.some.inj hx
          omega
        · have := up i (ks.length - 1) x (1 + k) (by omega) hx hl1
          omega
      exact .inr ⟨x - 1, e', by omega, he', (qu_at hq).1, by omega, by omega⟩
  have qk := qu_ent (B := [0]) (st := st) he
  have dk : dr [0] st E (1 + k) = e.d := (qu_at (j := 1 + k) qk).1
  -- its number of doors is even
  have even : ks.length % 2 = 0 := by
    apply Classical.byContradiction
    intro ho
    have l2 : 2 ≤ ks.length - 1 := by
      have : ks.length ≠ 1 := fun e1 => by
        rw [e1] at hl1
        rw [show (1 - 1 : Nat) = 0 from rfl, h0] at hl1
        have := Option.some.inj hl1
        omega
      omega
    obtain ⟨x, hx⟩ := at_some (xs := ks) (i := ks.length - 2) (by omega)
    have hn := (nxt (ks.length - 2) x (1 + k) hx (by rw [show ks.length - 2 + 1 = ks.length - 1 by omega]; exact hl1)).blk
    have fx := flag _ x hx
    rw [show ((ks.length - 2) % 2) = 1 by omega] at fx
    rw [fx, dk] at hn
    have hn' : bk r e.d = bk r (dr [0] st E x) := hn
    rcases place _ x hx with ⟨rfl, _⟩ | ⟨k', e', rfl, he', d', _, lt⟩
    · have : fl [0] st E 0 = 0 := rfl
      omega
    · rw [d'] at hn'
      exact first k' e' (lt (by omega)) he' (hn'.symm.trans hb)
  have drr : ∀ d ∈ ks.map (dr [0] st E), 0 ≤ d ∧ d ≤ st := by
    intro d hd
    obtain ⟨x, hx, rfl⟩ := List.mem_map.mp hd
    obtain ⟨i, hi⟩ := List.mem_iff_getElem?.mp hx
    rcases place i x hi with ⟨_, e1⟩ | ⟨k', e', _, he', e1, _⟩
    · rw [e1]
      omega
    · rw [e1]
      have := h.rng e' (List.mem_of_getElem? he')
      omega
  have low : ∀ (i x y : Nat), i % 2 = 0 → ks[i]? = some x → ks[i + 1]? = some y → bk p (dr [0] st E y) = bk p (dr [0] st E x) := fun i x y hi hx hy => by
    have := (nxt i x y hx hy).blk
    rw [flag i x hx, hi] at this
    exact this
  have high : ∀ (i x y : Nat), i % 2 = 1 → ks[i]? = some x → ks[i + 1]? = some y → bk r (dr [0] st E y) = bk r (dr [0] st E x) := fun i x y hi hx hy => by
    have := (nxt i x y hx hy).blk
    rw [flag i x hx, hi] at this
    exact this
  have mapd : ∀ {i x : Nat}, ks[i]? = some x → (ks.map (dr [0] st E))[i]? = some (dr [0] st E x) := fun hx => at_map hx
  have ml : (ks.map (dr [0] st E)).length = ks.length := List.length_map ..
  have mne : ks.map (dr [0] st E) ≠ [] := by
    intro e1
    rw [e1] at ml
    simp at ml
    omega
  have pw : ∀ {l : List Int}, (∀ (i j : Nat) (u v : Int), i < j → l[i]? = some u → l[j]? = some v → u ≠ v) → l.Nodup := by
    intro l hh
    refine List.pairwise_iff_getElem.mpr fun i j hi hj hij => ?_
    exact hh i j _ _ hij (List.getElem?_eq_getElem hi) (List.getElem?_eq_getElem hj)
  refine ⟨⟨mne, by rw [ml]; exact even, fun d hd => ?_, ?_, ?_, ?_, ?_, ?_⟩, ?_, fun d hd => (drr d hd).2⟩
  · have := drr d hd
    omega
  · refine pw fun i j u v hij hu hv => ?_
    obtain ⟨x, hx, rfl⟩ := map_at hu
    obtain ⟨y, hy, rfl⟩ := map_at hv
    have lt := up i j x y hij hx hy
    intro e1
    have mem : ∀ (z x' : Nat), ks[x']? = some z → (st :: E.map Ent.d)[z]? = some (dr [0] st E z) := by
      intro z x' hz
      rcases place x' z hz with ⟨rfl, e2⟩ | ⟨k', e', rfl, he', e2, _⟩
      · rfl
      · rw [Nat.add_comm, List.getElem?_cons_succ, Nat.add_comm, e2]
        exact at_map (f := Ent.d) he'
    have h1 := mem x i hx
    have h2 := mem y j hy
    have l1 := (List.getElem?_eq_some_iff.mp h1)
    have l2 := (List.getElem?_eq_some_iff.mp h2)
    have := List.pairwise_iff_getElem.mp h.keys x y l1.1 l2.1 lt
    rw [l1.2, l2.2] at this
    exact this e1
  · refine pw fun i j u v hij hu hv => ?_
    rw [ev_at, List.map_map] at hu hv
    obtain ⟨x, hx, rfl⟩ := map_at hu
    obtain ⟨y, hy, rfl⟩ := map_at hv
    have jl := (List.getElem?_eq_some_iff.mp hy).1
    obtain ⟨z, hz⟩ := at_some (xs := ks) (i := 2 * j + 1) (by omega)
    have n1 := nxt (2 * j) y z hy hz
    have b1 := low (2 * j) y z (by omega) hy hz
    have f1 := n1.far (2 * i) x (by omega) hx
    rw [flag _ x hx, show 2 * i % 2 = 0 by omega] at f1
    have f1' : bk p (dr [0] st E z) ≠ bk p (dr [0] st E x) := f1
    exact fun e1 => f1' (b1.trans (Eq.symm e1))
  · refine pw fun i j u v hij hu hv => ?_
    rw [ev_at] at hu hv
    obtain ⟨x, hx, rfl⟩ := map_at hu
    obtain ⟨y, hy, rfl⟩ := map_at hv
    have jl := (List.getElem?_eq_some_iff.mp hy).1
    rw [rot_len, ml] at jl
    rw [rot_at mne, ml, if_pos (by omega)] at hx hy
    obtain ⟨x, hx', rfl⟩ := map_at hx
    obtain ⟨y, hy', rfl⟩ := map_at hy
    clear hx hy
    have hx := hx'
    have hy := hy'
    clear hx' hy'
    by_cases e1 : 2 * j + 1 + 1 < ks.length
    · obtain ⟨z, hz⟩ := at_some e1
      have n1 := nxt (2 * j + 1) y z hy hz
      have b1 := high (2 * j + 1) y z (by omega) hy hz
      have f1 := n1.far (2 * i + 1) x (by omega) hx
      rw [flag _ x hx, show (2 * i + 1) % 2 = 1 by omega] at f1
      have f1' : bk r (dr [0] st E z) ≠ bk r (dr [0] st E x) := f1
      exact fun e1 => f1' (b1.trans (Eq.symm e1))
    · have : 2 * j + 1 = ks.length - 1 := by omega
      rw [this, hl1] at hy
      obtain rfl := Option.some.inj hy
      rw [dk, hb]
      rcases place _ x hx with ⟨rfl, _⟩ | ⟨k', e', rfl, he', d', _, lt⟩
      · have := flag _ 0 hx
        rw [show (2 * i + 1) % 2 = 1 by omega] at this
        have : fl [0] st E 0 = 0 := rfl
        omega
      · rw [d']
        exact first k' e' (lt (by omega)) he'
  · rw [twos_at]
    intro i
    rw [List.map_map]
    by_cases hi : 2 * i < ks.length
    · obtain ⟨x, hx⟩ := at_some hi
      obtain ⟨y, hy⟩ := at_some (xs := ks) (i := 2 * i + 1) (by omega)
      rw [at_map hx, at_map hy]
      exact congrArg some (low (2 * i) x y (by omega) hx hy).symm
    · rw [List.getElem?_eq_none (by rw [List.length_map]; omega), List.getElem?_eq_none (by rw [List.length_map]; omega)]
  · rw [twos_at]
    intro i
    by_cases hi : 2 * i < ks.length
    · obtain ⟨x, hx⟩ := at_some (xs := ks) (i := 2 * i + 1) (by omega)
      have ea : (rot (ks.map (dr [0] st E)))[2 * i]? = some (dr [0] st E x) := by
        rw [rot_at mne, ml, if_pos (by omega), mapd hx]
      rw [at_map ea]
      by_cases e1 : 2 * i + 1 + 1 < ks.length
      · obtain ⟨y, hy⟩ := at_some e1
        have eb : (rot (ks.map (dr [0] st E)))[2 * i + 1]? = some (dr [0] st E y) := by
          rw [rot_at mne, ml, if_pos (by omega), mapd hy]
        rw [at_map eb, high (2 * i + 1) x y (by omega) hx hy]
      · have : 2 * i + 1 = ks.length - 1 := by omega
        have eb : (rot (ks.map (dr [0] st E)))[2 * i + 1]? = some st := by
          rw [rot_at mne, ml, if_neg (by omega), if_pos (by omega), mapd h0]
          rfl
        rw [this, hl1] at hx
        obtain rfl := Option.some.inj hx
        rw [at_map eb, dk, hb]
    · rw [List.getElem?_eq_none (by rw [List.length_map, rot_len, ml]; omega), List.getElem?_eq_none (by rw [List.length_map, rot_len, ml]; omega)]
  · rw [mapd h0]
    rfl
end
end KQ
namespace KQ
open PySem PySem.Spec PyProof.Rows L2 KR KM StX
theorem flag01 {p r B : List Int} {st : Int} {N : Nat} {E : List Ent} (hB : ∀ b ∈ B, b = 0 ∨ b = 1) (h : Bfs p r B st N E) : ∀ (n j : Nat) (w x : Int), j < n → (Qu B st E)[j]? = some (w, x) → (w = 0 ∨ w = 1) ∧ (x = st ∨ (0 ≤ x ∧ x < N)) := by
  intro n
  induction n with
  | zero => exact fun j w x hj => absurd hj (Nat.not_lt_zero _)
  | succ n ih =>
    intro j w x hj hq
    by_cases e0 : j < B.length
    · obtain ⟨b, hb, hq2⟩ := qu_base (st := st) (E := E) e0
      rw [hq2] at hq
      obtain ⟨rfl, rfl⟩ := Prod.mk.inj (Option.some.inj hq)
      exact ⟨hB _ (List.mem_of_getElem? hb), .inl rfl⟩
    · have hl := (List.getElem?_eq_some_iff.mp hq).1
      rw [qu_len] at hl
      obtain ⟨e, he⟩ := at_some (xs := E) (i := j - B.length) (by omega)
      have hq2 := qu_ent (B := B) (st := st) he
      rw [show B.length + (j - B.length) = j by omega, hq] at hq2
      obtain ⟨rfl, rfl⟩ := Prod.mk.inj (Option.some.inj hq2)
      obtain ⟨h1, h2, _⟩ := h.par _ e he
      have := ih e.q _ _ (by omega) h2
      have r := h.rng e (List.mem_of_getElem? he)
      exact ⟨by omega, .inr r⟩
theorem kvs_val {p r B : List Int} {st : Int} {N : Nat} {E : List Ent} (h : Bfs p r B st N E) (d : Int) : (d ∈ st :: E.map Ent.d → ∃ v, valV (kvsOf st E) (kI d) = some v) ∧ (d ∉ st :: E.map Ent.d → valV (kvsOf st E) (kI d) = none) := by
  constructor
  · intro hd
    rcases mem_keys.mp hd with rfl | ⟨e, he, rfl⟩
    · exact ⟨_, val_start⟩
    · obtain ⟨k, hk⟩ := List.mem_iff_getElem?.mp he
      exact ⟨_, val_ent h.keys hk⟩
  · intro hd
    unfold valV kvsOf
    rw [List.find?_eq_none.mpr]
    · rfl
    · intro kv hkv
      rw [decide_eq_true_eq]
      intro e
      rcases List.mem_cons.mp hkv with rfl | hm
      · exact hd (mem_keys.mpr (.inl (kI_inj _ _ e).symm))
      · obtain ⟨f, hf, rfl⟩ := List.mem_map.mp hm
        exact hd (mem_keys.mpr (.inr ⟨f, hf, kI_inj _ _ e⟩))
theorem kvs_put {st : Int} {E : List Ent} {d w x : Int} {a : Nat} (hd : d ∉ st :: E.map Ent.d) : putK (kvsOf st E) (kI d) (V.int x) = kvsOf st (E ++ [⟨d, w, x, a⟩]) := by
  have hn : ((kvsOf st E).any fun kv => decide (kv.1 = kI d)) = false := by
    rw [List.any_eq_false]
    intro kv hkv
    rw [decide_eq_true_eq]
    intro e
    rcases List.mem_cons.mp hkv with rfl | hm
    · exact hd (mem_keys.mpr (.inl (kI_inj _ _ e).symm))
    · obtain ⟨f, hf, rfl⟩ := List.mem_map.mp hm
      exact hd (mem_keys.mpr (.inr ⟨f, hf, kI_inj _ _ e⟩))
  unfold putK
  rw [hn]
  simp [kvsOf]
theorem pairs_mono {H H' : Hp} {ts : List Addr} {xs : List (Int × Int)} (h : PairsAt H ts xs) (k : ∀ c vs, H c = some (.tup vs) → H' c = some (.tup vs)) : PairsAt H' ts xs :=
  ⟨h.1, fun i t ht => by
    obtain ⟨x, hx, e⟩ := h.2 i t ht
    exact ⟨x, hx, k _ _ e⟩⟩
theorem pairs_snoc {H : Hp} {ts : List Addr} {xs : List (Int × Int)} (h : PairsAt H ts xs) {t : Addr} {x : Int × Int} (e : H t = some (.tup [.int x.1, .int x.2])) : PairsAt H (ts ++ [t]) (xs ++ [x]) := by
  refine ⟨by rw [List.length_append, List.length_append, h.1]; rfl, fun i u hu => ?_⟩
  by_cases hi : i < ts.length
  · rw [List.getElem?_append_left hi] at hu
    obtain ⟨y, hy, e2⟩ := h.2 i u hu
    exact ⟨y, by rw [List.getElem?_append_left (by rw [← h.1]; exact hi)]; exact hy, e2⟩
  · have := (List.getElem?_eq_some_iff.mp hu).1
    rw [List.length_append, List.length_singleton] at this
    have ei : i = ts.length := by omega
    subst ei
    rw [List.getElem?_append_right (Nat.le_refl _), Nat.sub_self] at hu
    obtain rfl := Option.some.inj hu
    refine ⟨x, ?_, e⟩
    rw [h.1, List.getElem?_append_right (Nat.le_refl _), Nat.sub_self]
    rfl
theorem pairs_at {H : Hp} {ts : List Addr} {xs : List (Int × Int)} (h : PairsAt H ts xs) {i : Nat} (hi : i < xs.length) : ∃ t w x, ts[i]? = some t ∧ xs[i]? = some (w, x) ∧ H t = some (.tup [.int w, .int x]) := by
  obtain ⟨t, ht⟩ := at_some (xs := ts) (i := i) (by rw [h.1]; exact hi)
  obtain ⟨⟨w, x⟩, hx, e⟩ := h.2 i t ht
  exact ⟨t, w, x, ht, hx, e⟩
section
variable {P : Program} {w : World} {K : PySem.W.Frag} {mg : Str → Option Value} {base : Heap}
def spAhead : Sp := fun vs H Q _ => ∃ (pa a b da ba : Addr) (p r B : List Int) (st : Int) (N : Nat), vs = [.ref pa, .int st, .ref da, .ref ba] ∧ H pa = some (.tup [.ref a, .ref b]) ∧ TI H a p ∧ TI H b r ∧ p.length = r.length ∧ N ≤ p.length ∧
  p.length ≤ 60 ∧ 0 ≤ st ∧ st < p.length ∧ H da = some (.lst (hv (List.range N))) ∧ TI H ba B ∧ (∀ b ∈ B, b = 0 ∨ b = 1) ∧ B.length ≤ 2 ∧
  ∀ H' t E, Same H H' → H t = none → H' t = some (.dK (kvsOf st E)) → Bfs p r B st N E → (∀ j, j < (Qu B st E).length → FullTo p r B st E j N) → Q (.ref t) H'
end
end KQ
/-! slices with steps; a walk over a locked dict's keys; a tuple turned about -/
namespace KR
open PySem PySem.Spec PyProof.Rows L2 KM KQ
/-! ### xs[lo:hi:step] of a list -/
def pickV (xs : List V) (lo hi st : Option Int) : List V := (sliceRange (sliceBounds lo hi st xs.length).1 (sliceBounds lo hi st xs.length).2.1 (sliceBounds lo hi st xs.length).2.2).filterMap (xs[·]?)
theorem vals_pick {xs : List V} {us : List Value} (r : Vals xs us) : ∀ is : List Nat, Vals (is.filterMap (xs[·]?)) (is.filterMap (us[·]?))
  | [] => .nil
  | i :: is => by
    rw [List.filterMap_cons, List.filterMap_cons]
    have ih := vals_pick r is
    cases hx : xs[i]? with
    | none =>
      have : us[i]? = none := by
        rw [List.getElem?_eq_none_iff] at hx ⊢
        rw [← r.length]
        exact hx
      rw [this]
      exact ih
    | some x =>
      obtain ⟨u, hu, ru⟩ := r.get hx
      rw [hu]
      exact .cons ru ih
section
variable {X : Cx} {K : PySem.W.Frag}
def tStep (K : PySem.W.Frag) (te : TE) (tl th tst : TO) : TE := fun σ H Q => te σ H fun x H1 => tl σ H1 fun l H2 => th σ H2 fun u H3 => tst σ H3 fun o H4 => ∃ a xs, x = .ref a ∧ SqL K H4 a xs ∧ o ≠ some 0 ∧ ∀ p, H4 p = none → Q (.ref p) (upd H4 p (.lst (pickV xs l u o)))
theorem pe_stepL {e : Expr} {te : TE} {lo hi st : Option Expr} {tl th tst : TO} {p3 pos : Pos} (hK : X.K = K) (he : PE X e te) (hl : PO X lo tl) (hu : PO X hi th) (hst : PO X st tst)
    (hop : ∀ a b : Addr, ∃ ops, subscripted (.Slice lo hi st p3) false (.ref a) (.ref b) = operate ops (getItem (.ref a) (.ref b))) : PE X (.Subscript e (.Slice lo hi st p3) pos) (tStep K te tl th tst) := by
  subst hK
  refine ⟨fun pins s σ H Q I h => ?_⟩
  refine Subscript_ (thn (he.run pins s σ H _ I h) fun v s1 ⟨x, H1, I1, r1, q1⟩ => ?_)
  refine wpAny_Slice (thn (hl.run pins s1 σ H1 _ I1 q1) fun vl s2 ⟨l, H2, I2, pl, q2⟩ => ?_)
  refine thn (hu.run pins s2 σ H2 _ I2 q2) fun vu s3 ⟨u, H3, I3, pu, q3⟩ => ?_
  refine thn (hst.run pins s3 σ H3 _ I3 q3) fun vs s4 ⟨o, H4, I4, ps, q4⟩ => ?_
  obtain ⟨a, xs, ex, hx, h0, q⟩ := q4
  subst ex
  cases r1
  have I5 : Inv X pins σ H4 { s4 with heap := s4.heap.push { cls := .type "slice", data := .fields #[vl, vu, vs] } } := I4.kept (t' := s4.toks) fun b ob q => Heap.get?_push_of_some _ q
  obtain ⟨its, r, ht, hz⟩ := I5.list hx
  have hlen := r.length
  show wpAny (model X.prog X.w) X.A (subscriptTail e (.Slice lo hi st p3) (.ref a) (.ref s4.heap.objs.size)) (EP X pins σ Q) X.xe { s4 with heap := s4.heap.push { cls := .type "slice", data := .fields #[vl, vu, vs] } }
  obtain ⟨ops, hops⟩ := hop a s4.heap.objs.size
  refine tail_any (ops := ops) ht.isList.typeIs (PySem.slot_list_getitem.lookup) ?_ hops
  have sz : (slicePick its.toArray l u o).size ≤ its.toArray.size := slicePick_size_le _ _ _ _
  refine wpAny_getItem_list_slice ht.isList (Heap.IsSliceOf.new _ vl vu vs) pl pu ps h0 ?_ (by rw [List.size_toArray]; omega)
  have e : slicePick its.toArray l u o = ((sliceRange (sliceBounds l u o xs.length).1 (sliceBounds l u o xs.length).2.1 (sliceBounds l u o xs.length).2.2).filterMap (its[·]?)).toArray := by
    unfold slicePick
    rw [List.size_toArray, ← hlen]
    congr 1
    refine congrArg (fun f => List.filterMap f _) (funext fun i => ?_)
    simp
  have vp := vals_pick r (sliceRange (sliceBounds l u o xs.length).1 (sliceBounds l u o xs.length).2.1 (sliceBounds l u o xs.length).2.2)
  rw [e] at sz ⊢
  refine ⟨.ref _, _, I5.laid (t' := s4.toks) (o := .lst (pickV xs l u o)) (fun b ob q => Heap.get?_push_of_some _ q) (Nat.le_refl _) ?_, rfl, q _ (I5.hok.fresh (Nat.le_refl _))⟩
  refine ⟨?_, _, 0, vp, Heap.get?_push_size _ rfl⟩
  have := vp.length
  rw [List.size_toArray, List.size_toArray] at sz
  unfold pickV
  omega
/-! ### t[::-1] of a tuple -/
theorem fm_congr {α β : Type} {f g : α → Option β} : ∀ {l : List α}, (∀ x ∈ l, f x = g x) → l.filterMap f = l.filterMap g
  | [], _ => rfl
  | a :: l, h => by
    rw [List.filterMap_cons, List.filterMap_cons, h a List.mem_cons_self, fm_congr fun x hx => h x (List.mem_cons_of_mem _ hx)]
theorem getItem_tuple_rev {prog : Program} {w : World} {A : Around} {E : Value → Shared → Prop} {s : Shared} {t sl : Addr} {items : Array Value} {tk : Tok} {Q : Value → Shared → Prop} (ht : IsTup s.heap t items) (hs : s.heap.IsSliceOf sl .none .none (.int (-1) tk))
    (h : Q (.ref s.heap.objs.size) { s with heap := s.heap.push { cls := .type "tuple", data := .seq items.toList.reverse.toArray } })
    (hsz : items.size ≤ sizeLine) : wpAny (model prog w) A (getItem (.ref t) (.ref sl)) Q E s := by
  have htake : sizeOk (.seq items.toList.reverse.toArray) := by
    show items.toList.reverse.toArray.size ≤ sizeLine
    rw [List.size_toArray, List.length_reverse, Array.length_toList]
    exact hsz
  obtain ⟨os, hos, hcs, hds⟩ := id hs
  have hTs : s.TypeIs (.ref sl) "slice" := ⟨os, hos, hcs⟩
  unfold getItem
  try with_reducible refine wpAny_holding ?_
  first | refine wpAny_bind (wpAny_pure ?_) | skip
  refine wpAny_bind (wpAny_sequenceKey ht.typeIs (by decide) ?_)
  refine wpAny_bind (wpAny_callSpecial?_slot (name := Str.ofString "__getitem__") ht.typeIs PyProof.Rows.slot_tuple_getitem
    (wpAny_call_entry PyProof.Rows.slot_tuple_getitem ht.typeIs entry_tuple_getitem ?_ (args_tuple_getitem _ _)))
  show wpAny _ _ (Builtin.Tuple.tupleItemsOf (.ref t) >>= _) _ _ s
  refine wpAny_bind (tupleItemsOf_ ht ?_)
  refine wpAny_bind (wpAny_typeOf hTs ?_)
  rw [if_pos (by decide)]
  have ap : ∀ {A : Around} {E : Value → Shared → Prop} {Q2 : Int × Int × Nat → Shared → Prop}, Q2 ((items.size : Int) - 1, -1, items.size) s → wpAny (model prog w) A (Builtin.Slice.sliceApplied (.ref sl) (pure (items.size : Int))) Q2 E s := by
    intro A E Q2 h2
    unfold Builtin.Slice.sliceApplied Builtin.Slice.sliceFields
    refine wpAny_bind (wpAny_bind (wpAny_field hos hds (x := .none) rfl (wpAny_bind (wpAny_field hos hds (x := .none) rfl (wpAny_bind (wpAny_field hos hds (x := .int (-1) tk) rfl (wpAny_pure ?_)))))))
    refine wpAny_bind (slicePart_int ?_)
    show wpAny _ _ (if ((-1 : Int) == 0) = true then _ else _) _ _ s
    rw [if_neg (by decide)]
    refine wpAny_bind (slicePart_none (wpAny_bind (slicePart_none (wpAny_bind (wpAny_pure ?_)))))
    show wpAny _ _ (pure ((items.size : Int) - 1, (-1 : Int), Builtin.Slice.slicePlaces ((items.size : Int) - 1) (-1) (-1))) _ _ s
    have e : Builtin.Slice.slicePlaces ((items.size : Int) - 1) (-1) (-1) = items.size := by
      unfold Builtin.Slice.slicePlaces
      rw [if_neg (by decide)]
      by_cases hp : (items.size : Int) - 1 > -1
      · rw [if_pos hp, show (- -1 : Int) = 1 by decide, Int.ediv_one]
        omega
      · rw [if_neg hp]
        omega
    rw [e]
    exact wpAny_pure h2
  refine wpAny_bind (ap ?_)
  have hno : ¬ ((((items.size : Int) - 1) == 0 && (-1 : Int) == 1 && items.size == items.size) = true) := by
    rw [show ((-1 : Int) == 1) = false from rfl, Bool.and_false, Bool.false_and]
    exact Bool.false_ne_true
  show wpAny _ _ (if (((items.size : Int) - 1) == 0 && (-1 : Int) == 1 && items.size == items.size) = true then _ else _) _ _ s
  rw [if_neg hno]
  have ep : ((List.range items.size).filterMap fun (k : Nat) => items[((items.size : Int) - 1 + (k : Int) * -1).toNat]?).toArray = items.toList.reverse.toArray := by
    have h1 := PySem.W.krv_all items
    have h2 := PySem.W.krv_range items.size
    rw [← h1, ← List.filterMap_reverse, ← h2, List.filterMap_map]
    congr 1
    refine fm_congr fun k hk => ?_
    have := List.mem_range.mp hk
    show items[((items.size : Int) - 1 + (k : Int) * -1).toNat]? = items[items.size - 1 - k]?
    rw [show ((items.size : Int) - 1 + (k : Int) * -1).toNat = items.size - 1 - k by omega]
  rw [ep]
  first
    | exact wpAny_bind (m := Builtin.Tuple.tupleExact _) (wpAny_newObj_type (wpAny_pure ⟨_, rfl, wpAny_pure h⟩) htake)
    | exact wpAny_bind (m := Builtin.Tuple.tupleExact _) (wpAny_newObj_type (wpAny_bind (wpAny_pure (wpAny_pure ⟨_, rfl, wpAny_pure h⟩))) htake)
    | exact wpAny_bind (wpAny_bind (m := Builtin.Tuple.tupleExact _) (wpAny_newObj_type (wpAny_pure (wpAny_pure ⟨_, rfl, wpAny_pure h⟩)) htake))
    | exact wpAny_bind (wpAny_bind (m := Builtin.Tuple.tupleExact _) (wpAny_newObj_type (wpAny_pure ⟨_, rfl, wpAny_pure h⟩) htake))
def tRevT (K : PySem.W.Frag) (te : TE) : TE := fun σ H Q => te σ H fun x H1 => ∃ a xs, x = .ref a ∧ SqT K H1 a xs ∧ ∀ p, H1 p = none → Q (.ref p) (upd H1 p (.tup xs.reverse))
theorem pe_revT {e : Expr} {te : TE} {k : Nat} {p1 p2 p3 pos : Pos} (hK : X.K = K) (he : PE X e te) : PE X (.Subscript e (.Slice none none (some (.UnaryOp .USub (.Constant (.int 1) k p1) p2)) p3) pos) (tRevT K te) := by
  subst hK
  refine ⟨fun pins s σ H Q I h => ?_⟩
  refine Subscript_ (thn (he.run pins s σ H _ I h) fun v s1 ⟨x, H1, I1, r1, q1⟩ => ?_)
  obtain ⟨a, xs, ex, hx, q⟩ := q1
  subst ex
  cases r1
  have hst : PO X (some (.UnaryOp .USub (.Constant (.int 1) k p1) p2)) (tPart (tUn (rU fun i => .int (-i)) (tC (.int 1)))) := po_some (pe_un un_neg pe_int)
  refine wpAny_Slice ?_
  rw [evalPart_none]
  refine wpAny_pure (wpAny_pure ?_)
  refine thn (hst.run pins s1 σ H1 (fun o H4 => o = some (-1) ∧ H4 = H1) I1 ⟨1, rfl, -1, rfl, rfl, rfl⟩) fun vs s4 ⟨o, H4, I4, ps, eo, e4⟩ => ?_
  subst eo e4
  obtain ⟨tk, rfl⟩ : ∃ tk, vs = .int (-1) tk := by
    cases ps
    exact ⟨_, rfl⟩
  have I5 : Inv X pins σ H4 { s4 with heap := s4.heap.push { cls := .type "slice", data := .fields #[.none, .none, .int (-1) tk] } } := I4.kept (t' := s4.toks) fun b ob q => Heap.get?_push_of_some _ q
  obtain ⟨its, r, ht, hz⟩ := I5.tuple hx
  have hlen := r.length
  show wpAny (model X.prog X.w) X.A (subscriptTail e (.Slice none none (some (.UnaryOp .USub (.Constant (.int 1) k p1) p2)) p3) (.ref a) (.ref s4.heap.objs.size)) (EP X pins σ Q) X.xe { s4 with heap := s4.heap.push { cls := .type "slice", data := .fields #[.none, .none, .int (-1) tk] } }
  refine tail_any (ops := [.ref a, .ref s4.heap.objs.size]) ht.typeIs (PyProof.Rows.slot_tuple_getitem.lookup) ?_ (by with_unfolding_all rfl)
  refine getItem_tuple_rev ht (Heap.IsSliceOf.new _ _ _ _) ?_ (by rw [List.size_toArray]; omega)
  refine ⟨.ref _, _, I5.laid (t' := s4.toks) (o := .tup xs.reverse) (fun b ob q => Heap.get?_push_of_some _ q) (Nat.le_refl _) ?_, rfl, q _ (I5.hok.fresh (Nat.le_refl _))⟩
  exact ⟨by rw [List.length_reverse]; exact hz, _, r.reverse, IsTup.new _ _⟩
end
/-! ### a walk over a locked dict's keys -/
theorem for_keys {d : Addr} {o : Obj} {kvs : List (L2.Key × V)} {g : TG} {tb : TS} {D : Ends} {σ : L2.St} {H : Hp} (Pv : Nat → L2.St → Hp → Prop) (h0 : Pv 0 σ H) (hl : ∀ i σ H, i ≤ kvs.length → Pv i σ H → H d = some (.frz o (.dK kvs)))
    (hs : ∀ i k v σ H, kvs[i]? = some (k, v) → Pv i σ H → g (kV k) σ H fun σ2 H2 => tb { D with nx := Pv (i + 1), ct := Pv (i + 1), bk := D.nx } σ2 H2) (hd : ∀ σ H, Pv kvs.length σ H → D.nx σ H) :
    ∃ W : Nat → Nat → L2.St → Hp → Prop, (∃ m, W 0 m σ H) ∧ ∀ i m σ H, W i m σ H →
      ((Itk d o kvs).stop i H ∧ D.nx σ H) ∨ ((Itk d o kvs).go i H ∧ ∃ N : L2.St → Hp → Prop, (∀ σ' H', N σ' H' → ∃ m', m' < m ∧ W (i + 1) m' σ' H') ∧ ∀ x H', (Itk d o kvs).yld i H x H' → g x σ H' fun σ2 H2 => tb { D with nx := N, ct := N, bk := D.nx } σ2 H2) := by
  refine ⟨fun i m σ H => m = kvs.length - i ∧ i ≤ kvs.length ∧ Pv i σ H, ⟨kvs.length, by simp, Nat.zero_le _, h0⟩, ?_⟩
  rintro i m σ H ⟨rfl, hi, p⟩
  have q := hl i σ H hi p
  by_cases hlt : i < kvs.length
  · refine .inr ⟨⟨q, hlt⟩, Pv (i + 1), fun σ' H' p' => ⟨kvs.length - (i + 1), by omega, rfl, hlt, p'⟩, fun x H' y => ?_⟩
    obtain ⟨e, k, v, hk, rfl⟩ := y
    subst e
    exact hs i k v σ _ hk p
  · have e : i = kvs.length := by omega
    subst e
    exact .inl ⟨⟨q, Nat.le_refl _⟩, hd σ H p⟩
/-! ### every second one -/
theorem pick_ev : ∀ xs : List V, (List.range ((xs.length + 1) / 2)).filterMap (fun k => xs[2 * k]?) = ev xs
  | [] => rfl
  | [a] => by
    rw [show ([a].length + 1) / 2 = 1 by rw [List.length_singleton]]
    rfl
  | a :: b :: r => by
    rw [show ((a :: b :: r).length + 1) / 2 = (r.length + 1) / 2 + 1 by rw [List.length_cons, List.length_cons]; omega, List.range_succ_eq_map, List.filterMap_cons, List.filterMap_map]
    show a :: _ = a :: ev r
    rw [← pick_ev r]
    refine congrArg (a :: ·) (congrArg (fun f => List.filterMap f _) (funext fun k => ?_))
    show (a :: b :: r)[2 * (k + 1)]? = r[2 * k]?
    rw [show 2 * (k + 1) = 2 * k + 1 + 1 by omega]
    rfl
theorem pick_two (xs : List V) : pickV xs none none (some 2) = ev xs := by
  rw [← pick_ev]
  unfold pickV
  have e : sliceBounds none none (some 2) xs.length = (0, (xs.length : Int), 2) := by
    simp [sliceBounds]
  rw [e]
  unfold sliceRange
  show List.filterMap _ (List.map _ (List.range _)) = _
  rw [List.filterMap_map]
  have c : (if (2 : Int) > 0 then (if (0 : Int) < (xs.length : Int) then ((xs.length : Int) - 0 + 2 - 1) / 2 else 0) else (if (0 : Int) > (xs.length : Int) then (0 - (xs.length : Int) - 2 - 1) / (-2) else 0)).toNat = (xs.length + 1) / 2 := by
    rw [if_pos (by decide)]
    split <;> omega
  rw [c]
  refine congrArg (fun f => List.filterMap f _) (funext fun k => ?_)
  show xs[((0 : Int) + 2 * (k : Int)).toNat]? = xs[2 * k]?
  rw [show ((0 : Int) + 2 * (k : Int)).toNat = 2 * k by omega]
theorem pick_one (xs : List V) : pickV xs (some 1) none (some 2) = ev xs.tail := by
  cases xs with
  | nil =>
    unfold pickV
    have e : sliceBounds (some 1) none (some 2) ([] : List V).length = (0, 0, 2) := by decide
    rw [e]
    rfl
  | cons a t =>
    show _ = ev t
    rw [← pick_ev]
    unfold pickV
    have e : sliceBounds (some 1) none (some 2) (a :: t).length = (1, (t.length : Int) + 1, 2) := by
      simp [sliceBounds] <;> omega
    rw [e]
    unfold sliceRange
    show List.filterMap _ (List.map _ (List.range _)) = _
    rw [List.filterMap_map]
    have c : (if (2 : Int) > 0 then (if (1 : Int) < (t.length : Int) + 1 then ((t.length : Int) + 1 - 1 + 2 - 1) / 2 else 0) else (if (1 : Int) > (t.length : Int) + 1 then (1 - ((t.length : Int) + 1) - 2 - 1) / (-2) else 0)).toNat = (t.length + 1) / 2 := by
      rw [if_pos (by decide)]
      split <;> omega
    rw [c]
    refine congrArg (fun f => List.filterMap f _) (funext fun k => ?_)
    show (a :: t)[((1 : Int) + 2 * (k : Int)).toNat]? = t[2 * k]?
    rw [show ((1 : Int) + 2 * (k : Int)).toNat = 2 * k + 1 by omega, List.getElem?_cons_succ]
end KR
namespace KQ
open PySem PySem.Spec PyProof.Rows L2 KR KM StX
section
variable {P : Program} {w : World} {K : PySem.W.Frag} {mg : Str → Option Value} {base : Heap}
/-- what is told of the first ring up to a door -/
def RingTo (p r : List Int) (n : Int) (H : Hp) (v : V) : Prop := (v = .non ∧ ¬ RingAt p r n.toNat) ∨
  ∃ (t : Addr) (ds : List Int), v = .ref t ∧ TI H t ds ∧ RingAt p r n.toNat ∧ IsRing p r ds ∧ ds[0]? = some n ∧ ∀ d ∈ ds, d ≤ n
def spUpTo : Sp := fun vs H Q _ => ∃ (a b : Addr) (p r : List Int) (n : Int), vs = [.ref a, .ref b, .int n] ∧ TI H a p ∧ TI H b r ∧ Par p ∧ Par r ∧ p.length = r.length ∧ 0 ≤ n ∧ n < p.length ∧
  ∀ H' v, Same H H' → RingTo p r n H' v → Q v H'
def spRing : Sp := fun vs H Q _ => ∃ (a b : Addr) (p r : List Int), vs = [.ref a, .ref b] ∧ TI H a p ∧ TI H b r ∧ Par p ∧ Par r ∧ p.length = r.length ∧
  ∀ H' v, Same H H' → ((v = .non ∧ NoRing p r) ∨ ∃ (n : Nat) (t : Addr) (ds : List Int), v = .ref t ∧ TI H' t ds ∧ RingAt p r n ∧ (∀ j, j < n → ¬ RingAt p r j) ∧ IsRing p r ds ∧ ds[0]? = some (n : Int) ∧ ∀ d ∈ ds, d ≤ (n : Int)) → Q v H'
end
end KQ
namespace KQ
open PySem PySem.Spec PyProof.Rows L2 KR KM StX
/-- things of the kinds that the law makes -/
inductive OddV (H : Hp) : V → Prop where
  | int (i : Int) : OddV H (.int i)
  | bl (b : Bool) : OddV H (.bl b)
  | non : OddV H .non
  | str (x : Str) : OddV H (.str x)
  | lst {a : Addr} {xs : List V} (h : H a = some (.lst xs)) : OddV H (.ref a)
  | dK {a : Addr} {kvs : List (L2.Key × V)} (h : H a = some (.dK kvs)) : OddV H (.ref a)
  | tup {a : Addr} {xs : List V} (h : H a = some (.tup xs)) : OddV H (.ref a)
theorem OddV.mono {H H' : Hp} {v : V} (o : OddV H v) (s : Same H H') : OddV H' v := by
  cases o with
  | int i => exact .int i
  | bl b => exact .bl b
  | non => exact .non
  | str x => exact .str x
  | lst h => exact .lst (s _ _ h)
  | dK h => exact .dK (s _ _ h)
  | tup h => exact .tup (s _ _ h)
def isI : V → Bool
  | .int _ => true
  | _ => false
def inV (v : V) (lo hi : Int) : Bool :=
  match v with
  | .int i => decide (lo ≤ i ∧ i ≤ hi)
  | _ => false
theorem inV_true {v : V} {lo hi : Int} (h : inV v lo hi = true) : ∃ i, v = .int i ∧ lo ≤ i ∧ i ≤ hi := by
  cases v with
  | int i =>
    have := of_decide_eq_true h
    exact ⟨i, rfl, this.1, this.2⟩
  | _ => cases h
inductive Thing (H : Hp) : V → Option (List V) → Prop where
  | tup {a : Addr} {vs : List V} (h : H a = some (.tup vs)) (o : ∀ v ∈ vs, OddV H v) (l : vs.length ≤ 1000) : Thing H (.ref a) (some vs)
  | non : Thing H .non none
  | int (i : Int) : Thing H (.int i) none
  | lst {a : Addr} {xs : List V} (h : H a = some (.lst xs)) : Thing H (.ref a) none
theorem Thing.mono {H H' : Hp} {v : V} {o : Option (List V)} (t : Thing H v o) (s : Same H H') : Thing H' v o := by
  cases t with
  | tup h o l => exact .tup (s _ _ h) (fun v hv => (o v hv).mono s) l
  | non => exact .non
  | int i => exact .int i
  | lst h => exact .lst (s _ _ h)
def RightT (p r : List Int) (o : Option (List V)) : Prop := ∃ ds : List Int, o = some (ds.map V.int) ∧ IsRing p r ds
theorem map_int_inj : ∀ {xs ys : List Int}, xs.map V.int = ys.map V.int → xs = ys
  | [], [], _ => rfl
  | [], _ :: _, h => by cases h
  | _ :: _, [], h => by cases h
  | x :: xs, y :: ys, h => by
    obtain ⟨h1, h2⟩ := List.cons.inj h
    rw [V.int.inj h1, map_int_inj h2]
theorem right_ints {p r ds : List Int} : RightT p r (some (ds.map V.int)) ↔ IsRing p r ds :=
  ⟨fun ⟨ds', e, h⟩ => by rw [map_int_inj (Option.some.inj e)]; exact h, fun h => ⟨ds, rfl, h⟩⟩
theorem eqv_ints : ∀ (xs ys : List Int), PyData.eqvAll (xs.map PyData.int) (ys.map PyData.int) = decide (xs = ys)
  | [], [] => rfl
  | [], _ :: _ => rfl
  | _ :: _, [] => rfl
  | x :: xs, y :: ys => by
    show (PyData.eqv (.int x) (.int y) && PyData.eqvAll (xs.map PyData.int) (ys.map PyData.int)) = _
    rw [eqv_ints xs ys]
    show ((x == y) && decide (xs = ys)) = _
    by_cases e : x = y
    · subst e
      simp
    · simp [e]
section
variable {P : Program} {w : World} {K : PySem.W.Frag} {mg : Str → Option Value} {base : Heap}
theorem OddV.ty {H : Hp} {v : V} (o : OddV H v) (hi : ∀ i, v ≠ .int i) : ∃ T : String, TyX K H v (.type T) ∧ ((T = "bool" ∧ ∃ b, v = .bl b) ∨ (kitB T "int" = some false)) := by
  cases o with
  | int i => exact absurd rfl (hi i)
  | bl b => exact ⟨_, .base (.bl b), .inl ⟨rfl, b, rfl⟩⟩
  | non => exact ⟨_, .base .non, .inr (by decide +kernel)⟩
  | str x => exact ⟨_, .base (.str x), .inr (by decide +kernel)⟩
  | lst h => exact ⟨_, .base (.lst h), .inr (by decide +kernel)⟩
  | dK h => exact ⟨_, .base (.dK h), .inr (by decide +kernel)⟩
  | tup h => exact ⟨_, .base (.tup h), .inr (by decide +kernel)⟩
def spIsIntegerA : Sp := fun vs H Q _ => ∃ v : V, vs = [v] ∧ OddV H v ∧ Q (.bl (isI v)) H
theorem ok_is_integerA (D : DefAt K mg "is_integer" s_is_integer) (T : Bt mg) : Use P w K mg base "is_integer" 1 ["value"] spIsIntegerA := by
  refine use_of D (fun f fd F => F.ok sc_is_integer (fun vs H Q E h => ?_) (fun cdv A outer s H vs Q E hr h => ?_)) (fun _ _ _ _ _ _ us hl => match us, hl with | [_], _ => rfl)
  · obtain ⟨i, rfl, _⟩ := h
    rfl
  · obtain ⟨v, rfl, o, q⟩ := h
    refine ⟨_, (pss_one (ps_ret (pe_and (pe_callB (k_isi (K := K) rfl) (by rfl) T.isinstance (by decide +kernel) (pa_cons (pv 0) (pa_cons (pe_bltn (v := .ty "int") (by rfl) T.int (by decide +kernel) rfl) pa_nil))) (pe_one (pe_not (pe_callB (k_isi (K := K) rfl) (by rfl) T.isinstance (by decide +kernel) (pa_cons (pv 0) (pa_cons (pe_bltn (v := .ty "bool") (by rfl) T.bool (by decide +kernel) rfl) pa_nil)))))))), ?_⟩
    by_cases hi : ∃ i, v = .int i
    · obtain ⟨i, rfl⟩ := hi
      refine ⟨_, rfl, _, _, _, _, true, rfl, .ty _, .base (.int i), kit_ty (by decide +kernel), true, rfl, iteT ?_⟩
      exact ⟨_, rfl, _, _, _, _, false, rfl, .ty _, .base (.int i), kit_ty (by decide +kernel), _, rfl, q⟩
    · have e : isI v = false := by
        cases v with
        | int i => exact absurd ⟨i, rfl⟩ hi
        | _ => rfl
      rw [e] at q
      obtain ⟨t, ty, h⟩ := o.ty (K := K) fun i e => hi ⟨i, e⟩
      rcases h with ⟨rfl, b, rfl⟩ | kt
      · refine ⟨_, rfl, _, _, _, _, true, rfl, .ty _, ty, kit_ty (by decide +kernel), true, rfl, iteT ?_⟩
        exact ⟨_, rfl, _, _, _, _, true, rfl, .ty _, ty, kit_ty (by decide +kernel), _, rfl, q⟩
      · exact ⟨_, rfl, _, _, _, _, false, rfl, .ty _, ty, kit_ty kt, false, rfl, iteF q⟩
def spIntWA : Sp := fun vs H Q _ => ∃ (v : V) (lo hi : Int), vs = [v, .int lo, .int hi] ∧ OddV H v ∧ Q (.bl (inV v lo hi)) H
theorem ok_is_integer_withinA (D : DefAt K mg "is_integer_within" s_is_integer_within) (T : Bt mg) (u_is_integer : Use P w K mg base "is_integer" 1 ["value"] spIsIntegerA) :
    Use P w K mg base "is_integer_within" 2 ["value", "least", "most"] spIntWA := by
  refine use_of D (fun f fd F => F.ok sc_is_integer_within (fun vs H Q E h => ?_) (fun cdv A outer s H vs Q E hr h => ?_)) (fun _ _ _ _ _ _ us hl => match us, hl with | [_, _, _], _ => rfl)
  · obtain ⟨i, lo, hi, rfl, _⟩ := h
    rfl
  · obtain ⟨v, lo, hi, rfl, o, q⟩ := h
    refine ⟨_, (pss_one (ps_ret (pe_and (pe_use u_is_integer (by decide) hr (by rfl) (pa_cons (pv 0) pa_nil)) (pe_one (pe_chain op_le op_le (pv 1) (pv 0) (pv 2)))))), ?_⟩
    by_cases hv : ∃ i, v = .int i
    · obtain ⟨i, rfl⟩ := hv
      have q' : Q (.bl (decide (lo ≤ i ∧ i ≤ hi))) H := q
      refine ⟨_, rfl, _, rfl, o, true, rfl, iteT ?_⟩
      refine ⟨_, rfl, _, rfl, lo, i, rfl, rfl, _, rfl, ?_⟩
      by_cases h1 : lo ≤ i
      · rw [decide_eq_true h1]
        refine iteT ⟨_, rfl, i, hi, rfl, rfl, ?_⟩
        have e : decide (lo ≤ i ∧ i ≤ hi) = decide (i ≤ hi) := by simp [h1]
        rw [e] at q'
        exact q'
      · rw [decide_eq_false h1]
        refine iteF ?_
        have e : decide (lo ≤ i ∧ i ≤ hi) = false := by simp [h1]
        rw [e] at q'
        exact q'
    · have e : isI v = false ∧ inV v lo hi = false := by
        cases v with
        | int i => exact absurd ⟨i, rfl⟩ hv
        | _ => exact ⟨rfl, rfl⟩
      rw [e.2] at q
      exact ⟨_, rfl, _, rfl, o, false, by rw [e.1], iteF q⟩
theorem ev_ints (xs : List Int) : ev (xs.map V.int) = (ev xs).map V.int := ev_map _ _
def spIsRing : Sp := fun vs H Q _ => ∃ (a b : Addr) (t : V) (p r : List Int) (o : Option (List V)), vs = [.ref a, .ref b, t] ∧ TI H a p ∧ TI H b r ∧ Par p ∧ Par r ∧ p.length = r.length ∧ Thing H t o ∧
  ∀ H' c, Same H H' → (c = true ↔ RightT p r o) → Q (.bl c) H'
end
end KQ
namespace KR
open PySem PySem.Spec PyProof.Rows L2 KM KQ
theorem lc_enumT {K : PySem.W.Frag} {a : Addr} {xs : List V} {g : TG} {tt : TT} {te : TE} {vs : List Nat} {σ : L2.St} {H1 : Hp} {D : Addr} {Qd : Hp → Prop} (Pv : Nat → Hp → Prop) (h0 : Pv 0 (upd H1 D (.lst []))) (hl : ∀ i H, i ≤ xs.length → Pv i H → SqT K H a xs)
    (hs : ∀ (i : Nat) (x : V) (T : Addr) (H : Hp), xs[i]? = some x → Pv i H → H T = none → g (.ref T) (wipe σ vs) (upd H T (.tup [.int (i : Nat), x])) fun σ2 H2 => wipe σ2 vs = wipe σ vs ∧ tt σ2 H2 fun b H3 =>
      if b = true then te σ2 H3 fun y H4 => ∃ acc, H4 D = some (.lst acc) ∧ acc.length < sizeLine ∧ Pv (i + 1) (upd H4 D (.lst (acc ++ [y]))) else Pv (i + 1) H3) (hd : ∀ H, Pv xs.length H → Qd H) :
    ∃ W : Nat → Nat → Hp → Prop, (∃ m, W 0 m (upd H1 D (.lst []))) ∧ ∀ i m H, W i m H →
      ((IteT K a).stop i H ∧ Qd H) ∨ ((IteT K a).go i H ∧ ∃ Nx : Hp → Prop, (∀ H', Nx H' → ∃ m', m' < m ∧ W (i + 1) m' H') ∧ ∀ x H', (IteT K a).yld i H x H' → g x (wipe σ vs) H' fun σ2 H2 => wipe σ2 vs = wipe σ vs ∧ tt σ2 H2 fun b H3 =>
        if b = true then te σ2 H3 fun y H4 => ∃ acc, H4 D = some (.lst acc) ∧ acc.length < sizeLine ∧ Nx (upd H4 D (.lst (acc ++ [y]))) else Nx H3) := by
  refine ⟨fun i m H => m = xs.length - i ∧ i ≤ xs.length ∧ Pv i H, ⟨xs.length, by simp, Nat.zero_le _, h0⟩, ?_⟩
  rintro i m H ⟨rfl, hi, p⟩
  have q := hl i H hi p
  by_cases hlt : i < xs.length
  · have hx : xs[i]? = some xs[i] := List.getElem?_eq_getElem hlt
    refine .inr ⟨⟨xs, _, q, hx⟩, Pv (i + 1), fun H' p' => ⟨xs.length - (i + 1), by omega, rfl, hlt, p'⟩, fun x H' y => ?_⟩
    obtain ⟨T, x', rfl, hT, rfl, f1⟩ := y
    exact hs i x' T H (f1 xs q) p hT
  · have e : i = xs.length := by omega
    subst e
    exact .inl ⟨⟨xs, q, Nat.le_refl _⟩, hd H p⟩
theorem lc_enumL {K : PySem.W.Frag} {a : Addr} {xs : List V} {g : TG} {tt : TT} {te : TE} {vs : List Nat} {σ : L2.St} {H1 : Hp} {D : Addr} {Qd : Hp → Prop} (Pv : Nat → Hp → Prop) (h0 : Pv 0 (upd H1 D (.lst []))) (hl : ∀ i H, i ≤ xs.length → Pv i H → SqL K H a xs)
    (hs : ∀ (i : Nat) (x : V) (T : Addr) (H : Hp), xs[i]? = some x → Pv i H → H T = none → g (.ref T) (wipe σ vs) (upd H T (.tup [.int (i : Nat), x])) fun σ2 H2 => wipe σ2 vs = wipe σ vs ∧ tt σ2 H2 fun b H3 =>
      if b = true then te σ2 H3 fun y H4 => ∃ acc, H4 D = some (.lst acc) ∧ acc.length < sizeLine ∧ Pv (i + 1) (upd H4 D (.lst (acc ++ [y]))) else Pv (i + 1) H3) (hd : ∀ H, Pv xs.length H → Qd H) :
    ∃ W : Nat → Nat → Hp → Prop, (∃ m, W 0 m (upd H1 D (.lst []))) ∧ ∀ i m H, W i m H →
      ((Ite K a).stop i H ∧ Qd H) ∨ ((Ite K a).go i H ∧ ∃ Nx : Hp → Prop, (∀ H', Nx H' → ∃ m', m' < m ∧ W (i + 1) m' H') ∧ ∀ x H', (Ite K a).yld i H x H' → g x (wipe σ vs) H' fun σ2 H2 => wipe σ2 vs = wipe σ vs ∧ tt σ2 H2 fun b H3 =>
        if b = true then te σ2 H3 fun y H4 => ∃ acc, H4 D = some (.lst acc) ∧ acc.length < sizeLine ∧ Nx (upd H4 D (.lst (acc ++ [y]))) else Nx H3) := by
  refine ⟨fun i m H => m = xs.length - i ∧ i ≤ xs.length ∧ Pv i H, ⟨xs.length, by simp, Nat.zero_le _, h0⟩, ?_⟩
  rintro i m H ⟨rfl, hi, p⟩
  have q := hl i H hi p
  by_cases hlt : i < xs.length
  · have hx : xs[i]? = some xs[i] := List.getElem?_eq_getElem hlt
    refine .inr ⟨⟨xs, _, q, hx⟩, Pv (i + 1), fun H' p' => ⟨xs.length - (i + 1), by omega, rfl, hlt, p'⟩, fun x H' y => ?_⟩
    obtain ⟨T, x', rfl, hT, rfl, f1⟩ := y
    exact hs i x' T H (f1 xs q) p hT
  · have e : i = xs.length := by omega
    subst e
    exact .inl ⟨⟨xs, q, Nat.le_refl _⟩, hd H p⟩
theorem k_gtup {X : Cx} {K : PySem.W.Frag} {es : List Expr} {k : Nat} {t : TGs} {n : Nat} {pos : Pos} (hK : X.K = K) (hc : X.calm = true) (h : PGs X es t)
    (hn : (assignEach es X.env).length = n := by rfl) (hst : (assignEach es X.env).findIdx? (·.1) = none := by rfl) : PG X (.Tuple es k pos) (gTup K n t) := by
  subst hK
  exact pg_tup hc h hn hst
def rReprB : List V → Hp → VK → Prop := fun xs H Q => ∃ b : Bool, xs = [.bl b] ∧ Q (.str (if b then "True" else "False")) H
theorem call_reprB {X : Cx} : CallR X (.builtin "repr") rReprB := by
  intro pins s σ H xs us Q I r h
  obtain ⟨b, rfl, q⟩ := h
  cases r with
  | cons r1 rr =>
    cases rr
    cases r1
    exact PySem.P.repr_of_bool ⟨.str _, H, I.tok _, ⟨_, rfl⟩, q⟩
/-- a whole number among whole numbers -/
theorem inV_ints (d : Int) (ds : List Int) : L2.inV (.int d) (ds.map V.int) = decide (d ∈ ds) := by
  unfold L2.inV
  rw [List.any_map]
  by_cases h : d ∈ ds
  · rw [decide_eq_true h, List.any_eq_true]
    exact ⟨d, h, by show (d == d) = true; simp⟩
  · rw [decide_eq_false h, List.any_eq_false]
    intro x hx
    show ¬ (x == d) = true
    rw [beq_iff_eq]
    exact fun e => h (e ▸ hx)
theorem flat_ints (ds : List Int) : (ds.map V.int).all flatV = true := by
  rw [List.all_map, List.all_eq_true]
  exact fun _ _ => rfl
end KR
namespace KQ
open PySem PySem.Spec PyProof.Rows L2 KR KM StX
theorem fmod2 (n : Nat) : Int.fmod (n : Int) 2 = ((n % 2 : Nat) : Int) := by
  rw [Int.fmod_eq_emod_of_nonneg _ (by decide)]
  omega
theorem nodup_take (ds : List Int) : ds.Nodup ↔ ∀ (i : Nat) (d : Int), ds[i]? = some d → d ∉ ds.take i := by
  constructor
  · intro h i d hd hm
    obtain ⟨j, hj⟩ := List.mem_iff_getElem?.mp hm
    have jl := (List.getElem?_eq_some_iff.mp hj).1
    rw [List.length_take] at jl
    rw [List.getElem?_take_of_lt (by omega)] at hj
    have l1 := List.getElem?_eq_some_iff.mp hj
    have l2 := List.getElem?_eq_some_iff.mp hd
    exact List.pairwise_iff_getElem.mp h j i l1.1 l2.1 (by omega) (l1.2.trans l2.2.symm)
  · intro h
    refine List.pairwise_iff_getElem.mpr fun i j hi hj hij e => ?_
    refine h j _ (List.getElem?_eq_getElem hj) ?_
    rw [← e]
    exact List.mem_iff_getElem?.mpr ⟨i, by rw [List.getElem?_take_of_lt hij]; exact List.getElem?_eq_getElem hi⟩
section
variable {P : Program} {w : World} {K : PySem.W.Frag} {mg : Str → Option Value} {base : Heap}
end
end KQ
namespace KR
open PySem PySem.Spec PyProof.Rows L2 KM KQ
section
variable {X : Cx} {K : PySem.W.Frag}
/-- t[lo:hi], t + u, empty ones and whole ones too: a tuple with these items -/
def rSlF : V → Option Int → Option Int → Hp → VK → Prop := fun x lo hi H Q => ∃ a xs, x = .ref a ∧ H a = some (.tup xs) ∧ ∀ H' p, Same H H' → H' p = some (.tup (cutV xs lo hi)) → Q (.ref p) H'
def rCatF : R2 := fun x y H Q => ∃ a b xs ys, x = .ref a ∧ y = .ref b ∧ H a = some (.tup xs) ∧ H b = some (.tup ys) ∧ xs.length + ys.length ≤ 100000 ∧ ∀ H' p, Same H H' → H' p = some (.tup (xs ++ ys)) → Q (.ref p) H'
theorem k_slA (_hK : X.K = K) : SlR X rSlF := by
  intro pins s σ H x v vl vu lo hi sl Q I rx hs pl pu h
  obtain ⟨a, xs, rfl, hx, k⟩ := h
  refine sl_tupA pins s σ H _ v vl vu lo hi sl Q I rx hs pl pu ⟨a, xs, rfl, sqT hx, fun hw => k H a (Same.refl H) ?_, fun _ p np => k _ p (same_new np) upd_same⟩
  unfold cutV
  rw [hw.1, hw.2, List.drop_zero, Nat.sub_zero, List.take_length]
  exact hx
theorem k_catA (_hK : X.K = K) : OpR X (binaryOp .Add) rCatF := by
  intro pins s σ H x y v u Q I rx ry h
  obtain ⟨a, b, xs, ys, rfl, rfl, hx, hy, hl, k⟩ := h
  refine op_catA pins s σ H _ _ v u Q I rx ry ⟨a, b, xs, ys, rfl, rfl, sqT hx, sqT hy, Nat.le_of_lt (small_of hl), fun e => ?_, fun _ e => ?_, fun _ _ p np => k _ p (same_new np) upd_same⟩
  · subst e
    exact k H b (Same.refl H) (by rw [List.nil_append]; exact hy)
  · subst e
    exact k H a (Same.refl H) (by rw [List.append_nil]; exact hx)
end
theorem cut_sub {xs : List V} {lo hi : Option Int} {v : V} (h : v ∈ cutV xs lo hi) : v ∈ xs := by
  unfold cutV at h
  exact List.mem_of_mem_drop (List.mem_of_mem_take h)
/-! ### things that stay where S is changed -/
def refsOut (S : List Addr) (v : V) : Prop := ∀ x, v = .ref x → x ∉ S
def KeptS (H H' : Hp) (S : List Addr) : Prop := ∀ a u, H a = some u → a ∉ S → H' a = some u
def Good (H : Hp) (S : List Addr) (v : V) : Prop := ∃ o, Thing H v o ∧ refsOut S v ∧ ∀ vs, o = some vs → ∀ u ∈ vs, refsOut S u
theorem odd_kept {H H' : Hp} {S : List Addr} {v : V} (k : KeptS H H' S) (r : refsOut S v) (o : OddV H v) : OddV H' v := by
  cases o with
  | int i => exact .int i
  | bl b => exact .bl b
  | non => exact .non
  | str x => exact .str x
  | lst h => exact .lst (k _ _ h (r _ rfl))
  | dK h => exact .dK (k _ _ h (r _ rfl))
  | tup h => exact .tup (k _ _ h (r _ rfl))
theorem Good.kept {H H' : Hp} {S : List Addr} {v : V} (g : Good H S v) (k : KeptS H H' S) : Good H' S v := by
  obtain ⟨o, t, r, ri⟩ := g
  refine ⟨o, ?_, r, ri⟩
  cases t with
  | tup h oo l => exact .tup (k _ _ h (r _ rfl)) (fun v hv => odd_kept k (ri _ rfl v hv) (oo v hv)) l
  | non => exact .non
  | int i => exact .int i
  | lst h => exact .lst (k _ _ h (r _ rfl))
theorem Good.same {H H' : Hp} {S : List Addr} {v : V} (g : Good H S v) (k : Same H H') : Good H' S v := g.kept fun a u h _ => k a u h
theorem Good.sub {H : Hp} {S S' : List Addr} {v : V} (g : Good H S v) (h : ∀ x ∈ S', x ∈ S) : Good H S' v := by
  obtain ⟨o, t, r, ri⟩ := g
  exact ⟨o, t, fun x e hx => r x e (h x hx), fun vs e u hu x e' hx => ri vs e u hu x e' (h x hx)⟩
theorem odd_live {H : Hp} {x : Addr} (o : OddV H (.ref x)) : H x ≠ none := by
  cases o with
  | lst h => rw [h]; exact fun e => by cases e
  | dK h => rw [h]; exact fun e => by cases e
  | tup h => rw [h]; exact fun e => by cases e
theorem Good.new {H : Hp} {S : List Addr} {v : V} {l : Addr} (g : Good H S v) (n : H l = none) : Good H (l :: S) v := by
  obtain ⟨o, t, r, ri⟩ := g
  refine ⟨o, t, fun x e hx => ?_, fun vs e u hu x e' hx => ?_⟩
  · rcases List.mem_cons.mp hx with q | q
    · subst e q
      cases t with
      | tup h _ _ => rw [n] at h; cases h
      | lst h => rw [n] at h; cases h
    · exact r x e q
  · rcases List.mem_cons.mp hx with q | q
    · subst e' q e
      cases t with
      | tup h oo _ => exact odd_live (oo _ hu) n
    · exact ri vs e u hu x e' q
theorem good_tup {H : Hp} {S : List Addr} {a : Addr} {vs : List V} (h : H a = some (.tup vs)) (ns : a ∉ S) (o : ∀ v ∈ vs, OddV H v ∧ refsOut S v) (l : vs.length ≤ 1000) : Good H S (.ref a) :=
  ⟨some vs, .tup h (fun v hv => (o v hv).1) l, fun x e => by cases e; exact ns, fun ws e u hu => by cases e; exact (o u hu).2⟩
theorem good_lst {H : Hp} {S : List Addr} {a : Addr} {xs : List V} (h : H a = some (.lst xs)) (ns : a ∉ S) : Good H S (.ref a) :=
  ⟨none, .lst h, fun x e => by cases e; exact ns, fun ws e => by cases e⟩
theorem good_non {H : Hp} {S : List Addr} : Good H S .non := ⟨none, .non, fun x e => (by cases e), fun ws e => by cases e⟩
theorem good_int {H : Hp} {S : List Addr} {i : Int} : Good H S (.int i) := ⟨none, .int i, fun x e => (by cases e), fun ws e => by cases e⟩
theorem odd_ints {H : Hp} {S : List Addr} {vs : List V} {xs : List Int} (h : ∀ v ∈ vs, v ∈ xs.map V.int) : ∀ v ∈ vs, OddV H v ∧ refsOut S v := fun v hv => by
  obtain ⟨i, _, rfl⟩ := List.mem_map.mp (h v hv)
  exact ⟨.int i, fun x e => by cases e⟩
end KR
/-! sorted(rows), rows tuples of whole numbers, any number of them -/
namespace KR
open PySem PySem.Spec PyProof.Rows L2 KM KQ
theorem lex_asym : ∀ x y : List Int, HT.lexLt x y = true → HT.lexLt y x = false
  | [], [], h => by cases h
  | [], _ :: _, _ => rfl
  | _ :: _, [], h => by cases h
  | x :: xs, y :: ys, h => by
    rw [HT.lexLt_cons] at h ⊢
    by_cases e : x = y
    · rw [if_pos e] at h
      rw [if_pos e.symm]
      exact lex_asym xs ys h
    · rw [if_neg e] at h
      rw [if_neg (fun z => e z.symm)]
      have := of_decide_eq_true h
      exact decide_eq_false (by omega)
theorem lex_tr : ∀ x y z : List Int, HT.lexLt y x = false → HT.lexLt z y = false → HT.lexLt z x = false
  | [], [], z, _, h => h
  | [], _ :: _, [], _, h => by cases h
  | [], _ :: _, _ :: _, _, _ => rfl
  | _ :: _, [], _, h, _ => by cases h
  | _ :: _, _ :: _, [], _, h => by cases h
  | x :: xs, y :: ys, z :: zs, h, g => by
    rw [HT.lexLt_cons] at h g ⊢
    by_cases e1 : y = x
    · rw [if_pos e1] at h
      by_cases e2 : z = y
      · rw [if_pos e2] at g
        rw [if_pos (e2.trans e1)]
        exact lex_tr xs ys zs h g
      · rw [if_neg e2] at g
        have := of_decide_eq_false g
        rw [if_neg (by omega)]
        exact decide_eq_false (by omega)
    · rw [if_neg e1] at h
      have a := of_decide_eq_false h
      by_cases e2 : z = y
      · rw [if_neg (by omega)]
        exact decide_eq_false (by omega)
      · rw [if_neg e2] at g
        have b := of_decide_eq_false g
        rw [if_neg (by omega)]
        exact decide_eq_false (by omega)
theorem lex_eq : ∀ x y : List Int, HT.lexLt x y = false → HT.lexLt y x = false → x = y
  | [], [], _, _ => rfl
  | [], _ :: _, h, _ => by cases h
  | _ :: _, [], _, h => by cases h
  | x :: xs, y :: ys, h, g => by
    rw [HT.lexLt_cons] at h g
    by_cases e : x = y
    · rw [if_pos e] at h
      rw [if_pos e.symm] at g
      rw [e, lex_eq xs ys h g]
    · rw [if_neg e] at h
      rw [if_neg (fun z => e z.symm)] at g
      have := of_decide_eq_false h
      have := of_decide_eq_false g
      omega
theorem swo_row (k : Value → List Int) : SrtO.Swo fun v u => HT.lexLt (k v) (k u) := ⟨fun _ _ h => lex_asym _ _ h, fun _ _ _ h g => lex_tr _ _ _ h g⟩
/-- a tuple of whole numbers, at least one -/
def IsRow (h : Heap) (v : Value) (ns : List Int) : Prop := ∃ a o its n, v = .ref a ∧ h.get? a = some o ∧ o.cls = .type "tuple" ∧ o.data = .seq (List.toArray its) n ∧ IntsAre its ns ∧ ns ≠ []
theorem IsRow.keeps {h h' : Heap} {v : Value} {ns : List Int} (p : IsRow h v ns) (k : ∀ b o, h.get? b = some o → o.cls = .type "tuple" → h'.get? b = some o) : IsRow h' v ns := by
  obtain ⟨a, o, its, n, e, ho, hc, hd, hi, ne⟩ := p
  exact ⟨a, o, its, n, e, k _ _ ho hc, hc, hd, hi, ne⟩
section
variable {prog : Program} {w : World} {A : Around} {s : Shared}
theorem kat_ints {fin : Bool} : ∀ {xs ys : List Value} {ns ms : List Int} {i : Nat} {R : Bool}, IntsAre xs ns → IntsAre ys ms →
    (ns.length - ms.length = 0 → ms.length - ns.length = 0 → fin = false) → (ns.length < ms.length → fin = true) → (ms.length < ns.length → fin = false) → R = HT.lexLt ns ms →
    PySem.W.KatLex prog w A true fin (fun r s' => s' = s ∧ r = R) (xs.zip ys) i s
  | [], [], _, _, i, R, .nil, .nil, h0, _, _, e => PySem.W.kat_nil ⟨rfl, by rw [e, h0 rfl rfl]; rfl⟩
  | [], _ :: _, _, _, i, R, .nil, .cons _ _ _, _, h1, _, e => PySem.W.kat_nil ⟨rfl, by rw [e, h1 (by simp)]; rfl⟩
  | _ :: _, [], _, _, i, R, .cons _ _ _, .nil, _, _, h2, e => PySem.W.kat_nil ⟨rfl, by rw [e, h2 (by simp)]; rfl⟩
  | _ :: xs, _ :: ys, _, _, i, R, .cons x t hi, .cons y u hj, h0, h1, h2, e => by
    rw [HT.lexLt_cons] at e
    rw [List.zip_cons_cons]
    refine PySem.W.kat_cons (SeqAt.EqAt.int_int x t y u prog w _ _ ?_)
    refine PySem.W.kat_go (fun e1 => ?_) (fun e1 => ?_)
    · have ex : x = y := by simpa using e1
      rw [if_pos ex] at e
      refine PySem.W.kat_yes (kat_ints hi hj (fun a b => h0 ?_ ?_) (fun a => h1 ?_) (fun a => h2 ?_) e)
      · rw [List.length_cons, List.length_cons]; omega
      · rw [List.length_cons, List.length_cons]; omega
      · rw [List.length_cons, List.length_cons]; omega
      · rw [List.length_cons, List.length_cons]; omega
    · have ex : ¬ x = y := by simpa using e1
      rw [if_neg ex] at e
      by_cases hz : i = 0
      · subst hz
        exact PySem.W.kat_no (oneLt_int ⟨rfl, e.symm⟩)
      · refine PySem.W.kat_no ?_
        rw [show (true && i == 0) = false by simp [hz]]
        exact PySem.W.kat_one _ _ (PyProof.Rows.lt_int (show s = s ∧ decide (x < y) = R from ⟨rfl, e.symm⟩))
theorem row_cmp {vs : List Value} {k : Value → List Int} (hp : ∀ v ∈ vs, IsRow s.heap v (k v)) : SrtO.Cmp prog w A s (tuples' true) (fun p => p.1 ∈ vs) (SrtO.lt2 fun v u => HT.lexLt (k v) (k u)) := by
  intro p q hm hm'
  show wpAny (model prog w) A (keyLt' (tuples' true) p.1 q.1) (fun r s' => s' = s ∧ r = HT.lexLt (k p.1) (k q.1)) (fun _ _ => False) s
  obtain ⟨a, o, its, n, e, ho, hc, hd, hi, ne⟩ := hp _ hm
  obtain ⟨a', o', its', n', e', ho', hc', hd', hi', ne'⟩ := hp _ hm'
  rw [e, e'] at *
  have l1 := hi.length
  have l2 := hi'.length
  refine PySem.W.kat_lt ho hd ho' hd' ?_
  show PySem.W.KatLex prog w A true _ _ (its.zip its') 0 s
  refine kat_ints hi hi' (fun a b => ?_) (fun a => ?_) (fun a => ?_) rfl
  · exact decide_eq_false (by rw [List.size_toArray, List.size_toArray]; omega)
  · exact decide_eq_true (by rw [List.size_toArray, List.size_toArray]; omega)
  · exact decide_eq_false (by rw [List.size_toArray, List.size_toArray]; omega)
theorem row_firsts {h : Heap} {k : Value → List Int} : ∀ {vs : List Value}, (∀ v ∈ vs, IsRow h v (k v)) → ∃ fs : List Value, PySem.W.KatTups h vs fs ∧ fs.length = vs.length ∧ ∀ f ∈ fs, ∃ x t, f = Value.int x t
  | [], _ => ⟨[], PySem.W.KatTups.nil, rfl, fun _ hm => by simp at hm⟩
  | v :: vs, hp => by
    obtain ⟨fs, h1, h2, h3⟩ := row_firsts (vs := vs) fun v' hm => hp v' (List.mem_cons_of_mem _ hm)
    obtain ⟨a, o, its, n, e, ho, hc, hd, hi, ne⟩ := hp v List.mem_cons_self
    subst e
    cases hk : k (.ref a) with
    | nil => exact absurd hk ne
    | cons x r =>
      rw [hk] at hi
      cases hi with
      | cons _ t hr =>
        refine ⟨.int x t :: fs, PySem.W.KatTups.cons ho hc hd rfl h1, by rw [List.length_cons, List.length_cons, h2], fun f hm => ?_⟩
        rcases List.mem_cons.mp hm with rfl | hm
        · exact ⟨x, t, rfl⟩
        · exact h3 f hm
theorem rows_sortable {a : Addr} {vs : List Value} {k : Value → List Int} (h0 : 0 < vs.length) (hp : ∀ v ∈ vs, IsRow s.heap v (k v)) (ha : ∀ o, s.heap.get? a = some o → o.cls ≠ .type "tuple") :
    SrtO.SortableO prog w A s a vs fun v u => HT.lexLt (k v) (k u) := by
  intro h' keep
  have hp' : ∀ v ∈ vs, IsRow h' v (k v) := fun v hm => (hp v hm).keeps fun b o e c => keep b o (fun z => by subst z; exact ha o e c) e
  obtain ⟨fs, h1, h2, h3⟩ := row_firsts hp'
  refine ⟨tuples' true, fun Q E hq => ?_, row_cmp hp'⟩
  refine PySem.W.kat_kind (T := .type "int") h1 (by omega) (fun f hm => ?_) (by rfl) ?_
  · obtain ⟨x, t, rfl⟩ := h3 f hm
    exact PySem.W.Looks.now
  · have e : (Value.type "int" != Value.type "tuple") = true := by first | decide +kernel | rfl | decide
    rw [e]
    exact hq
theorem sorted_rows {l : Addr} {vs : List Value} {k : Value → List Int} {E : Value → Shared → Prop} {Q : Value → Shared → Prop} (hl : s.heap.IsList l vs.toArray) (hz : vs.length ≤ sizeLine) (hp : ∀ v ∈ vs, IsRow s.heap v (k v))
    (h : ∀ (h' : Heap) (d : Addr) (out : List Value), SrtO.Srtd (fun v u => HT.lexLt (k v) (k u)) out → SrtO.Stb (fun v u => HT.lexLt (k v) (k u)) out vs → (∀ b o, s.heap.get? b = some o → h'.get? b = some o) → s.heap.objs.size ≤ d → (∃ n, h'.get? d = some (seqObj "list" out.toArray n)) → Q (.ref d) { s with heap := h' }) :
    wpAny (model prog w) A (call (.builtin "sorted") [.ref l]) Q E s := by
  refine SrtO.sorted_ord (swo_row k) hl hz (fun h2 h₁ a ha kk => ?_) fun out hs hb => ?_
  · refine rows_sortable (s := { s with heap := h₁ }) (by omega) (fun v hm => (hp v hm).keeps fun b o e _ => (kk b o e).2) fun o e => ?_
    have e' : some o = some (seqObj "list" vs.toArray 0) := e.symm.trans ha
    cases e'
    intro c
    exact absurd (Value.type.inj c) (by decide)
  · exact h _ _ out hs hb (fun b o e => PyProof.Rows.sortedAll_old e) (Nat.le_succ _) (PyProof.Rows.sortedAll_at s.heap vs out.toArray)
end
def intsV : List V → List Int
  | [] => []
  | .int i :: r => i :: intsV r
  | _ :: r => intsV r
theorem intsV_map : ∀ xs : List Int, intsV (xs.map V.int) = xs
  | [] => rfl
  | x :: xs => by
    show x :: intsV (xs.map V.int) = x :: xs
    rw [intsV_map xs]
def tupV : Option HO → List Int
  | some (.tup vs) => intsV vs
  | _ => []
/-- the row at a tracked tuple -/
def rowOf (H : Hp) : V → List Int
  | .ref t => tupV (H t)
  | _ => []
theorem rowOf_ti {H : Hp} {t : Addr} {xs : List Int} (h : TI H t xs) : rowOf H (.ref t) = xs := by
  show tupV (H t) = xs
  rw [show H t = some (.tup (xs.map V.int)) from h]
  exact intsV_map xs
def rSortedR (K : PySem.W.Frag) : List V → Hp → VK → Prop := fun vs H Q => ∃ (a : Addr) (ts : List Addr) (rows : List (List Int)), vs = [V.ref a] ∧ SqL K H a (ts.map V.ref) ∧ Its H ts rows ∧ (∀ r ∈ rows, r ≠ []) ∧
  ∀ ts' rows' p, rows'.Perm rows → rows'.Pairwise (fun x y => HT.lexLt y x = false) → Its H ts' rows' → H p = none → Q (.ref p) (upd H p (.lst (ts'.map V.ref)))
theorem its_rows {H : Hp} : ∀ {ts : List Addr} {rows : List (List Int)}, Its H ts rows → rows = ts.map fun t => rowOf H (.ref t)
  | [], [], _ => rfl
  | [], _ :: _, h => by cases h.1
  | _ :: _, [], h => by cases h.1
  | t :: ts, r :: rows, h => by
    obtain ⟨ys, e, ht⟩ := h.2 0 t rfl
    obtain rfl : r = ys := Option.some.inj e
    rw [List.map_cons, rowOf_ti ht, ← its_rows (ts := ts) (rows := rows) ⟨Nat.succ.inj h.1, fun i u hu => h.2 (i + 1) u hu⟩]
theorem its_of {H : Hp} {ts : List Addr} (h : ∀ t ∈ ts, ∃ xs, TI H t xs) : Its H ts (ts.map fun t => rowOf H (.ref t)) := by
  refine ⟨by rw [List.length_map], fun i t ht => ?_⟩
  obtain ⟨xs, hx⟩ := h t (List.mem_of_getElem? ht)
  exact ⟨xs, by rw [at_map (f := fun t => rowOf H (.ref t)) ht, rowOf_ti hx], hx⟩
theorem intsAre_vals {xs : List Int} : ∀ {us : List Value}, Vals (xs.map V.int) us → IntsAre us xs := fun r => intsAre_of r
section
variable {X : Cx}
theorem cr_sortedR : CallR X (.builtin "sorted") (rSortedR X.K) := by
  intro pins s σ H vs us Q I r h
  obtain ⟨a, ts, rows, rfl, hs, its0, ne, q⟩ := h
  obtain ⟨its, rv, hl, hz⟩ := I.list hs
  obtain ⟨u, rfl, ru⟩ := vals1 r
  obtain rfl : u = Value.ref a := ru
  obtain ⟨e1, e2⟩ := refs_back rv fun x m => by
    obtain ⟨t, _, rfl⟩ := List.mem_map.mp m
    exact ⟨t, rfl⟩
  have hx : ∀ t ∈ ts, ∃ xs, TI H t xs ∧ xs ≠ [] := fun t ht => by
    obtain ⟨i, hi⟩ := List.mem_iff_getElem?.mp ht
    obtain ⟨xs, e, hti⟩ := its0.2 i t hi
    exact ⟨xs, hti, ne xs (List.mem_of_getElem? e)⟩
  have mem : ∀ v ∈ its, ∃ t, v = .ref t ∧ t ∈ ts := fun v hv => by
    obtain ⟨t, rfl⟩ := e2 v hv
    have hm : V.ref t ∈ ts.map V.ref := by rw [e1]; exact List.mem_map.mpr ⟨_, hv, rfl⟩
    obtain ⟨t', ht', e⟩ := List.mem_map.mp hm
    cases e
    exact ⟨t, rfl, ht'⟩
  refine sorted_rows (k := fun u => rowOf H (backV u)) hl.isList (by rw [← rv.length]; exact hz) (fun v hv => ?_) fun h' d out h1 h2 kp hd hn => ?_
  · obtain ⟨t, rfl, ht⟩ := mem v hv
    obtain ⟨xs, hti, nx⟩ := hx t ht
    obtain ⟨_, its2, r2, o, ho, hc, n, hdt⟩ := I.hok _ _ (show H t = some (.tup (xs.map V.int)) from hti)
    refine ⟨t, o, its2, n, rfl, ho, hc, hdt, ?_, ?_⟩
    · show IntsAre its2 (rowOf H (.ref t))
      rw [rowOf_ti hti]
      exact intsAre_of r2
    · show rowOf H (.ref t) ≠ []
      rw [rowOf_ti hti]
      exact nx
  · have h3 : ∀ u ∈ out, ∃ t, u = Value.ref t ∧ t ∈ ts := fun u hu => mem u (h2.perm.mem_iff.mp hu)
    obtain ⟨n, hn⟩ := hn
    obtain ⟨ts', hts'⟩ : ∃ ts' : List Addr, out = ts'.map Value.ref := by
      clear hn h2 h1
      induction out with
      | nil => exact ⟨[], rfl⟩
      | cons u out ih =>
        obtain ⟨t, rfl, _⟩ := h3 u List.mem_cons_self
        obtain ⟨ts', e⟩ := ih fun v hv => h3 v (List.mem_cons_of_mem _ hv)
        exact ⟨t :: ts', by rw [e]; rfl⟩
    subst hts'
    have eb : (ts'.map Value.ref).map backV = ts'.map V.ref := by
      rw [List.map_map]
      rfl
    have mts : ∀ t ∈ ts', t ∈ ts := fun t ht => by
      obtain ⟨t', e, hm⟩ := h3 _ (List.mem_map.mpr ⟨t, ht, rfl⟩)
      cases e
      exact hm
    refine ⟨.ref d, upd H d (.lst (ts'.map V.ref)), I.laid (t' := s.toks) kp hd ⟨?_, ts'.map Value.ref, n, by rw [← eb]; exact vals_back fun u hu => (h3 u hu).imp fun _ h => h.1, hn⟩, rfl, ?_⟩
    · have := h2.len
      rw [List.length_map] at this ⊢
      have l2 := rv.length
      omega
    refine q ts' (ts'.map fun t => rowOf H (.ref t)) d ?_ ?_ (its_of fun t ht => (hx t (mts t ht)).imp fun _ h => h.1) (I.hok.fresh hd)
    · have := h2.perm.map fun u => rowOf H (backV u)
      rw [List.map_map] at this
      rw [its_rows its0]
      have e3 : its.map (fun u => rowOf H (backV u)) = ts.map fun t => rowOf H (.ref t) := by
        have := congrArg (List.map (rowOf H)) e1
        rw [List.map_map, List.map_map] at this
        exact this.symm
      rw [e3] at this
      exact this
    · have := List.pairwise_map.mp h1
      exact List.pairwise_map.mpr this
end
/-- two orders of the same unlike rows are one -/
theorem rows_uniq : ∀ {xs ys : List (List Int)}, xs.Perm ys → xs.Pairwise (fun x y => HT.lexLt y x = false) → ys.Pairwise (fun x y => HT.lexLt y x = false) → xs = ys := by
  intro xs ys h hx hy
  exact h.eq_of_pairwise (fun a b _ _ h1 h2 => (lex_eq b a h1 h2).symm) hx hy
end KR
namespace KM
open KQ
/-! ### how many there are that aren't glued, and trees -/
theorem glue_least {R : Nat → Nat → Prop} (E : Eqv R) {ts : List (Nat × Nat)} (h : ∀ t ∈ ts, R t.1 t.2) {x y : Nat} (g : glue ts x y) : R x y :=
  (glue_keep (S := fun z => R x z) (fun t ht => ⟨fun q => E.trans _ _ _ q (h t ht), fun q => E.trans _ _ _ q (E.symm _ _ (h t ht))⟩) g).mp (E.refl x)
theorem glue_sub {ts us : List (Nat × Nat)} (h : ∀ t ∈ ts, t ∈ us) {x y : Nat} (g : glue ts x y) : glue us x y := glue_least (glue_eqv us) (fun t ht => glue_mem (h t ht)) g
theorem getD_map {L : List Int} (f : Int → Int) {x : Nat} (h : x < L.length) : (L.map f).getD x 0 = f (L.getD x 0) := by
  rw [List.getD_eq_getElem?_getD, List.getD_eq_getElem?_getD, List.getElem?_map, List.getElem?_eq_getElem h]
  rfl
theorem getD_mem {L : List Int} {x : Nat} (h : x < L.length) : L.getD x 0 ∈ L := by
  rw [List.getD_eq_getElem?_getD, List.getElem?_eq_getElem h]
  exact List.getElem_mem h
theorem map_same {L : List Int} {u v : Int} (e : u = v) : (L.map fun z => if z = v then u else z) = L := by
  subst e
  induction L with
  | nil => rfl
  | cons z L ih =>
    rw [List.map_cons, ih]
    by_cases q : z = u
    · rw [if_pos q, q]
    · rw [if_neg q]
/-- no tie that the ties ahead glue -/
def NoLoop (ts : List (Nat × Nat)) : Prop := ∀ i t, ts[i]? = some t → ¬ glue (ts.take i) t.1 t.2
theorem labels_ex (M : Nat) (ts : List (Nat × Nat)) : (∀ t ∈ ts, t.1 < M ∧ t.2 < M) →
    ∃ L : List Int, L.length = M ∧ (∀ x y, x < M → y < M → (L.getD x 0 = L.getD y 0 ↔ glue ts x y)) ∧ M ≤ dcount L + ts.length ∧ (NoLoop ts ↔ dcount L + ts.length = M) := by
  refine glue_eqv.firsts_rec' (P := fun ts => (∀ t ∈ ts, t.1 < M ∧ t.2 < M) → ∃ L : List Int, L.length = M ∧ (∀ x y, x < M → y < M → (L.getD x 0 = L.getD y 0 ↔ glue ts x y)) ∧ M ≤ dcount L + ts.length ∧ (NoLoop ts ↔ dcount L + ts.length = M)) ?_ ?_ ts
  · intro _
    refine ⟨(List.range M).map fun k => ((k : Nat) : Int), by rw [List.length_map, List.length_range], fun x y hx hy => ?_, by rw [dcount_range]; exact Nat.le_add_right _ _, ?_⟩
    · have e : ∀ x, x < M → ((List.range M).map fun k => ((k : Nat) : Int)).getD x 0 = (x : Int) := fun x hx => by
        rw [List.getD_eq_getElem?_getD, List.getElem?_map, List.getElem?_range hx]
        rfl
      rw [e x hx, e y hy]
      show _ ↔ x = y
      omega
    · rw [dcount_range]
      exact ⟨fun _ => rfl, fun _ i t h => by simp at h⟩
  · intro ts t ih hb
    obtain ⟨L, hl, hg, hM, hn⟩ := ih fun u hu => hb u (List.mem_append_left _ hu)
    obtain ⟨a, b⟩ := t
    obtain ⟨ha, hbb⟩ := hb (a, b) (List.mem_append_right _ (List.mem_singleton.mpr rfl))
    have ha : a < M := ha
    have hbb : b < M := hbb
    have part : NoLoop (ts ++ [(a, b)]) ↔ NoLoop ts ∧ ¬ glue ts a b := by
      constructor
      · intro h
        refine ⟨fun i u hu => ?_, ?_⟩
        · have il := (List.getElem?_eq_some_iff.mp hu).1
          have := h i u (by rw [List.getElem?_append_left il]; exact hu)
          rwa [List.take_append_of_le_length (Nat.le_of_lt il)] at this
        · have := h ts.length (a, b) (by rw [List.getElem?_append_right (Nat.le_refl _), Nat.sub_self]; rfl)
          rwa [List.take_left'  rfl] at this
      · rintro ⟨h1, h2⟩ i u hu
        by_cases il : i < ts.length
        · rw [List.getElem?_append_left il] at hu
          rw [List.take_append_of_le_length (Nat.le_of_lt il)]
          exact h1 i u hu
        · have := (List.getElem?_eq_some_iff.mp hu).1
          rw [List.length_append, List.length_singleton] at this
          obtain rfl : i = ts.length := by omega
          rw [List.getElem?_append_right (Nat.le_refl _), Nat.sub_self] at hu
          obtain rfl := Option.some.inj hu
          rw [List.take_left' rfl]
          exact h2
    refine ⟨L.map fun z => if z = L.getD b 0 then L.getD a 0 else z, by rw [List.length_map, hl], fun x y hx hy => ?_, ?_, ?_⟩
    · rw [glue_snoc]
      exact tie_labels (L := fun x => L.getD x 0) (L' := fun x => (L.map fun z => if z = L.getD b 0 then L.getD a 0 else z).getD x 0) (S := fun x => x < M) (fun x y hx hy => hg x y hx hy) ha hbb
        (fun y hy => getD_map _ (by rw [hl]; exact hy)) x y hx hy
    all_goals rw [List.length_append, List.length_singleton]
    all_goals by_cases e : L.getD a 0 = L.getD b 0
    · rw [map_same e]
      omega
    · have := dcount_merge (xs := L) (getD_mem (by rw [hl]; exact ha)) (getD_mem (by rw [hl]; exact hbb)) e
      omega
    · rw [map_same e, part]
      exact ⟨fun h => absurd ((hg a b ha hbb).mp e) h.2, fun h => absurd h (by omega)⟩
    · have := dcount_merge (xs := L) (getD_mem (by rw [hl]; exact ha)) (getD_mem (by rw [hl]; exact hbb)) e
      rw [part, hn]
      exact ⟨fun h => by omega, fun h => ⟨by omega, fun g => e ((hg a b ha hbb).mpr g)⟩⟩
theorem one_label {L : List Int} (h0 : 0 < L.length) : dcount L = 1 ↔ ∀ x y, x < L.length → y < L.length → L.getD x 0 = L.getD y 0 := by
  constructor
  · intro h x y hx hy
    unfold dcount at h
    obtain ⟨z, hz⟩ := List.length_eq_one_iff.mp h
    have m : ∀ x, x < L.length → L.getD x 0 = z := fun x hx => by
      have := (mem_firsts L).mpr (getD_mem hx)
      rw [hz] at this
      exact List.mem_singleton.mp this
    rw [m x hx, m y hy]
  · intro h
    refine (same_len (firsts_nodup L) (ys := [L.getD 0 0]) (by simp) fun x => ?_ : (firsts L).length = _)
    rw [mem_firsts, List.mem_singleton]
    constructor
    · intro hx
      obtain ⟨i, hi, rfl⟩ := List.mem_iff_getElem.mp hx
      rw [← h i 0 hi h0, List.getD_eq_getElem?_getD, List.getElem?_eq_getElem hi]
      rfl
    · rintro rfl
      exact getD_mem h0
/-- so many ties as make a tree: no loop just if all is glued -/
theorem tree_glue {M : Nat} {ts : List (Nat × Nat)} (h0 : 0 < M) (hb : ∀ t ∈ ts, t.1 < M ∧ t.2 < M) (hM : ts.length + 1 = M) : NoLoop ts ↔ ∀ x y, x < M → y < M → glue ts x y := by
  obtain ⟨L, hl, hg, _, hn⟩ := labels_ex M ts hb
  rw [hn, show dcount L + ts.length = M ↔ dcount L = 1 by omega, one_label (by omega), hl]
  exact ⟨fun h x y hx hy => (hg x y hx hy).mp (h x y hx hy), fun h x y hx hy => (hg x y hx hy).mpr (h x y hx hy)⟩
/-- too few ties don't glue all -/
theorem few_ties {M : Nat} {ts : List (Nat × Nat)} (h0 : 0 < M) (hb : ∀ t ∈ ts, t.1 < M ∧ t.2 < M) (hM : ts.length + 1 < M) : ¬ ∀ x y, x < M → y < M → glue ts x y := by
  obtain ⟨L, hl, hg, hle, _⟩ := labels_ex M ts hb
  intro h
  have := (one_label (L := L) (by omega)).mpr fun x y hx hy => by
    rw [hl] at hx hy
    exact (hg x y hx hy).mpr (h x y hx hy)
  omega
/-! the web of two partings -/
section
variable {p r : List Int}
theorem ties_rng (hp : Rg 0 p) (hr : Rg 0 r) : ∀ t ∈ tiesOf p r, t.1 < (bc 0 p + bc 0 r).toNat ∧ t.2 < (bc 0 p + bc 0 r).toNat := by
  intro t ht
  unfold tiesOf at ht
  obtain ⟨q, hq, rfl⟩ := List.mem_map.mp ht
  have h1 := (rg_mem 0 p (Int.le_refl _) hp).1 q.1 (List.of_mem_zip hq).1
  have h2 := (rg_mem 0 r (Int.le_refl _) hr).1 q.2 (List.of_mem_zip hq).2
  show q.1.toNat < _ ∧ (bc 0 p + q.2).toNat < _
  omega
theorem ties_get {i : Nat} {t : Nat × Nat} (h : (tiesOf p r)[i]? = some t) : ∃ x y, p[i]? = some x ∧ r[i]? = some y ∧ t = (x.toNat, (bc 0 p + y).toNat) := by
  unfold tiesOf at h
  obtain ⟨q, hq, e⟩ := map_at' h
  rw [List.getElem?_zip_eq_some] at hq
  exact ⟨q.1, q.2, hq.1, hq.2, e⟩
where
  map_at' {α β : Type} {f : α → β} {xs : List α} {i : Nat} {v : β} (h : (xs.map f)[i]? = some v) : ∃ x, xs[i]? = some x ∧ v = f x := by
    rw [List.getElem?_map] at h
    cases hx : xs[i]? with
    | none => rw [hx] at h; cases h
    | some x => rw [hx] at h; exact ⟨x, rfl, (Option.some.inj h).symm⟩
theorem noRing_loop : NoRing p r ↔ NoLoop (tiesOf p r) := by
  constructor
  · intro h i t ht g
    obtain ⟨x, y, hx, hy, rfl⟩ := ties_get ht
    exact h i ⟨x, y, hx, hy, g⟩
  · rintro h i ⟨x, y, hx, hy, g⟩
    exact h i _ (ties_at hx hy) g
theorem tree_all (par : Par p) (parr : Par r) (hl : p.length = r.length) : Tree p r ↔ bc 0 p + bc 0 r = p.length + 1 ∧ ∀ x y, x < (bc 0 p + bc 0 r).toNat → y < (bc 0 p + bc 0 r).toNat → glue (tiesOf p r) x y := by
  unfold Tree
  refine and_congr_right fun e => ?_
  rw [noRing_loop]
  exact tree_glue (by omega) (ties_rng par.rg parr.rg) (by rw [ties_len hl]; omega)
/-- the web without a door -/
def wo (p r : List Int) (d : Nat) : List (Nat × Nat) := (tiesOf p r).eraseIdx d
def nA (p : List Int) (d : Int) : Nat := (bk p d).toNat
def nB (p r : List Int) (d : Int) : Nat := (bc 0 p + bk r d).toNat
theorem wo_mem {d : Nat} (hl : p.length = r.length) {e : Int} (e0 : 0 ≤ e) (e1 : e < p.length) (ne : e ≠ d) : (nA p e, nB p r e) ∈ wo p r d := by
  unfold wo
  rw [List.mem_eraseIdx_iff_getElem?]
  exact ⟨e.toNat, by omega, ties_at (bk_some e0 e1) (bk_some e0 (by omega))⟩
theorem wo_of {d : Nat} {t : Nat × Nat} (hl : p.length = r.length) (h : t ∈ wo p r d) : ∃ e : Int, 0 ≤ e ∧ e < p.length ∧ e ≠ d ∧ t = (nA p e, nB p r e) := by
  unfold wo at h
  rw [List.mem_eraseIdx_iff_getElem?] at h
  obtain ⟨i, ne, hi⟩ := h
  obtain ⟨x, y, hx, hy, rfl⟩ := ties_get hi
  have il := (List.getElem?_eq_some_iff.mp hx).1
  refine ⟨(i : Int), by omega, by omega, by omega, ?_⟩
  unfold nA nB
  rw [bk_at (d := (i : Int)) (by rw [Int.toNat_natCast]; exact hx), bk_at (d := (i : Int)) (by rw [Int.toNat_natCast]; exact hy)]
theorem wo_split (par : Par p) (parr : Par r) (hl : p.length = r.length) (tr : Tree p r) {d : Int} (d0 : 0 ≤ d) (d1 : d < p.length) :
    (∀ x, x < (bc 0 p + bc 0 r).toNat → glue (wo p r d.toNat) x (nA p d) ∨ glue (wo p r d.toNat) x (nB p r d)) ∧ ¬ glue (wo p r d.toNat) (nA p d) (nB p r d) := by
  obtain ⟨hc, hall⟩ := (tree_all par parr hl).mp tr
  have td := ties_at (p := p) (r := r) (bk_some d0 d1) (bk_some d0 (show d < r.length by omega))
  have sub : ∀ t ∈ tiesOf p r, t ∈ wo p r d.toNat ++ [(nA p d, nB p r d)] := fun t ht => by
    obtain ⟨i, hi⟩ := List.mem_iff_getElem?.mp ht
    by_cases e : i = d.toNat
    · rw [e, td] at hi
      exact List.mem_append_right _ (List.mem_singleton.mpr (Option.some.inj hi).symm)
    · refine List.mem_append_left _ ?_
      unfold wo
      rw [List.mem_eraseIdx_iff_getElem?]
      exact ⟨i, e, hi⟩
  have ta := bk_rng par d0 d1
  have tb := bk_rng parr d0 (show d < r.length by omega)
  have ra : nA p d < (bc 0 p + bc 0 r).toNat := by unfold nA; omega
  have E := glue_eqv (wo p r d.toNat)
  constructor
  · intro x hx
    have g := glue_sub sub (hall x (nA p d) hx ra)
    rw [glue_snoc] at g
    rcases g with g | ⟨g, _⟩ | ⟨g, _⟩
    · exact .inl g
    · exact .inl g
    · exact .inr g
  · intro g
    refine few_ties (M := (bc 0 p + bc 0 r).toNat) (ts := wo p r d.toNat) (by omega) (fun t ht => ties_rng par.rg parr.rg t ((List.eraseIdx_sublist _ _).subset ht)) ?_ fun x y hx hy => ?_
    · unfold wo
      rw [List.length_eraseIdx, ties_len hl, if_pos (by omega)]
      omega
    · refine glue_least E (fun t ht => ?_) (hall x y hx hy)
      rcases List.mem_append.mp (sub t ht) with h | h
      · exact glue_mem h
      · rw [List.mem_singleton.mp h]
        exact g
end
end KM
namespace KQ
open PySem PySem.Spec PyProof.Rows L2 KR KM StX
/-! ### what doors_ahead finds in a tree -/
theorem nodup_at {α : Type} {l : List α} : l.Nodup ↔ ∀ i j : Nat, i < j → ∀ x y, l[i]? = some x → l[j]? = some y → x ≠ y := by
  unfold List.Nodup
  rw [List.pairwise_iff_getElem]
  constructor
  · intro h i j hij x y hx hy
    obtain ⟨hi, rfl⟩ := List.getElem?_eq_some_iff.mp hx
    obtain ⟨hj, rfl⟩ := List.getElem?_eq_some_iff.mp hy
    exact h i j hi hj hij
  · intro h i j hi hj hij
    exact h i j hij _ _ (List.getElem?_eq_getElem hi) (List.getElem?_eq_getElem hj)
section
variable {p r B : List Int} {st : Int} {N : Nat} {E : List Ent}
def nd (p r : List Int) (s d : Int) : Nat := if s = 0 then nA p d else nB p r d
theorem nA_inj (par : Par p) {d e : Int} (d0 : 0 ≤ d) (d1 : d < p.length) (e0 : 0 ≤ e) (e1 : e < p.length) : nA p d = nA p e ↔ bk p d = bk p e := by
  have a := bk_rng par d0 d1
  have b := bk_rng par e0 e1
  unfold nA
  omega
theorem nB_inj (par : Par p) (parr : Par r) (hl : p.length = r.length) {d e : Int} (d0 : 0 ≤ d) (d1 : d < p.length) (e0 : 0 ≤ e) (e1 : e < p.length) : nB p r d = nB p r e ↔ bk r d = bk r e := by
  have a := bk_rng parr d0 (by omega)
  have b := bk_rng parr e0 (by omega)
  have := bc_ge 0 p
  unfold nB
  omega
theorem n_apart (par : Par p) (parr : Par r) (hl : p.length = r.length) {d e : Int} (d0 : 0 ≤ d) (d1 : d < p.length) (e0 : 0 ≤ e) (e1 : e < p.length) : nA p d ≠ nB p r e := by
  have a := bk_rng par d0 d1
  have b := bk_rng parr e0 (by omega)
  unfold nA nB
  omega
theorem ent_flag (b01 : ∀ b ∈ B, b = 0 ∨ b = 1) (h : Bfs p r B st N E) {k : Nat} {e : Ent} (he : E[k]? = some e) : e.s = 0 ∨ e.s = 1 := by
  obtain ⟨h1, h2, _⟩ := h.par _ e he
  exact (flag01 b01 h (e.q + 1) e.q _ _ (Nat.lt_succ_self _) h2).1
theorem full_ent (b01 : ∀ b ∈ B, b = 0 ∨ b = 1) (h : Bfs p r B st N E) (full : ∀ j, j < (Qu B st E).length → FullTo p r B st E j N) {e : Ent} (he : e ∈ E) {s : Int} (s01 : s = 0 ∨ s = 1) {d : Int} (d0 : 0 ≤ d) (d1 : d < N)
    (hb : bk (prt p r s) d = bk (prt p r s) e.d) : d ∈ st :: E.map Ent.d := by
  obtain ⟨k, hk⟩ := List.mem_iff_getElem?.mp he
  have f := ent_flag b01 h hk
  obtain ⟨h1, h2, h3⟩ := h.par _ e hk
  have hkl := (List.getElem?_eq_some_iff.mp hk).1
  by_cases es : s = e.s
  · subst es
    exact full e.q (List.getElem?_eq_some_iff.mp h2).1 _ _ h2 d d0 d1 (hb.trans h3)
  · have : s = 1 - e.s := by omega
    rw [this] at hb
    exact full (B.length + k) (by rw [qu_len]; omega) _ _ (qu_ent hk) d d0 d1 hb
theorem full_start (full : ∀ j, j < (Qu B st E).length → FullTo p r B st E j N) {w : Int} (hw : w ∈ B) {d : Int} (d0 : 0 ≤ d) (d1 : d < N) (hb : bk (prt p r w) d = bk (prt p r w) st) : d ∈ st :: E.map Ent.d := by
  obtain ⟨j, hj⟩ := List.mem_iff_getElem?.mp hw
  have jl := (List.getElem?_eq_some_iff.mp hj).1
  obtain ⟨b, hb2, hq⟩ := qu_base (st := st) (E := E) jl
  rw [hj] at hb2
  obtain rfl := Option.some.inj hb2
  exact full j (by rw [qu_len]; omega) _ _ hq d d0 d1 hb
/-- in a tree, both ways from a door lead to all doors -/
theorem way_all (par : Par p) (parr : Par r) (hl : p.length = r.length) (tr : Tree p r) (hN : N = p.length) (s0 : 0 ≤ st) (s1 : st < p.length) (h : Bfs p r [0, 1] st N E)
    (full : ∀ j, j < (Qu [0, 1] st E).length → FullTo p r [0, 1] st E j N) {d : Int} (d0 : 0 ≤ d) (d1 : d < p.length) : d ∈ st :: E.map Ent.d := by
  have b01 : ∀ b ∈ ([0, 1] : List Int), b = 0 ∨ b = 1 := by simp
  have rng : ∀ x ∈ st :: E.map Ent.d, 0 ≤ x ∧ x < p.length := fun x hx => by
    rcases mem_keys.mp hx with rfl | ⟨e, he, rfl⟩
    · exact ⟨s0, s1⟩
    · have := h.rng e he
      omega
  have clo : ∀ s : Int, s = 0 ∨ s = 1 → ∀ x ∈ st :: E.map Ent.d, ∀ y : Int, 0 ≤ y → y < p.length → bk (prt p r s) y = bk (prt p r s) x → y ∈ st :: E.map Ent.d := by
    intro s s01 x hx y y0 y1 hb
    rcases mem_keys.mp hx with rfl | ⟨e, he, rfl⟩
    · exact full_start full (w := s) (by rcases s01 with rfl | rfl <;> simp) y0 (by omega) hb
    · exact full_ent b01 h full he s01 y0 (by omega) hb
  obtain ⟨hc, hall⟩ := (tree_all par parr hl).mp tr
  have key : ∀ e : Int, 0 ≤ e → e < p.length → ((∃ x ∈ st :: E.map Ent.d, nA p x = nA p e ∨ nB p r x = nA p e) → e ∈ st :: E.map Ent.d) ∧ ((∃ x ∈ st :: E.map Ent.d, nA p x = nB p r e ∨ nB p r x = nB p r e) → e ∈ st :: E.map Ent.d) := by
    intro e e0 e1
    constructor
    · rintro ⟨x, hx, q | q⟩
      · obtain ⟨x0, x1⟩ := rng x hx
        exact clo 0 (.inl rfl) x hx e e0 e1 ((nA_inj par x0 x1 e0 e1).mp q).symm
      · obtain ⟨x0, x1⟩ := rng x hx
        exact absurd q.symm (n_apart par parr hl e0 e1 x0 x1)
    · rintro ⟨x, hx, q | q⟩
      · obtain ⟨x0, x1⟩ := rng x hx
        exact absurd q (n_apart par parr hl x0 x1 e0 e1)
      · obtain ⟨x0, x1⟩ := rng x hx
        exact clo 1 (.inr rfl) x hx e e0 e1 ((nB_inj par parr hl x0 x1 e0 e1).mp q).symm
  have ra := bk_rng par d0 d1
  have rs := bk_rng par s0 s1
  have rr := bc_ge 0 r
  have g := hall (nA p st) (nA p d) (by unfold nA; omega) (by unfold nA; omega)
  refine (key d d0 d1).1 ((glue_keep (S := fun z => ∃ x ∈ st :: E.map Ent.d, nA p x = z ∨ nB p r x = z) (fun t ht => ?_) g).mp ⟨st, List.mem_cons_self, .inl rfl⟩)
  obtain ⟨i, hi⟩ := List.mem_iff_getElem?.mp ht
  obtain ⟨x, y, hx, hy, rfl⟩ := ties_get hi
  have il := (List.getElem?_eq_some_iff.mp hx).1
  have ex : nA p (i : Int) = x.toNat := by unfold nA; rw [bk_at (by rw [Int.toNat_natCast]; exact hx)]
  have ey : nB p r (i : Int) = (bc 0 p + y).toNat := by unfold nB; rw [bk_at (by rw [Int.toNat_natCast]; exact hy)]
  show (∃ z ∈ st :: E.map Ent.d, nA p z = x.toNat ∨ nB p r z = x.toNat) ↔ ∃ z ∈ st :: E.map Ent.d, nA p z = (bc 0 p + y).toNat ∨ nB p r z = (bc 0 p + y).toNat
  rw [← ex, ← ey]
  exact ⟨fun q => ⟨_, (key i (by omega) (by omega)).1 q, .inr rfl⟩, fun q => ⟨_, (key i (by omega) (by omega)).2 q, .inl rfl⟩⟩
/-- what the way to one side finds: what is glued to that block in the web without the door -/
theorem side_set (par : Par p) (parr : Par r) (hl : p.length = r.length) (hN : N = p.length) (s0 : 0 ≤ st) (s1 : st < p.length) {w : Int} (w01 : w = 0 ∨ w = 1) (h : Bfs p r [w] st N E)
    (full : ∀ j, j < (Qu [w] st E).length → FullTo p r [w] st E j N) (d : Int) : d ∈ E.map Ent.d ↔ 0 ≤ d ∧ d < p.length ∧ d ≠ st ∧ glue (wo p r st.toNat) (nd p r w st) (nA p d) := by
  have b01 : ∀ b ∈ ([w] : List Int), b = 0 ∨ b = 1 := by simpa using w01
  have G := glue_eqv (wo p r st.toNat)
  have nst : ∀ e ∈ E, e.d ≠ st := fun e he q => (List.nodup_cons.mp h.keys).1 (List.mem_map.mpr ⟨e, he, q⟩)
  have tie : ∀ e : Int, 0 ≤ e → e < p.length → e ≠ st → glue (wo p r st.toNat) (nA p e) (nB p r e) := fun e e0 e1 ne => glue_mem (t := (nA p e, nB p r e)) (wo_mem hl e0 e1 (by omega))
  have both : ∀ e : Int, 0 ≤ e → e < p.length → e ≠ st → ∀ s : Int, glue (wo p r st.toNat) (nd p r s e) (nA p e) := fun e e0 e1 ne s => by
    unfold nd
    split
    · exact G.refl _
    · exact G.symm _ _ (tie e e0 e1 ne)
  have same : ∀ s x y : Int, s = 0 ∨ s = 1 → 0 ≤ x → x < p.length → 0 ≤ y → y < p.length → bk (prt p r s) x = bk (prt p r s) y → nd p r s x = nd p r s y := by
    intro s x y s01 x0 x1 y0 y1 hb
    rcases s01 with rfl | rfl
    · exact (nA_inj par x0 x1 y0 y1).mpr hb
    · exact (nB_inj par parr hl x0 x1 y0 y1).mpr hb
  constructor
  · intro hd
    obtain ⟨e, he, rfl⟩ := List.mem_map.mp hd
    have rg := h.rng e he
    refine ⟨rg.1, by omega, nst e he, ?_⟩
    obtain ⟨k, hk⟩ := List.mem_iff_getElem?.mp he
    have : ∀ (n k : Nat) (e : Ent), k < n → E[k]? = some e → glue (wo p r st.toNat) (nd p r w st) (nA p e.d) := by
      intro n
      induction n with
      | zero => exact fun k e hk => absurd hk (Nat.not_lt_zero _)
      | succ n ih =>
        intro k e hkn hk
        have he := List.mem_of_getElem? hk
        have rg := h.rng e he
        have f := ent_flag b01 h hk
        obtain ⟨h1, h2, h3⟩ := h.par _ e hk
        by_cases e0 : e.q < 1
        · obtain ⟨b, hb, hq⟩ := qu_base (B := [w]) (st := st) (E := E) (j := e.q) e0
          have eq0 : e.q = 0 := by omega
          rw [eq0] at hb hq h2
          obtain rfl := Option.some.inj hb
          rw [h2] at hq
          obtain ⟨q1, q2⟩ := Prod.mk.inj (Option.some.inj hq)
          rw [q2, q1] at h3
          rw [← same _ e.d st w01 rg.1 (by omega) s0 s1 h3]
          exact both _ rg.1 (by omega) (nst e he) _
        · have hl2 := (List.getElem?_eq_some_iff.mp h2).1
          rw [qu_len] at hl2
          have hl2 : e.q < 1 + E.length := hl2
          have h1 : e.q < 1 + k := h1
          obtain ⟨e', he'⟩ := at_some (xs := E) (i := e.q - 1) (by omega)
          have hq := qu_ent (B := [w]) (st := st) he'
          rw [show ([w] : List Int).length + (e.q - 1) = e.q by rw [List.length_singleton]; omega, h2] at hq
          obtain ⟨q1, q2⟩ := Prod.mk.inj (Option.some.inj hq)
          have m' := List.mem_of_getElem? he'
          have rg' := h.rng e' m'
          rw [q2] at h3
          have g := ih (e.q - 1) e' (by omega) he'
          refine G.trans _ _ _ g (G.trans _ (nd p r e.s e.d) _ ?_ (both _ rg.1 (by omega) (nst e he) _))
          rw [same _ e.d e'.d f rg.1 (by omega) rg'.1 (by omega) h3]
          exact G.symm _ _ (both _ rg'.1 (by omega) (nst e' m') _)
    exact this (k + 1) k e (Nat.lt_succ_self _) hk
  · rintro ⟨d0, d1, ne, g⟩
    have inE : ∀ e : Int, e ∈ st :: E.map Ent.d → e ≠ st → e ∈ E.map Ent.d := fun e he n => by
      rcases List.mem_cons.mp he with q | q
      · exact absurd q n
      · exact q
    have key : ∀ e : Int, 0 ≤ e → e < p.length → e ≠ st → ((nA p e = nd p r w st ∨ ∃ x ∈ E.map Ent.d, nA p x = nA p e ∨ nB p r x = nA p e) → e ∈ E.map Ent.d) ∧ ((nB p r e = nd p r w st ∨ ∃ x ∈ E.map Ent.d, nA p x = nB p r e ∨ nB p r x = nB p r e) → e ∈ E.map Ent.d) := by
      intro e e0 e1 ne
      constructor
      · rintro (q | ⟨x, hx, q⟩)
        · rcases w01 with rfl | rfl
          · exact inE e (full_start full (w := 0) (by simp) e0 (by omega) ((nA_inj par e0 e1 s0 s1).mp q)) ne
          · exact absurd q (n_apart par parr hl e0 e1 s0 s1)
        · obtain ⟨x', hx', rfl⟩ := List.mem_map.mp hx
          have rg := h.rng x' hx'
          rcases q with q | q
          · exact inE e (full_ent b01 h full hx' (.inl rfl) e0 (by omega) ((nA_inj par rg.1 (by omega) e0 e1).mp q).symm) ne
          · exact absurd q.symm (n_apart par parr hl e0 e1 rg.1 (by omega))
      · rintro (q | ⟨x, hx, q⟩)
        · rcases w01 with rfl | rfl
          · exact absurd q.symm (n_apart par parr hl s0 s1 e0 e1)
          · exact inE e (full_start full (w := 1) (by simp) e0 (by omega) ((nB_inj par parr hl e0 e1 s0 s1).mp q)) ne
        · obtain ⟨x', hx', rfl⟩ := List.mem_map.mp hx
          have rg := h.rng x' hx'
          rcases q with q | q
          · exact absurd q (n_apart par parr hl rg.1 (by omega) e0 e1)
          · exact inE e (full_ent b01 h full hx' (.inr rfl) e0 (by omega) ((nB_inj par parr hl rg.1 (by omega) e0 e1).mp q).symm) ne
    refine (key d d0 d1 ne).1 ((glue_keep (S := fun z => z = nd p r w st ∨ ∃ x ∈ E.map Ent.d, nA p x = z ∨ nB p r x = z) (fun t ht => ?_) g).mp (.inl rfl))
    obtain ⟨e, e0, e1, ne, rfl⟩ := wo_of hl ht
    have ne : e ≠ st := by omega
    exact ⟨fun q => .inr ⟨_, (key e e0 e1 ne).1 q, .inr rfl⟩, fun q => .inr ⟨_, (key e e0 e1 ne).2 q, .inl rfl⟩⟩
/-! ways -/
theorem path_head {b : Nat} : ∀ {ks : List Nat}, Path b E ks → (∃ j, ks[0]? = some j ∧ j < b) ∧ ∀ i x, ks[i + 1]? = some x → b ≤ x := by
  intro ks hp
  induction hp with
  | base hj => exact ⟨⟨_, rfl, hj⟩, fun i x hx => by simp at hx⟩
  | @step k e ks he hks hlast ih =>
    obtain ⟨⟨j, h0, hj⟩, hi⟩ := ih
    have hpos := (List.getElem?_eq_some_iff.mp h0).1
    refine ⟨⟨j, by rw [List.getElem?_append_left hpos]; exact h0, hj⟩, fun i x hx => ?_⟩
    by_cases il : i + 1 < ks.length
    · rw [List.getElem?_append_left il] at hx
      exact hi i x hx
    · have := (List.getElem?_eq_some_iff.mp hx).1
      rw [List.length_append, List.length_singleton] at this
      rw [show i + 1 = ks.length by omega, List.getElem?_append_right (Nat.le_refl _), Nat.sub_self] at hx
      obtain rfl := Option.some.inj hx
      exact Nat.le_add_right _ _
/-- a way, by turns through blocks of the one and of the other -/
structure IsWay (p r row : List Int) (b e : Int) : Prop where
  rng : ∀ d ∈ row, 0 ≤ d ∧ d < p.length
  first : row[0]? = some b
  last : row.getLast? = some e
  nodup : row.Nodup
  alt : ∃ s : Nat, s < 2 ∧ ∀ (i : Nat) (x y : Int), row[i]? = some x → row[i + 1]? = some y → bk (prt p r (((i + s) % 2 : Nat) : Int)) x = bk (prt p r (((i + s) % 2 : Nat) : Int)) y
theorem way_row (s0 : 0 ≤ st) (s1 : st < p.length) (hN : N = p.length) (h : Bfs p r [0, 1] st N E) {ks : List Nat} (hp : Path 2 E ks) {j : Nat} (hlast : ks.getLast? = some j) : IsWay p r (ks.map (dr [0, 1] st E)) st (dr [0, 1] st E j) := by
  obtain ⟨up, bd, nxt⟩ := path_next (B := [0, 1]) h hp
  obtain ⟨⟨j0, h0, hj0⟩, hi⟩ := path_head hp
  have base : ∀ x, x < 2 → dr [0, 1] st E x = st ∧ fl [0, 1] st E x = (x : Int) := fun x hx => by
    obtain ⟨b, hb, hq⟩ := qu_base (B := [0, 1]) (st := st) (E := E) hx
    have := qu_at hq
    refine ⟨this.1, this.2.trans ?_⟩
    have : x = 0 ∨ x = 1 := by omega
    rcases this with rfl | rfl
    · exact (Option.some.inj hb).symm
    · exact (Option.some.inj hb).symm
  have ent : ∀ x, 2 ≤ x → x < (Qu [0, 1] st E).length → ∃ e, E[x - 2]? = some e ∧ dr [0, 1] st E x = e.d := fun x hx hxl => by
    rw [qu_len] at hxl
    have hxl : x < 2 + E.length := hxl
    obtain ⟨e, he⟩ := at_some (xs := E) (i := x - 2) (by omega)
    refine ⟨e, he, ?_⟩
    have := qu_ent (B := [0, 1]) (st := st) he
    rw [show ([0, 1] : List Int).length + (x - 2) = x by show 2 + (x - 2) = x; omega] at this
    exact (qu_at this).1
  refine ⟨fun d hd => ?_, by rw [at_map h0, (base j0 hj0).1], by rw [List.getLast?_map, hlast]; rfl, ?_, j0, hj0, ?_⟩
  · obtain ⟨x, hx, rfl⟩ := List.mem_map.mp hd
    by_cases c : x < 2
    · rw [(base x c).1]
      exact ⟨s0, s1⟩
    · obtain ⟨e, he, q⟩ := ent x (by omega) (bd x hx)
      rw [q]
      have := h.rng e (List.mem_of_getElem? he)
      omega
  · rw [nodup_at]
    intro a b hab x y hx0 hy0 q
    obtain ⟨x, hx, rfl⟩ := map_at hx0
    obtain ⟨y, hy, rfl⟩ := map_at hy0
    have y2 : 2 ≤ y := by
      cases b with
      | zero => omega
      | succ b => exact hi b y hy
    obtain ⟨e, he, qe⟩ := ent y y2 (bd y (List.mem_of_getElem? hy))
    have me := List.mem_of_getElem? he
    have hn := List.nodup_cons.mp h.keys
    by_cases c : x < 2
    · rw [(base x c).1, qe] at q
      exact hn.1 (List.mem_map.mpr ⟨e, me, q.symm⟩)
    · obtain ⟨e', he', qe'⟩ := ent x (by omega) (bd x (List.mem_of_getElem? hx))
      rw [qe, qe'] at q
      have lt := up a b x y hab hx hy
      exact nodup_at.mp hn.2 (x - 2) (y - 2) (by omega) _ _ (at_map he') (at_map he) q
  · have fls : ∀ (i x : Nat), ks[i]? = some x → fl [0, 1] st E x = (((i + j0) % 2 : Nat) : Int) := by
      intro i
      induction i with
      | zero =>
        intro x hx
        rw [h0] at hx
        obtain rfl := Option.some.inj hx
        rw [(base j0 hj0).2, Nat.zero_add, Nat.mod_eq_of_lt hj0]
      | succ i ih =>
        intro x hx
        have il := (List.getElem?_eq_some_iff.mp hx).1
        obtain ⟨y, hy⟩ := at_some (xs := ks) (i := i) (by omega)
        rw [(nxt i y x hy hx).turn, ih y hy]
        omega
    intro i x y hx hy
    obtain ⟨x, hx', rfl⟩ := map_at hx
    obtain ⟨y, hy', rfl⟩ := map_at hy
    have := (nxt i x y hx' hy').blk
    rw [fls i x hx'] at this
    exact this.symm
end
end KQ
namespace KQ
open PySem PySem.Spec PyProof.Rows L2 KR KM StX
/-! ### trees told by doors, and moves -/
section
variable {p r : List Int}
/-- doors: what is closed under blocks of both is all or nothing -/
def DConn (p r : List Int) : Prop := ∀ S : Int → Prop, (∀ d e : Int, 0 ≤ d → d < p.length → 0 ≤ e → e < p.length → bk p d = bk p e → S d → S e) → (∀ d e : Int, 0 ≤ d → d < p.length → 0 ≤ e → e < p.length → bk r d = bk r e → S d → S e) →
  ∀ d e : Int, 0 ≤ d → d < p.length → 0 ≤ e → e < p.length → S d → S e
theorem tie_door {t : Nat × Nat} (hl : p.length = r.length) (ht : t ∈ tiesOf p r) : ∃ e : Int, 0 ≤ e ∧ e < p.length ∧ t = (nA p e, nB p r e) := by
  obtain ⟨i, hi⟩ := List.mem_iff_getElem?.mp ht
  obtain ⟨x, y, hx, hy, rfl⟩ := ties_get hi
  have il := (List.getElem?_eq_some_iff.mp hx).1
  refine ⟨(i : Int), by omega, by omega, ?_⟩
  unfold nA nB
  rw [bk_at (d := (i : Int)) (by rw [Int.toNat_natCast]; exact hx), bk_at (d := (i : Int)) (by rw [Int.toNat_natCast]; exact hy)]
theorem door_tie (hl : p.length = r.length) {e : Int} (e0 : 0 ≤ e) (e1 : e < p.length) : glue (tiesOf p r) (nA p e) (nB p r e) :=
  glue_mem (t := (nA p e, nB p r e)) (List.mem_of_getElem? (ties_at (bk_some e0 e1) (bk_some e0 (by omega))))
theorem bk_all (par : Par p) {y : Int} (y0 : 0 ≤ y) (y1 : y < bc 0 p) : ∃ d : Int, 0 ≤ d ∧ d < p.length ∧ bk p d = y := by
  obtain ⟨i, hi⟩ := List.mem_iff_getElem?.mp ((rg_mem 0 p (Int.le_refl _) par.rg).2 y y0 y1)
  have il := (List.getElem?_eq_some_iff.mp hi).1
  exact ⟨(i : Int), by omega, by omega, bk_at (by rw [Int.toNat_natCast]; exact hi)⟩
theorem tree_conn (par : Par p) (parr : Par r) (hl : p.length = r.length) : Tree p r ↔ bc 0 p + bc 0 r = p.length + 1 ∧ DConn p r := by
  rw [tree_all par parr hl]
  refine and_congr_right fun hc => ?_
  have G := glue_eqv (tiesOf p r)
  constructor
  · intro hall S cp cr d e d0 d1 e0 e1 sd
    have ra := bk_rng par d0 d1
    have rb := bk_rng par e0 e1
    have rr := bc_ge 0 r
    have g := hall (nA p d) (nA p e) (by unfold nA; omega) (by unfold nA; omega)
    have key : ∀ x : Int, 0 ≤ x → x < p.length → ((∃ y : Int, 0 ≤ y ∧ y < p.length ∧ S y ∧ (nA p y = nA p x ∨ nB p r y = nA p x)) → S x) ∧ ((∃ y : Int, 0 ≤ y ∧ y < p.length ∧ S y ∧ (nA p y = nB p r x ∨ nB p r y = nB p r x)) → S x) := by
      intro x x0 x1
      constructor
      · rintro ⟨y, y0, y1, sy, q | q⟩
        · exact cp y x y0 y1 x0 x1 ((nA_inj par y0 y1 x0 x1).mp q) sy
        · exact absurd q.symm (n_apart par parr hl x0 x1 y0 y1)
      · rintro ⟨y, y0, y1, sy, q | q⟩
        · exact absurd q (n_apart par parr hl y0 y1 x0 x1)
        · exact cr y x y0 y1 x0 x1 ((nB_inj par parr hl y0 y1 x0 x1).mp q) sy
    refine (key e e0 e1).1 ((glue_keep (S := fun z => ∃ y : Int, 0 ≤ y ∧ y < p.length ∧ S y ∧ (nA p y = z ∨ nB p r y = z)) (fun t ht => ?_) g).mp ⟨d, d0, d1, sd, .inl rfl⟩)
    obtain ⟨x, x0, x1, rfl⟩ := tie_door hl ht
    exact ⟨fun q => ⟨x, x0, x1, (key x x0 x1).1 q, .inr rfl⟩, fun q => ⟨x, x0, x1, (key x x0 x1).2 q, .inl rfl⟩⟩
  · intro h
    have doors : ∀ d e : Int, 0 ≤ d → d < p.length → 0 ≤ e → e < p.length → glue (tiesOf p r) (nA p d) (nA p e) := fun d e d0 d1 e0 e1 => by
      refine h (fun x => glue (tiesOf p r) (nA p d) (nA p x)) (fun x y x0 x1 y0 y1 q g => ?_) (fun x y x0 x1 y0 y1 q g => ?_) d e d0 d1 e0 e1 (G.refl _)
      · show glue _ _ (nA p y)
        rw [← (nA_inj par x0 x1 y0 y1).mpr q]
        exact g
      · refine G.trans _ _ _ g (G.trans _ _ _ (door_tie hl x0 x1) ?_)
        rw [(nB_inj par parr hl x0 x1 y0 y1).mpr q]
        exact G.symm _ _ (door_tie hl y0 y1)
    have node : ∀ x, x < (bc 0 p + bc 0 r).toNat → ∃ d : Int, 0 ≤ d ∧ d < p.length ∧ glue (tiesOf p r) x (nA p d) := fun x hx => by
      have := bc_ge 0 p
      by_cases c : (x : Int) < bc 0 p
      · obtain ⟨d, d0, d1, q⟩ := bk_all par (y := (x : Int)) (by omega) c
        refine ⟨d, d0, d1, ?_⟩
        have : nA p d = x := by unfold nA; omega
        rw [this]
        exact G.refl _
      · obtain ⟨d, d0, d1, q⟩ := bk_all parr (y := (x : Int) - bc 0 p) (by omega) (by omega)
        refine ⟨d, d0, by omega, ?_⟩
        have : nB p r d = x := by unfold nB; omega
        have t := door_tie hl d0 (by omega)
        rw [this] at t
        exact G.symm _ _ t
    intro x y hx hy
    obtain ⟨d, d0, d1, g1⟩ := node x hx
    obtain ⟨e, e0, e1, g2⟩ := node y hy
    exact G.trans _ _ _ g1 (G.trans _ _ _ (doors d e d0 d1 e0 e1) (G.symm _ _ g2))
/-- the parting r with the door d put into the block b -/
def mv (r : List Int) (d b : Int) : List Int := num (r.set d.toNat b)
/-- another door of the block b lies on the second side of d -/
def Other (p r : List Int) (d b : Int) : Prop := ∃ e : Int, 0 ≤ e ∧ e < p.length ∧ e ≠ d ∧ bk r e = b ∧ glue (wo p r d.toNat) (nB p r d) (nA p e)
theorem bk_set {d x b : Int} (d0 : 0 ≤ d) (d1 : d < r.length) (x0 : 0 ≤ x) : bk (r.set d.toNat b) x = if x = d then b else bk r x := by
  unfold bk
  rw [List.getD_eq_getElem?_getD, List.getD_eq_getElem?_getD]
  by_cases e : x = d
  · rw [if_pos e, e, List.getElem?_set_self (by omega)]
    rfl
  · rw [if_neg e, List.getElem?_set_ne (by omega)]
theorem bk_num {q : List Int} {x y : Int} (x0 : 0 ≤ x) (x1 : x < q.length) (y0 : 0 ≤ y) (y1 : y < q.length) : bk (num q) x = bk (num q) y ↔ bk q x = bk q y := by
  exact num_ker (bk_some x0 x1) (bk_some y0 y1) (bk_some x0 (by rw [num_len]; exact x1)) (bk_some y0 (by rw [num_len]; exact y1))
theorem num_self {r : List Int} (parr : Par r) : num r = r := (num_is rfl parr.rg fun i j x y u v hi hj ui vj => by
  rw [hi] at ui
  rw [hj] at vj
  obtain rfl := Option.some.inj ui
  obtain rfl := Option.some.inj vj
  exact Iff.rfl)
theorem mv_par (parr : Par r) {d b : Int} : Par (mv r d b) := num_par (fun e => parr.ne (List.length_eq_zero_iff.mp (by rw [← List.length_set (as := r) (i := d.toNat) (a := b), e]; rfl))) (by rw [List.length_set]; exact parr.le)
theorem mv_len {d b : Int} : (mv r d b).length = r.length := by
  unfold mv
  rw [num_len, List.length_set]
theorem other_kept (par : Par p) (parr : Par r) (hl : p.length = r.length) {d b : Int} (d0 : 0 ≤ d) (d1 : d < p.length) (h : Other p r d b) : ∃ f : Int, 0 ≤ f ∧ f < p.length ∧ f ≠ d ∧ bk r f = bk r d := by
  obtain ⟨e, e0, e1, ne, rfl, g⟩ := h
  refine Classical.byContradiction fun hn => ?_
  refine n_apart par parr hl e0 e1 d0 d1 ((glue_keep (S := fun z => z = nB p r d) (fun t ht => ?_) g).mp rfl)
  obtain ⟨f, f0, f1, nf, rfl⟩ := wo_of hl ht
  refine ⟨fun q => absurd q (n_apart par parr hl f0 f1 d0 d1), fun q => absurd ⟨f, f0, f1, by omega, (nB_inj par parr hl f0 f1 d0 d1).mp q⟩ hn⟩
theorem mem_bk {q : List Int} {x : Int} : x ∈ q ↔ ∃ d : Int, 0 ≤ d ∧ d < q.length ∧ bk q d = x := by
  constructor
  · intro hx
    obtain ⟨i, hi⟩ := List.mem_iff_getElem?.mp hx
    have il := (List.getElem?_eq_some_iff.mp hi).1
    exact ⟨(i : Int), by omega, by omega, bk_at (by rw [Int.toNat_natCast]; exact hi)⟩
  · rintro ⟨d, d0, d1, rfl⟩
    exact List.mem_of_getElem? (bk_some d0 d1)
theorem count_mv (parr : Par r) {d b : Int} (d0 : 0 ≤ d) (d1 : d < r.length) (b0 : 0 ≤ b) (b1 : b < bc 0 r) (nb : b ≠ bk r d) :
    ((∃ f : Int, 0 ≤ f ∧ f < r.length ∧ f ≠ d ∧ bk r f = bk r d) → bc 0 (mv r d b) = bc 0 r) ∧ ((¬ ∃ f : Int, 0 ≤ f ∧ f < r.length ∧ f ≠ d ∧ bk r f = bk r d) → bc 0 (mv r d b) + 1 = bc 0 r) := by
  have e1 : bc 0 (mv r d b) = ((dcount (r.set d.toNat b) : Nat) : Int) := (dcount_num _).symm
  have e2 : bc 0 r = ((dcount r : Nat) : Int) := by rw [dcount_num, num_self parr]
  have mem : ∀ x, x ∈ r.set d.toNat b ↔ x = b ∨ ∃ f : Int, 0 ≤ f ∧ f < r.length ∧ f ≠ d ∧ bk r f = x := by
    intro x
    rw [mem_bk]
    constructor
    · rintro ⟨f, f0, f1, q⟩
      rw [List.length_set] at f1
      rw [bk_set d0 d1 f0] at q
      by_cases c : f = d
      · rw [if_pos c] at q
        exact .inl q.symm
      · rw [if_neg c] at q
        exact .inr ⟨f, f0, f1, c, q⟩
    · rintro (rfl | ⟨f, f0, f1, c, q⟩)
      · exact ⟨d, d0, by rw [List.length_set]; exact d1, by rw [bk_set d0 d1 d0, if_pos rfl]⟩
      · exact ⟨f, f0, by rw [List.length_set]; exact f1, by rw [bk_set d0 d1 f0, if_neg c]; exact q⟩
  obtain ⟨g, g0, g1, gb⟩ := bk_all parr b0 b1
  have ng : g ≠ d := fun e => nb (by rw [← gb, e])
  constructor
  · rintro ⟨f, f0, f1, nf, hf⟩
    rw [e1, e2]
    refine congrArg _ (dcount_same fun x => ?_)
    rw [mem, mem_bk]
    constructor
    · rintro (rfl | ⟨f, f0, f1, _, q⟩)
      · exact ⟨g, g0, g1, gb⟩
      · exact ⟨f, f0, f1, q⟩
    · rintro ⟨y, y0, y1, q⟩
      by_cases c : y = d
      · exact .inr ⟨f, f0, f1, nf, by rw [hf, ← c]; exact q⟩
      · exact .inr ⟨y, y0, y1, c, q⟩
  · intro hn
    rw [e1, e2]
    have hv : bk r d ∈ firsts r := (mem_firsts r).mpr (List.mem_of_getElem? (bk_some d0 d1))
    have l := List.length_pos_of_mem hv
    have e := List.length_erase_of_mem hv
    have := same_len (firsts_nodup (r.set d.toNat b)) ((firsts_nodup r).erase (bk r d)) (fun x => by
      rw [mem_firsts, (firsts_nodup r).mem_erase_iff, mem_firsts, mem, mem_bk]
      constructor
      · rintro (rfl | ⟨f, f0, f1, nf, q⟩)
        · exact ⟨nb, g, g0, g1, gb⟩
        · exact ⟨fun e => hn ⟨f, f0, f1, nf, q.trans e⟩, f, f0, f1, q⟩
      · rintro ⟨nx, y, y0, y1, q⟩
        exact .inr ⟨y, y0, y1, fun e => nx (by rw [← q, e]), q⟩)
    unfold dcount
    omega
theorem move_iff (par : Par p) (parr : Par r) (hl : p.length = r.length) (tr : Tree p r) {d b : Int} (d0 : 0 ≤ d) (d1 : d < p.length) (b0 : 0 ≤ b) (b1 : b < bc 0 r) (nb : b ≠ bk r d) : Tree p (mv r d b) ↔ Other p r d b := by
  obtain ⟨sp1, sp2⟩ := wo_split par parr hl tr d0 d1
  have G := glue_eqv (wo p r d.toNat)
  have hc := tr.1
  obtain ⟨c1, c2⟩ := count_mv parr d0 (by omega : d < r.length) b0 b1 nb
  rw [tree_conn par (mv_par parr) (by rw [mv_len, hl])]
  have kq : ∀ x y : Int, 0 ≤ x → x < p.length → 0 ≤ y → y < p.length → (bk (mv r d b) x = bk (mv r d b) y ↔ (if x = d then b else bk r x) = if y = d then b else bk r y) := fun x y x0 x1 y0 y1 => by
    unfold mv
    rw [bk_num x0 (by rw [List.length_set]; omega) y0 (by rw [List.length_set]; omega), bk_set d0 (by omega) x0, bk_set d0 (by omega) y0]
  have tie : ∀ e : Int, 0 ≤ e → e < p.length → e ≠ d → glue (wo p r d.toNat) (nA p e) (nB p r e) := fun e e0 e1 ne => glue_mem (t := (nA p e, nB p r e)) (wo_mem hl e0 e1 (by omega))
  constructor
  · rintro ⟨hc2, hd⟩
    have hf : ∃ f : Int, 0 ≤ f ∧ f < r.length ∧ f ≠ d ∧ bk r f = bk r d := Classical.byContradiction fun hn => by
      have := c2 hn
      omega
    obtain ⟨f, f0, f1, nf, ef⟩ := hf
    refine Classical.byContradiction fun hn => ?_
    refine (hd (fun x => x ≠ d ∧ glue (wo p r d.toNat) (nB p r d) (nA p x)) (fun x y x0 x1 y0 y1 q h => ?_) (fun x y x0 x1 y0 y1 q h => ?_) f d f0 (by omega) d0 d1 ⟨nf, ?_⟩).1 rfl
    · by_cases c : y = d
      · refine absurd (G.symm _ _ ?_) sp2
        rw [← c, ← (nA_inj par x0 x1 y0 y1).mpr q, c]
        exact h.2
      · refine ⟨c, ?_⟩
        rw [← (nA_inj par x0 x1 y0 y1).mpr q]
        exact h.2
    · rw [kq x y x0 x1 y0 y1, if_neg h.1] at q
      by_cases c : y = d
      · rw [if_pos c] at q
        exact absurd ⟨x, x0, x1, h.1, q, h.2⟩ hn
      · rw [if_neg c] at q
        refine ⟨c, G.trans _ _ _ h.2 (G.trans _ _ _ (tie x x0 x1 h.1) ?_)⟩
        rw [(nB_inj par parr hl x0 x1 y0 y1).mpr q]
        exact G.symm _ _ (tie y y0 y1 c)
    · rw [← (nB_inj par parr hl f0 (by omega) d0 d1).mpr ef]
      exact G.symm _ _ (tie f f0 (by omega) nf)
  · intro ho
    obtain ⟨f, f0, f1, nf, ef⟩ := other_kept par parr hl d0 d1 ho
    obtain ⟨e, e0, e1, ne, eb, ge⟩ := ho
    refine ⟨by rw [c1 ⟨f, f0, by omega, nf, ef⟩]; exact hc, ?_⟩
    have main : ∀ S : Int → Prop, (∀ d e : Int, 0 ≤ d → d < p.length → 0 ≤ e → e < p.length → bk p d = bk p e → S d → S e) → (∀ x y : Int, 0 ≤ x → x < p.length → 0 ≤ y → y < p.length → bk (mv r d b) x = bk (mv r d b) y → S x → S y) →
        ∀ x : Int, 0 ≤ x → x < p.length → S x → S d := by
      intro S cp cq x x0 x1 sx
      by_cases c : x = d
      · exact c ▸ sx
      · have key : ∀ g : Int, 0 ≤ g → g < p.length → g ≠ d → ((∃ y : Int, 0 ≤ y ∧ y < p.length ∧ y ≠ d ∧ S y ∧ (nA p y = nA p g ∨ nB p r y = nA p g)) → S g) ∧ ((∃ y : Int, 0 ≤ y ∧ y < p.length ∧ y ≠ d ∧ S y ∧ (nA p y = nB p r g ∨ nB p r y = nB p r g)) → S g) := by
          intro g g0 g1 ng
          constructor
          · rintro ⟨y, y0, y1, ny, sy, q | q⟩
            · exact cp y g y0 y1 g0 g1 ((nA_inj par y0 y1 g0 g1).mp q) sy
            · exact absurd q.symm (n_apart par parr hl g0 g1 y0 y1)
          · rintro ⟨y, y0, y1, ny, sy, q | q⟩
            · exact absurd q (n_apart par parr hl y0 y1 g0 g1)
            · exact cq y g y0 y1 g0 g1 ((kq y g y0 y1 g0 g1).mpr (by rw [if_neg ny, if_neg ng]; exact (nB_inj par parr hl y0 y1 g0 g1).mp q)) sy
        have inv : ∀ z, glue (wo p r d.toNat) (nA p x) z → ∃ y : Int, 0 ≤ y ∧ y < p.length ∧ y ≠ d ∧ S y ∧ (nA p y = z ∨ nB p r y = z) := fun z g => by
          refine (glue_keep (S := fun z => ∃ y : Int, 0 ≤ y ∧ y < p.length ∧ y ≠ d ∧ S y ∧ (nA p y = z ∨ nB p r y = z)) (fun t ht => ?_) g).mp ⟨x, x0, x1, c, sx, .inl rfl⟩
          obtain ⟨h, h0, h1, nh, rfl⟩ := wo_of hl ht
          have nh : h ≠ d := by omega
          exact ⟨fun q => ⟨h, h0, h1, nh, (key h h0 h1 nh).1 q, .inr rfl⟩, fun q => ⟨h, h0, h1, nh, (key h h0 h1 nh).2 q, .inl rfl⟩⟩
        have ra := bk_rng par x0 x1
        have rr := bc_ge 0 r
        rcases sp1 (nA p x) (by unfold nA; omega) with g | g
        · obtain ⟨y, y0, y1, ny, sy, q | q⟩ := inv _ g
          · exact cp y d y0 y1 d0 d1 ((nA_inj par y0 y1 d0 d1).mp q) sy
          · exact absurd q.symm (n_apart par parr hl d0 d1 y0 y1)
        · obtain ⟨y, y0, y1, ny, sy, q | q⟩ := inv _ (G.trans _ _ _ g ge)
          · have se := cp y e y0 y1 e0 e1 ((nA_inj par y0 y1 e0 e1).mp q) sy
            exact cq e d e0 e1 d0 d1 ((kq e d e0 e1 d0 d1).mpr (by rw [if_neg ne, if_pos rfl, eb])) se
          · exact absurd q.symm (n_apart par parr hl e0 e1 y0 y1)
    intro S cp cq x y x0 x1 y0 y1 sx
    have sd := main S cp cq x x0 x1 sx
    refine Classical.byContradiction fun sy => ?_
    exact main (fun z => ¬ S z) (fun u v u0 u1 v0 v1 q h g => h (cp v u v0 v1 u0 u1 q.symm g)) (fun u v u0 u1 v0 v1 q h g => h (cq v u v0 v1 u0 u1 q.symm g)) y y0 y1 sy sd
/-- no two moves lead to one -/
theorem moves_unlike (par : Par p) (parr : Par r) (hl : p.length = r.length) {d b e c : Int} (d0 : 0 ≤ d) (d1 : d < p.length) (e0 : 0 ≤ e) (e1 : e < p.length) (nb : b ≠ bk r d) (nc : c ≠ bk r e) (ho : Other p r d b) (h : mv r d b = mv r e c) :
    d = e ∧ b = c := by
  have k : ∀ x y : Int, 0 ≤ x → x < p.length → 0 ≤ y → y < p.length → (((if x = d then b else bk r x) = if y = d then b else bk r y) ↔ (if x = e then c else bk r x) = if y = e then c else bk r y) := fun x y x0 x1 y0 y1 => by
    rw [← bk_set d0 (by omega) x0, ← bk_set d0 (by omega) y0, ← bk_set e0 (by omega) x0, ← bk_set e0 (by omega) y0, ← bk_num x0 (by rw [List.length_set]; omega) y0 (by rw [List.length_set]; omega),
      ← bk_num (q := r.set e.toNat c) x0 (by rw [List.length_set]; omega) y0 (by rw [List.length_set]; omega)]
    have : num (r.set d.toNat b) = num (r.set e.toNat c) := h
    rw [this]
  obtain ⟨f, f0, f1, nf, ef⟩ := other_kept par parr hl d0 d1 ho
  obtain ⟨g, g0, g1, ng, gb, _⟩ := ho
  by_cases q : d = e
  · subst q
    refine ⟨rfl, ?_⟩
    have := (k d g d0 d1 g0 g1).mp (by rw [if_pos rfl, if_neg ng, gb])
    rw [if_pos rfl, if_neg ng, gb] at this
    exact this.symm
  · exfalso
    by_cases fe : f = e
    · subst fe
      have ge : g ≠ f := fun z => nb (by rw [← gb, z, ef])
      have := (k d g d0 d1 g0 g1).mp (by rw [if_pos rfl, if_neg ng, gb])
      rw [if_neg q, if_neg ge, gb] at this
      exact nb this.symm
    · have := (k d f d0 d1 f0 f1).mpr (by rw [if_neg q, if_neg fe, ef])
      rw [if_pos rfl, if_neg nf, ef] at this
      exact nb this
end
end KQ
namespace KQ
open PySem PySem.Spec PyProof.Rows L2 KR KM StX
/-! ### all moves -/
section
variable {p r : List Int}
open Classical in
noncomputable def bsOf (p r : List Int) (d : Int) : List Int := ((List.range (bc 0 r).toNat).map fun b => ((b : Nat) : Int)).filter fun b => decide (b ≠ bk r d ∧ Other p r d b)
theorem up_ints (n : Nat) : ((List.range n).map fun b => ((b : Nat) : Int)).Pairwise (· < ·) := List.pairwise_map.mpr (List.pairwise_lt_range.imp fun h => by omega)
theorem bsOf_up {d : Int} : (bsOf p r d).Pairwise (· < ·) := (up_ints _).filter _
open Classical in
theorem mem_bsOf {d b : Int} : b ∈ bsOf p r d ↔ 0 ≤ b ∧ b < bc 0 r ∧ b ≠ bk r d ∧ Other p r d b := by
  have := bc_ge 0 r
  unfold bsOf
  rw [List.mem_filter, List.mem_map]
  constructor
  · rintro ⟨⟨k, hk, rfl⟩, h⟩
    have := List.mem_range.mp hk
    exact ⟨by omega, by omega, of_decide_eq_true h⟩
  · rintro ⟨h0, h1, h⟩
    exact ⟨⟨b.toNat, List.mem_range.mpr (by omega), by omega⟩, decide_eq_true h⟩
theorem up_nodup {xs : List Int} (h : xs.Pairwise (· < ·)) : xs.Nodup := h.imp fun h e => by omega
theorem up_uniq {xs ys : List Int} (hx : xs.Pairwise (· < ·)) (hy : ys.Pairwise (· < ·)) (h : ∀ x, x ∈ xs ↔ x ∈ ys) : xs = ys :=
  ((List.perm_ext_iff_of_nodup (up_nodup hx) (up_nodup hy)).mpr h).eq_of_pairwise (fun a b _ _ h1 h2 => by omega) hx hy
theorem bsOf_len {d : Int} : (bsOf p r d).length ≤ r.length := by
  have h1 := bc_le 0 r
  have : (bsOf p r d).length ≤ ((List.range (bc 0 r).toNat).map fun b => ((b : Nat) : Int)).length := List.length_filter_le _ _
  rw [List.length_map, List.length_range] at this
  omega
noncomputable def movesUp (p r : List Int) (n : Nat) : List (List Int) := (List.range n).flatMap fun d => (bsOf p r ((d : Nat) : Int)).map (mv r ((d : Nat) : Int))
theorem movesUp_succ (n : Nat) : movesUp p r (n + 1) = movesUp p r n ++ (bsOf p r ((n : Nat) : Int)).map (mv r ((n : Nat) : Int)) := by
  unfold movesUp
  rw [List.range_succ, List.flatMap_append, List.flatMap_singleton]
theorem movesUp_len (n : Nat) : (movesUp p r n).length ≤ n * r.length := by
  induction n with
  | zero => exact Nat.zero_le _
  | succ n ih =>
    have := bsOf_len (p := p) (r := r) (d := ((n : Nat) : Int))
    rw [movesUp_succ, List.length_append, List.length_map, Nat.succ_mul]
    omega
theorem mem_movesUp {n : Nat} {x : List Int} : x ∈ movesUp p r n ↔ ∃ d b : Int, 0 ≤ d ∧ d < n ∧ 0 ≤ b ∧ b < bc 0 r ∧ b ≠ bk r d ∧ Other p r d b ∧ x = mv r d b := by
  unfold movesUp
  rw [List.mem_flatMap]
  constructor
  · rintro ⟨d, hd, hx⟩
    obtain ⟨b, hb, rfl⟩ := List.mem_map.mp hx
    obtain ⟨b0, b1, nb, ho⟩ := mem_bsOf.mp hb
    have := List.mem_range.mp hd
    exact ⟨_, b, by omega, by omega, b0, b1, nb, ho, rfl⟩
  · rintro ⟨d, b, d0, d1, b0, b1, nb, ho, rfl⟩
    have e : ((d.toNat : Nat) : Int) = d := by omega
    refine ⟨d.toNat, List.mem_range.mpr (by omega), List.mem_map.mpr ⟨b, ?_, ?_⟩⟩
    · rw [e]
      exact mem_bsOf.mpr ⟨b0, b1, nb, ho⟩
    · rw [e]
theorem movesUp_nodup (par : Par p) (parr : Par r) (hl : p.length = r.length) : (movesUp p r p.length).Nodup := by
  unfold movesUp List.Nodup
  rw [List.pairwise_flatMap]
  constructor
  · intro d hd
    have hd := List.mem_range.mp hd
    refine List.pairwise_map.mpr ((List.pairwise_and_iff.mpr ⟨bsOf_up, List.pairwise_iff_forall_sublist.mpr fun {a b} s => (⟨s.subset (by simp), s.subset (by simp)⟩ : a ∈ bsOf p r d ∧ b ∈ bsOf p r d)⟩).imp fun {a b} ⟨hlt, ha, hb⟩ e => ?_)
    obtain ⟨_, _, na, oa⟩ := mem_bsOf.mp ha
    obtain ⟨_, _, nb, _⟩ := mem_bsOf.mp hb
    have := (moves_unlike par parr hl (d := (d : Int)) (e := (d : Int)) (by omega) (by omega) (by omega) (by omega) na nb oa e).2
    omega
  · refine (List.pairwise_and_iff.mpr ⟨List.pairwise_lt_range, List.pairwise_iff_forall_sublist.mpr fun {a b} s => (⟨List.mem_range.mp (s.subset (by simp)), List.mem_range.mp (s.subset (by simp))⟩ : a < p.length ∧ b < p.length)⟩).imp fun {d e} ⟨hlt, hd, he⟩ x hx y hy q => ?_
    obtain ⟨a, ha, rfl⟩ := List.mem_map.mp hx
    obtain ⟨b, hb, rfl⟩ := List.mem_map.mp hy
    obtain ⟨_, _, na, oa⟩ := mem_bsOf.mp ha
    obtain ⟨_, _, nb, _⟩ := mem_bsOf.mp hb
    have := (moves_unlike par parr hl (d := (d : Int)) (e := (e : Int)) (by omega) (by omega) (by omega) (by omega) na nb oa q).1
    omega
/-- the moves, in order -/
def Moves (p r : List Int) (rows : List (List Int)) : Prop := rows.Perm (movesUp p r p.length) ∧ rows.Pairwise (fun x y => HT.lexLt y x = false)
end
end KQ
namespace KQ
open PySem PySem.Spec PyProof.Rows L2 KR KM StX
/-! ### what the law hangs on is a tree -/
structure MetC (p ds ls : List Int) (sh i q : Nat) (vs : List V) : Prop where
  a : ∀ (j : Nat) (d : Int), j < i → ds[j]? = some d → ∃ k : Nat, vs[d.toNat]? = some (.int (k : Int)) ∧ k < q ∧ ∀ x : Int, p[d.toNat]? = some x → ls[sh + k]? = ls[x.toNat]?
  b : ∀ k : Nat, k < q → ∃ (j : Nat) (d : Int), j < i ∧ ds[j]? = some d ∧ vs[d.toNat]? = some (.int (k : Int))
  c : ∀ S : Int → Prop, (∀ d e : Int, 0 ≤ d → d < p.length → 0 ≤ e → e < p.length → bk p d = bk p e → S d → S e) →
    (∀ (j j' : Nat) (d e : Int), j < i → j' < i → ds[j]? = some d → ds[j']? = some e → vs[d.toNat]? = vs[e.toNat]? → S d → S e) →
    ∀ d e : Int, 0 ≤ d → d < p.length → 0 ≤ e → e < p.length → ls[(bk p d).toNat]? = ls[(bk p e).toNat]? → S d → S e
  n : dcount ls + i = sh + q
section
variable {p ds ls : List Int} {sh i q : Nat} {vs : List V}
theorem ord_ne {n : Nat} (o : Ord ds n) {i j : Nat} {d e : Int} (hd : ds[i]? = some d) (he : ds[j]? = some e) (ne : i ≠ j) : d.toNat ≠ e.toNat := by
  have hn : d ≠ e := by
    rcases Nat.lt_or_ge i j with h | h
    · exact nodup_at.mp o.nd i j h d e hd he
    · exact fun z => nodup_at.mp o.nd j i (by omega) e d he hd z.symm
  have a := o.at_ d (List.mem_of_getElem? hd)
  have b := o.at_ e (List.mem_of_getElem? he)
  omega
theorem metc_new (hsh : ∀ x ∈ p, 0 ≤ x ∧ x < (sh : Int)) (o : Ord ds p.length) (hl : ls.length = sh + q) (lv : vs.length = p.length) (M : MetC p ds ls sh i q vs) {d x own : Int} (hd : ds[i]? = some d) (hx : p[d.toNat]? = some x) (ho : ls[x.toNat]? = some own) :
    MetC p ds (ls ++ [own]) sh (i + 1) (q + 1) (vs.set d.toNat (.int ((q : Nat) : Int))) := by
  have low : ∀ k, k < sh + q → (ls ++ [own])[k]? = ls[k]? := fun k hk => List.getElem?_append_left (by rw [hl]; exact hk)
  have top : (ls ++ [own])[sh + q]? = some own := by
    rw [List.getElem?_append_right (by rw [hl]; exact Nat.le_refl _), hl, Nat.sub_self]
    rfl
  have dn := o.at_ d (List.mem_of_getElem? hd)
  have old : ∀ (j : Nat) (e : Int), j < i → ds[j]? = some e → (vs.set d.toNat (.int ((q : Nat) : Int)))[e.toNat]? = vs[e.toNat]? := fun j e hj he => List.getElem?_set_ne (ord_ne o hd he (by omega))
  have new : (vs.set d.toNat (.int ((q : Nat) : Int)))[d.toNat]? = some (.int ((q : Nat) : Int)) := List.getElem?_set_self (by omega)
  refine ⟨fun j e hj he => ?_, fun k hk => ?_, fun S cp ca u v u0 u1 v0 v1 hu => ?_, ?_⟩
  · by_cases cj : j = i
    · subst cj
      rw [hd] at he
      obtain rfl := Option.some.inj he
      refine ⟨q, new, by omega, fun y hy => ?_⟩
      rw [hx] at hy
      obtain rfl := Option.some.inj hy
      have := hsh x (List.mem_of_getElem? hx)
      rw [top, low _ (by omega), ho]
    · obtain ⟨k, h1, h2, h3⟩ := M.a j e (by omega) he
      refine ⟨k, by rw [old j e (by omega) he]; exact h1, by omega, fun y hy => ?_⟩
      have := hsh y (List.mem_of_getElem? hy)
      rw [low _ (by omega), low _ (by omega)]
      exact h3 y hy
  · by_cases ck : k = q
    · subst ck
      exact ⟨i, d, by omega, hd, new⟩
    · obtain ⟨j, e, hj, he, hv⟩ := M.b k (by omega)
      exact ⟨j, e, by omega, he, by rw [old j e hj he]; exact hv⟩
  · have a1 := hsh _ (List.mem_of_getElem? (bk_some u0 u1))
    have a2 := hsh _ (List.mem_of_getElem? (bk_some v0 v1))
    rw [low _ (by omega), low _ (by omega)] at hu
    exact M.c S cp (fun j j' d' e hj hj' h1 h2 hv => ca j j' d' e (by omega) (by omega) h1 h2 (by rw [old j d' hj h1, old j' e hj' h2]; exact hv)) u v u0 u1 v0 v1 hu
  · have : dcount (ls ++ [own]) = dcount ls := dcount_same fun z => ⟨fun h => by
      rcases List.mem_append.mp h with h | h
      · exact h
      · rw [List.mem_singleton.mp h]
        exact List.mem_of_getElem? ho, fun h => List.mem_append_left _ h⟩
    have := M.n
    omega
theorem metc_glue (hsh : ∀ x ∈ p, 0 ≤ x ∧ x < (sh : Int)) (o : Ord ds p.length) (hl : ls.length = sh + q) (lv : vs.length = p.length) (M : MetC p ds ls sh i q vs) {d x own two : Int} {k : Nat} (hd : ds[i]? = some d) (hx : p[d.toNat]? = some x)
    (ho : ls[x.toNat]? = some own) (hk : k < q) (ht : ls[sh + k]? = some two) (n : own ≠ two) : MetC p ds (ls.map fun z => if z = two then own else z) sh (i + 1) q (vs.set d.toNat (.int ((k : Nat) : Int))) := by
  have mp : ∀ a, (ls.map fun z => if z = two then own else z)[a]? = (ls[a]?).map fun z => if z = two then own else z := fun a => List.getElem?_map
  have keep : ∀ a b : Nat, ls[a]? = ls[b]? → (ls.map fun z => if z = two then own else z)[a]? = (ls.map fun z => if z = two then own else z)[b]? := fun a b e => by rw [mp, mp, e]
  have dn := o.at_ d (List.mem_of_getElem? hd)
  have old : ∀ (j : Nat) (e : Int), j < i → ds[j]? = some e → (vs.set d.toNat (.int ((k : Nat) : Int)))[e.toNat]? = vs[e.toNat]? := fun j e hj he => List.getElem?_set_ne (ord_ne o hd he (by omega))
  have new : (vs.set d.toNat (.int ((k : Nat) : Int)))[d.toNat]? = some (.int ((k : Nat) : Int)) := List.getElem?_set_self (by omega)
  have bd : bk p d = x := bk_at hx
  refine ⟨fun j e hj he => ?_, fun k' hk' => ?_, fun S cp ca u v u0 u1 v0 v1 hu su => ?_, ?_⟩
  · by_cases cj : j = i
    · subst cj
      rw [hd] at he
      obtain rfl := Option.some.inj he
      refine ⟨k, new, hk, fun y hy => ?_⟩
      rw [hx] at hy
      obtain rfl := Option.some.inj hy
      rw [mp, mp, ht, ho]
      show some (if two = two then own else two) = some (if own = two then own else own)
      rw [if_pos rfl, if_neg n]
    · obtain ⟨k2, h1, h2, h3⟩ := M.a j e (by omega) he
      exact ⟨k2, by rw [old j e (by omega) he]; exact h1, h2, fun y hy => keep _ _ (h3 y hy)⟩
  · obtain ⟨j, e, hj, he, hv⟩ := M.b k' hk'
    exact ⟨j, e, by omega, he, by rw [old j e hj he]; exact hv⟩
  · have tr := M.c S cp fun j j' d' e hj hj' h1 h2 hv => ca j j' d' e (by omega) (by omega) h1 h2 (by rw [old j d' hj h1, old j' e hj' h2]; exact hv)
    obtain ⟨j0, f, hj0, hf, hv⟩ := M.b k hk
    obtain ⟨k2, h1, h2, h3⟩ := M.a j0 f hj0 hf
    have ek : k2 = k := by
      rw [hv] at h1
      have := V.int.inj (Option.some.inj h1)
      omega
    subst ek
    have fn := o.at_ f (List.mem_of_getElem? hf)
    have lf : ls[(bk p f).toNat]? = some two := by rw [← h3 _ (bk_some fn.1 fn.2), ht]
    have ld : ls[(bk p d).toNat]? = some own := by rw [bd, ho]
    have df : S d → S f := ca i j0 d f (by omega) (by omega) hd hf (by rw [new, old j0 f hj0 hf, hv])
    have fd : S f → S d := ca j0 i f d (by omega) (by omega) hf hd (by rw [new, old j0 f hj0 hf, hv])
    rw [mp, mp] at hu
    have a1 := hsh _ (List.mem_of_getElem? (bk_some u0 u1))
    have a2 := hsh _ (List.mem_of_getElem? (bk_some v0 v1))
    obtain ⟨s, hs⟩ := at_some (xs := ls) (i := (bk p u).toNat) (by omega)
    obtain ⟨t, ht2⟩ := at_some (xs := ls) (i := (bk p v).toNat) (by omega)
    rw [hs, ht2] at hu
    have hu : (if s = two then own else s) = (if t = two then own else t) := Option.some.inj hu
    by_cases c1 : s = two
    · by_cases c2 : t = two
      · exact tr u v u0 u1 v0 v1 (by rw [hs, ht2, c1, c2]) su
      · rw [if_pos c1, if_neg c2] at hu
        exact tr d v dn.1 dn.2 v0 v1 (by rw [ld, ht2, hu]) (fd (tr u f u0 u1 fn.1 fn.2 (by rw [hs, lf, c1]) su))
    · by_cases c2 : t = two
      · rw [if_neg c1, if_pos c2] at hu
        exact tr f v fn.1 fn.2 v0 v1 (by rw [lf, ht2, c2]) (df (tr u d u0 u1 dn.1 dn.2 (by rw [hs, ld, hu]) su))
      · rw [if_neg c1, if_neg c2] at hu
        exact tr u v u0 u1 v0 v1 (by rw [hs, ht2, hu]) su
  · have := dcount_merge (List.mem_of_getElem? ho) (List.mem_of_getElem? ht) n
    have := M.n
    omega
theorem metc_tree {rs : List Int} (par : Par p) (hsh : (sh : Int) = bc 0 p) (o : Ord ds p.length) (hl : ls.length = sh + q) (lr : rs.length = p.length) (M : MetC p ds ls sh p.length q (rs.map V.int)) (h1 : dcount ls ≤ 1) : Tree p (num rs) := by
  have pos := List.length_pos_iff.mpr par.ne
  obtain ⟨z0, hz0⟩ := at_some (xs := p) (i := 0) pos
  have z1 := (rg_mem 0 p (Int.le_refl _) par.rg).1 z0 (List.mem_of_getElem? hz0)
  have g2 := par.le
  have lpos : 0 < ls.length := by omega
  have d1 : dcount ls = 1 := by
    have : 0 < dcount ls := by
      have hm := (mem_firsts ls).mpr (KM.getD_mem lpos)
      exact List.length_pos_of_mem hm
    omega
  have all1 := (one_label lpos).mp d1
  have ne : rs ≠ [] := fun e => by
    rw [e] at lr
    exact par.ne (List.length_eq_zero_iff.mp lr.symm)
  have parr : Par (num rs) := num_par ne (by omega)
  rw [tree_conn par parr (by rw [num_len, lr])]
  have vat : ∀ d : Int, 0 ≤ d → d < p.length → (rs.map V.int)[d.toNat]? = some (.int (bk rs d)) := fun d d0 d1 => at_map (bk_some d0 (by omega))
  constructor
  · have hn := M.n
    rw [← dcount_num]
    have : dcount rs = q := by
      have := same_len (firsts_nodup rs) (ys := (List.range q).map fun k => ((k : Nat) : Int)) (up_nodup (up_ints q)) fun x => by
        rw [mem_firsts, mem_bk, List.mem_map]
        constructor
        · rintro ⟨d, d0, d1, rfl⟩
          obtain ⟨j, hj⟩ := List.mem_iff_getElem?.mp (o.all (d := d) d0 (by omega))
          have jl := (List.getElem?_eq_some_iff.mp hj).1
          rw [o.len] at jl
          obtain ⟨k, h1, h2, _⟩ := M.a j d jl hj
          rw [vat d d0 (by omega)] at h1
          exact ⟨k, List.mem_range.mpr h2, (V.int.inj (Option.some.inj h1)).symm⟩
        · rintro ⟨k, hk, rfl⟩
          obtain ⟨j, d, _, hj, hv⟩ := M.b k (List.mem_range.mp hk)
          have dn := o.at_ d (List.mem_of_getElem? hj)
          rw [vat d dn.1 dn.2] at hv
          exact ⟨d, dn.1, by omega, V.int.inj (Option.some.inj hv)⟩
      rw [List.length_map, List.length_range] at this
      exact this
    omega
  · intro S cp cr d e d0 d1 e0 e1
    refine M.c S cp (fun j j' u v hj hj' hu hv heq => ?_) d e d0 d1 e0 e1 ?_
    · have un := o.at_ u (List.mem_of_getElem? hu)
      have vn := o.at_ v (List.mem_of_getElem? hv)
      rw [vat u un.1 un.2, vat v vn.1 vn.2] at heq
      exact cr u v un.1 un.2 vn.1 vn.2 ((bk_num un.1 (by omega) vn.1 (by omega)).mpr (V.int.inj (Option.some.inj heq)))
    · have a1 := bk_rng par d0 d1
      have a2 := bk_rng par e0 e1
      have := all1 (bk p d).toNat (bk p e).toNat (by omega) (by omega)
      rw [List.getD_eq_getElem?_getD, List.getD_eq_getElem?_getD, List.getElem?_eq_getElem (by omega), List.getElem?_eq_getElem (by omega)] at this
      rw [List.getElem?_eq_getElem (by omega), List.getElem?_eq_getElem (by omega)]
      exact congrArg some this
end
end KQ
namespace KQ
open PySem PySem.Spec PyProof.Rows L2 KR KM StX
/-! ### moves lead from one to all: five doors at most, tried one by one -/
theorem allP_all : ∀ (n : Nat) (r : List Int), Rg 0 r → r.length = n + 1 → r ∈ allP n
  | 0, [x], h, _ => by
    have h1 : 0 ≤ x := h.1
    have h2 : x ≤ 0 := h.2.1
    rw [show x = 0 by omega]
    exact List.mem_singleton.mpr rfl
  | n + 1, r, h, hl => by
    have ne : r ≠ [] := fun e => by rw [e] at hl; cases hl
    rw [← List.dropLast_concat_getLast ne, rg_app] at h
    obtain ⟨h1, h2⟩ := h
    have b0 : 0 ≤ r.getLast ne := h2.1
    have b1 : r.getLast ne ≤ bc 0 r.dropLast := h2.2.1
    refine List.mem_flatMap.mpr ⟨r.dropLast, allP_all n _ h1 (by rw [List.length_dropLast, hl]; rfl), List.mem_map.mpr ⟨(r.getLast ne).toNat, List.mem_range.mpr (by omega), ?_⟩⟩
    rw [show (((r.getLast ne).toNat : Nat) : Int) = r.getLast ne by omega, List.dropLast_concat_getLast ne]
theorem allP_up : ∀ n : Fin 5, (allP n.val).Pairwise fun x y => HT.lexLt x y = true := by decide +kernel
def labs : List (Nat × Nat) → List Nat → Bool
  | [], _ => true
  | t :: ts, L => if L.getD t.1 0 = L.getD t.2 0 then false else labs ts (L.map fun z => if z = L.getD t.2 0 then L.getD t.1 0 else z)
theorem labs_ok {M : Nat} : ∀ (ts pre : List (Nat × Nat)) (L : List Nat), (∀ t ∈ ts, t.1 < M ∧ t.2 < M) → L.length = M → (∀ x y, x < M → y < M → (L.getD x 0 = L.getD y 0 ↔ glue pre x y)) →
    (labs ts L = true ↔ ∀ i t, ts[i]? = some t → ¬ glue (pre ++ ts.take i) t.1 t.2)
  | [], pre, L, _, _, _ => ⟨fun _ i t h => by simp at h, fun _ => rfl⟩
  | t :: ts, pre, L, hb, hl, hg => by
    have ⟨ha, hbb⟩ := hb t List.mem_cons_self
    by_cases e : L.getD t.1 0 = L.getD t.2 0
    · rw [show labs (t :: ts) L = false by unfold labs; rw [if_pos e]]
      exact ⟨fun h => (by cases h), fun h => absurd ((hg _ _ ha hbb).mp e) (by have := h 0 t rfl; rwa [List.take_zero, List.append_nil] at this)⟩
    · rw [show labs (t :: ts) L = labs ts (L.map fun z => if z = L.getD t.2 0 then L.getD t.1 0 else z) by
        conv => lhs; unfold labs
        rw [if_neg e]]
      have gm : ∀ x, x < M → (L.map fun z => if z = L.getD t.2 0 then L.getD t.1 0 else z).getD x 0 = if L.getD x 0 = L.getD t.2 0 then L.getD t.1 0 else L.getD x 0 := fun x hx => by
        rw [List.getD_eq_getElem?_getD, List.getElem?_map, List.getElem?_eq_getElem (by omega), List.getD_eq_getElem?_getD (l := L) (i := x), List.getElem?_eq_getElem (by omega)]
        rfl
      rw [labs_ok ts (pre ++ [t]) _ (fun u hu => hb u (List.mem_cons_of_mem _ hu)) (by rw [List.length_map, hl]) fun x y hx hy => ?_]
      · constructor
        · intro h i u hu
          cases i with
          | zero =>
            obtain rfl := Option.some.inj hu
            rw [List.take_zero, List.append_nil]
            exact fun g => e ((hg _ _ ha hbb).mpr g)
          | succ i =>
            have := h i u hu
            rwa [List.append_assoc, List.singleton_append] at this
        · intro h i u hu
          have := h (i + 1) u hu
          rw [List.append_assoc, List.singleton_append]
          exact this
      · rw [gm x hx, gm y hy, glue_snoc]
        have g := tie_labels (L := fun x => ((L.getD x 0 : Nat) : Int)) (L' := fun x => (((if L.getD x 0 = L.getD t.2 0 then L.getD t.1 0 else L.getD x 0) : Nat) : Int)) (R := glue pre) (a := t.1) (b := t.2) (S := fun x => x < M)
          (fun x y hx hy => by rw [← hg x y hx hy]; omega) ha hbb (fun y hy => by
            show (((if L.getD y 0 = L.getD t.2 0 then L.getD t.1 0 else L.getD y 0) : Nat) : Int) = if ((L.getD y 0 : Nat) : Int) = ((L.getD t.2 0 : Nat) : Int) then ((L.getD t.1 0 : Nat) : Int) else ((L.getD y 0 : Nat) : Int)
            by_cases c : L.getD y 0 = L.getD t.2 0
            · rw [if_pos c, if_pos (congrArg _ c)]
            · rw [if_neg c, if_neg (by omega)]) x y hx hy
        rw [← g]
        exact ⟨fun q => congrArg _ q, fun q => Int.ofNat.inj q⟩
def treeB (p r : List Int) : Bool := decide (bc 0 p + bc 0 r = p.length + 1) && labs (tiesOf p r) (List.range (bc 0 p + bc 0 r).toNat)
theorem treeB_ok {p r : List Int} (hp : Rg 0 p) (hr : Rg 0 r) : treeB p r = true ↔ Tree p r := by
  unfold treeB Tree
  rw [Bool.and_eq_true, decide_eq_true_iff, noRing_loop]
  refine and_congr_right fun _ => ?_
  rw [labs_ok (M := (bc 0 p + bc 0 r).toNat) (tiesOf p r) [] _ (ties_rng hp hr) List.length_range fun x y hx hy => ?_]
  · exact Iff.rfl
  · have e : ∀ x, x < (bc 0 p + bc 0 r).toNat → (List.range (bc 0 p + bc 0 r).toNat).getD x 0 = x := fun x hx => by
      rw [List.getD_eq_getElem?_getD, List.getElem?_range hx]
      rfl
    rw [e x hx, e y hy]
    exact Iff.rfl
def movesB (p r : List Int) : List (List Int) := (List.range p.length).flatMap fun d => ((List.range (bc 0 r).toNat).filter fun b => decide (((b : Nat) : Int) ≠ bk r ((d : Nat) : Int)) && treeB p (mv r ((d : Nat) : Int) ((b : Nat) : Int))).map fun b => mv r ((d : Nat) : Int) ((b : Nat) : Int)
def put (seen acc : List (List Int)) (y : List Int) : List (List Int) := if y ∈ seen then acc else if y ∈ acc then acc else acc ++ [y]
def reach (p : List Int) : Nat → List (List Int) → List (List Int) → List (List Int)
  | 0, done, todo => done ++ todo
  | _ + 1, done, [] => done
  | f + 1, done, x :: todo => reach p f (x :: done) ((movesB p x).foldl (put (x :: done)) todo)
def connB (m : Nat) : Bool := (allP m).all fun p => match (allP m).filter (treeB p) with
  | [] => true
  | r0 :: rest => (r0 :: rest).all fun r => decide (r ∈ reach p 200 [] [r0])
theorem conn_ok : ∀ m : Fin 5, connB m.val = true := by decide +kernel
theorem put_in {S : List Int → Prop} {seen acc : List (List Int)} {y : List Int} (ha : ∀ x ∈ acc, S x) (hy : S y) : ∀ x ∈ put seen acc y, S x := by
  unfold put
  intro x hx
  split at hx
  · exact ha x hx
  · split at hx
    · exact ha x hx
    · rcases List.mem_append.mp hx with h | h
      · exact ha x h
      · rw [List.mem_singleton.mp h]
        exact hy
theorem puts_in {S : List Int → Prop} {seen : List (List Int)} : ∀ (ys acc : List (List Int)), (∀ x ∈ acc, S x) → (∀ y ∈ ys, S y) → ∀ x ∈ ys.foldl (put seen) acc, S x
  | [], acc, ha, _, x, hx => ha x hx
  | y :: ys, acc, ha, hy, x, hx => puts_in ys (put seen acc y) (put_in ha (hy y List.mem_cons_self)) (fun z hz => hy z (List.mem_cons_of_mem _ hz)) x hx
theorem reach_in {p : List Int} {S : List Int → Prop} (cl : ∀ x, S x → ∀ y ∈ movesB p x, S y) : ∀ (f : Nat) (done todo : List (List Int)), (∀ x ∈ done, S x) → (∀ x ∈ todo, S x) → ∀ y ∈ reach p f done todo, S y
  | 0, done, todo, hd, ht, y, hy => (List.mem_append.mp hy).elim (hd y) (ht y)
  | _ + 1, done, [], hd, _, y, hy => hd y hy
  | f + 1, done, x :: todo, hd, ht, y, hy => by
    have sx := ht x List.mem_cons_self
    exact reach_in cl f (x :: done) ((movesB p x).foldl (put (x :: done)) todo) (fun z hz => (List.mem_cons.mp hz).elim (fun e => e ▸ sx) (hd z)) (puts_in _ _ (fun z hz => ht z (List.mem_cons_of_mem _ hz)) (cl x sx)) y hy
/-- one move -/
def Step (p x y : List Int) : Prop := ∃ d b : Int, 0 ≤ d ∧ d < x.length ∧ 0 ≤ b ∧ b < bc 0 x ∧ b ≠ bk x d ∧ y = mv x d b ∧ Tree p y
theorem step_of {p x y : List Int} (par : Par p) (parx : Par x) (hl : p.length = x.length) (h : y ∈ movesB p x) : Step p x y := by
  obtain ⟨d, hd, hy⟩ := List.mem_flatMap.mp h
  obtain ⟨b, hb, rfl⟩ := List.mem_map.mp hy
  obtain ⟨h1, h2⟩ := List.mem_filter.mp hb
  have hd := List.mem_range.mp hd
  have h1 := List.mem_range.mp h1
  obtain ⟨h3, h4⟩ := Bool.and_eq_true_iff.mp h2
  exact ⟨_, _, by omega, by omega, by omega, by omega, of_decide_eq_true h3, rfl, (treeB_ok par.rg (mv_par parx).rg).mp h4⟩
theorem step_back {p x y : List Int} (par : Par p) (parx : Par x) (hl : p.length = x.length) (tr : Tree p x) (h : Step p x y) : Step p y x := by
  obtain ⟨d, b, d0, d1, b0, b1, nb, rfl, ty⟩ := h
  have ho := (move_iff par parx hl tr d0 (by omega) b0 b1 nb).mp ty
  obtain ⟨f, f0, f1, nf, ef⟩ := other_kept par parx hl d0 (by omega) ho
  have py := mv_par parx (d := d) (b := b)
  have kq : ∀ u v : Int, 0 ≤ u → u < x.length → 0 ≤ v → v < x.length → (bk (mv x d b) u = bk (mv x d b) v ↔ (if u = d then b else bk x u) = if v = d then b else bk x v) := fun u v u0 u1 v0 v1 => by
    unfold mv
    rw [bk_num u0 (by rw [List.length_set]; omega) v0 (by rw [List.length_set]; omega), bk_set d0 (by omega) u0, bk_set d0 (by omega) v0]
  have rf := bk_rng py f0 (by rw [mv_len]; omega)
  have fy : ∀ e : Int, 0 ≤ e → e < x.length → e ≠ d → (bk (mv x d b) f = bk (mv x d b) e ↔ bk x f = bk x e) := fun e e0 e1 ne => by
    rw [kq f e f0 (by omega) e0 e1, if_neg nf, if_neg ne]
  refine ⟨d, bk (mv x d b) f, d0, by rw [mv_len]; exact d1, rf.1, rf.2, fun e => ?_, ?_, tr⟩
  · rw [kq f d f0 (by omega) d0 d1, if_neg nf, if_pos rfl] at e
    exact nb (by rw [← e, ef])
  · refine (num_self parx).symm.trans (num_congr (by rw [List.length_set, mv_len]) fun i j u v u' v' hu hv hu' hv' => ?_)
    have il := (List.getElem?_eq_some_iff.mp hu).1
    have jl := (List.getElem?_eq_some_iff.mp hv).1
    have a1 : bk x (i : Int) = u := bk_at (by rw [Int.toNat_natCast]; exact hu)
    have a2 : bk x (j : Int) = v := bk_at (by rw [Int.toNat_natCast]; exact hv)
    have a3 := bk_at (p := (mv x d b).set d.toNat (bk (mv x d b) f)) (d := (i : Int)) (by rw [Int.toNat_natCast]; exact hu')
    have a4 := bk_at (p := (mv x d b).set d.toNat (bk (mv x d b) f)) (d := (j : Int)) (by rw [Int.toNat_natCast]; exact hv')
    rw [bk_set d0 (by rw [mv_len]; exact d1) (by omega)] at a3 a4
    rw [← a1, ← a2, ← a3, ← a4]
    by_cases c1 : (i : Int) = d
    · by_cases c2 : (j : Int) = d
      · rw [if_pos c1, if_pos c2, c1, c2]
        exact ⟨fun _ => rfl, fun _ => rfl⟩
      · rw [if_pos c1, if_neg c2, c1, fy _ (by omega) (by omega) c2, ef]
    · by_cases c2 : (j : Int) = d
      · rw [if_neg c1, if_pos c2, c2]
        have := fy _ (by omega) (by omega) c1
        rw [ef] at this
        exact ⟨fun e => (this.mpr e.symm).symm, fun e => (this.mp e.symm).symm⟩
      · rw [if_neg c1, if_neg c2, kq _ _ (by omega) (by omega) (by omega) (by omega), if_neg c1, if_neg c2]
/-- what holds one and is closed under moves holds all -/
theorem all_reached {p r : List Int} (par : Par p) (parr : Par r) (hl : p.length = r.length) (h5 : p.length ≤ 5) (tr : Tree p r) {S : List Int → Prop} (sr : S r) (cl : ∀ x y, Par x → x.length = p.length → Tree p x → S x → Step p x y → S y) :
    ∀ q, Par q → q.length = p.length → Tree p q → S q := by
  have pos := List.length_pos_iff.mpr par.ne
  have hc := conn_ok ⟨p.length - 1, by omega⟩
  have hin : ∀ q : List Int, Par q → q.length = p.length → q ∈ allP (p.length - 1) := fun q pq lq => allP_all _ q pq.rg (by omega)
  have hpar : ∀ q ∈ allP (p.length - 1), Par q ∧ q.length = p.length := fun q hq => by
    obtain ⟨h1, h2⟩ := allP_ok _ q hq
    have e : q.length = p.length := by omega
    exact ⟨⟨fun z => par.ne (by rw [z] at e; exact List.length_eq_zero_iff.mp e.symm), by have := par.le; omega, h1⟩, e⟩
  have hp := List.all_eq_true.mp (show (allP (p.length - 1)).all _ = true from hc) p (hin p par rfl)
  have hdue : ∀ q, q ∈ (allP (p.length - 1)).filter (treeB p) ↔ Par q ∧ q.length = p.length ∧ Tree p q := fun q => by
    rw [List.mem_filter]
    constructor
    · rintro ⟨h1, h2⟩
      obtain ⟨h3, h4⟩ := hpar q h1
      exact ⟨h3, h4, (treeB_ok par.rg h3.rg).mp h2⟩
    · rintro ⟨h3, h4, h2⟩
      exact ⟨hin q h3 h4, (treeB_ok par.rg h3.rg).mpr h2⟩
  cases hd : (allP (p.length - 1)).filter (treeB p) with
  | nil =>
    have := (hdue r).mpr ⟨parr, hl.symm, tr⟩
    rw [hd] at this
    cases this
  | cons r0 rest =>
    rw [hd] at hp hdue
    have hp : (r0 :: rest).all (fun r => decide (r ∈ reach p 200 [] [r0])) = true := hp
    have got : ∀ q, Par q → q.length = p.length → Tree p q → q ∈ reach p 200 [] [r0] := fun q a b c => of_decide_eq_true (List.all_eq_true.mp hp q ((hdue q).mpr ⟨a, b, c⟩))
    have r0ok := (hdue r0).mp List.mem_cons_self
    have main : ∀ S' : List Int → Prop, (∀ x y, Par x → x.length = p.length → Tree p x → S' x → Step p x y → S' y) → S' r0 → ∀ q, Par q → q.length = p.length → Tree p q → S' q := fun S' cl' s0 q a b c => by
      refine (reach_in (p := p) (S := fun x => Par x ∧ x.length = p.length ∧ Tree p x ∧ S' x) (fun x ⟨x1, x2, x3, x4⟩ y hy => ?_) 200 [] [r0] (fun x hx => by cases hx) (fun x hx => by rw [List.mem_singleton.mp hx]; exact ⟨r0ok.1, r0ok.2.1, r0ok.2.2, s0⟩) q (got q a b c)).2.2.2
      have st := step_of par x1 x2.symm hy
      have st2 := st
      obtain ⟨d, b, _, _, _, _, _, rfl, ty⟩ := st
      exact ⟨mv_par x1, by rw [mv_len, x2], ty, cl' x _ x1 x2 x3 x4 st2⟩
    by_cases s0 : S r0
    · exact main S cl s0
    · refine absurd sr (main (fun x => ¬ S x) (fun x y x1 x2 x3 nx st sy => nx ?_) s0 r parr hl.symm tr)
      have back := step_back par x1 x2.symm x3 st
      obtain ⟨d, b, _, _, _, _, _, rfl, ty⟩ := st
      exact cl _ x (mv_par x1) (by rw [mv_len, x2]) ty sy back
end KQ
namespace KQ
open PySem PySem.Spec PyProof.Rows L2 KR KM StX
/-! ### lots turned and closed -/
theorem conn_flip {p r : List Int} (hl : p.length = r.length) (h : DConn p r) : DConn r p := fun S cr cp d e d0 d1 e0 e1 => by
  rw [← hl] at d1 e1
  exact h S (fun d e d0 d1 e0 e1 => cp d e d0 (by omega) e0 (by omega)) (fun d e d0 d1 e0 e1 => cr d e d0 (by omega) e0 (by omega)) d e d0 d1 e0 e1
theorem treeB_flip {p r : List Int} (par : Par p) (parr : Par r) (hl : p.length = r.length) : treeB p r = treeB r p := by
  rw [Bool.eq_iff_iff, treeB_ok par.rg parr.rg, treeB_ok parr.rg par.rg, tree_conn par parr hl, tree_conn parr par hl.symm]
  constructor
  · rintro ⟨h1, h2⟩
    exact ⟨by omega, conn_flip hl h2⟩
  · rintro ⟨h1, h2⟩
    exact ⟨by omega, conn_flip hl.symm h2⟩
/-- a lot of n + 1 doors, in any order -/
def LotP (n : Nat) (L : List (List Int)) : Prop := ∀ q ∈ L, Par q ∧ q.length = n + 1
def meetsB (L : List (List Int)) (p : List Int) : Bool := L.all fun q => treeB p q
/-- all that meet each of a lot -/
def turnB (n : Nat) (L : List (List Int)) : List (List Int) := (allP n).filter (meetsB L)
theorem allP_par {n : Nat} (h : n < 60) : LotP n (allP n) := fun q hq => by
  obtain ⟨h1, h2⟩ := allP_ok n q hq
  exact ⟨⟨(fun z => by rw [z] at h2; cases h2), by omega, h1⟩, h2⟩
theorem turn_lot {n : Nat} (h : n < 60) (L : List (List Int)) : LotP n (turnB n L) := fun q hq => allP_par h q (List.mem_filter.mp hq).1
theorem mem_turn {n : Nat} {L : List (List Int)} {q : List Int} : q ∈ turnB n L ↔ q ∈ allP n ∧ ∀ x ∈ L, treeB q x = true := by
  unfold turnB meetsB
  rw [List.mem_filter, List.all_eq_true]
theorem sub_twice {n : Nat} (h : n < 60) {L : List (List Int)} (hL : LotP n L) : ∀ q ∈ L, q ∈ turnB n (turnB n L) := fun q hq => by
  obtain ⟨q1, q2⟩ := hL q hq
  refine mem_turn.mpr ⟨allP_all n q q1.rg q2, fun x hx => ?_⟩
  obtain ⟨x1, x2⟩ := turn_lot h L x hx
  rw [treeB_flip q1 x1 (by omega)]
  exact (mem_turn.mp hx).2 q hq
theorem turn_less {n : Nat} {L M : List (List Int)} (h : ∀ x ∈ L, x ∈ M) : ∀ q ∈ turnB n M, q ∈ turnB n L := fun q hq =>
  mem_turn.mpr ⟨(mem_turn.mp hq).1, fun x hx => (mem_turn.mp hq).2 x (h x hx)⟩
/-- turned thrice is turned once -/
theorem turn_thrice {n : Nat} (h : n < 60) {L : List (List Int)} (hL : LotP n L) : turnB n (turnB n (turnB n L)) = turnB n L := by
  refine List.filter_congr fun q hq => ?_
  rw [Bool.eq_iff_iff]
  unfold meetsB
  rw [List.all_eq_true, List.all_eq_true]
  constructor
  · exact fun g x hx => g x (sub_twice h hL x hx)
  · intro g x hx
    have hq' : q ∈ turnB n L := mem_turn.mpr ⟨hq, g⟩
    exact (mem_turn.mp (sub_twice h (turn_lot h L) q hq')).2 x hx
/-- partings with unlike numbers of blocks: nothing meets both -/
theorem turn_unlike {n : Nat} {L : List (List Int)} {x y : List Int} (hx : x ∈ L) (hy : y ∈ L) (ne : bc 0 x ≠ bc 0 y) : turnB n L = [] := by
  refine List.filter_eq_nil_iff.mpr fun q _ hq => ?_
  unfold meetsB at hq
  have hq := List.all_eq_true.mp hq
  have e : ∀ z, treeB q z = true → bc 0 q + bc 0 z = q.length + 1 := fun z hz => by
    unfold treeB at hz
    exact of_decide_eq_true (Bool.and_eq_true_iff.mp hz).1
  have h1 := e x (hq x hx)
  have h2 := e y (hq y hy)
  omega
theorem turn_nil (n : Nat) : turnB n [] = allP n := List.filter_eq_self.mpr fun _ _ => rfl
end KQ
namespace KQ
open PySem PySem.Spec PyProof.Rows L2 KR KM StX
theorem dp_its {K : PySem.W.Frag} {H : Hp} : ∀ {ts : List Addr} {xss : List (List Int)}, Its H ts xss → DpAll K H (ts.map V.ref) (xss.map fun xs => PyData.tuple (xs.map PyData.int))
  | [], [], _ => .nil
  | [], _ :: _, h => by cases h.1
  | _ :: _, [], h => by cases h.1
  | t :: ts, xs :: xss, h => by
    obtain ⟨ys, e, ht⟩ := h.2 0 t rfl
    obtain rfl : xs = ys := Option.some.inj e
    exact .cons (dp_ti ht) (dp_its ⟨Nat.succ.inj h.1, fun i u hu => h.2 (i + 1) u hu⟩)
theorem ti_new {H : Hp} {a : Addr} {p : List Int} : TI (upd H a (.tup (p.map V.int))) a p := upd_same
theorem dp_tt {K : PySem.W.Frag} {H : Hp} {a : Addr} {xss : List (List Int)} (h : KQ.TT H a xss) : Dp K H (.ref a) (.tuple (xss.map fun xs => PyData.tuple (xs.map PyData.int))) := by
  obtain ⟨ts, e, h1, h2⟩ := h
  exact .tup (sqT e) (dp_its ⟨h1, h2⟩)
theorem nc_ti {p : List Int} (h : ∀ x ∈ p, 0 ≤ x ∧ x < 1024) (hl : p.length ≤ 60) : Nc 1 660 (.tuple (p.map PyData.int)) := (nc_tup (nc_ints h)).le (Nat.le_refl _) (by omega)
theorem nc_tt {xss : List (List Int)} (n : Nat) (h : ∀ xs ∈ xss, (∀ x ∈ xs, 0 ≤ x ∧ x < 1024) ∧ xs.length ≤ n) : Nc 2 ((11 * n + 1) * xss.length) (.tuple (xss.map fun xs => PyData.tuple (xs.map PyData.int))) := by
  have := nc_all (k := 1) (W := 11 * n) (ds := xss.map fun xs => PyData.tuple (xs.map PyData.int)) (fun d hd => by
    obtain ⟨xs, hx, rfl⟩ := List.mem_map.mp hd
    exact (nc_tup (nc_ints (h xs hx).1)).le (Nat.le_refl _) (Nat.mul_le_mul (Nat.le_refl _) (h xs hx).2))
  rw [List.length_map] at this
  exact nc_tup this
theorem par_small {p : List Int} (h : Rg 0 p) (hl : p.length ≤ 60) : ∀ x ∈ p, 0 ≤ x ∧ x < 1024 := fun x hx => by
  have := (rg_mem 0 p (Int.le_refl _) h).1 x hx
  have := bc_le 0 p
  omega
end KQ
/-! tuples of rows, also ones whose object is known -/
namespace KQ
open PySem PySem.Spec PyProof.Rows L2 KR KM StX
theorem rdT {K : PySem.W.Frag} {H : Hp} {a : Addr} {xs : List V} (h : Rd H a (.tup xs)) : SqT K H a xs := .inl h
theorem _root_.L2.Rd.mono {H H' : Hp} {a : Addr} {u : HO} (h : Rd H a u) (s : Same H H') : Rd H' a u := by
  rcases h with h | ⟨o, h⟩
  · exact .inl (s _ _ h)
  · exact .inr ⟨o, s _ _ h⟩
theorem _root_.L2.Rd.ne {H : Hp} {a b : Addr} {xs : List V} {u : HO} (h : Rd H a (.tup xs)) (e : H b = some u) (h1 : ∀ ys, u ≠ .tup ys) (h2 : ∀ o v, u ≠ .frz o v) : a ≠ b := fun z => by
  rw [z] at h
  rcases h with h | ⟨o, h⟩
  · rw [e] at h
    exact h1 _ (Option.some.inj h)
  · rw [e] at h
    exact h2 _ _ (Option.some.inj h)
theorem _root_.L2.Rd.put {H : Hp} {a b : Addr} {u o : HO} (h : Rd H a u) (n : a ≠ b) : Rd (upd H b o) a u := by
  rcases h with h | ⟨p, h⟩
  · exact .inl (by rw [upd_ne n]; exact h)
  · exact .inr ⟨p, by rw [upd_ne n]; exact h⟩
theorem tyRd {K : PySem.W.Frag} {H : Hp} {a : Addr} {xs : List V} (h : Rd H a (.tup xs)) : TyX K H (.ref a) (.type "tuple") := by
  rcases h with h | ⟨o, h⟩
  · exact .base (.tup h)
  · exact .fTuple h
/-- a tuple of rows -/
def TL (H : Hp) (a : Addr) (xss : List (List Int)) : Prop := ∃ ts : List Addr, Rd H a (.tup (ts.map V.ref)) ∧ Its H ts xss
theorem TT.tl {H : Hp} {a : Addr} {xss : List (List Int)} (h : TT H a xss) : TL H a xss := let ⟨ts, e, i⟩ := h; ⟨ts, .inl e, i⟩
theorem TL.mono {H H' : Hp} {a : Addr} {xss : List (List Int)} (h : TL H a xss) (s : Same H H') : TL H' a xss := let ⟨ts, e, i⟩ := h; ⟨ts, e.mono s, i.mono s⟩
theorem dp_tl {K : PySem.W.Frag} {H : Hp} {a : Addr} {xss : List (List Int)} (h : TL H a xss) : Dp K H (.ref a) (.tuple (xss.map fun xs => PyData.tuple (xs.map PyData.int))) := by
  obtain ⟨ts, e, h1⟩ := h
  exact .tup (rdT e) (dp_its h1)
theorem TL.put {H : Hp} {a L : Addr} {xss : List (List Int)} {xs : List V} {o : HO} (h : TL H a xss) (e : H L = some (.lst xs)) : TL (upd H L o) a xss := by
  obtain ⟨ts, el, its⟩ := h
  exact ⟨ts, el.put (el.ne e (fun _ z => by cases z) (fun _ _ z => by cases z)), its.put e⟩
/-- an object known to have no attributes of its own -/
def Bare (H : Hp) (a : Addr) : Prop := ∃ o u, H a = some (.frz o u) ∧ o.dict = none
theorem Bare.mono {H H' : Hp} {a : Addr} (h : Bare H a) (s : Same H H') : Bare H' a := let ⟨o, u, e, d⟩ := h; ⟨o, u, s _ _ e, d⟩
section
variable {X : Cx} {K : PySem.W.Frag}
/-- tuple(l) of a list: a new one, known -/
def rTupB (K : PySem.W.Frag) : List V → Hp → VK → Prop := fun xs H Q => ∃ p ys, xs = [.ref p] ∧ SqL K H p ys ∧ ∀ l o, H l = none → o.dict = none → Q (.ref l) (upd H l (.frz o (.tup ys)))
theorem k_tupB (hK : X.K = K) : CallR X (.type "tuple") (rTupB K) := by
  subst hK
  intro pins s σ H xs us Q I r h
  obtain ⟨p, ys, rfl, hq, q⟩ := h
  obtain ⟨u, rfl, rx⟩ := vals1 r
  cases rx
  obtain ⟨its, rv, pl, hz⟩ := I.list hq
  have len := rv.length
  refine call_tuple_list pl.isList (fun h' kp => ?_) (by simp only [List.size_toArray]; omega)
  have J : Inv X pins σ H { s with heap := h' } := I.kept (t' := s.toks) kp
  refine ⟨.ref h'.objs.size, _, J.laid (o := .frz { cls := .type "tuple", data := .seq its.toArray } (.tup ys)) (t' := s.toks) (fun b o e => Heap.get?_push_of_some _ e) (Nat.le_refl _)
    ⟨Heap.get?_push_size _ rfl, hz, its, rv, IsTup.new _ _⟩, rfl, q _ _ (J.hok.fresh (Nat.le_refl _)) rfl⟩
/-- t[lo:hi], t + u where t is a tuple known or not -/
def rSlR : V → Option Int → Option Int → Hp → VK → Prop := fun x lo hi H Q => rSlF x lo hi H Q ∨ ∃ a xs, x = .ref a ∧ Rd H a (.tup xs) ∧ ∀ H' p, Same H H' → Rd H' p (.tup (cutV xs lo hi)) → Q (.ref p) H'
def rCatR : R2 := fun x y H Q => rCatF x y H Q ∨ ∃ a b xs ys, x = .ref a ∧ y = .ref b ∧ Rd H a (.tup xs) ∧ Rd H b (.tup ys) ∧ xs.length + ys.length ≤ 100000 ∧ ∀ H' p, Same H H' → Rd H' p (.tup (xs ++ ys)) → Q (.ref p) H'
theorem k_slR (hK : X.K = K) : SlR X rSlR := by
  intro pins s σ H x v vl vu lo hi sl Q I rx hs pl pu h
  rcases h with h | ⟨a, xs, rfl, hx, k⟩
  · exact k_slA hK pins s σ H x v vl vu lo hi sl Q I rx hs pl pu h
  refine sl_tupA pins s σ H _ v vl vu lo hi sl Q I rx hs pl pu ⟨a, xs, rfl, rdT hx, fun hw => k H a (Same.refl H) ?_, fun _ p np => k _ p (same_new np) (.inl upd_same)⟩
  unfold cutV
  rw [hw.1, hw.2, List.drop_zero, Nat.sub_zero, List.take_length]
  exact hx
theorem k_catR (hK : X.K = K) : OpR X (binaryOp .Add) rCatR := by
  intro pins s σ H x y v u Q I rx ry h
  rcases h with h | ⟨a, b, xs, ys, rfl, rfl, hx, hy, hl, k⟩
  · exact k_catA hK pins s σ H x y v u Q I rx ry h
  refine op_catA pins s σ H _ _ v u Q I rx ry ⟨a, b, xs, ys, rfl, rfl, rdT hx, rdT hy, Nat.le_of_lt (small_of hl), fun e => ?_, fun _ e => ?_, fun _ _ p np => k _ p (same_new np) (.inl upd_same)⟩
  · subst e
    exact k H b (Same.refl H) (by rw [List.nil_append]; exact hy)
  · subst e
    exact k H a (Same.refl H) (by rw [List.append_nil]; exact hx)
/-- a method of a tuple known, called -/
def tTM (K : PySem.W.Frag) (r : V → List V → Hp → VK → Prop) (to : TE) (t : TA) : TE := fun σ H Q => to σ H fun x H1 => (∃ p vs, x = .ref p ∧ SqT K H1 p vs ∧ Bare H1 p) ∧ t σ H1 fun xs H2 => r x xs H2 Q
theorem k_tm {o a : Expr} {more : List Expr} {to : TE} {t : TA} {name : Str} {p1 p2 : Pos} {id : String} {r : V → List V → Hp → VK → Prop} (hK : X.K = K) (sl : Slot "tuple" name id)
    (ty : typeOf (.builtin id) = pure (.type "method_descriptor")) (hm : MtR X id r) (ho : PE X o to) (ha : PA X (a :: more) t) (h1 : attributeBase o name X.env (eval o X.env) = eval o X.env := by rfl)
    (h2 : ((backTo p2 (starEach (a :: more) X.env)).all (fun z => !z.1) && (backToKw p2 (keywordEach [] X.env)).all (fun z => z.1.isSome) && decide ((a :: more).length + ([] : List Keyword).length + (if ([] : List Keyword).isEmpty then 0 else 1) < 30)) = true := by rfl)
    (h3 : (p1.endLine == p2.line) = true := by rfl) (h4 : starEach (a :: more) X.env = (false, eval a X.env) :: starEach more X.env := by rfl) (h5 : (backTo p2 (starEach more X.env)).any (·.1) = false := by rfl) :
    PE X (.Call (.Attribute o name p1) (a :: more) [] p2) (tTM K r to t) := by
  subst hK
  refine ⟨fun pins s σ H Q I h => wpAny_Call_method_late h1 h2 h3 rfl (thn (ho.run pins s σ H _ I h) fun v s1 hh => ?_)⟩
  obtain ⟨x, H1, I1, r1, ⟨p, vs, rfl, hq, ⟨ob, u, eb, db⟩⟩, q1⟩ := hh
  cases r1
  obtain ⟨its, _, ⟨ob2, e, c, d, _⟩, _⟩ := I1.tuple hq
  have gb : s1.heap.get? p = some ob := (show ObjOk X.prog X.w H1 s1.heap p (.frz ob u) from I1.hok p _ eb).1
  refine ⟨_, id, PySem.F.plainAttrs_tuple, sl, ty, ⟨ob2, e, c⟩, fun b ez => ⟨ob, by cases ez; exact gb, db⟩, ?_⟩
  have hA := ha.run p2 pins s1 σ H1 _ I1 q1
  rw [h4] at hA ⊢
  refine Calls.callWith_builtin (by show (false || (backTo p2 (starEach more X.env)).any (·.1)) = false; rw [h5]; rfl) (Calls.evalArgs_plain (thn hA fun us s2 hz => ?_))
  obtain ⟨ws, H2, I2, r2, q2⟩ := hz
  exact hm pins s2 σ H2 _ ws (Value.ref p) us Q I2 (show RelV (.ref p) (.ref p) from rfl) r2 q2
end
end KQ
/-! sorted(set(xs)) of a list of whole numbers; a comprehension over a locked dict's keys -/
namespace KR
open PySem PySem.Spec PyProof.Rows L2 KM KQ
section
variable {P : Program} {w : World} {A : Around} {E : Value → Shared → Prop} {s : Shared}
/-- a set without members -/
abbrev bare (w : World) : Obj := { cls := .type "set", dict := none, data := .set #[] 0 (.fresh 0 0 (!w.params.followText "set-order")) }
abbrev bareS (w : World) (s : Shared) : Shared := { s with heap := s.heap.push (bare w) }
set_option maxHeartbeats 8000000 in
theorem set_of_list {l : Addr} {items : Array Value} (ns : List Int) {Q : Value → Shared → Prop} (free : A.handled = none) (lst : s.heap.IsList l items) (hit : IntsAre items.toList ns) (small : ns.length + 1 < scanBound)
    (out : ∀ (h' : Heap) (tk c : Nat), SetR w h' s.heap.objs.size (fun j => decide (j ∈ ns)) c → c ≤ ns.length → (∀ b o, s.heap.get? b = some o → h'.get? b = some o) → Q (.ref s.heap.objs.size) { s with heap := h', toks := tk }) :
    wpAny (model P w) A (call (.type "set") [.ref l]) Q E s := by
  have size : items.size = ns.length := by rw [← hit.length, Array.length_toList]
  obtain ⟨c0, tl0, m0⟩ := F.called_set.mro
  have m1 := F.called_set.made; have m2 := F.called_set.sub; have m3 := F.called_set.notType; have m4 := F.called_set.canCreate; have m5 := F.typeCall_set_1 (.ref l)
  refine wpAny_call (codeAny_of_tree (show wpAny _ _ (callAny (.type "set") _) _ _ _ from wpAny_pure ⟨Code.quiet_builtin _ (by decide +kernel), codeAny_builtin F.entry_type_call ?_⟩))
  rw [Around.under_plain (weight_type_call_type "set" [.ref l] []) rfl]; repeat (any_goals (first | assumption | wp_step))
  refine codeAny_mono (code_set_led1 (.ref l) (E := E) (Q₁ := fun u s1 => u = .ref s.heap.objs.size ∧ s1 = bareS w s) ⟨rfl, rfl⟩) fun z s1 hz => ?_
  cases z with
  | error e => exact hz
  | ok fl =>
    cases fl with
    | ret u =>
      obtain ⟨rfl, rfl⟩ := hz
      have at0 : (s.heap.push (bare w)).get? s.heap.objs.size = some (bare w) := Heap.get?_push_size _ rfl
      have ty0 : Shared.TypeIs (bareS w s) (.ref s.heap.objs.size) "set" := ⟨_, at0, rfl⟩
      have n1 := F.called_set.init.lookup; have n2 := F.called_set.init.bind (.ref s.heap.objs.size); repeat (any_goals (first | assumption | wp_step))
      refine codeAny_mono (codeAny_call_builtin (R := wants (fun r s2 => r = .none ∧ ∃ h' tk c, s2 = { s with heap := h', toks := tk } ∧ SetR w h' s.heap.objs.size (fun j => decide (j ∈ ns)) c ∧ c ≤ ns.length ∧ ∀ b o, s.heap.get? b = some o → h'.get? b = some o) E)
        F.called_set.init.plain F.entry_set_init (check_set_init_1 ty0 ?_)) fun r2 s2 hz2 => ?_
      · obtain ⟨⟨oc, od, oda, osl⟩, at1, c1, n1', d1⟩ := lst
        simp only at c1 d1; subst c1; subst d1
        have at2 : (s.heap.push (bare w)).get? l = some { cls := .type "list", dict := od, data := .seq items n1', slots := osl } := Heap.get?_push_of_some _ at1
        have u1 := F.sub_list_set; have u2 := F.sub_list_frozenset; have u3 : (Value.type "list" == Value.type "dict") = false := by decide
        have lst2 : (s.heap.push (bare w)).IsList l items := ⟨_, at2, rfl, n1', rfl⟩
        unfold Builtin.«set.__init__» noKeywords Builtin.Frozenset.updateFrom; generalize hq : pyIter = qi; wp_walk; subst hq
        refine wpAny_pyIter_list lst2 (wpAny_bind (wpAny_runValue ?_))
        have below : l < s.heap.objs.size := Heap.lt_size at1
        have free3 : A.in1.in1.in1.handled = none := by simp [free]
        have ne1 : l ≠ (s.heap.push (bare w)).objs.size := by rw [Heap.size_push]; exact Nat.ne_of_lt (Nat.lt_succ_of_lt below)
        have out1 : s.heap.objs.size ∉ [(s.heap.push (bare w)).objs.size, l] := by
          rw [Heap.size_push]
          simp only [List.mem_cons, List.not_mem_nil, or_false, not_or]
          exact ⟨Nat.ne_of_lt (Nat.lt_succ_self _), Nat.ne_of_gt below⟩
        have vals : ∀ (i : Nat) (v : Value), items[i]? = some v → ∃ k t, ns[i]? = some k ∧ v = .int k t := fun i v hv => by
          have hi : i < ns.length := by rw [← size]; exact (Array.getElem?_eq_some_iff.mp hv).1
          obtain ⟨t, e⟩ := PyProof.Rows.IntsAre.int_at hit i v (by rw [Array.getElem?_toList]; exact hv)
          exact ⟨ns[i], t, List.getElem?_eq_getElem hi, by rw [e, List.getD_eq_getElem?_getD, List.getElem?_eq_getElem hi]; rfl⟩
        refine set_update_ints ((Walks.list free3 _ l ne1 items).toS) s.heap.objs.size out1 ns size small vals (items.size - 0) 0 _ (by omega) (Nat.zero_le _) ⟨⟨_, Heap.get?_push_size _ rfl, rfl, rfl⟩, lst2.push _⟩ ⟨0, Nat.le_refl 0, setR_new_at (Heap.get?_push_of_some _ at0)⟩ ?_
        rintro ⟨h', g2, d', tk', os'⟩ c' mv hc' R'
        obtain rfl : g2 = s.gens := mv.gens
        obtain rfl : d' = s.drawn := mv.drawn
        obtain rfl : os' = s.os := mv.os
        refine (show wpAny _ _ _ _ _ _ from wpAny_pure (show wpAny _ _ (ret Value.none) _ _ _ from wpAny_pure ⟨rfl, h', tk', c', rfl, R', by rw [← size]; exact hc', fun b o e => ?_⟩))
        have b0 : b < s.heap.objs.size := Heap.lt_size e
        refine mv.heap b o ?_ (Heap.get?_push_of_some _ (Heap.get?_push_of_some _ e))
        rw [Heap.size_push]
        simp only [List.mem_cons, List.not_mem_nil, or_false, not_or]
        exact ⟨Nat.ne_of_lt b0, Nat.ne_of_lt (Nat.lt_succ_of_lt b0)⟩
      · cases r2 with
        | error e => exact hz2
        | ok f2 =>
          cases f2 with
          | ret r =>
            obtain ⟨rfl, h', tk, c', rfl, R', hc', kp⟩ := hz2
            repeat (any_goals (first | assumption | wp_step))
            exact out _ _ _ R' hc' kp
          | _ => exact hz2.elim
    | _ => exact hz.elim
end
section
variable {X : Cx}
theorem srt_set {pins : List (Addr × Obj)} {σ : L2.St} {H : Hp} {Q : VK} {s : Shared} {a : Addr} {S : Int → Bool} {n : Nat} (hc : X.calm = true) (I : Inv X pins σ H s) (R : SetR X.w s.heap a S n) (h64 : n < 64)
    (q : ∀ (ns : List Int) (p : Addr), ns.Pairwise (· < ·) → (∀ k : Int, k ∈ ns ↔ S k = true) → H p = none → Q (.ref p) (upd H p (.lst (ns.map V.int)))) :
    wpAny (model X.prog X.w) X.A (call (.builtin "sorted") [.ref a]) (EP X pins σ Q) X.xe s := by
  refine sorted_set R (I.ok.hd hc) h64 fun s' p out c ns k g o hp hg hi hs hm hl => ?_
  have hz : (ns.map V.int).length ≤ sizeLine := by
    rw [List.length_map, hl, sizeLine_eq]
    omega
  have new : H p = none := I.hok.fresh hp
  have J : Inv X pins σ (upd H p (.lst (ns.map V.int))) { s with heap := s'.heap, gens := s'.gens, drawn := s'.drawn, toks := s'.toks } :=
    I.call (ch := []) (Un.laid k hp new) (I.hok.laid k hp ⟨hz, out.toList, c, vals_of_ints hi, hg⟩) (by rw [g]; exact I.bare) (fun _ z => nomatch z)
  rw [show s' = { s with heap := s'.heap, gens := s'.gens, drawn := s'.drawn, toks := s'.toks } by cases s'; cases s; cases o; rfl]
  exact ⟨.ref p, _, J, rfl, q ns p hs hm new⟩
def tSrtSet (K : PySem.W.Frag) (ta : TE) : TE := fun σ H Q => ta σ H fun x H1 => ∃ (l : Addr) (xs : List Int), x = .ref l ∧ SqL K H1 l (xs.map V.int) ∧ xs.length < 64 ∧
  ∀ (ns : List Int) (p : Addr), ns.Pairwise (· < ·) → (∀ k : Int, k ∈ ns ↔ k ∈ xs) → H1 p = none → Q (.ref p) (upd H1 p (.lst (ns.map V.int)))
theorem pe_srtSet {a : Expr} {ta : TE} {p p2 q pos : Pos} (hc : X.calm = true) (hg : Gl X "sorted") (hm : X.mg "sorted" = none) (hg2 : Gl X "set") (hm2 : X.mg "set" = none) (ha : PE X a ta)
    (na : starEach [a] X.env = (false, eval a X.env) :: starEach [] X.env := by rfl) : PE X (.Call (.Name "sorted" p) [.Call (.Name "set" p2) [a] [] q] [] pos) (tSrtSet X.K ta) := by
  refine ⟨fun pins s σ H Q I h => ?_⟩
  refine Call_ (ld_blt I hg hm (show bootBuiltins (Str.ofString "sorted") = some (.builtin "sorted") by decide +kernel) ?_)
  refine PyProof.Rows.callWith_builtin1 (PyProof.Rows.args_cons ?_ rfl) rfl rfl
  refine Call_ (ld_blt I hg2 hm2 boot_set ?_)
  refine PyProof.Rows.callWith_type1 (PyProof.Rows.args_cons (thn (ha.run pins s σ H _ I h) fun v s1 ⟨x, H1, I1, r1, q1⟩ => PyProof.Rows.args_nil ?_) na) na rfl
  obtain ⟨l, xs, rfl, hq, hle, q1⟩ := q1
  cases r1
  obtain ⟨its, r, pl, hz⟩ := I1.list hq
  refine set_of_list xs (I1.ok.hd hc) pl.isList (by simpa using r.ints) (Nat.lt_of_le_of_lt hle (by decide)) fun h' tk c R hcl kp => ?_
  refine PyProof.Rows.args_nil ?_
  have I2 : Inv X pins σ H1 { s1 with heap := h', toks := tk } := I1.kept kp
  exact srt_set hc I2 R (by omega) fun ns p hs hm hn => q1 ns p hs (fun z => by rw [hm z, decide_eq_true_iff]) hn
end
/-! a comprehension over a locked dict's keys -/
theorem lc_keys {d : Addr} {o : Obj} {kvs : List (L2.Key × V)} {g : TG} {tt : TT} {te : TE} {vs : List Nat} {σ : L2.St} {H1 : Hp} {D : Addr} {Qd : Hp → Prop} (Pv : Nat → Hp → Prop) (h0 : Pv 0 (upd H1 D (.lst []))) (hl : ∀ i H, i ≤ kvs.length → Pv i H → H d = some (.frz o (.dK kvs)))
    (hs : ∀ i k v H, kvs[i]? = some (k, v) → Pv i H → g (kV k) (wipe σ vs) H fun σ2 H2 => wipe σ2 vs = wipe σ vs ∧ tt σ2 H2 fun b H3 =>
      if b = true then te σ2 H3 fun y H4 => ∃ acc, H4 D = some (.lst acc) ∧ acc.length < sizeLine ∧ Pv (i + 1) (upd H4 D (.lst (acc ++ [y]))) else Pv (i + 1) H3) (hd : ∀ H, Pv kvs.length H → Qd H) :
    ∃ W : Nat → Nat → Hp → Prop, (∃ m, W 0 m (upd H1 D (.lst []))) ∧ ∀ i m H, W i m H →
      ((Itk d o kvs).stop i H ∧ Qd H) ∨ ((Itk d o kvs).go i H ∧ ∃ Nx : Hp → Prop, (∀ H', Nx H' → ∃ m', m' < m ∧ W (i + 1) m' H') ∧ ∀ x H', (Itk d o kvs).yld i H x H' → g x (wipe σ vs) H' fun σ2 H2 => wipe σ2 vs = wipe σ vs ∧ tt σ2 H2 fun b H3 =>
        if b = true then te σ2 H3 fun y H4 => ∃ acc, H4 D = some (.lst acc) ∧ acc.length < sizeLine ∧ Nx (upd H4 D (.lst (acc ++ [y]))) else Nx H3) := by
  refine ⟨fun i m H => m = kvs.length - i ∧ i ≤ kvs.length ∧ Pv i H, ⟨kvs.length, by simp, Nat.zero_le _, h0⟩, ?_⟩
  rintro i m H ⟨rfl, hi, p⟩
  have q := hl i H hi p
  by_cases hlt : i < kvs.length
  · refine .inr ⟨⟨q, hlt⟩, Pv (i + 1), fun H' p' => ⟨kvs.length - (i + 1), by omega, rfl, hlt, p'⟩, fun x H' y => ?_⟩
    obtain ⟨e, k, v, hk, rfl⟩ := y
    subst e
    exact hs i k v _ hk p
  · obtain rfl : i = kvs.length := by omega
    exact .inl ⟨⟨q, Nat.le_refl _⟩, hd H p⟩
end KR
/-! an own error whose __init__ says super().__init__(text), then self.f = x -/
namespace KR
open PySem PySem.Spec PyProof.Rows L2
def spIni (C : Addr) (fld : Str) : Sp := fun vs H Q _ => ∃ a v, vs = [.ref a, v] ∧ H a = some (exo a C none) ∧ ∀ dx, H dx = none → dx ≠ a → Q .non (upd (upd H dx (exd dx [(fld, v)])) a (exo a C (some dx)))
def cxI (P : Program) (w : World) (K : PySem.W.Frag) (mg : Str → Option Value) (base : Heap) (N : List Str) (qual : Str) (scope : Scope) (f cc : Addr) (cd : Value) (A : Around) (outer : List Env) (s : Shared) (H : Hp) (E' : Value → Shared → Prop) : Cx where
  prog := P
  w := w
  K := K
  mg := mg
  base := base
  A := A.deeper (PySem.W.ksEnv qual scope s.heap.objs.size f cd cc)
  N := N
  s_0 := s
  H_0 := H
  env := PySem.W.ksEnv qual scope s.heap.objs.size f cd cc
  outer := outer
  stack := PySem.W.ksEnv qual scope s.heap.objs.size f cd cc :: outer
  ex := []
  calm := true
  fn := fun _ => false
  pn := []
  xe := E'
theorem lkp {β : Type} (f g : Str) (y : β) (fs : List (Str × β)) : ((f, y) :: fs).lookup g = if g = f then some y else fs.lookup g := by
  by_cases h : g = f
  · subst h
    simp [List.lookup]
  · have e : (g == f) = false := by simpa using h
    rw [if_neg h]
    simp [List.lookup, e]
theorem lookup_cc {cc c : Addr} {y : Str} (e : ([(("__class__" : Str), cc)] : List (Str × Addr)).lookup y = some c) : y = "__class__" ∧ c = cc := by
  rw [lkp] at e
  by_cases h : y = "__class__"
  · rw [if_pos h] at e
    exact ⟨h, (Option.some.inj e).symm⟩
  · rw [if_neg h] at e
    cases e
theorem cc_lookup {cc : Addr} : ([(("__class__" : Str), cc)] : List (Str × Addr)).lookup ("__class__" : Str) = some cc := by
  rw [lkp, if_pos rfl]
section
variable {P : Program} {w : World} {K : PySem.W.Frag} {mg : Str → Option Value} {base : Heap} {CX : CXT} {f cc cda C : Addr} {name qual fld x msg : Str} {params : Arguments} {scope : Scope} {dV kV doc pm ct oc ccl cl : Value} {an od cdd cld : Option Addr} {osl ccs csl : Array (Option Value)} {vs0 : Array Value} {file : Str} {tf : Tok} {ar : Arg}
  {j : Nat} {p0 p1 p2 p3 p4 p5 q1 q2 q3 q4 : Pos}
abbrev iniBody (msg fld x : Str) (j : Nat) (p0 p1 p2 p3 p4 p5 q1 q2 q3 q4 : Pos) : List Stmt :=
  [.Expr (.Call (.Attribute (.Call (.Name "super" p0) [] [] p1) "__init__" p2) [.Constant (.str msg) j p3] [] p4) p5, .Assign [.Attribute (.Name "self" q1) fld q2] (.Name x q3) q4]
theorem fn_ini (T : OexC K C)
    (lk : K.lookup f = some ⟨oc, od, .func (PySem.W.ksFn name qual params (iniBody msg fld x j p0 p1 p2 p3 p4 p5 q1 q2 q3 q4) scope dV kV doc pm an (.ref cda) ct cc), osl⟩)
    (hcd : PySem.W.codeIn K (.ref cda) qual = true) (hcode : K.lookup cda = some ⟨ccl, cdd, .fields vs0, ccs⟩) (hvs : vs0[2]? = some (.str file tf)) (hfile : ((P.main.file : Str) == file) = true)
    (htop : (P.main.scope.names.lookup ("super" : Str)).isSome = false) (hcell : K.lookup cc = some ⟨cl, cld, .cell (some (.ref C)), csl⟩)
    (hsup : PySem.W.ks_superIn K C C "__init__" = some (some (.builtin "ValueError.__init__"))) (hV : PySem.W.subIn K (.ref C) (.type "ValueError") = some true) (hmro : PySem.W.mroIn K C (.ref C) = some true)
    (hop : PySem.W.nsIn K cStatics "thirdparty.any" = some none) (hsm : mg "super" = none) (hfa : PySem.W.findIn K (.ref C) fld = some none)
    (hp : (params.posonlyargs ++ params.args).head? = some ar) (har : ar.arg = "self") (hx : ¬ (x = "self")) (hxd : (x == ("__debug__" : Str)) = false) (hxc : (x == ("__classdict__" : Str)) = false)
    (hk : scope.kind = .function) (hco : scope.isCoroutine = false) (hgen : scope.isGenerator = false)
    (l1 : scope.names.lookup ("self" : Str) = some .local) (l2 : scope.names.lookup x = some .local) (l3 : scope.names.lookup ("__class__" : Str) = some .free) (l4 : scope.names.lookup ("super" : Str) = some .globalImplicit)
    {pl : Sem Bool} (hev : ∀ L, eval (.Call (.Attribute (.Call (.Name "super" p0) [] [] p1) "__init__" p2) [.Constant (.str msg) j p3] [] p4) (PySem.W.ksEnv qual scope L f (.ref cda) cc) = (do
      let ov ← attributeBase (.Call (.Name "super" p0) [] [] p1) "__init__" (PySem.W.ksEnv qual scope L f (.ref cda) cc) (eval (.Call (.Name "super" p0) [] [] p1) (PySem.W.ksEnv qual scope L f (.ref cda) cc))
      standAt p2.atName
      let (fn, first) ← holding [ov] (getMethod ov "__init__" pl)
      callWith p4 fn first (backTo p4 (starEach [.Constant (.str msg) j p3] (PySem.W.ksEnv qual scope L f (.ref cda) cc))) []))
    (l5 : ∀ y ∈ scope.names, y.2 ≠ .cell) (l6 : ∀ y ∈ scope.names, y.2 = .free → y.1 = "__class__") :
    FnOk P w K mg base CX 1 f (PySem.W.ksFn name qual params (iniBody msg fld x j p0 p1 p2 p3 p4 p5 q1 q2 q3 q4) scope dV kV doc pm an (.ref cda) ct cc) ["self", x] (spIni C fld) := by
  refine ⟨fun vs H Q E h => ?_, fun A outer s H args us vs Q E hr e0 hb r hsp => ?_⟩
  · obtain ⟨a, v, rfl, _⟩ := h
    rfl
  obtain ⟨a, v, rfl, ha, q⟩ := hsp
  cases r with
  | cons ra r1 =>
  rename_i u0 us1
  cases r1 with
  | cons rv r2 =>
  rename_i u1 us2
  cases r2
  obtain rfl : u0 = Value.ref a := ra
  have KX : K.In s.heap := e0.mod.kin.keeps fun b o e => (e0.bs b o e).1
  have lim : s.heap.NoLimit := e0.mod.nolimit.keeps fun b o e => (e0.bs b o e).1
  refine PySem.ks_codeAny_call_defAt (fd := PySem.W.ksFn name qual params (iniBody msg fld x j p0 p1 p2 p3 p4 p5 q1 q2 q3 q4) scope dV kV doc pm an (.ref cda) ct cc) (body := iniBody msg fld x j p0 p1 p2 p3 p4 p5 q1 q2 q3 q4)
    (binds := [("self", .ref a), (x, u1)]) hr.depth (KX _ _ lk) rfl lim (PySem.W.codeRec_of KX hcd) rfl hb l5 (fun y hy => ?_) (fun h0 hns hkp => ?_) hco hgen hk
  · simp only [List.mem_cons, List.not_mem_nil, or_false] at hy
    rcases hy with rfl | rfl
    · exact l1
    · exact l2
  show PySem.wpAt (model P w) (A.deeper (PySem.W.ksEnv qual scope s.heap.objs.size f (.ref cda) cc)) (.func (iniBody msg fld x j p0 p1 p2 p3 p4 p5 q1 q2 q3 q4) (PySem.W.ksEnv qual scope s.heap.objs.size f (.ref cda) cc)) (execs (iniBody msg fld x j p0 p1 p2 p3 p4 p5 q1 q2 q3 q4) (PySem.W.ksEnv qual scope s.heap.objs.size f (.ref cda) cc)) _ _ _
  generalize hE : (fun (e : Value) (s' : Shared) => wpAny (model P w) (A.deeper (callEnv (PySem.W.ksFn name qual params (iniBody msg fld x j p0 p1 p2 p3 p4 p5 q1 q2 q3 q4) scope dV kV doc pm an (.ref cda) ct cc) s.heap.objs.size f)) (leaving (callEnv (PySem.W.ksFn name qual params (iniBody msg fld x j p0 p1 p2 p3 p4 p5 q1 q2 q3 q4) scope dV kV doc pm an (.ref cda) ct cc) s.heap.objs.size f) e)
    (fun _ s'' => CR CX outer P w H s Q E (.error e) s'') (fun e' s'' => CR CX outer P w H s Q E (.error e') s'') s') = E'
  have I0 : Inv (cxI P w K mg base ["self", x] qual scope f cc (.ref cda) A outer s H E') [] [some (.ref a), some v] H { s with heap := h0, toks := s.toks + 2 } := by
    have hcc : base.get? cc = some ⟨cl, cld, .cell (some (.ref C)), csl⟩ := e0.mod.kin _ _ hcell
    have hccs := e0.bs _ _ hcc
    have noA : ∀ b : Addr, b ∉ (cxI P w K mg base ["self", x] qual scope f cc (.ref cda) A outer s H E').ex := fun b z => absurd (show b ∈ ([] : List Addr) from z) (by simp)
    refine ⟨⟨e0.mod, hk, rfl, rfl, Nat.le_refl _, fun y z c h1 h2 => ?_, fun y hy => ?_, fun y c h => ?_, fun _ => hr.hd, Around.frames_deeper e0.frames, .inr ⟨rfl, rfl⟩, fun b z => absurd z (noA b), e0.bs, e0.bsz, fun b _ _ => noA b, fun b z => absurd z (noA b), e0.funs, e0.frf⟩,
      rfl, e0.bare, Un.kept hkp, ⟨_, hns, fun i y v' h1 h2 h3 => ?_⟩, fun y c h => ?_, e0.hok.fresh (Nat.le_refl _), fun y c h => ?_, fun p hp => absurd (show p ∈ ([] : List (Addr × Obj)) from hp) (by simp), e0.hok.kept hkp, rfl⟩
    · exact (lookup_cc h1).1.trans (lookup_cc h2).1.symm
    · have hy : scope.names.lookup y = some .cell ∨ scope.names.lookup y = some .free := hy
      rcases hy with hy | hy
      · exact absurd rfl (l5 _ (PySem.mem_of_lookup hy))
      · rw [show y = ("__class__" : Str) from l6 _ (PySem.mem_of_lookup hy) rfl]
        exact ⟨cc, cc_lookup⟩
    · cases h
    · match i, h1, h2 with
      | 0, h1, h2 =>
        cases h1
        cases h2
        refine ⟨.ref a, rfl, .inl ⟨l1, ?_⟩⟩
        show ([(x, u1), ("self", Value.ref a)] : List (Str × Value)).lookup ("self" : Str) = _
        rw [lkp, if_neg (fun z => hx z.symm), lkp, if_pos rfl]
      | 1, h1, h2 =>
        cases h1
        cases h2
        refine ⟨u1, rv, .inl ⟨l2, ?_⟩⟩
        show ([(x, u1), ("self", Value.ref a)] : List (Str × Value)).lookup x = _
        rw [lkp, if_pos rfl]
      | n + 2, h1, h2 => exact absurd h1 (by simp [cxI])
    · rw [(lookup_cc h).2]
      exact ⟨_, _, hkp _ _ hccs.1, rfl⟩
    · rw [(lookup_cc h).2]
      exact hccs.2
  have KX0 := I0.kIn
  have heg : H a = some (exo a C none) := ha
  obtain ⟨t1, hoe⟩ := exo_at I0.hok heg
  obtain ⟨nm, qn, N, bs, bm, sn, sub, ab, col, dd, k0, k1, k2, k3, k5, hC, hbm⟩ := T.cls
  have hcl : PySem.W.clsIn K C = some { name := nm, bases := bs, mro := .ref C :: bm, ns := N, qualname := qn, hasDict := true, slotNames := sn, subclasses := sub, abstract := ab, collection := col, hasDel := false } := by unfold PySem.W.clsIn; rw [hC] <;> rfl
  have inst : PySem.W.InstAt h0 a { cls := .ref C, dict := none, data := .fields #[.ref t1, .none, .none, .none, .bool false, .none] } C none := ⟨hoe, rfl, rfl, trivial⟩
  have hac : a ≠ C := PySem.W.ks_ne KX0 inst hcl
  refine PySem.ks_wpAt_execs_cons (PySem.ks_wpAt_Expr_any (hi := I0.quiet) (PySem.ks_wpAt_MethodCall (he := hev _) ?_))
  obtain ⟨mb, hmb1, hmb2⟩ := I0.mod.blt
  have hCo := KX0 _ _ hC
  refine PySem.ks_wpAt_super_base (env := PySem.W.ksEnv qual scope s.heap.objs.size f (.ref cda) cc) l4 l3 (by decide +kernel) rfl (KX0 _ _ lk) rfl hp rfl (KX0 _ _ hcode) rfl hvs hfile htop ?_
  refine PySem.W.ks_loadName_global hk l4 (PySem.Calls.loadGlobal_builtin (env := PySem.W.ksEnv qual scope s.heap.objs.size f (.ref cda) cc) (I0.mod.glob.keeps I0.bk) hsm (hmb1.keeps I0.bk) ((hmb2 "super" (by decide)).trans PyProof.Rows.Boot.«super») ⟨rfl, ?_⟩)
  refine wpAny_loadName_free hk l3 cc_lookup ⟨_, KX0 _ _ hcell, rfl⟩ ?_
  refine wpAny_loadName_local hk (by rw [har]; exact l1) hns (v := .ref a) (by rw [har]; show ([(x, u1), ("self", Value.ref a)] : List (Str × Value)).lookup ("self" : Str) = _; rw [lkp, if_neg (fun z => hx z.symm), lkp, if_pos rfl]) ?_
  refine PySem.ks_wpAny_isType_cls hCo rfl ⟨rfl, ?_⟩
  refine PySem.ks_wpAny_call_super hCo rfl inst.at_ inst.cls (fun c e => by cases e) (PySem.W.looks_mroIn KX0 hmro) (fun h1 e1 kk1 => ?_)
  have KX1 := KX0.keeps kk1
  have hI : PySem.W.Looks (model P w) h1 (isInstance (.ref a) (.type "ValueError")) true := (show PySem.W.InstAt h1 a { cls := .ref C, dict := none, data := .fields #[.ref t1, .none, .none, .none, .bool false, .none] } C none from ⟨kk1 _ _ hoe, rfl, rfl, trivial⟩).type.andThen (PySem.W.looks_subIn KX1 hV)
  have hsup2 : PySem.W.alongIn K "__init__" bm = some (some (.builtin "ValueError.__init__")) := by
    unfold PySem.W.ks_superIn at hsup
    rw [hcl] at hsup
    have e2 : ((Value.ref C :: bm).dropWhile (· != Value.ref C)).drop 1 = bm := by simp [List.dropWhile_cons]
    rw [← e2]
    exact hsup
  refine PySem.W.kxs_getMethod PySem.W.kxs_ValueError e1 (PySem.W.looks_opaque KX1 hop) (l₀ := .ref C :: bm) (fun A Q E s k q => wpAny_bind ((PySem.W.looks_clsIn KX1 hcl) A _ E s k (wpAny_pure q))) (l := bm) (by simp [List.dropWhile_cons]) KX1 hsup2 hI hac (by decide +kernel) ?_
  have I1 := I0.kept (t' := s.toks + 2) kk1
  have kk2 : ∀ b o, h0.get? b = some o → (h1.push (PySem.W.kxs_mw "ValueError.__init__" a)).get? b = some o := fun b o e => Heap.get?_push_of_some _ (kk1 _ _ e)
  have hmw : (h1.push (PySem.W.kxs_mw "ValueError.__init__" a)).get? h1.objs.size = some (PySem.W.kxs_mw "ValueError.__init__" a) := Heap.get?_push_at rfl rfl
  have I2 : Inv (cxI P w K mg base ["self", x] qual scope f cc (.ref cda) A outer s H E') [(h1.objs.size, PySem.W.kxs_mw "ValueError.__init__" a)] [some (.ref a), some v] H
      { s with heap := h1.push (PySem.W.kxs_mw "ValueError.__init__" a), toks := s.toks + 2 + 1 } := (I0.kept (t' := s.toks + 2 + 1) kk2).pins_of fun p hp => by
    rcases List.mem_append.mp (show p ∈ [] ++ [(h1.objs.size, PySem.W.kxs_mw "ValueError.__init__" a)] from hp) with hp | hp
    · cases hp
    · rw [List.mem_singleton] at hp
      subst hp
      exact ⟨hmw, I1.hok.fresh (Nat.le_refl _), Nat.ne_of_gt I1.lt, I1.nofs (Nat.le_refl _), fun v z => by cases z⟩
  have hargs : PA (cxI P w K mg base ["self", x] qual scope f cc (.ref cda) A outer s H E') [.Constant (.str msg) j p3] (tCons (tC (.str msg)) tNil) := pa_cons pe_str pa_nil
  have hspl := hargs.run p4 _ _ _ H (fun vs H1 => vs = [V.str msg] ∧ H1 = H) I2 ⟨rfl, rfl⟩
  refine PySem.W.kxs_callWith (i := "ValueError.__init__") (x := a) rfl (PySem.Calls.evalArgs_plain (wpAny_mono hspl (fun us s3 h3 => ?_) (fun _ _ z => z)))
  obtain ⟨vs, H1, I3, r3, rfl, rfl⟩ := h3
  cases r3 with
  | cons ru rn =>
  rename_i uz usz
  cases rn
  have hmw3 := (I3.pin (h1.objs.size, PySem.W.kxs_mw "ValueError.__init__" a) (by simp [cxI])).1
  refine ⟨hmw3, ?_⟩
  obtain ⟨t3, ho3⟩ := exo_at I3.hok heg
  have hC3 := I3.kIn _ _ hC
  obtain ⟨h3, g3, d3, tk3, os3⟩ := s3
  refine wpAny_call (codeAny_of_tree ?_)
  show wpAny _ _ (callAny (.ref h1.objs.size) ⟨[uz], []⟩) _ _ _
  simp only [callAny]
  refine wpAny_bind (wpAny_load hmw3 ?_)
  simp only [PySem.W.kxs_mw, show (Value.type "method-wrapper" == Value.type "method" || Value.type "method-wrapper" == Value.type "builtin_function_or_method" || Value.type "method-wrapper" == Value.type "method-wrapper") = true by decide, if_true]
  refine PySem.W.KFB.if_so (by decide) ?_
  refine wpAny_bind (PySem.W.check_bound_init PySem.F.excBase_ValueError.toExcCallFacts hC3 ho3 rfl ?_)
  refine wpAny_bind (wpAny_pure (wpAny_pure ?_))
  refine ⟨PySem.plainId_quiet PySem.F.excBase_ValueError.init.plain _, codeAny_builtin PySem.F.excBase_ValueError.initEntry ?_⟩
  refine PySem.W.exc_init_tree (cls := .ref C) (t0 := t3) (dv := none) (c2 := .none) (c3 := .none) (b4 := .bool false) ho3 (by show 1 ≤ sizeLine; rw [sizeLine_eq]; omega) (fun h4 k4 hx4 _ => ?_)
  have J := I3.write (t' := tk3) (x := a) (e := a) (o := exo a C none) (by rw [heg]; exact True.intro) (.inl rfl) k4 ⟨_, hx4⟩ (exo_ok hx4)
  have eu : upd H1 a (exo a C none) = H1 := by
    funext b
    by_cases hb : b = a
    · rw [hb, upd_same, heg]
    · rw [upd_ne hb]
  rw [eu] at J
  refine wpAt_of_wpAny ?_
  have hps : PSs (cxI P w K mg base ["self", x] qual scope f cc (.ref cda) A outer s H1 E') [.Assign [.Attribute (.Name "self" q1) fld q2] (.Name x q3) q4] _ :=
    pss_one (ps_ost (pe_var (i := 0) rfl (.inl l1)) (pe_var (i := 1) rfl (.inl l2) hxd hxc))
  refine wpAny_mono (hps.run _ _ _ H1 { nx := fun _ H' => Q .non H', rt := Q } J ⟨v, rfl, .ref a, rfl, a, C, rfl, T, hfa, .inl ⟨heg, fun dx n ne => q dx n ne⟩⟩) (fun fl s' hs => ?_) (fun _ _ z => z)
  cases fl with
  | ret u =>
    obtain ⟨v', σ', H', J', rv', q'⟩ := hs
    exact ⟨v', H', J'.os, J'.bare, J'.base, J'.hok, rv', q'⟩
  | next =>
    obtain ⟨σ', H', J', q'⟩ := hs
    exact ⟨V.non, H', J'.os, J'.bare, J'.base, J'.hok, rfl, q'⟩
  | brk =>
    obtain ⟨_, _, _, q'⟩ := hs
    exact False.elim q'
  | cont =>
    obtain ⟨_, _, _, q'⟩ := hs
    exact False.elim q'
end
end KR
/-! defs that raise; several clauses `except C as e` -/
namespace KR
open PySem PySem.Spec PyProof.Rows L2
def UseX (P : Program) (w : World) (K : PySem.W.Frag) (mg : Str → Option Value) (base : Heap) (x : Str) (k : Nat) (ps : List Str) (sp : Sp) : Prop :=
  ∃ f fd, FnOk P w K mg base (L2.CX P w) k f fd ps sp ∧ mg x = some (.ref f) ∧ PySem.W.keepIn K (.ref f) = true ∧ Binds K fd ps []
section
variable {P : Program} {w : World} {K : PySem.W.Frag} {mg : Str → Option Value} {base : Heap} {x qual : Str} {st : Stmt} {k : Nat} {N ps : List Str} {sp : Sp} {f : Addr} {fd : FuncData}
theorem lift0 {CX : CXT} (F : FnOk P w K mg base CX0 k f fd ps sp) : FnOk P w K mg base CX k f fd ps sp :=
  ⟨F.len, fun A outer s H args us vs Q E hr he hb hv hs => codeAny_mono (F.run A outer s H args us vs Q E hr he hb hv hs) fun r s' hq => by
    cases r with
    | error e => exact (show False from hq).elim
    | ok fl => cases fl <;> exact hq⟩
theorem Use.up (u : Use P w K mg base x k ps sp) : UseX P w K mg base x k ps sp := by
  obtain ⟨f, fd, F, a, b, c⟩ := u
  exact ⟨f, fd, lift0 F, a, b, c⟩
theorem usex_of (D : DefAt K mg x st) (ok : ∀ f fd, Fun K x x st f fd → FnOk P w K mg base (L2.CX P w) k f fd ps sp)
    (h : ∀ (kV doc pm : Value) (an : Option Addr) (cdv ct : Value) (us : List Value), us.length = ps.length → bindArgs (PySem.W.fnOf x x (defArgs st) (defBody st) (defScope st) .none kV doc pm an cdv ct) ⟨us, []⟩ = pure (ps.zip us)) :
    UseX P w K mg base x k ps sp := by
  obtain ⟨f, fd, F, hm⟩ := D
  exact ⟨f, fd, ok f fd F, hm, F.kp, F.binds h⟩
/-- a def of the text that may raise, by its body -/
theorem okX (F : Fun K x qual st f fd) (S : FnScope N ps (defScope st)) (len : ∀ vs H Q E, sp vs H Q E → vs.length = ps.length)
    (body : ∀ (cdv : Value) (A : Around) (outer : List Env) (s : Shared) (H : Hp) (vs : List V) (Q : VK) (E : XK), Takes (cxOf (L2.CX P w) P w K mg base N qual (defScope st) f cdv A outer s H E) (fun cls d _ H' => E cls d H') →
      PassesOwn (model P w) (A.deeper (envOfC qual (defScope st) s.heap.objs.size f cdv)) (envOfC qual (defScope st) s.heap.objs.size f cdv) (cxOf (L2.CX P w) P w K mg base N qual (defScope st) f cdv A outer s H E).xe →
      Room k (A.deeper (envOfC qual (defScope st) s.heap.objs.size f cdv)) → sp vs H Q E →
      ∃ t, PSs (cxOf (L2.CX P w) P w K mg base N qual (defScope st) f cdv A outer s H E) (defBody st) t ∧ t { nx := fun _ H' => Q .non H', rt := Q } (start N vs) H) : FnOk P w K mg base (L2.CX P w) (k + 1) f fd ps sp := by
  obtain ⟨oc, od, kV, doc, pm, an, cdv, ct, osl, rfl, lk, hcd⟩ := F.ex
  exact fn_of lk hcd S len fun A outer s H vs Q E hr hsp => body cdv A outer s H vs Q E (takes_of rfl rfl rfl rfl) (passes_of rfl) hr hsp
end
section
variable {X : Cx} {x : Str} {j k : Nat} {ps : List Str} {sp : Sp} {e : Expr} {es : List Expr} {t : TA} {p pos : Pos} {E : XK}
/-- a call that may raise what is wished -/
theorem pe_usex (u : UseX X.prog X.w X.K X.mg X.base x j ps sp) (tk : Takes X (fun cls d _ H => E cls d H)) (le : j ≤ k) (hr : Room k X.A) (hg : Gl X x) (ha : PA X (e :: es) t)
    (hdb : (x == ("__debug__" : Str)) = false := by decide) (he : starEach (e :: es) X.env = (false, eval e X.env) :: starEach es X.env := by rfl)
    (hpl : (backTo pos (starEach es X.env)).any (·.1) = false := by rfl) : PE X (.Call (.Name x p) (e :: es) [] pos) (tCall sp [] E t) := by
  obtain ⟨f, fd, F, hm, kp, b⟩ := u
  exact pe_call F (hr.mono le) hg hm kp b .nil (passes_call tk fun _ _ _ _ h => h) ha hdb he hpl
end
/-! ### own errors made -/
structure ErrC (P : Program) (w : World) (K : PySem.W.Frag) (mg : Str → Option Value) (base : Heap) (x : Str) (C : Addr) (fld : Str) : Prop where
  T : OexC K C
  ini : ∃ fI fd p, FnOk P w K mg base CX0 1 fI fd ["self", p] (spIni C fld) ∧ PySem.W.findIn K (.ref C) "__init__" = some (some (.ref fI)) ∧ PySem.W.typeIn K (.ref fI) = some (.type "function") ∧ Binds K fd ["self", p] []
  hm : mg x = some (.ref C)
  xf : XfC K C
  nf : PySem.W.findIn K (.ref C) fld = some none
def tUp (ta : TA) : TA := fun σ H Q => ∃ Q' : List V → Hp → Prop, ta σ H Q' ∧ ∀ vs H1, Q' vs H1 → Q vs H1
def tErr (C : Addr) (fld : Str) (ta : TA) : L2.St → Hp → XK → Prop := fun σ H Q => ta σ H fun vs H1 => ∃ v, vs = [v] ∧ ∀ H' d, Same H1 H' → H' d = some (.xd [(fld, v)]) → Q (.ref C) (some d) H'
section
variable {X : Cx} {x fld : Str} {C : Addr} {e : Expr} {es : List Expr} {ta : TA} {p pos : Pos}
theorem pa_up (ha : PA X es ta) : PA X es (tUp ta) := ⟨fun pos pins s σ H Q I h => by
  obtain ⟨Q', h1, h2⟩ := h
  exact wpAny_mono (ha.run pos pins s σ H Q' I h1) (fun us s1 ⟨vs, H1, I1, r1, q1⟩ => ⟨vs, H1, I1, r1, h2 _ _ q1⟩) fun _ _ z => z⟩
theorem pmk_err (er : ErrC X.prog X.w X.K X.mg X.base x C fld) (hr : Room 2 X.A) (hg : Gl X x) (ha : PA X (e :: es) ta)
    (hdb : (x == ("__debug__" : Str)) = false := by decide) (he : starEach (e :: es) X.env = (false, eval e X.env) :: starEach es X.env := by rfl) (hpl : (backTo pos (starEach es X.env)).any (·.1) = false := by rfl) :
    PMk X (.Call (.Name x p) (e :: es) [] pos) (tErr C fld ta) := fun pins s σ H Q I h => by
  obtain ⟨fI, fd, pn, F, iC, tI, hb⟩ := er.ini
  refine pmk_oex (CX := CX0) er.T iC tI F hr hb .nil (fun _ _ _ _ _ _ _ z => z.elim) hg er.hm (pa_up ha) hdb he hpl pins s σ H Q I ⟨_, h, fun vs H1 hv => ?_⟩
  obtain ⟨v, rfl, q⟩ := hv
  refine ⟨by show 1 ≤ 1000; decide, fun a na => ⟨a, v, rfl, upd_same, fun dx ndx nea => ?_⟩⟩
  have n1 : H1 dx = none := by rw [upd_ne nea] at ndx; exact ndx
  refine ⟨rfl, dx, [(fld, v)], upd_same, ?_, n1, q _ dx (fun b o hb => ?_) upd_same⟩
  · rw [upd_ne nea, upd_same]
  · have ba : b ≠ a := ne_of_none hb na
    rw [upd_ne (ne_of_none hb n1), del_ne ba, upd_ne ba, upd_ne (ne_of_none hb n1), upd_ne ba]
    exact hb
end
/-! ### several clauses with names -/
def wManyA (K : PySem.W.Frag) (Wout : WX) (D : Ends) : List (Value × Nat × (Addr → Value → Option Addr → TS)) → WX
  | [] => Wout
  | (c, i, ts) :: r => fun cls d σ H => ∃ b, PySem.W.exmOne K cls c = some b ∧
    (b = true → ∀ a, H a = none → ts a cls d { nx := fun σ' H' => D.nx (σ'.set i none) H', rt := D.rt, bk := fun σ' H' => D.bk (σ'.set i none) H', ct := fun σ' H' => D.ct (σ'.set i none) H' } (σ.set i (some (.ref a))) H) ∧
    (b = false → wManyA K Wout D r cls d σ H)
inductive HdsA (X : Cx) : List ExceptHandler → List (Value × Nat × (Addr → Value → Option Addr → TS)) → Prop
  | nil : HdsA X [] []
  | cons {x n : Str} {c : Value} {i : Nat} {ts : Addr → Value → Option Addr → TS} {b₀ : Stmt} {suite : List Stmt} {np pos' : Pos} {hds : List ExceptHandler} {l : List (Value × Nat × (Addr → Value → Option Addr → TS))} (hc : Names X x c)
      (hi : X.N[i]? = some n) (hln : X.env.kindOf n = some .local)
      (hsu : ∀ (a : Addr) (oe : Obj) (cls : Value) (d : Option Addr) (pn : List (Addr × Obj)), Zc cls d oe → (∃ vs, oe.data = .fields vs) → PSs (X.suite a ((a, oe) :: pn)) (b₀ :: suite) (ts a cls d)) (r : HdsA X hds l) :
      HdsA X (.ExceptHandler (some (.Name x np)) (some n) (b₀ :: suite) pos' :: hds) ((c, i, ts) :: l)
section
variable {X : Cx} {body : List Stmt} {h₀ : ExceptHandler} {hds : List ExceptHandler} {l : List (Value × Nat × (Addr → Value → Option Addr → TS))} {pos : Pos} {tb : WX → TS} {Wout : WX}
theorem ps_try_manyA (hs : X.stack = X.env :: X.outer) (hf : X.env.frame = some X.env.locals) (hN : X.N.Nodup) (tk : Takes X Wout)
    (hb : ∀ (W : WX) (pn : List (Addr × Obj)) (xe : Value → Shared → Prop), Takes (X.tr pn xe) W → PassesOwn (model X.prog X.w) X.A X.env xe → PSs (X.tr pn xe) body (tb W))
    (hh : HdsA X (h₀ :: hds) l) : PS X (.Try body (h₀ :: hds) [] [] pos) (fun D σ H => tb (wManyA X.K Wout D l) D σ H) := by
  refine ⟨fun pins s σ H D I h => ?_⟩
  have ok := I.ok
  have hfr : X.A.frames = some (X.env :: X.outer) := by rw [ok.frames, hs]
  refine wpAny_Try_except ?_
  refine wpAny_mono ((hb (wManyA X.K Wout D l) (X.pn ++ pins) (fun e s₁ => wpAny (model X.prog X.w) X.A (noteFrame e X.env) (fun _ s₂ => wpAny (model X.prog X.w) X.A (setFlight e none) (fun _ s₃ =>
    wpAny (model X.prog X.w) X.A (handleBy e X.env (h₀ :: hds)) (SP X pins D) X.xe s₃) X.xe s₂) X.xe s₁) (fun u s' xx => ?_) PassesOwn.looking).run [] s σ H D (I.toTry _) h) (fun f s1 hsp => ?_) (fun e s1 he => he)
  · obtain ⟨a, B, sI, pins', σ', H', cls, d, rfl, J', nb, up, sky, na, os, ag, w⟩ := xx
    have J : Inv X pins σ' H' sI := J'.ofTry ok
    have sky' : Sky B (X.env :: X.outer) a (Zc cls d) X.env.locals s'.heap := by rw [← hs]; exact sky
    show wpAny (model X.prog X.w) X.A (noteFrame (.ref a) X.env) _ _ _
    refine Sky.land Zc.steady hfr hf sky' fun h3 fl3 up3 => ?_
    have J3 : Inv X pins σ' H' { s' with heap := h3 } := J.landed nb fl3.1 (up.trans up3) os ag
    obtain ⟨oe3, vs3, he3, hz3, hd3⟩ := fl3.there
    have notFr : ∀ {h : Heap} {o : Obj} {vs : Array Value}, h.FunFrames B (X.env :: X.outer) → h.get? a = some o → o.data = .fields vs → a ∉ frs (X.env :: X.outer) := fun {h o vs} ff e dd hm => by
      obtain ⟨_, o', e', hnf⟩ := ff.mem hm
      rw [e] at e'; cases e'
      exact hnf _ dd
    have nfr := notFr fl3.2.2.1 he3 hd3
    have nL : a ≠ X.env.locals := fun z => nfr (List.mem_filterMap.mpr ⟨X.env, List.mem_cons_self, by rw [hf, z]⟩)
    have nF : a ∉ X.fs := fun hm => by
      obtain ⟨e, he, q⟩ := List.mem_filterMap.mp hm
      exact nfr (List.mem_filterMap.mpr ⟨e, List.mem_cons_of_mem _ he, q⟩)
    have S3 := J3.suite he3 hd3 na nL nF
    have go : ∀ {hds' : List ExceptHandler} {l' : List (Value × Nat × (Addr → Value → Option Addr → TS))}, HdsA X hds' l' → wManyA X.K Wout D l' cls d σ' H' →
        wpAny (model X.prog X.w) X.A (handleBy (.ref a) X.env hds') (SP X pins D) X.xe { s' with heap := h3 } := by
      intro hds' l' hk
      induction hk with
      | nil =>
        intro w
        refine wpAny_handleBy_nil ?_
        obtain ⟨k1, k2, k3, oe, vs, T, oT, ts', he, hz, hd, h1, hr⟩ := id fl3
        unfold PySem.passOn
        refine wpAny_bind (wpAny_field he hd h1 ?_)
        rw [if_neg (show ¬ ((Value.ref T == Value.none) = true) from by simp)]
        have fin : wpAny (model X.prog X.w) X.A (setFlight (.ref a) X.env.frame) (fun _ s4 => wpAny (model X.prog X.w) X.A (throw (.ref a) : Sem Flow) (SP X pins D) X.xe s4) X.xe { s' with heap := h3 } := by
          rw [hf]
          refine HandSPX.setFlight_upZ fl3 fun h4 hh4 up4 => wpAny_throw (tk _ _ ?_)
          exact ⟨a, B, sI, pins, σ', H', cls, d, rfl, J, nb, (up.trans up3).trans up4, .inr (.inr (by rw [hs]; exact hh4)), na, os, ag, w⟩
        first
          | exact wpAny_bind (wpAny_pure (wpAny_bind fin))
          | exact wpAny_bind fin
      | @cons x n c i ts b₀ suite np pos' hds2 l2 hc hi hln hsu r ih =>
        intro w
        have hloc : Loc X.env.scope n := .inl hln
        obtain ⟨b, hb1, hyes, hno⟩ := w
        refine wpAny_handleBy_cons (codeAny_handlers_test ?_) (by intro q; cases q)
        have LT : PySem.W.Looks (model X.prog X.w) h3 (typeOf (.ref a)) cls := fun A Q E s k q => wpAny_typeOf_ref (k _ _ he3) (by rw [hz3.1]; exact q)
        have LM := PySem.W.exm_one (M := model X.prog X.w) (J3.kIn) LT hb1
        have test : ∀ {Q : Value → Shared → Prop} {E : Value → Shared → Prop}, Q c { s' with heap := h3 } → wpAny (model X.prog X.w) (X.A.mark (some (.ref a))) (eval (.Name x np) X.env) Q E { s' with heap := h3 } := fun {Q E} q => by
          obtain ⟨hg, hdbg, hm | ⟨hm, hv, hnn⟩⟩ := hc
          · exact ld_glob (X := X.suite a ((a, oe3) :: (X.pn ++ pins))) S3 hg hm q hdbg
          · exact ld_blt (X := X.suite a ((a, oe3) :: (X.pn ++ pins))) S3 hg hm hv q hnn hdbg
        refine test (LM.here ?_)
        cases b with
        | true =>
          refine codeAny_handlers_suite_as ?_
          refine HandSPX.lands_againZ fl3 fun h4 fl4 up4 => ?_
          have J4 : Inv X pins σ' H' { s' with heap := h4 } := J.landed nb fl4.1 ((up.trans up3).trans up4) os ag
          obtain ⟨oe4, vs4, he4, hz4, hd4⟩ := fl4.there
          have S4 := J4.suite he4 hd4 na nL nF
          refine store_ok (X := X.suite a ((a, oe4) :: (X.pn ++ pins))) (v := .ref a) S4 hN hi hloc rfl (fun s5 S5 => ?_) (.inr hln)
          refine wpAny_mono ((hsu a oe4 cls d (X.pn ++ pins) hz4 ⟨_, hd4⟩).run [] s5 _ H' _ S5 (hyes rfl a na)) (fun f s6 hsp => ?_) (fun _ _ z => False.elim z)
          have end_ : ∀ {σ6 : L2.St} {H6 : Hp} {Q : Shared → Prop}, Inv (X.suite a ((a, oe4) :: (X.pn ++ pins))) [] σ6 H6 s6 → (∀ s7, Inv X pins (σ6.set i none) H6 s7 → Q s7) →
              wpAny (model X.prog X.w) X.A (do bindName X.env n .none; unbindBehindTheSuite X.env n pos') (fun _ s7 => Q s7) X.xe s6 := fun {σ6 H6 Q} S6 hq => gone_ok (S6.unsuite ok) hN hi hln hq
          cases f with
          | next =>
            obtain ⟨σ6, H6, S6, q6⟩ := hsp
            exact end_ S6 fun s7 J7 => ⟨_, _, J7, q6⟩
          | brk =>
            obtain ⟨σ6, H6, S6, q6⟩ := hsp
            exact end_ S6 fun s7 J7 => ⟨_, _, J7, q6⟩
          | cont =>
            obtain ⟨σ6, H6, S6, q6⟩ := hsp
            exact end_ S6 fun s7 J7 => ⟨_, _, J7, q6⟩
          | ret u =>
            obtain ⟨v6, σ6, H6, S6, r6, q6⟩ := hsp
            exact end_ S6 fun s7 J7 => ⟨_, _, _, J7, r6, q6⟩
        | false =>
          show wpAny _ X.A (handleBy (.ref a) X.env hds2) _ _ _
          exact ih (hno rfl)
    exact go hh w
  · cases f with
    | next =>
      obtain ⟨σ', H', J', q⟩ := hsp
      exact wpAny_execs_nil ⟨σ', H', J'.ofTry ok, q⟩
    | brk =>
      obtain ⟨σ', H', J', q⟩ := hsp
      exact ⟨σ', H', J'.ofTry ok, q⟩
    | cont =>
      obtain ⟨σ', H', J', q⟩ := hsp
      exact ⟨σ', H', J'.ofTry ok, q⟩
    | ret u =>
      obtain ⟨v, σ', H', J', r, q⟩ := hsp
      exact ⟨v, σ', H', J'.ofTry ok, r, q⟩
end
end KR
/-! a local name's def called in a try's body -/
namespace KR
open PySem PySem.Spec PyProof.Rows L2
def tCallLS (i : Nat) (f : Addr) (sp : Sp) (W : WX) (t : TA) : TE := fun σ H Q => σ[i]? = some (some (.ref f)) ∧ t σ H fun vs H1 => sp vs H1 Q (fun cls d H' => W cls d σ H')
section
variable {X : Cx} {k j i : Nat} {f : Addr} {fd : FuncData} {ps : List Str} {sp : Sp} {W : WX} {x : Str} {p pos : Pos} {e : Expr} {es : List Expr} {t : TA}
theorem pe_callLS (F : FnOk X.prog X.w X.K X.mg X.base (L2.CX X.prog X.w) j f fd ps sp) (le : j ≤ k) (hr : Room k X.A) (hN : X.N[i]? = some x) (hv : Vis X.env.scope x) (hk : PySem.W.keepIn X.K (.ref f) = true) (hb : Binds X.K fd ps []) (tk : Takes X W) (ha : PA X (e :: es) t)
    (hdb : (x == ("__debug__" : Str)) = false := by decide) (hcd : (x == ("__classdict__" : Str)) = false := by decide)
    (he : starEach (e :: es) X.env = (false, eval e X.env) :: starEach es X.env := by rfl) (hpl : (backTo pos (starEach es X.env)).any (·.1) = false := by rfl) : PE X (.Call (.Name x p) (e :: es) [] pos) (tCallLS i f sp W t) := by
  refine ⟨fun pins s σ H Q I h => ?_⟩
  obtain ⟨hs, ht⟩ := h
  refine wpAny_Call_Name_kw (thn ((pe_var (pos := p) hN hv hdb hcd).run pins s σ H (fun v H1 => v = .ref f ∧ H1 = H) I ⟨.ref f, hs, rfl, rfl⟩) fun u s1 ⟨v, H1, I1, r1, q1⟩ => ?_)
  obtain ⟨rfl, rfl⟩ := q1
  cases r1
  refine PySem.W.callWith_K (h₀ := X.base) I.ok.mod.kin hk (thn (ha.run pos pins s1 σ _ _ I1 ht) fun us s2 ⟨vs, H2, I2, r, q⟩ => ⟨I2.kIn, ?_⟩) he hpl
  have q' : sp (vs ++ []) H2 Q (fun cls d H' => W cls d σ H') := by rw [List.append_nil]; exact q
  refine run_fnSD (E := fun σ cls d H' => W cls d σ H') (dvs := []) (ds := []) F (hr.mono le) hb .nil (fun pins H s e s' I c => ?_) I2 r q'
  exact tk e s' (XE.of_call I (fun _ _ _ h => h) c)
end
/-- which clause takes which error -/
structure ExM (K : PySem.W.Frag) (A B : Addr) : Prop where
  aa : PySem.W.exmOne K (.ref A) (.ref A) = some true
  ba : PySem.W.exmOne K (.ref B) (.ref A) = some false
  bb : PySem.W.exmOne K (.ref B) (.ref B) = some true
end KR
namespace KQ
open PySem PySem.Spec PyProof.Rows L2 KR KM StX
section
variable {P : Program} {w : World} {K : PySem.W.Frag} {mg : Str → Option Value} {base : Heap}
def spDoor : Sp := fun vs H Q _ => ∃ d n : Int, vs = [.int d, .int n] ∧ 0 ≤ d ∧ d < n ∧ ∀ H', Same H H' → Q .non H'
def spWay : Sp := fun vs H Q _ => ∃ (a b : Addr) (p r : List Int) (d e : Int), vs = [.ref a, .ref b, .int d, .int e] ∧ TI H a p ∧ TI H b r ∧ Par p ∧ Par r ∧ p.length = r.length ∧ 0 ≤ d ∧ d < p.length ∧ 0 ≤ e ∧ e < p.length ∧
  ∀ H' v, Same H H' → ((v = .non ∧ ¬ Tree p r) ∨ ∃ (t : Addr) (row : List Int), v = .ref t ∧ TI H' t row ∧ Tree p r ∧ IsWay p r row d e) → Q v H'
/-- the doors beside a door, on the side of one of its two blocks -/
def Beside (p r : List Int) (d w : Int) (ds : List Int) : Prop := ds.Pairwise (· < ·) ∧ ∀ x : Int, x ∈ ds ↔ 0 ≤ x ∧ x < p.length ∧ x ≠ d ∧ glue (wo p r d.toNat) (nd p r w d) (nA p x)
def spSide : Sp := fun vs H Q _ => ∃ (pa a b : Addr) (p r : List Int) (d w : Int), vs = [.ref pa, .int d, .int w] ∧ H pa = some (.tup [.ref a, .ref b]) ∧ TI H a p ∧ TI H b r ∧ Par p ∧ Par r ∧ p.length = r.length ∧ 0 ≤ d ∧ d < p.length ∧ (w = 0 ∨ w = 1) ∧
  ∀ H' t ds, Same H H' → TI H' t ds → Beside p r d w ds → Q (.ref t) H'
end
end KQ
namespace KQ
open PySem PySem.Spec PyProof.Rows L2 KR KM StX
section
variable {P : Program} {w : World} {K : PySem.W.Frag} {mg : Str → Option Value} {base : Heap}
def spSides : Sp := fun vs H Q _ => ∃ (a b : Addr) (p r : List Int) (d : Int), vs = [.ref a, .ref b, .int d] ∧ TI H a p ∧ TI H b r ∧ Par p ∧ Par r ∧ p.length = r.length ∧ 0 ≤ d ∧ d < p.length ∧
  ∀ H' v, Same H H' → ((v = .non ∧ ¬ Tree p r) ∨ ∃ (t t0 t1 : Addr) (xs ys : List Int), v = .ref t ∧ H' t = some (.tup [.ref t0, .ref t1]) ∧ TI H' t0 xs ∧ TI H' t1 ys ∧ Tree p r ∧ Beside p r d 0 xs ∧ Beside p r d 1 ys) → Q v H'
def spMoved : Sp := fun vs H Q _ => ∃ (a : Addr) (r : List Int) (d b : Int), vs = [.ref a, .int d, .int b] ∧ TI H a r ∧ Par r ∧ 0 ≤ d ∧ d < r.length ∧ ∀ H' t, Same H H' → TI H' t (mv r d b) → Q (.ref t) H'
def spMoves : Sp := fun vs H Q _ => ∃ (a b : Addr) (p r : List Int), vs = [.ref a, .ref b] ∧ TI H a p ∧ TI H b r ∧ Par p ∧ Par r ∧ p.length = r.length ∧
  ∀ H' v, Same H H' → ((v = .non ∧ ¬ Tree p r) ∨ ∃ (t : Addr) (ts : List Addr) (rows : List (List Int)), v = .ref t ∧ H' t = some (.tup (ts.map V.ref)) ∧ Its H' ts rows ∧ Tree p r ∧ Moves p r rows) → Q v H'
end
end KQ
namespace KQ
open PySem PySem.Spec PyProof.Rows L2 KR KM StX
section
variable {P : Program} {w : World} {K : PySem.W.Frag} {mg : Str → Option Value} {base : Heap}
def spMetT : Sp := fun vs H Q _ => ∃ m c g b a p, vs = [.ref m, .ref a] ∧ MS H m c g b ∧ b ≤ 100000 ∧ TI H a p ∧ Par p ∧
  ∀ H' t r, Kept H H' m g → MS H' m c g (b + 120) → TI H' t r → Par r → r.length = p.length → Tree p r → Q (.ref t) H'
end
end KQ
namespace KQ
open PySem PySem.Spec PyProof.Rows L2 KR KM StX
/-! ### roots in a row that isn't sorted -/
structure Rts (hs : List Nat) (L rk : Nat → Nat) : Prop where
  lt : ∀ x, x < hs.length → up hs x < hs.length
  fix : ∀ x, x < hs.length → up hs x = x → L x = x
  stay : ∀ x, x < hs.length → L (up hs x) = L x
  rk : ∀ x, x < hs.length → up hs x ≠ x → rk (up hs x) < rk x
  top : ∀ x, x < hs.length → up hs (L x) = L x
  rng : ∀ x, x < hs.length → L x < hs.length
theorem rts_range (n : Nat) : Rts (List.range n) (fun x => x) (fun _ => 0) := by
  refine ⟨fun x hx => ?_, fun x _ _ => rfl, fun x _ => ?_, fun x _ h => absurd (up_range n x) h, fun x _ => up_range n x, fun x hx => hx⟩
  · rw [up_range]
    exact hx
  · rw [up_range]
theorem rts_tie {hs : List Nat} {L rk : Nat → Nat} (h : Rts hs L rk) {a b : Nat} (ha : a < hs.length) (hb : b < hs.length) (ne : L a ≠ L b) : Rts (hs.set (L a) (L b)) (fun x => if L x = L a then L b else L x) (fun x => if L x = L a then rk x + 1 + rk (L b) else rk x) := by
  have la := h.rng a ha
  have lb := h.rng b hb
  have ta := h.top a ha
  have tb := h.top b hb
  have faa : L (L a) = L a := h.fix _ la ta
  have fbb : L (L b) = L b := h.fix _ lb tb
  have us : ∀ x, KM.up (hs.set (L a) (L b)) x = if x = L a then L b else KM.up hs x := fun x => up_set la
  refine ⟨fun x hx => ?_, fun x hx hu => ?_, fun x hx => ?_, fun x hx hu => ?_, fun x hx => ?_, fun x hx => ?_⟩
  all_goals rw [List.length_set] at *
  · rw [us]
    split
    · exact lb
    · exact h.lt x hx
  · rw [us] at hu
    by_cases c : x = L a
    · rw [if_pos c] at hu
      exact absurd (hu.trans c) (fun e => ne e.symm)
    · rw [if_neg c] at hu
      have := h.fix x hx hu
      show (if L x = L a then L b else L x) = x
      rw [this, if_neg c]
  · show (if L (KM.up (hs.set (L a) (L b)) x) = L a then L b else L (KM.up (hs.set (L a) (L b)) x)) = if L x = L a then L b else L x
    rw [us]
    by_cases c : x = L a
    · rw [if_pos c, fbb, if_neg (fun e => ne e.symm), c, faa, if_pos rfl]
    · rw [if_neg c, h.stay x hx]
  · show (if L (KM.up (hs.set (L a) (L b)) x) = L a then rk (KM.up (hs.set (L a) (L b)) x) + 1 + rk (L b) else rk (KM.up (hs.set (L a) (L b)) x)) < if L x = L a then rk x + 1 + rk (L b) else rk x
    rw [us] at hu ⊢
    by_cases c : x = L a
    · rw [if_pos c, fbb, if_neg (fun e => ne e.symm), c, faa, if_pos rfl]
      omega
    · rw [if_neg c] at hu ⊢
      have := h.rk x hx hu
      rw [h.stay x hx]
      split <;> omega
  · show KM.up (hs.set (L a) (L b)) (if L x = L a then L b else L x) = if L x = L a then L b else L x
    rw [us]
    by_cases c : L x = L a
    · rw [if_pos c, if_neg (fun e => ne e.symm), tb]
    · rw [if_neg c, if_neg c, h.top x hx]
  · show (if L x = L a then L b else L x) < hs.length
    split
    · exact lb
    · exact h.rng x hx
section
variable {P : Program} {w : World} {K : PySem.W.Frag} {mg : Str → Option Value} {base : Heap}
abbrev s__law_root : Stmt := topS 43
theorem sc__law_root : FnScope ["roots", "thing"] ["roots", "thing"] (defScope s__law_root) := ⟨rfl, rfl, rfl, by decide +kernel, rfl, by decide +kernel, by decide +kernel⟩
def spRoot : Sp := fun vs H Q _ => ∃ (l : Addr) (hs : List Nat) (L rk : Nat → Nat) (x : Nat), vs = [.ref l, .int (x : Int)] ∧ H l = some (.lst (hv hs)) ∧ Rts hs L rk ∧ x < hs.length ∧ Q (.int ((L x : Nat) : Int)) H
theorem ok_root (D : DefAt K mg "_law_root" s__law_root) (T : Bt mg) : Use P w K mg base "_law_root" 1 ["roots", "thing"] spRoot := by
  refine use_of D (fun f fd F => F.ok sc__law_root (fun vs H Q E h => ?_) (fun cdv A outer s H vs Q E hr h => ?_)) (fun _ _ _ _ _ _ us hl => match us, hl with | [_, _], _ => rfl)
  · obtain ⟨l, hs, L, rk, x, rfl, _⟩ := h
    rfl
  · obtain ⟨l, hs, L, rk, x, rfl, el, R, hx, q⟩ := h
    refine ⟨_, (pss_cons (ps_while PassesOwn.never (pt_cmpR op_ne (pe_ix (k_ixl (K := K) rfl) (pv 0) (pv 1) (fun _ _ => rfl)) (pv 1) (nomark _)) (pss_one (ps_set (i := 1) sc__law_root.nd rfl (Or.inl rfl) (pe_ix (k_ixl (K := K) rfl) (pv 0) (pv 1) (fun _ _ => rfl)))))
      (pss_one (ps_ret (pv 1)))), ?_⟩
    have at_ : ∀ t : Nat, t < hs.length → (hv hs)[t]? = some (.int ((up hs t : Nat) : Int)) := fun t ht => by
      unfold hv
      rw [List.getElem?_map, List.getElem?_eq_getElem ht]
      unfold up
      rw [List.getD_eq_getElem?_getD, List.getElem?_eq_getElem ht]
      rfl
    refine ⟨fun g σ H1 => ∃ t : Nat, t < hs.length ∧ L t = L x ∧ g = rk t ∧ σ = [some (.ref l), some (.int (t : Int))] ∧ H1 = H, ⟨_, x, hx, rfl, rfl, rfl, rfl⟩, ?_⟩
    rintro g σ H1 ⟨t, ht, hL, rfl, rfl, rfl⟩
    have lt := R.lt t ht
    refine ⟨_, rfl, _, rfl, l, _, _, _, rfl, rfl, sqL el, atI_of (j := t) rfl (at_ t ht), _, rfl, rfl, _, rfl, ?_⟩
    by_cases e : up hs t = t
    · rw [decide_eq_true (congrArg V.int (by omega))]
      refine ⟨_, rfl, ?_⟩
      rw [← hL, R.fix t ht e] at q
      exact q
    · rw [decide_eq_false (fun z => e (by have := V.int.inj z; omega))]
      refine ⟨_, fun σ' H' n => ⟨rk (up hs t), R.rk t ht e, n⟩, ?_⟩
      exact ⟨_, rfl, _, rfl, l, _, _, _, rfl, rfl, sqL el, atI_of (j := t) rfl (at_ t ht), up hs t, lt, by rw [R.stay t ht, hL], rfl, rfl, rfl⟩
abbrev s__law_meet : Stmt := topS 44
theorem sc__law_meet : FnScope ["one", "two", "many", "more", "roots", "door", "here", "there"] ["one", "two"] (defScope s__law_meet) := ⟨rfl, rfl, rfl, by decide +kernel, rfl, by decide +kernel, by decide +kernel⟩
theorem ok_law_meet (D : DefAt K mg "_law_meet" s__law_meet) (T : Bt mg) (u__law_root : Use P w K mg base "_law_root" 1 ["roots", "thing"] spRoot) : Use P w K mg base "_law_meet" 2 ["one", "two"] spMeets := by
  refine use_of D (fun f fd F => F.ok sc__law_meet (fun vs H Q E h => ?_) (fun cdv A outer s H vs Q E hr h => ?_)) (fun _ _ _ _ _ _ us hl => match us, hl with | [_, _], _ => rfl)
  · obtain ⟨a, b, p, r, rfl, _⟩ := h
    rfl
  · obtain ⟨a, b, p, r, rfl, hp, hb, par, parb, hl, q⟩ := h
    refine ⟨_, (pss_cons (ps_par (i := 2) (j := 3) rfl sc__law_meet.nd rfl rfl (by decide) rfl rfl (pa_cons (pe_op op_add (pe_callB (k_maxT (K := K) rfl rfl hr.units) (by rfl) T.max (by decide +kernel) (pa_cons (pv 0) pa_nil)) pe_int) (pa_cons (pe_op op_add (pe_callB (k_maxT (K := K) rfl rfl hr.units) (by rfl) T.max (by decide +kernel) (pa_cons (pv 1) pa_nil)) pe_int) pa_nil)) (by rfl))
      (pss_cons (ps_if (pt_cmpR op_ne (pe_op op_add (pv 2) (pv 3)) (pe_op op_add (pe_callB (k_len (K := K) rfl) (by rfl) T.len PySem.boot_len (pa_cons (pv 0) pa_nil)) pe_int) (nomark _)) (pss_one (ps_ret pe_bl)) pss_nil)
      (pss_cons (ps_set (i := 4) sc__law_meet.nd rfl (Or.inl rfl) (pe_listRg rfl (by rfl) T.list (prg_1 (by rfl) T.range (pe_op op_add (pv 2) (pv 3)))))
      (pss_cons (ps_for PassesOwn.never rfl (pi_range1 (by rfl) T.range (pa_cons (pe_callB (k_len (K := K) rfl) (by rfl) T.len PySem.boot_len (pa_cons (pv 0) pa_nil)) pa_nil)) (pg_name (i := 5) sc__law_meet.nd rfl (Or.inl rfl))
      (pss_cons (ps_par (i := 6) (j := 7) rfl sc__law_meet.nd rfl rfl (by decide) rfl rfl (pa_cons (pe_use u__law_root (by decide) hr (by rfl) (pa_cons (pv 4) (pa_cons (pe_ix (k_ixt (K := K) rfl) (pv 0) (pv 5) (fun _ _ => rfl)) pa_nil))) (pa_cons (pe_use u__law_root (by decide) hr (by rfl) (pa_cons (pv 4) (pa_cons (pe_op op_add (pv 2) (pe_ix (k_ixt (K := K) rfl) (pv 1) (pv 5) (fun _ _ => rfl))) pa_nil))) pa_nil)) (by rfl))
      (pss_cons (ps_if (pt_cmpR op_eq (pv 6) (pv 7) (nomark _)) (pss_one (ps_ret pe_bl)) pss_nil)
      (pss_one (ps_asg (pv 7) (pg_sub (pv 4) (pv 6) set_list))))))
      (pss_one (ps_ret pe_bl)))))), ?_⟩
    have g0 := bc_ge 0 p
    have g1 := bc_le 0 p
    have g2 := par.le
    have g3 := bc_ge 0 r
    have g4 := bc_le 0 r
    have g5 := parb.le
    refine ⟨_, rfl, a, p, rfl, hp.seq, par.ne, fun mx hm hle => ⟨_, _, rfl, rfl, ?_⟩⟩
    have e1 := par_max par hm hle
    refine ⟨_, rfl, b, r, rfl, hb.seq, parb.ne, fun my hm2 hle2 => ⟨_, _, rfl, rfl, ?_⟩⟩
    have e2 := par_max parb hm2 hle2
    refine ⟨_, _, rfl, ?_⟩
    refine ⟨_, rfl, _, rfl, _, _, rfl, rfl, _, rfl, a, _, rfl, .inr hp.seq, _, _, rfl, rfl, rfl, _, rfl, ?_⟩
    rw [List.length_map]
    by_cases e : mx + 1 + (my + 1) = p.length + 1
    · rw [decide_eq_true (congrArg V.int e)]
      have hM : mx + 1 + (my + 1) = ((mx + 1 + (my + 1)).toNat : Int) := by omega
      generalize hMM : (mx + 1 + (my + 1)).toNat = M at hM
      have hrg : rgV 0 (mx + 1 + (my + 1)) = hv (List.range M) := by rw [hM, rgV_hv]
      refine ⟨_, rfl, _, rfl, _, _, rfl, rfl, mx + 1 + (my + 1), rfl, RgOk.of_le (by omega) (by omega) (by omega) (by omega), fun l nl => ?_⟩
      rw [hrg]
      have s1 : Same H (upd H l (.lst (hv (List.range M)))) := same_new nl
      refine ⟨_, rfl, a, _, rfl, .inr (hp.mono s1).seq, _, rfl, ?_⟩
      rw [List.length_map]
      refine ⟨by omega, by omega, for_range (lo := 0) (n := (((p.length : Nat) : Int)).toNat)
        (fun i σ H3 => ∃ (y5 y6 y7 : Option V), σ = [some (.ref a), some (.ref b), some (.int (mx + 1)), some (.int (my + 1)), some (.ref l), y5, y6, y7] ∧ Same H H3 ∧ (∀ j, j < i → ¬ RingAt p r j) ∧ ∃ (hs : List Nat) (L rk : Nat → Nat), H3 l = some (.lst (hv hs)) ∧ Rts hs L rk ∧ hs.length = M ∧
          ∀ x y, x < M → y < M → (L x = L y ↔ glue ((tiesOf p r).take i) x y))
        ⟨none, none, none, rfl, s1, fun j hj => absurd hj (Nat.not_lt_zero _), List.range M, _, _, upd_same, rts_range M, List.length_range, fun x y _ _ => Iff.rfl⟩ ?_ ?_⟩
      · rintro i σ H3 hi ⟨y5, y6, y7, rfl, sm, nr, hs, L, rk, el, R, hlen, hgl⟩
        rw [Int.toNat_natCast] at hi
        rw [show (0 : Int) + ((i : Nat) : Int) = ((i : Nat) : Int) by omega]
        obtain ⟨x, hx⟩ := at_some (xs := p) (i := i) hi
        obtain ⟨y, hy⟩ := at_some (xs := r) (i := i) (by omega)
        obtain ⟨x0, x1⟩ := (rg_mem 0 p (Int.le_refl _) par.rg).1 x (List.mem_of_getElem? hx)
        obtain ⟨y0, y1⟩ := (rg_mem 0 r (Int.le_refl _) parb.rg).1 y (List.mem_of_getElem? hy)
        have hp3 := hp.mono sm
        have hb3 := hb.mono sm
        have xl : x.toNat < hs.length := by omega
        have yl : (bc 0 p + y).toNat < hs.length := by omega
        refine ⟨_, rfl, _, rfl, _, rfl, a, _, _, .int x, rfl, rfl, hp3.seq, atI_of (j := i) rfl (at_map hx), l, hs, L, rk, x.toNat, ?_, el, R, xl, ?_⟩
        · rw [show ((x.toNat : Nat) : Int) = x by omega]
          rfl
        refine ⟨_, rfl, _, rfl, _, rfl, _, rfl, b, _, _, .int y, rfl, rfl, hb3.seq, atI_of (j := i) rfl (at_map hy), _, _, rfl, rfl, l, hs, L, rk, (bc 0 p + y).toNat, ?_, el, R, yl, ?_⟩
        · rw [show (((bc 0 p + y).toNat : Nat) : Int) = mx + 1 + y by omega]
          rfl
        refine ⟨_, _, rfl, ?_⟩
        refine ⟨_, rfl, _, rfl, rfl, _, rfl, ?_⟩
        by_cases eL : L x.toNat = L (bc 0 p + y).toNat
        · rw [decide_eq_true (congrArg V.int (by omega))]
          exact q H3 false sm ⟨fun z => absurd z (by decide), fun z => absurd ⟨x, y, hx, hy, (hgl _ _ (by omega) (by omega)).mp eL⟩ (z.2 i)⟩
        · rw [decide_eq_false (fun z => eL (by have := V.int.inj z; omega))]
          have hLa := R.rng _ xl
          refine ⟨_, rfl, _, rfl, _, rfl, l, _, _, L x.toNat, rfl, rfl, el, ?_, ?_⟩
          · unfold hv
            rw [List.length_map]
            exact ixN_of (by omega) (by omega)
          refine ⟨_, _, _, rfl, same_mut sm nl, fun j hj => ?_, hs.set (L x.toNat) (L (bc 0 p + y).toNat), _, _, ?_, rts_tie R xl yl eL, by rw [List.length_set, hlen], fun u v hu hv' => ?_⟩
          · by_cases ej : j = i
            · rintro ⟨x', y', hx', hy', hg'⟩
              subst ej
              rw [hx] at hx'
              rw [hy] at hy'
              obtain rfl := Option.some.inj hx'
              obtain rfl := Option.some.inj hy'
              exact eL ((hgl _ _ (by omega) (by omega)).mpr hg')
            · exact nr j (by omega)
          · rw [upd_same]
            unfold hv
            rw [List.map_set]
          · rw [take_snoc (ties_at hx hy), glue_snoc]
            have g := tie_labels (L := fun z => ((L z : Nat) : Int)) (L' := fun z => (((if L z = L x.toNat then L (bc 0 p + y).toNat else L z) : Nat) : Int)) (R := glue ((tiesOf p r).take i)) (a := (bc 0 p + y).toNat) (b := x.toNat) (S := fun z => z < M)
              (fun u v hu hv => by rw [← hgl u v hu hv]; omega) (by omega) (by omega) (fun z hz => by
                by_cases c : L z = L x.toNat
                · rw [if_pos c, if_pos (by omega)]
                · rw [if_neg c, if_neg (by omega)]) u v hu hv'
            have g' : (if L u = L x.toNat then L (bc 0 p + y).toNat else L u) = (if L v = L x.toNat then L (bc 0 p + y).toNat else L v) ↔ J (glue ((tiesOf p r).take i)) (bc 0 p + y).toNat x.toNat u v := by
              rw [← g]
              constructor
              · intro h
                exact congrArg _ h
              · intro h
                exact Int.ofNat.inj h
            rw [g']
            unfold J
            exact or_congr_right Or.comm
      · rintro σ H3 ⟨y5, y6, y7, rfl, sm, nr, _⟩
        rw [Int.toNat_natCast] at nr
        exact q H3 true sm ⟨fun _ => ⟨by omega, fun i hi => nr i (ring_lt hi) hi⟩, fun _ => rfl⟩
    · rw [decide_eq_false (fun z => e (V.int.inj z))]
      exact q H false (fun _ _ z => z) ⟨fun z => absurd z (by decide), fun z => absurd z.1 (by omega)⟩
end
end KQ
namespace KQ
open PySem PySem.Spec PyProof.Rows L2 KR KM StX
/-! ### partings with so many blocks, built door by door -/
theorem range_cut {c : Nat → Bool} (b : Nat) : ∀ m, (List.range m).filter (fun k => decide (k < b) && c k) = (List.range (min m b)).filter c
  | 0 => by rw [Nat.zero_min]; rfl
  | m + 1 => by
    rw [List.range_succ, List.filter_append, range_cut b m]
    by_cases h : m < b
    · rw [Nat.min_eq_left (by omega), Nat.min_eq_left (by omega), List.range_succ, List.filter_append]
      congr 1
      rw [List.filter_cons, List.filter_cons]
      simp [h]
    · rw [Nat.min_eq_right (by omega), Nat.min_eq_right (by omega), List.filter_cons]
      simp [h]
/-- the rows of d + 1 doors that can still come to b blocks at n + 1 doors -/
def into (n : Nat) (b : Int) (d : Nat) : List (List Int) := (allP d).filter fun p => decide (b - ((n : Int) - d) ≤ bc 0 p ∧ bc 0 p ≤ b)
/-- the blocks in which the next door can be -/
def nextB (lo b : Int) (row : List Int) : List Nat := (List.range (min (bc 0 row + 1) b).toNat).filter fun k => decide (max (bc 0 row) ((k : Int) + 1) ≥ lo)
theorem bc_snoc (row : List Int) (k : Int) : bc 0 (row ++ [k]) = if k = bc 0 row then bc 0 row + 1 else bc 0 row := by
  rw [bc_app]
  rfl
theorem filter_flat {α β : Type} {P : β → Bool} (f : α → List β) : ∀ xs : List α, (xs.flatMap f).filter P = xs.flatMap fun x => (f x).filter P
  | [] => rfl
  | x :: r => by rw [List.flatMap_cons, List.flatMap_cons, List.filter_append, filter_flat f r]
theorem flat_filter {α β : Type} {P : α → Bool} {f g : α → List β} : ∀ {xs : List α}, (∀ x ∈ xs, P x = true → f x = g x) → (∀ x ∈ xs, P x = false → g x = []) → (xs.filter P).flatMap f = xs.flatMap g
  | [], _, _ => rfl
  | x :: r, h1, h2 => by
    have ih := flat_filter (xs := r) (fun y hy => h1 y (List.mem_cons_of_mem _ hy)) (fun y hy => h2 y (List.mem_cons_of_mem _ hy))
    rw [List.filter_cons, List.flatMap_cons]
    cases hp : P x with
    | true => rw [if_pos rfl, List.flatMap_cons, ih, h1 x (List.mem_cons_self ..) hp]
    | false =>
      rw [if_neg (by decide), ih, h2 x (List.mem_cons_self ..) hp]
      rfl
theorem into_step {n d : Nat} {b : Int} (b1 : 1 ≤ b) : into n b (d + 1) = (into n b d).flatMap fun row => (nextB (b - ((n : Int) - ((d + 1 : Nat) : Int))) b row).map fun k => row ++ [((k : Nat) : Int)] := by
  unfold into
  show ((allP d).flatMap ext).filter _ = _
  rw [filter_flat]
  refine (flat_filter (fun row hr hp => ?_) (fun row hr hp => ?_)).symm
  · have hp := of_decide_eq_true hp
    have g0 := bc_ge 0 row
    unfold nextB ext
    rw [List.filter_map]
    congr 1
    have e1 : (min (bc 0 row + 1) b).toNat = min (bc 0 row + 1).toNat b.toNat := by omega
    rw [e1, ← range_cut]
    refine List.filter_congr fun k hk => ?_
    have hk := List.mem_range.mp hk
    show _ = decide _
    rw [← Bool.decide_and, decide_eq_decide, bc_snoc]
    split <;> omega
  · have hp := of_decide_eq_false hp
    have g0 := bc_ge 0 row
    unfold ext
    rw [List.filter_map, List.map_eq_nil_iff, List.filter_eq_nil_iff]
    intro k hk
    have hk := List.mem_range.mp hk
    show ¬ (decide _ = true)
    rw [decide_eq_true_iff, bc_snoc]
    split <;> omega
theorem into_zero {n : Nat} {b : Int} (b1 : 1 ≤ b) (b2 : b ≤ (n : Int) + 1) : into n b 0 = [[0]] := by
  unfold into
  show List.filter _ [[(0 : Int)]] = _
  rw [List.filter_cons, if_pos (decide_eq_true (by show _ ≤ bc 0 [0] ∧ bc 0 [0] ≤ b; rw [show bc 0 [0] = 1 from rfl]; exact ⟨by omega, b1⟩))]
  rfl
theorem into_end {n : Nat} {b : Int} : into n b n = (allP n).filter fun p => decide (bc 0 p = b) := by
  refine List.filter_congr fun p _ => ?_
  rw [decide_eq_decide]
  omega
/-- no ring, computed -/
def ringB (p r : List Int) : Bool := labs (tiesOf p r) (List.range (bc 0 p + bc 0 r).toNat)
theorem ringB_ok {p r : List Int} (hp : Rg 0 p) (hr : Rg 0 r) : ringB p r = true ↔ NoRing p r := by
  unfold ringB
  rw [noRing_loop]
  rw [labs_ok (M := (bc 0 p + bc 0 r).toNat) (tiesOf p r) [] _ (ties_rng hp hr) List.length_range fun x y hx hy => ?_]
  · exact Iff.rfl
  · have e : ∀ x, x < (bc 0 p + bc 0 r).toNat → (List.range (bc 0 p + bc 0 r).toNat).getD x 0 = x := fun x hx => by
      rw [List.getD_eq_getElem?_getD, List.getElem?_range hx]
      rfl
    rw [e x hx, e y hy]
    exact Iff.rfl
/-- a lot with like sizes -/
theorem turn_like {n : Nat} {L : List (List Int)} {x0 : List Int} (hx : x0 ∈ L) (hL : LotP n L) (like : ∀ x ∈ L, bc 0 x = bc 0 x0) :
    turnB n L = ((allP n).filter fun p => decide (bc 0 p = (n : Int) + 2 - bc 0 x0)).filter (fun p => L.all fun x => ringB p x) := by
  rw [List.filter_filter]
  refine List.filter_congr fun p hp => ?_
  have pl := (allP_ok n p hp).2
  rw [Bool.eq_iff_iff, Bool.and_eq_true_iff]
  unfold meetsB
  rw [List.all_eq_true, List.all_eq_true, decide_eq_true_iff]
  constructor
  · intro h
    refine ⟨fun x hx => ?_, ?_⟩
    · have := h x hx
      unfold treeB at this
      exact (Bool.and_eq_true_iff.mp this).2
    · have := h x0 hx
      unfold treeB at this
      have := of_decide_eq_true (Bool.and_eq_true_iff.mp this).1
      omega
  · rintro ⟨h1, h2⟩ x hx
    unfold treeB
    refine Bool.and_eq_true_iff.mpr ⟨decide_eq_true ?_, h1 x hx⟩
    have := like x hx
    omega
end KQ
namespace KQ
open PySem PySem.Spec PyProof.Rows L2 KR KM StX
section
variable {P : Program} {w : World} {K : PySem.W.Frag} {mg : Str → Option Value} {base : Heap}
theorem k_min {X : Cx} (hK : X.K = K) (hc : X.calm = true) : CallR X (.builtin "min") (rMin K) := by
  subst hK
  exact cr_min hc
abbrev s_has_no_rings : Stmt := topS 25
theorem sc_has_no_rings : FnScope ["parting", "lot", "other"] ["parting", "lot"] (defScope s_has_no_rings) := ⟨rfl, rfl, rfl, by decide +kernel, rfl, by decide +kernel, by decide +kernel⟩
def spNoRings : Sp := fun vs H Q _ => ∃ (a l : Addr) (p : List Int) (L : List (List Int)), vs = [.ref a, .ref l] ∧ TI H a p ∧ TL H l L ∧ Par p ∧ (∀ q ∈ L, Par q ∧ q.length = p.length) ∧ ∀ H', Same H H' → Q (.bl (L.all (ringB p))) H'
theorem ok_has_no_rings (D : DefAt K mg "has_no_rings" s_has_no_rings) (T : Bt mg) (u_has_no_ring : Use P w K mg base "has_no_ring" 3 ["parting", "other"] spNoRing) : Use P w K mg base "has_no_rings" 4 ["parting", "lot"] spNoRings := by
  refine use_of D (fun f fd F => F.ok sc_has_no_rings (fun vs H Q E h => ?_) (fun cdv A outer s H vs Q E hr h => ?_)) (fun _ _ _ _ _ _ us hl => match us, hl with | [_, _], _ => rfl)
  · obtain ⟨a, l, p, L, rfl, _⟩ := h
    rfl
  · obtain ⟨a, l, p, L, rfl, hp, ⟨ts, el, its⟩, par, hL, q⟩ := h
    refine ⟨_, (pss_cons (ps_for PassesOwn.never rfl (k_tup (K := K) rfl (pv 1)) (pg_name (i := 2) sc_has_no_rings.nd rfl (Or.inl rfl))
      (pss_one (ps_if (pt_not (pt_val (pe_use u_has_no_ring (by decide) hr (by rfl) (pa_cons (pv 0) (pa_cons (pv 2) pa_nil))))) (pss_one (ps_ret pe_bl)) pss_nil)))
      (pss_one (ps_ret pe_bl))), ?_⟩
    have its : Its H ts L := its
    refine ⟨_, rfl, l, rfl, ⟨_, rdT el⟩, for_tup (K := K) (a := l) (xs := ts.map V.ref)
      (fun i σ H1 => ∃ y2, σ = [some (.ref a), some (.ref l), y2] ∧ Same H H1 ∧ ∀ j x, j < i → L[j]? = some x → ringB p x = true)
      ⟨none, rfl, Same.refl H, fun j x hj => absurd hj (Nat.not_lt_zero _)⟩ (fun i σ H1 _ ⟨_, _, sm, _⟩ => rdT (el.mono sm)) ?_ ?_⟩
    · rintro i v σ H1 hi ⟨y2, rfl, sm, ok⟩
      obtain ⟨t, ht, rfl⟩ := map_at hi
      obtain ⟨x, hx, tx⟩ := its.2 i t ht
      obtain ⟨px, lx⟩ := hL x (List.mem_of_getElem? hx)
      refine ⟨_, rfl, _, rfl, a, t, p, x, rfl, hp.mono sm, tx.mono sm, par, px, lx.symm, fun H2 c s2 hc => ⟨c, rfl, ?_⟩⟩
      have tb := ringB_ok par.rg px.rg
      cases c with
      | false =>
        have := q H2 (sm.trans s2)
        rw [show L.all (ringB p) = false from by
          cases hm : L.all (ringB p) with
          | false => rfl
          | true =>
            have := hc.mpr (tb.mp (List.all_eq_true.mp hm x (List.mem_of_getElem? hx)))
            cases this] at this
        exact this
      | true =>
        refine ⟨_, rfl, sm.trans s2, fun j z hj hz => ?_⟩
        by_cases e : j = i
        · rw [e, hx] at hz
          obtain rfl := Option.some.inj hz
          exact tb.mpr (hc.mp rfl)
        · exact ok j z (by omega) hz
    · rintro σ H1 ⟨y2, rfl, sm, ok⟩
      have := q H1 sm
      rw [show L.all (ringB p) = true from List.all_eq_true.mpr fun x hx => by
        obtain ⟨j, hj⟩ := List.mem_iff_getElem?.mp hx
        exact ok j x (by rw [List.length_map, its.1]; exact (List.getElem?_eq_some_iff.mp hj).1) hj] at this
      exact this
/-- rows with their numbers of blocks -/
def PI2 (H : Hp) (u : Addr) (row : List Int) : Prop := ∃ r, H u = some (.tup [.ref r, .int (bc 0 row)]) ∧ TI H r row
theorem PI2.mono {H H' : Hp} {u : Addr} {row : List Int} (h : PI2 H u row) (e : Same H H') : PI2 H' u row := let ⟨r, a, b⟩ := h; ⟨r, e _ _ a, b.mono e⟩
theorem PI2.put {H : Hp} {u L : Addr} {row : List Int} {xs : List V} {o : HO} (h : PI2 H u row) (e : H L = some (.lst xs)) : PI2 (upd H L o) u row := by
  obtain ⟨r, a, b⟩ := h
  have b' : H r = some (.tup (row.map V.int)) := b
  exact ⟨r, by rw [upd_ne (fun z => by rw [z, e] at a; cases a)]; exact a, show upd H L o r = _ by rw [upd_ne (fun z => by rw [z, e] at b'; cases b')]; exact b'⟩
def ItsP (H : Hp) (ts : List Addr) (xss : List (List Int)) : Prop := ts.length = xss.length ∧ ∀ (i : Nat) (t : Addr), ts[i]? = some t → ∃ xs, xss[i]? = some xs ∧ PI2 H t xs
theorem ItsP.mono {H H' : Hp} {ts : List Addr} {xss : List (List Int)} (h : ItsP H ts xss) (s : Same H H') : ItsP H' ts xss := ⟨h.1, fun i t ht => let ⟨xs, a, b⟩ := h.2 i t ht; ⟨xs, a, b.mono s⟩⟩
theorem ItsP.put {H : Hp} {ts : List Addr} {xss : List (List Int)} {L : Addr} {xs : List V} {o : HO} (h : ItsP H ts xss) (e : H L = some (.lst xs)) : ItsP (upd H L o) ts xss := ⟨h.1, fun i t ht => let ⟨xs, a, b⟩ := h.2 i t ht; ⟨xs, a, b.put e⟩⟩
theorem ItsP.nil {H : Hp} : ItsP H [] [] := ⟨rfl, fun i t ht => by simp at ht⟩
theorem ItsP.snoc {H : Hp} {ts : List Addr} {xss : List (List Int)} {t : Addr} {xs : List Int} (h : ItsP H ts xss) (g : PI2 H t xs) : ItsP H (ts ++ [t]) (xss ++ [xs]) := by
  refine ⟨by rw [List.length_append, List.length_append, h.1]; rfl, fun i u hu => ?_⟩
  by_cases c : i < ts.length
  · rw [List.getElem?_append_left c] at hu
    obtain ⟨ys, a, b⟩ := h.2 i u hu
    exact ⟨ys, by rw [List.getElem?_append_left (by rw [← h.1]; exact c)]; exact a, b⟩
  · have c2 := (List.getElem?_eq_some_iff.mp hu).1
    rw [List.length_append] at c2
    have c3 : i = ts.length := by
      have : i < ts.length + 1 := c2
      omega
    subst c3
    rw [List.getElem?_append_right (Nat.le_refl _), Nat.sub_self] at hu
    cases hu
    exact ⟨xs, by rw [List.getElem?_append_right (by rw [h.1]; exact Nat.le_refl _), h.1, Nat.sub_self]; rfl, g⟩
theorem ItsP.app {H : Hp} {ts us : List Addr} {xss yss : List (List Int)} (h : ItsP H ts xss) (g : ItsP H us yss) : ItsP H (ts ++ us) (xss ++ yss) := by
  refine ⟨by rw [List.length_append, List.length_append, h.1, g.1], fun i u hu => ?_⟩
  by_cases c : i < ts.length
  · rw [List.getElem?_append_left c] at hu
    obtain ⟨ys, a, b⟩ := h.2 i u hu
    exact ⟨ys, by rw [List.getElem?_append_left (by rw [← h.1]; exact c)]; exact a, b⟩
  · rw [List.getElem?_append_right (by omega)] at hu
    obtain ⟨ys, a, b⟩ := g.2 _ u hu
    exact ⟨ys, by rw [List.getElem?_append_right (by rw [← h.1]; omega), ← h.1]; exact a, b⟩
/-- the rows behind a row -/
def extB (lo b : Int) (row : List Int) : List (List Int) := (nextB lo b row).map fun k => row ++ [((k : Nat) : Int)]
abbrev s_partings_into : Stmt := topS 14
theorem sc_partings_into : FnScope ["doors", "blocks", "rows", "door", "least", "row", "many", "block", "_"] ["doors", "blocks"] (defScope s_partings_into) := ⟨rfl, rfl, rfl, by decide +kernel, rfl, by decide +kernel, by decide +kernel⟩
def spInto : Sp := fun vs H Q _ => ∃ (n : Nat) (b : Int), vs = [.int ((n + 1 : Nat) : Int), .int b] ∧ n < 8 ∧ 1 ≤ b ∧ b ≤ (n : Int) + 1 ∧ ∀ H' t, Same H H' → TT H' t (into n b n) → Q (.ref t) H'
theorem ok_partings_into (D : DefAt K mg "partings_into" s_partings_into) (T : Bt mg) : Use P w K mg base "partings_into" 1 ["doors", "blocks"] spInto := by
  refine use_of D (fun f fd F => F.ok sc_partings_into (fun vs H Q E h => ?_) (fun cdv A outer s H vs Q E hr h => ?_)) (fun _ _ _ _ _ _ us hl => match us, hl with | [_, _], _ => rfl)
  · obtain ⟨n, b, rfl, _⟩ := h
    rfl
  · obtain ⟨n, b, rfl, hn, b1, b2, q⟩ := h
    refine ⟨_, (pss_cons (ps_set (i := 2) sc_partings_into.nd rfl (Or.inl rfl) (pe_lst (pa_cons (pe_tup (pa_cons (pe_tup (pa_cons pe_int pa_nil)) (pa_cons pe_int pa_nil))) pa_nil)))
      (pss_cons (ps_for PassesOwn.never rfl (pi_range2 (by rfl) T.range (pa_cons pe_int (pa_cons (pv 0) pa_nil))) (pg_name (i := 3) sc_partings_into.nd rfl (Or.inl rfl))
      (pss_cons (ps_set (i := 4) sc_partings_into.nd rfl (Or.inr rfl) (pe_op op_sub (pv 1) (pe_op op_sub (pe_op op_sub (pv 0) pe_int) (pv 3))))
      (pss_one (ps_setLc2 (i := 2) (own := [("row", 5), ("many", 6), ("block", 7)]) (vs1 := [7]) rfl sc_partings_into.nd rfl rfl (sw_true rfl rfl rfl (by decide +kernel)) (k_list (K := K) rfl (pv 2)) (blkOk_by (N := ["doors", "blocks", "rows", "door", "least", "row", "many", "block", "_"]) (sc := defScope s_partings_into) (by decide +kernel)) (by decide) (fun _ _ _ _ _ => (k_gtup (K := K) (n := 2) rfl rfl (pgs_cons (pg_name (i := 5) sc_partings_into.nd rfl (Or.inl rfl)) (pgs_cons (pg_name (i := 6) sc_partings_into.nd rfl (Or.inl rfl)) pgs_nil)))) (fun _ _ _ _ _ => pts_nil) (fun _ _ _ _ _ => (pi_range1 (by rfl) T.range (pa_cons (pe_callB (call_min2 rfl) (by rfl) T.min (by decide +kernel) (pa_cons (pe_op op_add (pv 6) pe_int) (pa_cons (pv 1) pa_nil))) pa_nil))) (fun _ _ _ _ _ => (pg_name (i := 7) sc_partings_into.nd rfl (Or.inl rfl))) (fun _ _ _ _ _ => (pts_one (pt_cmpR op_ge (pe_callB (call_max2 rfl) (by rfl) T.max (by decide +kernel) (pa_cons (pv 6) (pa_cons (pe_op op_add (pv 7) pe_int) pa_nil))) (pv 4) (nomark _)))) (fun _ _ _ _ _ => (pe_tup (pa_cons (pe_tup (k_star (K := K) rfl (pv 5) (pa_cons (pv 7) pa_nil))) (pa_cons (pe_callB (call_max2 rfl) (by rfl) T.max (by decide +kernel) (pa_cons (pv 6) (pa_cons (pe_op op_add (pv 7) pe_int) pa_nil))) pa_nil))))))))
      (pss_one (ps_ret (pe_callTy (k_tupOf (K := K) rfl) (by rfl) T.tuple (by decide +kernel) (pa_cons (pe_lc (own := [("row", 5), ("_", 8)]) rfl sc_partings_into.nd (k_list (K := K) rfl (pv 2)) (blkOk_by (N := ["doors", "blocks", "rows", "door", "least", "row", "many", "block", "_"]) (sc := defScope s_partings_into) (by decide +kernel)) (fun _ _ _ _ _ => (k_gtup (K := K) (n := 2) rfl rfl (pgs_cons (pg_name (i := 5) sc_partings_into.nd rfl (Or.inl rfl)) (pgs_cons (pg_name (i := 8) sc_partings_into.nd rfl (Or.inl rfl)) pgs_nil)))) (fun _ _ _ _ _ => pts_nil) (fun _ _ _ _ _ => (pv 5))) pa_nil)))))), ?_⟩
    refine ⟨by show 1 ≤ sizeLine; decide, fun t0 n0 => ⟨by show 2 ≤ sizeLine; decide, fun t1 n1 => ⟨by show 1 ≤ sizeLine; decide, fun l0 nl0 => ?_⟩⟩⟩
    have s1 : Same H (upd (upd H t0 (.tup [.int 0])) t1 (.tup [.ref t0, .int 1])) := (same_new n0).trans (same_new n1)
    have s0 := s1.trans (same_new (o := .lst [.ref t1]) nl0)
    refine ⟨_, rfl, 1, _, rfl, ⟨by decide, by decide, by omega, by omega⟩, for_range (lo := 1) (n := (((n + 1 : Nat) : Int) - 1).toNat)
      (fun i σ H1 => ∃ (l : Addr) (y3 y4 : Option V) (ts : List Addr), σ = [some (.int ((n + 1 : Nat) : Int)), some (.int b), some (.ref l), y3, y4, none, none, none, none] ∧ Same H H1 ∧ H1 l = some (.lst (ts.map V.ref)) ∧ ItsP H1 ts (into n b i))
      ⟨l0, none, none, [t1], rfl, s0, upd_same, ?_⟩ ?_ ?_⟩
    · rw [into_zero b1 b2]
      refine ItsP.nil.snoc ⟨t0, ?_, ?_⟩
      · show upd _ l0 _ t1 = _
        rw [upd_ne (fun e => by rw [← e, upd_same] at nl0; cases nl0), upd_same]
        rfl
      · show upd _ l0 _ t0 = _
        exact same_new nl0 _ _ (same_new n1 _ _ upd_same)
    · rintro i σ H1 hi ⟨l, y3, y4, ts, rfl, sm, el, its⟩
      have hin : i < n := by omega
      have hi8 : i + 1 < 8 := by omega
      have cnt := allP_count ⟨i + 1, hi8⟩
      have cnt2 : (into n b (i + 1)).length ≤ 4140 := Nat.le_trans (List.length_filter_le _ _) cnt
      refine ⟨_, rfl, _, rfl, _, _, rfl, rfl, _, rfl, _, _, rfl, rfl, _, _, rfl, rfl, ?_⟩
      obtain ⟨lo, hlo⟩ : ∃ lo, b - (((n + 1 : Nat) : Int) - 1 - (1 + ((i : Nat) : Int))) = lo := ⟨_, rfl⟩
      have hlo2 : b - ((n : Int) - ((i + 1 : Nat) : Int)) = lo := by omega
      have stp := into_step (n := n) (d := i) b1
      rw [hlo2] at stp
      rw [stp] at cnt2
      refine ⟨_, rfl, l, rfl, ⟨_, .inl (.inl el)⟩, fun L nL => ?_⟩
      refine lc2_list (K := K) (a := l) (xs := ts.map V.ref) (fun k H2 => Same H1 H2 ∧ ∃ us : List Addr, H2 L = some (.lst (us.map V.ref)) ∧ ItsP H2 us (((into n b i).take k).flatMap (extB lo b)))
        ⟨same_new nL, [], upd_same, ItsP.nil⟩ (fun k H2 _ ⟨s2, _⟩ => .inl (.inl (s2 _ _ el))) ?_ ?_
      · rintro k v H2 hk ⟨s2, us, eL, iu⟩
        obtain ⟨t, ht, rfl⟩ := map_at hk
        obtain ⟨row, hrow, r, et, er⟩ := its.2 k t ht
        obtain ⟨rg, rl⟩ := allP_ok i row (List.mem_filter.mp (List.mem_of_getElem? hrow)).1
        have b0 := bc_ge 0 row
        have bl := bc_le 0 row
        have fl := flat_le (extB lo b) hrow
        have fl2 : ((into n b i).flatMap (extB lo b)).length ≤ 4140 := cnt2
        refine ⟨t, _, rfl, .inl (.inl (s2 _ _ et)), rfl, _, _, rfl, _, [], rfl, rfl, ?_⟩
        refine ⟨rfl, ?_⟩
        refine ⟨_, rfl, _, _, rfl, rfl, _, rfl, _, _, rfl, _, rfl, by split <;> omega, by split <;> omega, ?_⟩
        have em : (if b < bc 0 row + 1 then b else bc 0 row + 1) = min (bc 0 row + 1) b := by
          split <;> omega
        rw [em]
        refine in_range (fun j H3 => Same H1 H3 ∧ ∃ us : List Addr, H3 L = some (.lst (us.map V.ref)) ∧ ItsP H3 us (((into n b i).take k).flatMap (extB lo b) ++
          ((List.range j).filter fun k : Nat => decide (max (bc 0 row) (((k : Nat) : Int) + 1) ≥ lo)).map fun k : Nat => row ++ [((k : Nat) : Int)])) ⟨s2, us, eL, by rw [List.range_zero]; simp only [List.filter_nil, List.map_nil, List.append_nil]; exact iu⟩ ?_ ?_
        · rintro j H3 hj ⟨s3, us3, eL3, iu3⟩
          have er3 : TI H3 r row := er.mono s3
          refine ⟨rfl, _, rfl, _, rfl, _, _, rfl, rfl, _, _, rfl, _, rfl, _, _, rfl, rfl, _, rfl, ?_⟩
          have emx : (if (0 : Int) + (j : Nat) + 1 > bc 0 row then (0 : Int) + (j : Nat) + 1 else bc 0 row) = max (bc 0 row) ((j : Int) + 1) := by
            split <;> omega
          rw [emx]
          have rs : List.range (j + 1) = List.range j ++ [j] := List.range_succ
          by_cases c : max (bc 0 row) ((j : Int) + 1) ≥ lo
          · rw [decide_eq_true (show b - (((n + 1 : Nat) : Int) - 1 - (1 + ((i : Nat) : Int))) ≤ max (bc 0 row) ((j : Int) + 1) by omega)]
            refine iteT ?_
            refine ⟨_, rfl, r, _, rfl, .inl er3.seq, _, rfl, ?_, fun c1 nc => ?_⟩
            · rw [List.length_append, List.length_map]
              exact Nat.le_of_lt (small_of (by show row.length + 1 ≤ _; omega))
            refine ⟨_, rfl, _, rfl, _, _, rfl, rfl, _, _, rfl, by show 2 ≤ sizeLine; decide, fun d nd => ?_⟩
            have hjr : (j : Int) ≤ bc 0 row := by omega
            have s4 := (same_new (H := H3) (o := .tup (row.map V.int ++ [.int ((0 : Int) + (j : Nat))])) nc)
            have s5 := s4.trans (same_new (o := .tup [.ref c1, .int (if (0 : Int) + (j : Nat) + 1 > bc 0 row then (0 : Int) + (j : Nat) + 1 else bc 0 row)]) nd)
            have eL5 := s5 _ _ eL3
            have l3 := iu3.1
            have l4 : ((List.range j).filter fun k : Nat => decide (max (bc 0 row) (((k : Nat) : Int) + 1) ≥ lo)).length ≤ j := Nat.le_trans (List.length_filter_le _ _) (by rw [List.length_range]; exact Nat.le_refl _)
            rw [List.length_append, List.length_map] at l3
            refine ⟨_, eL5, ?_, same_mut (s3.trans s5) nL, us3 ++ [d], ?_, ?_⟩
            · rw [List.length_map]
              exact small_of (by omega)
            · rw [upd_same, List.map_append]
              rfl
            · rw [rs, List.filter_append, List.filter_cons, if_pos (decide_eq_true c), List.filter_nil, List.map_append, ← List.append_assoc]
              refine ((iu3.mono s5).put eL5).snoc (PI2.put (show PI2 _ d _ from ⟨c1, ?_, ?_⟩) eL5)
              · rw [upd_same, bc_snoc, emx]
                congr 5
                split <;> omega
              · refine same_new nd _ _ ?_
                rw [upd_same, List.map_append, show (0 : Int) + (j : Nat) = (j : Nat) by omega]
                rfl
          · rw [decide_eq_false (show ¬ b - (((n + 1 : Nat) : Int) - 1 - (1 + ((i : Nat) : Int))) ≤ max (bc 0 row) ((j : Int) + 1) by omega)]
            refine iteF ⟨s3, us3, eL3, ?_⟩
            rw [rs, List.filter_append, List.filter_cons, if_neg (fun z => c (of_decide_eq_true z))]
            simp only [List.filter_nil, List.append_nil]
            exact iu3
        · rintro H3 ⟨s3, us3, eL3, h3⟩
          refine ⟨s3, us3, eL3, ?_⟩
          rw [flat_take (extB lo b) hrow]
          exact h3
      · rintro H2 ⟨s2, us, eL, iu⟩
        rw [List.length_map, its.1, List.take_length] at iu
        refine ⟨L, _, _, us, rfl, sm.trans s2, eL, ?_⟩
        rw [stp]
        exact iu
    · rintro σ H1 ⟨l, y3, y4, ts, rfl, sm, el, its⟩
      have en : (((n + 1 : Nat) : Int) - 1).toNat = n := by omega
      rw [en] at its
      have cnt : (into n b n).length ≤ 4140 := Nat.le_trans (List.length_filter_le _ _) (allP_count ⟨n, hn⟩)
      refine ⟨_, rfl, l, rfl, ⟨_, .inl (.inl el)⟩, fun G nG => ?_⟩
      refine lc_list (K := K) (a := l) (xs := ts.map V.ref) (fun k H3 => Same H1 H3 ∧ ∃ us : List Addr, H3 G = some (.lst (us.map V.ref)) ∧ Its H3 us ((into n b n).take k))
        ⟨same_new nG, [], upd_same, Its.nil⟩ (fun k H3 _ ⟨s3, _⟩ => .inl (.inl (s3 _ _ el))) ?_ ?_
      · rintro k v H3 hk ⟨s3, us, eG, it⟩
        obtain ⟨t, ht, rfl⟩ := map_at hk
        obtain ⟨row, hrow, r, et, er⟩ := its.2 k t ht
        have er3 : TI H3 r row := er.mono s3
        have lu := it.1
        rw [List.length_take] at lu
        refine ⟨t, _, rfl, .inl (.inl (s3 _ _ et)), rfl, _, _, rfl, _, [], rfl, rfl, ?_⟩
        refine ⟨rfl, _, rfl, _, eG, ?_, same_mut s3 nG, us ++ [r], ?_, ?_⟩
        · rw [List.length_map]
          exact small_of (by omega)
        · rw [upd_same, List.map_append]
          rfl
        · rw [take_snoc hrow]
          exact (it.put eG).app (Its.one (show TI _ r _ from by
            have hr4 : H3 r = some (.tup _) := er3
            show upd H3 G _ r = _
            rw [upd_ne (fun e => by rw [← e, hr4] at eG; cases eG)]
            exact hr4))
      rintro H3 ⟨s3, us, eG, it⟩
      rw [List.length_map, its.1, List.take_length] at it
      refine ⟨G, _, rfl, .inl ⟨.inl (.inl eG), fun t nt => ?_⟩⟩
      have sn := same_new (H := H3) (o := .tup (us.map V.ref)) nt
      exact q _ t (sm.trans (s3.trans sn)) ⟨us, upd_same, it.mono sn⟩
theorem bc_pos {p : List Int} (par : Par p) : 1 ≤ bc 0 p := by
  obtain ⟨x, hx⟩ := List.exists_mem_of_ne_nil p par.ne
  have := (rg_mem 0 p (Int.le_refl _) par.rg).1 x hx
  omega
abbrev s_turned_lot : Stmt := topS 26
theorem sc_turned_lot : FnScope ["lot", "number", "sizes", "parting"] ["lot", "number"] (defScope s_turned_lot) := ⟨rfl, rfl, rfl, by decide +kernel, rfl, by decide +kernel, by decide +kernel⟩
def spTurnLot : Sp := fun vs H Q _ => ∃ (l : Addr) (L : List (List Int)) (n : Nat), vs = [.ref l, .int ((n + 1 : Nat) : Int)] ∧ TL H l L ∧ LotP n L ∧ n < 8 ∧ L.length ≤ 4140 ∧ ∀ H' t, Same H H' → TT H' t (turnB n L) → Q (.ref t) H'
theorem ok_turned_lot (D : DefAt K mg "turned_lot" s_turned_lot) (T : Bt mg) (u_block_count : Use P w K mg base "block_count" 1 ["parting"] spCount) (u_partings_of_doors : Use P w K mg base "partings_of_doors" 1 ["doors"] spPofD) (u_partings_into : Use P w K mg base "partings_into" 1 ["doors", "blocks"] spInto)
    (u_has_no_rings : Use P w K mg base "has_no_rings" 4 ["parting", "lot"] spNoRings) : Use P w K mg base "turned_lot" 6 ["lot", "number"] spTurnLot := by
  refine use_of D (fun f fd F => F.ok sc_turned_lot (fun vs H Q E h => ?_) (fun cdv A outer s H vs Q E hr h => ?_)) (fun _ _ _ _ _ _ us hl => match us, hl with | [_, _], _ => rfl)
  · obtain ⟨l, L, n, rfl, _⟩ := h
    rfl
  · obtain ⟨l, L, n, rfl, ⟨ts, el, its⟩, hL, n8, l4, q⟩ := h
    refine ⟨_, (pss_cons (ps_if (pt_cmpR op_eq (pe_callB (k_len (K := K) rfl) (by rfl) T.len PySem.boot_len (pa_cons (pv 0) pa_nil)) pe_int (nomark _)) (pss_one (ps_ret (pe_use u_partings_of_doors (by decide) hr (by rfl) (pa_cons (pv 1) pa_nil)))) pss_nil)
      (pss_cons (ps_setLc (i := 2) (own := [("parting", 3)]) rfl sc_turned_lot.nd rfl rfl (sw_true rfl rfl rfl (by decide +kernel)) (k_tup (K := K) rfl (pv 0)) (blkOk_by (N := ["lot", "number", "sizes", "parting"]) (sc := defScope s_turned_lot) (by decide +kernel)) (fun _ _ _ _ _ => (pg_name (i := 3) sc_turned_lot.nd rfl (Or.inl rfl))) (fun _ _ _ _ _ => pts_nil) (fun _ _ _ _ _ => (pe_use u_block_count (by decide) hr (by rfl) (pa_cons (pv 3) pa_nil))))
      (pss_cons (ps_if (pt_cmpR op_ne (pe_callB (k_min (K := K) rfl rfl) (by rfl) T.min (by decide +kernel) (pa_cons (pv 2) pa_nil)) (pe_callB (k_max (K := K) rfl rfl) (by rfl) T.max (by decide +kernel) (pa_cons (pv 2) pa_nil)) (nomark _)) (pss_one (ps_ret (pe_tup pa_nil))) pss_nil)
      (pss_one (ps_ret (pe_callTy (k_tupOf (K := K) rfl) (by rfl) T.tuple (by decide +kernel) (pa_cons (pe_lc (own := [("parting", 3)]) rfl sc_turned_lot.nd (k_tup (K := K) rfl (pe_use u_partings_into (by decide) hr (by rfl) (pa_cons (pv 1) (pa_cons (pe_op op_sub (pe_op op_add (pv 1) pe_int) (pe_ix (k_ixl (K := K) rfl) (pv 2) pe_int (fun _ _ => rfl))) pa_nil)))) (blkOk_by (N := ["lot", "number", "sizes", "parting"]) (sc := defScope s_turned_lot) (by decide +kernel)) (fun _ _ _ _ _ => (pg_name (i := 3) sc_turned_lot.nd rfl (Or.inl rfl))) (fun _ _ _ _ _ => (pts_one (pt_val (pe_use u_has_no_rings (by decide) hr (by rfl) (pa_cons (pv 3) (pa_cons (pv 0) pa_nil)))))) (fun _ _ _ _ _ => (pv 3))) pa_nil))))))), ?_⟩
    have its : Its H ts L := its
    refine ⟨_, rfl, l, _, rfl, .inr (rdT el), rfl, _, rfl, ?_⟩
    rw [List.length_map, its.1]
    by_cases e : L = []
    · rw [decide_eq_true (by rw [e]; rfl)]
      exact iteT ⟨_, rfl, n, rfl, n8, fun H1 t1 s1 h1 => q H1 t1 s1 (by rw [e, turn_nil]; exact h1)⟩
    obtain ⟨x0, hx0⟩ : ∃ x0, L[0]? = some x0 := by
      cases L with
      | nil => exact absurd rfl e
      | cons x r => exact ⟨x, rfl⟩
    have pos : 0 < L.length := (List.getElem?_eq_some_iff.mp hx0).1
    have hx0m := List.mem_of_getElem? hx0
    rw [decide_eq_false (fun z => by have := V.int.inj z; omega)]
    refine iteF ?_
    refine ⟨_, rfl, l, rfl, ⟨_, rdT el⟩, fun S nS => ?_⟩
    refine lc_tup (K := K) (a := l) (xs := ts.map V.ref) (fun k H3 => Same H H3 ∧ H3 S = some (.lst (((L.map (bc 0)).take k).map V.int)))
      ⟨same_new nS, upd_same⟩ (fun k H3 _ ⟨s3, _⟩ => rdT (el.mono s3)) ?_ ?_
    · rintro k v H3 hk ⟨s3, eS⟩
      obtain ⟨t, ht, rfl⟩ := map_at hk
      obtain ⟨row, hrow, er⟩ := its.2 k t ht
      refine ⟨rfl, _, rfl, t, row, rfl, er.mono s3, (hL row (List.mem_of_getElem? hrow)).1, _, eS, ?_, same_mut s3 nS, ?_⟩
      · rw [List.length_map, List.length_take, List.length_map]
        exact small_of (by omega)
      · rw [upd_same, take_snoc (x := bc 0 row) (by rw [List.getElem?_map, hrow]; rfl), List.map_append]
        rfl
    rintro H1 ⟨s1, eS⟩
    rw [List.length_map, its.1, ← List.length_map (f := bc 0), List.take_length] at eS
    have posM : 0 < (L.map (bc 0)).length := by rw [List.length_map]; exact pos
    refine ⟨_, rfl, S, _, rfl, .inl (.inl eS), posM, fun mn hmn hle => ⟨_, rfl, S, _, rfl, .inl (.inl eS), posM, fun mx hmx hge => ⟨rfl, _, rfl, ?_⟩⟩⟩
    obtain ⟨xn, hxn, rfl⟩ := List.mem_map.mp hmn
    obtain ⟨xx, hxx, rfl⟩ := List.mem_map.mp hmx
    by_cases e2 : bc 0 xn = bc 0 xx
    · rw [decide_eq_true (congrArg V.int e2)]
      refine iteF ?_
      have like : ∀ x ∈ L, bc 0 x = bc 0 x0 := fun x hx => by
        have h1 := hle _ (List.mem_map_of_mem hx)
        have h2 := hge _ (List.mem_map_of_mem hx)
        have h3 := hle _ (List.mem_map_of_mem hx0m)
        have h4 := hge _ (List.mem_map_of_mem hx0m)
        omega
      have b0 := bc_le 0 x0
      have b1 := (hL x0 hx0m).1
      have b2 := (hL x0 hx0m).2
      have b3 : 1 ≤ bc 0 x0 := bc_pos b1
      refine ⟨_, rfl, _, rfl, _, _, rfl, rfl, _, rfl, S, _, (0 : Int), .int (bc 0 x0), rfl, rfl, .inl (.inl eS), atI_of (i := 0) rfl (by rw [List.map_map, List.getElem?_map, hx0]; rfl), _, _, rfl, rfl, n, _, rfl, n8, by omega, by omega, fun H2 t2 s2 h2 => ?_⟩
      obtain ⟨us0, et, it0⟩ := h2
      have it0 : Its H2 us0 _ := it0
      rw [into_end] at it0
      have tl := turn_like hx0m hL like
      rw [show (n : Int) + 2 - bc 0 x0 = ((n + 1 : Nat) : Int) + 1 - bc 0 x0 by omega] at tl
      generalize hA : ((allP n).filter fun p => decide (bc 0 p = ((n + 1 : Nat) : Int) + 1 - bc 0 x0)) = A at it0 tl
      have inA : ∀ p ∈ A, Par p ∧ p.length = n + 1 := fun p hp => by
        rw [← hA] at hp
        exact allP_par (n := n) (by omega) p (List.mem_filter.mp hp).1
      have cnt : A.length ≤ 4140 := by
        rw [← hA]
        exact Nat.le_trans (List.length_filter_le _ _) (allP_count ⟨n, n8⟩)
      have el2 := (el.mono s1).mono s2
      have its2 := (its.mono s1).mono s2
      refine ⟨t2, rfl, ⟨_, sqT et⟩, fun G nG => ?_⟩
      refine lc_tup (K := K) (a := t2) (xs := us0.map V.ref) (fun k H3 => Same H2 H3 ∧ ∃ us : List Addr, H3 G = some (.lst (us.map V.ref)) ∧ Its H3 us ((A.take k).filter fun p => L.all fun x => ringB p x))
        ⟨same_new nG, [], upd_same, Its.nil⟩ (fun k H3 _ ⟨s3, _⟩ => sqT (s3 _ _ et)) ?_ ?_
      · rintro k v H3 hk ⟨s3, us, eG, it⟩
        obtain ⟨t, ht, rfl⟩ := map_at hk
        obtain ⟨row, hrow, er⟩ := it0.2 k t ht
        obtain ⟨rp, rl⟩ := inA row (List.mem_of_getElem? hrow)
        have fl : ((A.take k).filter fun p => L.all fun x => ringB p x).length ≤ (A.take k).length := List.length_filter_le _ _
        rw [List.length_take] at fl
        have tk : ((A.take (k + 1)).filter fun p => L.all fun x => ringB p x) = ((A.take k).filter fun p => L.all fun x => ringB p x) ++ if (L.all fun x => ringB row x) = true then [row] else [] := by
          rw [take_snoc hrow, List.filter_append]
          congr 1
          rw [List.filter_cons]
          rfl
        refine ⟨rfl, _, rfl, _, rfl, t, l, row, L, rfl, er.mono s3, ⟨ts, el2.mono s3, its2.mono s3⟩, rp, fun q hq => ⟨(hL q hq).1, by rw [(hL q hq).2, rl]⟩, fun H4 s4 => ⟨_, rfl, ?_⟩⟩
        cases hm : L.all (ringB row) with
        | true =>
          have eG4 := s4 _ _ eG
          refine ⟨_, rfl, _, eG4, ?_, same_mut (s3.trans s4) nG, us ++ [t], ?_, ?_⟩
          · rw [List.length_map, it.1]
            exact Nat.lt_of_le_of_lt (show _ ≤ 4140 by omega) (by decide)
          · rw [upd_same, List.map_append]
            rfl
          · rw [tk, if_pos hm]
            exact ((it.mono s4).put eG4).app (Its.one (show TI _ t _ from by
              have ht4 : H4 t = some (.tup _) := (er.mono s3).mono s4
              show upd H4 G _ t = _
              rw [upd_ne (fun e => by rw [← e, ht4] at eG4; cases eG4)]
              exact ht4))
        | false =>
          refine ⟨s3.trans s4, us, s4 _ _ eG, ?_⟩
          rw [tk, if_neg (by rw [show (L.all fun x => ringB row x) = L.all (ringB row) from rfl, hm]; decide), List.append_nil]
          exact it.mono s4
      rintro H3 ⟨s3, us, eG, it⟩
      rw [List.length_map, it0.1, List.take_length, ← tl] at it
      refine ⟨G, _, rfl, .inl ⟨sqL eG, fun t nt => ?_⟩⟩
      have sn := same_new (H := H3) (o := .tup (us.map V.ref)) nt
      exact q _ t ((s1.trans s2).trans (s3.trans sn)) ⟨us, upd_same, it.mono sn⟩
    · rw [decide_eq_false (fun z => e2 (V.int.inj z))]
      refine iteT ⟨Nat.zero_le _, fun t nt => q _ t (s1.trans (same_new nt)) ?_⟩
      rw [turn_unlike hxn hxx e2]
      exact ⟨[], upd_same, Its.nil⟩
theorem turn_len {n : Nat} (h : n < 8) (L : List (List Int)) : (turnB n L).length ≤ 4140 := Nat.le_trans (List.length_filter_le _ _) (allP_count ⟨n, h⟩)
abbrev s_closed_lot : Stmt := topS 28
theorem sc_closed_lot : FnScope ["lot", "number"] ["lot", "number"] (defScope s_closed_lot) := ⟨rfl, rfl, rfl, by decide +kernel, rfl, by decide +kernel, by decide +kernel⟩
def spCloseLot : Sp := fun vs H Q _ => ∃ (l : Addr) (L : List (List Int)) (n : Nat), vs = [.ref l, .int ((n + 1 : Nat) : Int)] ∧ TL H l L ∧ LotP n L ∧ n < 8 ∧ L.length ≤ 4140 ∧ ∀ H' t, Same H H' → TT H' t (turnB n (turnB n L)) → Q (.ref t) H'
theorem ok_closed_lot (D : DefAt K mg "closed_lot" s_closed_lot) (T : Bt mg) (u_turned_lot : Use P w K mg base "turned_lot" 6 ["lot", "number"] spTurnLot) : Use P w K mg base "closed_lot" 7 ["lot", "number"] spCloseLot := by
  refine use_of D (fun f fd F => F.ok sc_closed_lot (fun vs H Q E h => ?_) (fun cdv A outer s H vs Q E hr h => ?_)) (fun _ _ _ _ _ _ us hl => match us, hl with | [_, _], _ => rfl)
  · obtain ⟨l, L, n, rfl, _⟩ := h
    rfl
  · obtain ⟨l, L, n, rfl, hl, hL, n8, l4, q⟩ := h
    refine ⟨_, (pss_one (ps_ret (pe_use u_turned_lot (by decide) hr (by rfl) (pa_cons (pe_use u_turned_lot (by decide) hr (by rfl) (pa_cons (pv 0) (pa_cons (pv 1) pa_nil))) (pa_cons (pv 1) pa_nil))))), ?_⟩
    exact ⟨_, rfl, _, rfl, l, L, n, rfl, hl, hL, n8, l4, fun H1 t1 s1 h1 => ⟨_, rfl, t1, _, n, rfl, h1.tl, turn_lot (by omega) L, n8, turn_len n8 L, fun H2 t2 s2 h2 => q H2 t2 (s1.trans s2) h2⟩⟩
end
end KQ
namespace KQ
open PySem PySem.Spec PyProof.Rows L2 KR KM StX
theorem meetsB_snoc (L : List (List Int)) (q x : List Int) : meetsB (L ++ [q]) x = (meetsB L x && treeB x q) := by
  unfold meetsB
  rw [List.all_append]
  simp
section
variable {P : Program} {w : World} {K : PySem.W.Frag} {mg : Str → Option Value} {base : Heap}
abbrev s__law_met_all : Stmt := topS 45
theorem sc__law_met_all : FnScope ["lot", "many", "left", "one", "two"] ["lot", "many"] (defScope s__law_met_all) := ⟨rfl, rfl, rfl, by decide +kernel, rfl, by decide +kernel, by decide +kernel⟩
def spMetAll : Sp := fun vs H Q _ => ∃ (l : Addr) (L : List (List Int)) (n : Nat), vs = [.ref l, .int ((n + 1 : Nat) : Int)] ∧ TL H l L ∧ LotP n L ∧ n < 8 ∧ ∀ H' t, Same H H' → TT H' t (turnB n L) → Q (.ref t) H'
theorem ok_met_all (D : DefAt K mg "_law_met_all" s__law_met_all) (T : Bt mg) (u__law_partings : Use P w K mg base "_law_partings" 1 ["many"] spLParts) (u__law_meet : Use P w K mg base "_law_meet" 2 ["one", "two"] spMeets) :
    Use P w K mg base "_law_met_all" 3 ["lot", "many"] spMetAll := by
  refine use_of D (fun f fd F => F.ok sc__law_met_all (fun vs H Q E h => ?_) (fun cdv A outer s H vs Q E hr h => ?_)) (fun _ _ _ _ _ _ us hl => match us, hl with | [_, _], _ => rfl)
  · obtain ⟨l, L, n, rfl, _⟩ := h
    rfl
  · obtain ⟨l, L, n, rfl, ⟨ts, el, its⟩, hL, n8, q⟩ := h
    refine ⟨_, (pss_cons (ps_set (i := 2) sc__law_met_all.nd rfl (Or.inl rfl) (pe_use u__law_partings (by decide) hr (by rfl) (pa_cons (pv 1) pa_nil)))
      (pss_cons (ps_for PassesOwn.never rfl (k_tup (K := K) rfl (pv 0)) (pg_name (i := 3) sc__law_met_all.nd rfl (Or.inr rfl))
      (pss_one (ps_setLc (i := 2) (own := [("two", 4)]) rfl sc__law_met_all.nd rfl rfl (sw_true rfl rfl rfl (by decide +kernel)) (k_list (K := K) rfl (pv 2)) (blkOk_by (N := ["lot", "many", "left", "one", "two"]) (sc := defScope s__law_met_all) (by decide +kernel)) (fun _ _ _ _ _ => (pg_name (i := 4) sc__law_met_all.nd rfl (Or.inl rfl))) (fun _ _ _ _ _ => (pts_one (pt_val (pe_use u__law_meet (by decide) hr (by rfl) (pa_cons (pv 3) (pa_cons (pv 4) pa_nil)))))) (fun _ _ _ _ _ => (pv 4)))))
      (pss_one (ps_ret (pe_callTy (k_tupOf (K := K) rfl) (by rfl) T.tuple (by decide +kernel) (pa_cons (pv 2) pa_nil)))))), ?_⟩
    have its : Its H ts L := its
    have ap := allP_par (n := n) (by omega)
    have cnt : (allP n).length ≤ 4140 := allP_count ⟨n, n8⟩
    refine ⟨_, rfl, n, rfl, n8, fun H1 a s1 ⟨us, ea, it⟩ => ?_⟩
    have it : Its H1 us (allP n) := it
    refine ⟨_, rfl, l, rfl, ⟨_, rdT (el.mono s1)⟩, for_tup (K := K) (a := l) (xs := ts.map V.ref)
      (fun i σ H2 => ∃ (b : Addr) (y3 : Option V) (us : List Addr), σ = [some (.ref l), some (.int ((n + 1 : Nat) : Int)), some (.ref b), y3, none] ∧ Same H H2 ∧ H2 b = some (.lst (us.map V.ref)) ∧ Its H2 us ((allP n).filter (meetsB (L.take i))))
      ⟨a, none, us, rfl, s1, ea, ?_⟩ (fun i σ H2 _ ⟨_, _, _, _, sm, _⟩ => rdT (el.mono sm)) ?_ ?_⟩
    · rw [List.take_zero, show (allP n).filter (meetsB []) = allP n from List.filter_eq_self.mpr fun _ _ => rfl]
      exact it
    · rintro i v σ H2 hi ⟨b, y3, us, rfl, sm, eb, it⟩
      obtain ⟨t, ht, rfl⟩ := map_at hi
      obtain ⟨x, hx, tx⟩ := its.2 i t ht
      obtain ⟨px, lx⟩ := hL x (List.mem_of_getElem? hx)
      refine ⟨_, rfl, b, rfl, ⟨_, sqL eb⟩, fun G nG => ?_⟩
      refine lc_list (K := K) (a := b) (xs := us.map V.ref) (fun k H3 => Same H2 H3 ∧ ∃ ws : List Addr, H3 G = some (.lst (ws.map V.ref)) ∧ Its H3 ws ((((allP n).filter (meetsB (L.take i))).take k).filter fun z => treeB z x))
        ⟨same_new nG, [], upd_same, Its.nil⟩ (fun k H3 _ ⟨s3, _⟩ => sqL (s3 _ _ eb)) ?_ ?_
      · rintro k v H3 hk ⟨s3, ws, eG, iw⟩
        obtain ⟨u, hu, rfl⟩ := map_at hk
        obtain ⟨row, hrow, er⟩ := it.2 k u hu
        obtain ⟨rp, rl⟩ := ap row (List.mem_filter.mp (List.mem_of_getElem? hrow)).1
        have f1 : ((((allP n).filter (meetsB (L.take i))).take k).filter fun z => treeB z x).length ≤ (((allP n).filter (meetsB (L.take i))).take k).length := List.length_filter_le _ _
        have f2 : ((allP n).filter (meetsB (L.take i))).length ≤ (allP n).length := List.length_filter_le _ _
        rw [List.length_take] at f1
        have tk : (((allP n).filter (meetsB (L.take i))).take (k + 1)).filter (fun z => treeB z x) = (((allP n).filter (meetsB (L.take i))).take k).filter (fun z => treeB z x) ++ if treeB row x = true then [row] else [] := by
          rw [take_snoc hrow, List.filter_append]
          congr 1
          rw [List.filter_cons]
          rfl
        refine ⟨rfl, _, rfl, _, rfl, t, u, x, row, rfl, tx.mono (sm.trans s3), er.mono s3, px, rp, by omega, fun H4 c s4 hc => ⟨c, rfl, ?_⟩⟩
        have tb : c = true ↔ treeB row x = true := by
          rw [hc, ← treeB_ok px.rg rp.rg, treeB_flip px rp (by omega)]
        cases c with
        | true =>
          have eG4 := s4 _ _ eG
          refine ⟨_, rfl, _, eG4, ?_, same_mut (s3.trans s4) nG, ws ++ [u], ?_, ?_⟩
          · rw [List.length_map, iw.1]
            exact Nat.lt_of_le_of_lt (show _ ≤ 4140 by omega) (by decide)
          · rw [upd_same, List.map_append]
            rfl
          · rw [tk, if_pos (tb.mp rfl)]
            exact ((iw.mono s4).put eG4).app (Its.one (show TI _ u _ from by
              have ht4 : H4 u = some (.tup _) := (er.mono s3).mono s4
              show upd H4 G _ u = _
              rw [upd_ne (fun e => by rw [← e, ht4] at eG4; cases eG4)]
              exact ht4))
        | false =>
          refine ⟨s3.trans s4, ws, s4 _ _ eG, ?_⟩
          rw [tk, if_neg (fun z => by have := tb.mpr z; cases this), List.append_nil]
          exact iw.mono s4
      · rintro H3 ⟨s3, ws, eG, iw⟩
        rw [List.length_map, it.1, List.take_length, List.filter_filter] at iw
        refine ⟨G, _, ws, rfl, sm.trans s3, eG, ?_⟩
        rw [take_snoc hx, show (allP n).filter (meetsB (L.take i ++ [x])) = (allP n).filter (fun a => treeB a x && meetsB (L.take i) a) from List.filter_congr fun z _ => by rw [meetsB_snoc, Bool.and_comm]]
        exact iw
    · rintro σ H2 ⟨b, y3, us, rfl, sm, eb, it⟩
      rw [List.length_map, its.1, List.take_length] at it
      refine ⟨_, rfl, b, _, rfl, .inl ⟨sqL eb, fun t nt => ?_⟩⟩
      have sn := same_new (H := H2) (o := .tup (us.map V.ref)) nt
      exact q _ t (sm.trans sn) ⟨us, upd_same, it.mono sn⟩
end
end KQ
namespace KQ
open PySem PySem.Spec PyProof.Rows L2 KR KM StX
theorem k_notInD {X : Cx} {K : PySem.W.Frag} (hK : X.K = K) (hu : X.A.units + 65 < cLine) : OpR X (compareOp .NotIn) (rNotInD K) := by
  subst hK
  exact op_notInD hu
theorem room66 {k : Nat} {A : Around} (r : Room k A) : A.units + 65 < cLine := by
  have := r.un
  omega
abbrev rowD (xs : List Int) : PyData := .tuple (xs.map PyData.int)
theorem lay_rowD : ∀ xss : List (List Int), PyData.canLayAll0 (xss.map rowD) = true
  | [] => rfl
  | xs :: r => by
    rw [List.map_cons]
    simp only [PyData.canLayAll0, PyData.canLay0, lay0, lay_rowD r, Bool.and_self]
theorem depth_rowD : ∀ xss : List (List Int), PyData.depthAll (xss.map rowD) ≤ 1
  | [] => Nat.zero_le _
  | xs :: r => by
    rw [List.map_cons]
    have := depth_rowD r
    simp only [PyData.depthAll, PyData.depth, depth0]
    omega
theorem shaped_rowL (xss : List (List Int)) : SeqAt.shaped (.list (xss.map rowD)) = true := by
  have h1 : PyData.canLay0 (.list (xss.map rowD)) = true := by simp only [PyData.canLay0, lay_rowD]
  have h2 : PyData.depth (.list (xss.map rowD)) ≤ 64 := by
    have := depth_rowD xss
    simp only [PyData.depth]
    omega
  exact Bool.and_eq_true_iff.mpr ⟨h1, decide_eq_true h2⟩
theorem shaped_row (ns : List Int) : SeqAt.shaped (rowD ns) = true := by
  unfold SeqAt.shaped
  simp only [PyData.canLay0, lay0, PyData.depth, depth0]
  rfl
theorem any_rowD (xss : List (List Int)) (x : List Int) : ((xss.map rowD).any fun z => PyData.eqv z (rowD x)) = decide (x ∈ xss) := by
  induction xss with
  | nil => rfl
  | cons y r ih =>
    rw [List.map_cons, List.any_cons, ih, show PyData.eqv (rowD y) (rowD x) = decide (y = x) from eqv_ints y x]
    by_cases e : y = x
    · subst e
      simp
    · have e2 : ¬ x = y := fun q => e q.symm
      simp [e, e2]
theorem Its.take {H : Hp} {ts : List Addr} {xss : List (List Int)} (h : Its H ts xss) (k : Nat) : Its H (ts.take k) (xss.take k) := by
  refine ⟨by rw [List.length_take, List.length_take, h.1], fun i t ht => ?_⟩
  have il := (List.getElem?_eq_some_iff.mp ht).1
  rw [List.length_take] at il
  rw [List.getElem?_take_of_lt (by omega)] at ht
  obtain ⟨xs, hx, tx⟩ := h.2 i t ht
  exact ⟨xs, by rw [List.getElem?_take_of_lt (by omega)]; exact hx, tx⟩
section
variable {P : Program} {w : World} {K : PySem.W.Frag} {mg : Str → Option Value} {base : Heap}
abbrev s__law_lot_from : Stmt := topS 46
theorem sc__law_lot_from : FnScope ["rows", "n", "row"] ["rows"] (defScope s__law_lot_from) := ⟨rfl, rfl, rfl, by decide +kernel, rfl, by decide +kernel, by decide +kernel⟩
/-- the rows of a list, each once, ascending -/
def LotOf (rows L : List (List Int)) : Prop := L.Perm (firsts rows) ∧ L.Pairwise (fun x y => HT.lexLt y x = false)
def spLotFrom : Sp := fun vs H Q _ => ∃ (l : Addr) (ts : List Addr) (rows : List (List Int)), vs = [.ref l] ∧ H l = some (.lst (ts.map V.ref)) ∧ Its H ts rows ∧ (∀ r ∈ rows, r ≠ []) ∧ rows.length ≤ 1000 ∧ ∀ H' t L, Same H H' → TL H' t L → Bare H' t → LotOf rows L → Q (.ref t) H'
theorem ok_lot_from (D : DefAt K mg "_law_lot_from" s__law_lot_from) (T : Bt mg) : Use P w K mg base "_law_lot_from" 1 ["rows"] spLotFrom := by
  refine use_of D (fun f fd F => F.ok sc__law_lot_from (fun vs H Q E h => ?_) (fun cdv A outer s H vs Q E hr h => ?_)) (fun _ _ _ _ _ _ us hl => match us, hl with | [_], _ => rfl)
  · obtain ⟨l, ts, rows, rfl, _⟩ := h
    rfl
  · obtain ⟨l, ts, rows, rfl, el, its, ne, len, q⟩ := h
    refine ⟨_, (pss_one (ps_ret (pe_callTy (k_tupB (K := K) rfl) (by rfl) T.tuple (by decide +kernel) (pa_cons (pe_callB cr_sortedR (by rfl) T.sorted (by decide +kernel) (pa_cons (pe_lc (own := [("n", 1), ("row", 2)]) rfl sc__law_lot_from.nd (k_enum (K := K) rfl (by rfl) T.enumerate (pa_cons (pv 0) pa_nil)) (blkOk_by (N := ["rows", "n", "row"]) (sc := defScope s__law_lot_from) (by decide +kernel)) (fun _ _ _ _ _ => (k_gtup (K := K) (n := 2) rfl rfl (pgs_cons (pg_name (i := 1) sc__law_lot_from.nd rfl (Or.inl rfl)) (pgs_cons (pg_name (i := 2) sc__law_lot_from.nd rfl (Or.inl rfl)) pgs_nil)))) (fun _ _ _ _ _ => (pts_one (pt_cmpR (k_notInD (K := K) rfl (room66 hr)) (pv 2) (pe_slice (k_sll (K := K) rfl) (pv 0) po_none (po_some (pv 1))) (by rfl)))) (fun _ _ _ _ _ => (pv 2))) pa_nil)) pa_nil)))), ?_⟩
    refine ⟨_, rfl, l, _, rfl, sqL el, fun G nG => ?_⟩
    refine lc_enumL (K := K) (a := l) (xs := ts.map V.ref) (fun k H8 => Same H H8 ∧ ∃ us : List Addr, H8 G = some (.lst (us.map V.ref)) ∧ Its H8 us (firsts (rows.take k)))
      ⟨same_new nG, [], upd_same, Its.nil⟩ (fun k H8 _ ⟨s8, _⟩ => sqL (s8 _ _ el)) ?_ ?_
    · rintro k v T1 H8 hk ⟨s8, us, eG, iu⟩ hT
      obtain ⟨t, ht, rfl⟩ := map_at hk
      obtain ⟨x, hx, tx⟩ := its.2 k t ht
      have kl := (List.getElem?_eq_some_iff.mp ht).1
      have s9 : Same H8 (upd H8 T1 (.tup [.int (k : Nat), .ref t])) := same_new hT
      refine ⟨T1, _, rfl, .inl (.inl upd_same), rfl, _, _, rfl, _, [], rfl, rfl, ?_⟩
      have cutk : cutV (ts.map V.ref) none (some ((k : Nat) : Int)) = (ts.take k).map V.ref := by
        unfold cutV
        rw [HT.sIx_none, HT.sIx_nat, List.length_map, Nat.min_eq_left (by omega), List.drop_zero, Nat.sub_zero, List.map_take]
      have s89 := s8.trans s9
      refine ⟨rfl, _, rfl, _, rfl, _, rfl, _, rfl, l, _, rfl, sqL (s89 _ _ el), fun S nS => ?_⟩
      rw [cutk]
      have s10 := s89.trans (same_new (o := .lst ((ts.take k).map V.ref)) nS)
      have eG10 := (same_new (o := .lst ((ts.take k).map V.ref)) nS) _ _ (s9 _ _ eG)
      have iu10 := (iu.mono s9).mono (same_new (o := .lst ((ts.take k).map V.ref)) nS)
      refine ⟨rowD x, _, dp_ti (tx.mono s10), .lst (sqL upd_same) (dp_its ((its.take k).mono s10)), shaped_row _, shaped_rowL _, _, rfl, ?_⟩
      rw [any_rowD]
      have fs : firsts (rows.take (k + 1)) = ins (firsts (rows.take k)) x := by rw [take_snoc hx, firsts_snoc]
      by_cases hm : x ∈ rows.take k
      · rw [decide_eq_true hm]
        refine ⟨s10, us, eG10, ?_⟩
        rw [fs, show ins (firsts (rows.take k)) x = firsts (rows.take k) from if_pos ((mem_firsts _).mpr hm)]
        exact iu10
      · rw [decide_eq_false hm]
        refine ⟨_, rfl, _, eG10, ?_, same_mut s10 nG, us ++ [t], ?_, ?_⟩
        · have h1 := iu.1
          have h2 := firsts_le (rows.take k)
          rw [List.length_take] at h2
          rw [List.length_map]
          exact small_of (by omega)
        · rw [upd_same, List.map_append]
          rfl
        · rw [fs, show ins (firsts (rows.take k)) x = firsts (rows.take k) ++ [x] from if_neg (fun z => hm ((mem_firsts _).mp z))]
          exact (iu10.put eG10).app (Its.one (show TI _ t _ from by
            have ht4 : (upd (upd H8 T1 (.tup [.int (k : Nat), .ref t])) S (.lst ((ts.take k).map V.ref))) t = some (.tup _) := tx.mono s10
            show upd _ G _ t = _
            rw [upd_ne (fun e => by rw [← e, ht4] at eG10; cases eG10)]
            exact ht4))
    rintro H8 ⟨s8, us, eG, iu⟩
    rw [List.length_map, its.1, List.take_length] at iu
    refine ⟨G, us, _, rfl, sqL eG, iu, fun r hr => ne r ((mem_firsts _).mp hr), fun ts' rows' l2 pm up its' nl2 => ?_⟩
    refine ⟨l2, _, rfl, sqL upd_same, fun t ob nt db => ?_⟩
    have sn := (same_new (H := H8) (o := .lst (ts'.map V.ref)) nl2).trans (same_new (o := .frz ob (.tup (ts'.map V.ref))) nt)
    exact q _ t rows' (s8.trans sn) ⟨ts', .inr ⟨ob, upd_same⟩, its'.mono sn⟩ ⟨ob, _, upd_same, db⟩ ⟨pm, up⟩
end
end KQ
namespace KQ
open PySem PySem.Spec PyProof.Rows L2 KR KM StX
section
variable {P : Program} {w : World} {K : PySem.W.Frag} {mg : Str → Option Value} {base : Heap}
def spOfA : Sp := fun vs H Q _ => ∃ (m c g : Addr) (b : Int) (l : Addr) (xs : List V), vs = [.ref m, .ref l] ∧ MS H m c g b ∧ b ≤ 1000000 ∧ H l = some (.lst xs) ∧ l ≠ g ∧ xs ≠ [] ∧ xs.length ≤ 1000000 ∧
  ∀ H' x, Kept H H' m g → MS H' m c g (b + 1) → x ∈ xs → Q x H'
theorem ok_ofA (D : DefAt K mg "_law_of" s__law_of) (T : Bt mg) (u__law_draw : Use P w K mg base "_law_draw" 2 ["m", "limit"] spDraw) : Use P w K mg base "_law_of" 3 ["m", "some"] spOfA := by
  refine use_of D (fun f fd F => F.ok sc__law_of (fun vs H Q E h => ?_) (fun cdv A outer s H vs Q E hr h => ?_)) (fun _ _ _ _ _ _ us hl => match us, hl with | [_, _], _ => rfl)
  · obtain ⟨m, c, g, b, l, xs, rfl, _⟩ := h
    rfl
  · obtain ⟨m, c, g, b, l, xs, rfl, ms, hb, el, lg, ne, hle, q⟩ := h
    refine ⟨_, (pss_one (ps_ret (pe_ix (k_ixl (K := K) rfl) (pv 1) (pe_use u__law_draw (by decide) hr (by rfl) (pa_cons (pv 0) (pa_cons (pe_callB (k_len (K := K) rfl) (by rfl) T.len PySem.boot_len (pa_cons (pv 1) pa_nil)) pa_nil))) (fun _ _ => rfl)))), ?_⟩
    have lm : l ≠ m := by
      obtain ⟨cs, gs, k, h1, h2, h3, r⟩ := ms
      intro e
      rw [e, h1] at el
      cases el
    have pos := List.length_pos_iff.mpr ne
    refine ⟨_, rfl, _, rfl, _, rfl, l, _, rfl, .inl (sqL el), m, c, g, b, _, rfl, ms, hb, by omega, by omega, fun H1 d k1 ms1 d0 d1 => ?_⟩
    obtain ⟨x, hx⟩ := at_some (xs := xs) (i := d.toNat) (by omega)
    exact ⟨l, _, d, x, rfl, rfl, sqL (k1 _ _ el lm lg), atI_of (j := d.toNat) (by omega) hx, q H1 x k1 ms1 (List.mem_of_getElem? hx)⟩
def spBent : Sp := fun vs H Q _ => ∃ (m c g : Addr) (b : Int) (a : Addr) (rs : List Int) (many : Int), vs = [.ref m, .ref a, .int many] ∧ MS H m c g b ∧ b ≤ 90000 ∧ TI H a rs ∧ rs.length ≤ 60 ∧ 1 ≤ many ∧ many ≤ 60 ∧
  ∀ H' l (ws : List V), Kept H H' m g → MS H' m c g (b + 100) → H' l = some (.lst ws) → l ≠ m → l ≠ g → ws.length ≤ 100 → (∀ v ∈ ws, Good H' [m, g] v) → Q (.ref l) H'
/-- told as it is being made -/
structure Tld (H : Hp) (m c g a : Addr) (rs : List Int) (B : Int) (n : Nat) (H' : Hp) (l : Addr) : Prop where
  kept : Kept H H' m g
  ms : MS H' m c g B
  row : TI H' a rs
  ex : ∃ ws : List V, H' l = some (.lst ws) ∧ ws.length ≤ n ∧ ∀ v ∈ ws, Good H' [l, m, g] v
  new : H l = none
  lm : l ≠ m
  lc : l ≠ c
  lg : l ≠ g
theorem Tld.put {H H' : Hp} {m c g a : Addr} {rs : List Int} {B : Int} {l : Addr} {n : Nat} {ws : List V} (hk : Kept H H' m g) (ms : MS H' m c g B) (row : TI H' a rs) (e : H' l = some (.lst ws)) (ln : ws.length ≤ n)
    (gd : ∀ v ∈ ws, Good H' [l, m, g] v) (nw : H l = none) (lm : l ≠ m) (lc : l ≠ c) (lg : l ≠ g) {v : V} (hv : Good H' [l, m, g] v) :
    Tld H m c g a rs B (n + 1) (upd H' l (.lst (ws ++ [v]))) l := by
  have kk : KeptS H' (upd H' l (.lst (ws ++ [v]))) [l, m, g] := fun x u hx hn => by
    rw [upd_ne (fun z => hn (by rw [z]; exact List.mem_cons_self))]
    exact hx
  have la : a ≠ l := fun z => by
    have : H' a = _ := row
    rw [z, e] at this
    cases this
  refine ⟨kept_mut hk nw, ms.put lm lc lg, ?_, ⟨ws ++ [v], upd_same, by rw [List.length_append]; show ws.length + 1 ≤ n + 1; omega, fun u hu => ?_⟩, nw, lm, lc, lg⟩
  · show upd H' l _ a = _
    rw [upd_ne la]
    exact row
  · rcases List.mem_append.mp hu with hu | hu
    · exact (gd u hu).kept kk
    · rw [List.mem_singleton.mp hu]
      exact hv.kept kk
theorem Kept.s {H H' : Hp} {m g : Addr} (k : Kept H H' m g) : KeptS H H' [m, g] := fun a u h n => k a u h (fun z => n (by rw [z]; simp)) (fun z => n (by rw [z]; simp))
theorem Kept.s3 {H H' : Hp} {l m g : Addr} (k : Kept H H' m g) : KeptS H H' [l, m, g] := fun a u h n => k a u h (fun z => n (by rw [z]; simp)) (fun z => n (by rw [z]; simp))
theorem ms_tup {H : Hp} {m c g : Addr} {b : Int} (ms : MS H m c g b) {a : Addr} {vs : List V} (h : H a = some (.tup vs)) : a ∉ [m, g] := by
  obtain ⟨cs, gs, k, h1, h2, h3, r⟩ := ms
  intro hm
  rcases List.mem_cons.mp hm with z | z
  · rw [z, h1] at h
    cases h
  · rw [List.mem_singleton.mp z, h3] at h
    cases h
theorem ms_tup3 {H : Hp} {m c g l : Addr} {b : Int} (ms : MS H m c g b) {a : Addr} {vs ws : List V} (hl : H l = some (.lst ws)) (h : H a = some (.tup vs)) : a ∉ [l, m, g] := by
  intro hm
  rcases List.mem_cons.mp hm with z | z
  · rw [z, hl] at h
    cases h
  · exact ms_tup ms h z
theorem ms_new3 {H : Hp} {m c g l : Addr} {b : Int} (ms : MS H m c g b) {a : Addr} {ws : List V} (hl : H l = some (.lst ws)) (h : H a = none) : a ∉ [l, m, g] := by
  have n := ms.ne h
  intro hm
  rcases List.mem_cons.mp hm with z | z
  · rw [z, hl] at h
    cases h
  · rcases List.mem_cons.mp z with z | z
    · exact n.1 z
    · exact n.2.2 (List.mem_singleton.mp z)
theorem shaped_intsT (ns : List Int) : SeqAt.shaped (.tuple (ns.map .int)) = true := by
  unfold SeqAt.shaped
  simp only [PyData.canLay0, lay0, PyData.depth, depth0]
  rfl
theorem eqv_nilT (ns : List Int) : (!PyData.eqv (.tuple (ns.map .int)) (.tuple [])) = !ns.isEmpty := by
  cases ns <;> rfl
end
end KQ
namespace KQ
open PySem PySem.Spec PyProof.Rows L2 KR KM StX
theorem units0 {k : Nat} {A : Around} (r : Room k A) : A.units < cLine := by
  have := r.un
  omega
theorem lexAt_shift {e r e' r' : Nat → Bool} {z : Bool} (he : ∀ j, e (j + 1) = e' j) (hr : ∀ j, r (j + 1) = r' j) : ∀ k i : Nat, Ob.lexAt e r z (i + 1) k = Ob.lexAt e' r' z i k
  | 0, i => rfl
  | k + 1, i => by
    rw [Ob.lexAt_succ, Ob.lexAt_succ, he, hr, lexAt_shift he hr k (i + 1)]
/-- one row at most as great as another one: the other one isn't less -/
theorem le_rows : ∀ ns ms : List Int, Ob.lexAt (fun j => decide (ns.getD j 0 = ms.getD j 0)) (fun j => decide (ns.getD j 0 ≤ ms.getD j 0)) (decide (ns.length ≤ ms.length)) 0 (min ns.length ms.length) = !HT.lexLt ms ns
  | [], [] => rfl
  | [], _ :: _ => rfl
  | _ :: _, [] => rfl
  | n :: ns, m :: ms => by
    rw [List.length_cons, List.length_cons, Nat.succ_min_succ, Ob.lexAt_succ, HT.lexLt_cons]
    show (if decide (n = m) = true then _ else decide (n ≤ m)) = _
    by_cases e : n = m
    · rw [if_pos (decide_eq_true e), if_pos e.symm, lexAt_shift (e' := fun j => decide (ns.getD j 0 = ms.getD j 0)) (r' := fun j => decide (ns.getD j 0 ≤ ms.getD j 0)) (fun j => rfl) (fun j => rfl)]
      have := le_rows ns ms
      rw [show decide (ns.length + 1 ≤ ms.length + 1) = decide (ns.length ≤ ms.length) from decide_eq_decide.mpr (by omega)]
      exact this
    · rw [if_neg (by simpa using e), if_neg (fun z => e z.symm)]
      by_cases c : n ≤ m
      · rw [decide_eq_true c, decide_eq_false (by omega)]
        rfl
      · rw [decide_eq_false c, decide_eq_true (by omega)]
        rfl
section
variable {P : Program} {w : World} {K : PySem.W.Frag} {mg : Str → Option Value} {base : Heap}
abbrev s_need_lot_doors : Stmt := topS 17
theorem sc_need_lot_doors : FnScope ["number"] ["number"] (defScope s_need_lot_doors) := ⟨rfl, rfl, rfl, by decide +kernel, rfl, by decide +kernel, by decide +kernel⟩
def spLotDoors : Sp := fun vs H Q _ => ∃ n : Nat, vs = [.int ((n + 1 : Nat) : Int)] ∧ n < 6 ∧ ∀ H', Same H H' → Q .non H'
theorem ok_need_lot_doors (D : DefAt K mg "need_lot_doors" s_need_lot_doors) (T : Bt mg) (c_MOST_LOT_DOORS : Cst mg "MOST_LOT_DOORS" 6) (u_is_integer_within : Use P w K mg base "is_integer_within" 2 ["value", "least", "most"] spIntW) : Use P w K mg base "need_lot_doors" 3 ["number"] spLotDoors := by
  refine use_of D (fun f fd F => F.ok sc_need_lot_doors (fun vs H Q E h => ?_) (fun cdv A outer s H vs Q E hr h => ?_)) (fun _ _ _ _ _ _ us hl => match us, hl with | [_], _ => rfl)
  · obtain ⟨n, rfl, _⟩ := h
    rfl
  · obtain ⟨n, rfl, h6, q⟩ := h
    refine ⟨_, (pss_one (ps_if (pt_not (pt_val (pe_use u_is_integer_within (by decide) hr (by rfl) (pa_cons (pv 0) (pa_cons pe_int (pa_cons (pe_cst (by rfl) c_MOST_LOT_DOORS) pa_nil)))))) (pss_one ps_never) pss_nil)), ?_⟩
    refine ⟨_, rfl, ((n + 1 : Nat) : Int), 1, 6, rfl, _, rfl, ?_⟩
    rw [decide_eq_true (show (1 : Int) ≤ ((n + 1 : Nat) : Int) ∧ ((n + 1 : Nat) : Int) ≤ 6 from ⟨by omega, by omega⟩)]
    exact q _ fun _ _ z => z
abbrev s_lot_fault : Stmt := topS 18
theorem sc_lot_fault : FnScope ["value", "number", "last", "parting"] ["value", "number"] (defScope s_lot_fault) := ⟨rfl, rfl, rfl, by decide +kernel, rfl, by decide +kernel, by decide +kernel⟩
/-- a lot told rightly -/
def LotT (n : Nat) (L : List (List Int)) : Prop := LotP n L ∧ (L.Pairwise fun x y => HT.lexLt x y = true) ∧ L.length ≤ 4140
def spFault : Sp := fun vs H Q _ => ∃ (l : Addr) (L : List (List Int)) (n : Nat), vs = [.ref l, .int ((n + 1 : Nat) : Int)] ∧ TL H l L ∧ LotT n L ∧ n < 6 ∧ ∀ H', Same H H' → Q .non H'
theorem ok_lot_fault (D : DefAt K mg "lot_fault" s_lot_fault) (T : Bt mg) (u_is_parting : Use P w K mg base "is_parting" 4 ["value"] spIsPar) : Use P w K mg base "lot_fault" 5 ["value", "number"] spFault := by
  refine use_of D (fun f fd F => F.ok sc_lot_fault (fun vs H Q E h => ?_) (fun cdv A outer s H vs Q E hr h => ?_)) (fun _ _ _ _ _ _ us hl => match us, hl with | [_, _], _ => rfl)
  · obtain ⟨l, L, n, rfl, _⟩ := h
    rfl
  · obtain ⟨l, L, n, rfl, ⟨ts, el, its⟩, ⟨hL, hup, _⟩, n6, q⟩ := h
    refine ⟨_, (pss_cons (ps_if (pt_not (pt_val (pe_callB (k_isi (K := K) rfl) (by rfl) T.isinstance (by decide +kernel) (pa_cons (pv 0) (pa_cons (pe_bltn (v := .ty "tuple") (by rfl) T.tuple (by decide +kernel) rfl) pa_nil))))) (pss_one (ps_ret pe_str)) pss_nil)
      (pss_cons (ps_set (i := 2) sc_lot_fault.nd rfl (Or.inl rfl) (pe_tup pa_nil))
      (pss_cons (ps_for PassesOwn.never rfl (k_tup (K := K) rfl (pv 0)) (pg_name (i := 3) sc_lot_fault.nd rfl (Or.inl rfl))
      (pss_cons (ps_if (PW.pt (pw_or (pt_not (pt_val (pe_use u_is_parting (by decide) hr (by rfl) (pa_cons (pv 3) pa_nil)))) (pw_or1 (pt_cmpR op_ne (pe_callB (k_len (K := K) rfl) (by rfl) T.len PySem.boot_len (pa_cons (pv 3) pa_nil)) (pv 1) (nomark _))))) (pss_one (ps_ret pe_str)) pss_nil)
      (pss_cons (ps_if (pt_cmpR (op_leT (units0 hr)) (pv 3) (pv 2) (nomark _)) (pss_one (ps_ret pe_str)) pss_nil)
      (pss_one (ps_set (i := 2) sc_lot_fault.nd rfl (Or.inl rfl) (pv 3))))))
      (pss_one (ps_ret pe_non))))), ?_⟩
    have its : Its H ts L := its
    refine ⟨_, rfl, _, _, _, _, true, rfl, .ty _, tyRd el, kit_ty (by decide +kernel), true, rfl, ?_⟩
    refine ⟨Nat.zero_le _, fun z0 nz => ?_⟩
    refine ⟨_, rfl, l, rfl, ⟨_, rdT (el.mono (same_new nz))⟩, for_tup (K := K) (a := l) (xs := ts.map V.ref)
      (fun i σ H1 => ∃ (y3 : Option V) (z : Addr) (ls : List Int), σ = [some (.ref l), some (.int ((n + 1 : Nat) : Int)), some (.ref z), y3] ∧ Same H H1 ∧ TI H1 z ls ∧ ∀ x, L[i]? = some x → HT.lexLt ls x = true)
      ⟨none, z0, [], rfl, same_new nz, upd_same, fun x hx => ?_⟩ (fun i σ H1 _ ⟨_, _, _, _, sm, _⟩ => rdT (el.mono sm)) ?_ ?_⟩
    · have := (hL x (List.mem_of_getElem? hx)).2
      cases x with
      | nil => cases this
      | cons a x => rfl
    · rintro i v σ H1 hi ⟨y3, z, ls, rfl, sm, tz, hlt⟩
      obtain ⟨t, ht, rfl⟩ := map_at hi
      obtain ⟨x, hx, tx⟩ := its.2 i t ht
      obtain ⟨px, lx⟩ := hL x (List.mem_of_getElem? hx)
      refine ⟨_, rfl, t, x, rfl, tx.mono sm, px, fun H2 s2 => ⟨_, rfl, ?_⟩⟩
      have s02 := sm.trans s2
      refine ⟨_, rfl, t, _, rfl, .inr (tx.mono s02).seq, _, rfl, rfl, _, rfl, ?_⟩
      rw [List.length_map, lx, decide_eq_true rfl]
      refine ⟨_, rfl, _, rfl, t, z, x, ls, rfl, rfl, (tx.mono s02).seq, (tz.mono s2).seq, _, rfl, ?_⟩
      rw [le_rows, hlt x hx]
      refine ⟨_, rfl, _, t, x, rfl, s02, tx.mono s02, fun y hy => ?_⟩
      have l1 := List.getElem?_eq_some_iff.mp hx
      have l2 := List.getElem?_eq_some_iff.mp hy
      rw [← l1.2, ← l2.2]
      exact List.pairwise_iff_getElem.mp hup i (i + 1) l1.1 l2.1 (by omega)
    · rintro σ H1 ⟨y3, z, ls, rfl, sm, tz, hlt⟩
      exact q _ sm
end
end KQ
namespace KQ
open PySem PySem.Spec PyProof.Rows L2 KR KM StX
theorem eqv_rowT : ∀ xss yss : List (List Int), PyData.eqvAll (xss.map rowD) (yss.map rowD) = decide (xss = yss)
  | [], [] => rfl
  | [], _ :: _ => rfl
  | _ :: _, [] => rfl
  | xs :: r, ys :: u => by
    rw [List.map_cons, List.map_cons]
    show (PyData.eqv (rowD xs) (rowD ys) && PyData.eqvAll (r.map rowD) (u.map rowD)) = _
    rw [eqv_rowT r u, show PyData.eqv (rowD xs) (rowD ys) = decide (xs = ys) from eqv_ints xs ys]
    by_cases e : xs = ys
    · subst e
      simp
    · simp [e]
theorem shaped_rowT (xss : List (List Int)) : SeqAt.shaped (.tuple (xss.map rowD)) = true := by
  have h1 : PyData.canLay0 (.tuple (xss.map rowD)) = true := by simp only [PyData.canLay0, lay_rowD]
  have h2 : PyData.depth (.tuple (xss.map rowD)) ≤ 64 := by
    have := depth_rowD xss
    simp only [PyData.depth]
    omega
  exact Bool.and_eq_true_iff.mpr ⟨h1, decide_eq_true h2⟩
section
variable {P : Program} {w : World} {K : PySem.W.Frag} {mg : Str → Option Value} {base : Heap}
abbrev s_look_at_lot : Stmt := topS 19
theorem sc_look_at_lot : FnScope ["lot", "number", "word"] ["lot", "number"] (defScope s_look_at_lot) := ⟨rfl, rfl, rfl, by decide +kernel, rfl, by decide +kernel, by decide +kernel⟩
theorem ok_look_at_lot (D : DefAt K mg "look_at_lot" s_look_at_lot) (T : Bt mg) (u_lot_fault : Use P w K mg base "lot_fault" 5 ["value", "number"] spFault) : Use P w K mg base "look_at_lot" 6 ["lot", "number"] spFault := by
  refine use_of D (fun f fd F => F.ok sc_look_at_lot (fun vs H Q E h => ?_) (fun cdv A outer s H vs Q E hr h => ?_)) (fun _ _ _ _ _ _ us hl => match us, hl with | [_, _], _ => rfl)
  · obtain ⟨l, L, n, rfl, _⟩ := h
    rfl
  · obtain ⟨l, L, n, rfl, hl, hL, n6, q⟩ := h
    refine ⟨_, (pss_cons (ps_set (i := 2) sc_look_at_lot.nd rfl (Or.inl rfl) (pe_use u_lot_fault (by decide) hr (by rfl) (pa_cons (pv 0) (pa_cons (pv 1) pa_nil))))
      (pss_one (ps_if (pt_cmpR op_notN (pv 2) pe_non (nomark _)) (pss_one ps_never) pss_nil))), ?_⟩
    exact ⟨_, rfl, _, rfl, l, L, n, rfl, hl, hL, n6, fun H1 s1 => ⟨_, rfl, rfl, _, rfl, q _ s1⟩⟩
abbrev s_need_lot : Stmt := topS 20
theorem sc_need_lot : FnScope ["lot", "number"] ["lot", "number"] (defScope s_need_lot) := ⟨rfl, rfl, rfl, by decide +kernel, rfl, by decide +kernel, by decide +kernel⟩
def spNeedLot : Sp := fun vs H Q _ => ∃ (l : Addr) (L : List (List Int)) (n : Nat), vs = [.ref l, .int ((n + 1 : Nat) : Int)] ∧ TL H l L ∧ LotT n L ∧ n < 6 ∧ ∀ H', Same H H' → TL H' l L → Q (.ref l) H'
theorem ok_need_lot (D : DefAt K mg "need_lot" s_need_lot) (T : Bt mg) (u_need_lot_doors : Use P w K mg base "need_lot_doors" 3 ["number"] spLotDoors) (u_look_at_lot : Use P w K mg base "look_at_lot" 6 ["lot", "number"] spFault) :
    Use P w K mg base "need_lot" 7 ["lot", "number"] spNeedLot := by
  refine use_of D (fun f fd F => F.ok sc_need_lot (fun vs H Q E h => ?_) (fun cdv A outer s H vs Q E hr h => ?_)) (fun _ _ _ _ _ _ us hl => match us, hl with | [_, _], _ => rfl)
  · obtain ⟨l, L, n, rfl, _⟩ := h
    rfl
  · obtain ⟨l, L, n, rfl, hl, hL, n6, q⟩ := h
    refine ⟨_, (pss_cons (ps_expr (pe_use u_need_lot_doors (by decide) hr (by rfl) (pa_cons (pv 1) pa_nil)))
      (pss_cons (ps_expr (pe_use u_look_at_lot (by decide) hr (by rfl) (pa_cons (pv 0) (pa_cons (pv 1) pa_nil))))
      (pss_one (ps_ret (pe_callTy (k_tupOf (K := K) rfl) (by rfl) T.tuple (by decide +kernel) (pa_cons (pv 0) pa_nil)))))), ?_⟩
    refine ⟨_, rfl, n, rfl, n6, fun H1 s1 => ?_⟩
    refine ⟨_, rfl, _, rfl, l, L, n, rfl, hl.mono s1, hL, n6, fun H2 s2 => ?_⟩
    obtain ⟨ts, el, its⟩ := hl
    have s02 := s1.trans s2
    exact ⟨_, rfl, l, _, rfl, .inr ⟨rdT (el.mono s02), q _ s02 (TL.mono ⟨ts, el, its⟩ s02)⟩⟩
abbrev s_turned : Stmt := topS 27
theorem sc_turned : FnScope ["lot", "number"] ["lot", "number"] (defScope s_turned) := ⟨rfl, rfl, rfl, by decide +kernel, rfl, by decide +kernel, by decide +kernel⟩
theorem ok_turned (D : DefAt K mg "turned" s_turned) (T : Bt mg) (u_need_lot : Use P w K mg base "need_lot" 7 ["lot", "number"] spNeedLot) (u_turned_lot : Use P w K mg base "turned_lot" 6 ["lot", "number"] spTurnLot) :
    Use P w K mg base "turned" 8 ["lot", "number"] (fun vs H Q _ => ∃ (l : Addr) (L : List (List Int)) (n : Nat), vs = [.ref l, .int ((n + 1 : Nat) : Int)] ∧ TL H l L ∧ LotT n L ∧ n < 6 ∧ ∀ H' t, Same H H' → TT H' t (turnB n L) → Q (.ref t) H') := by
  refine use_of D (fun f fd F => F.ok sc_turned (fun vs H Q E h => ?_) (fun cdv A outer s H vs Q E hr h => ?_)) (fun _ _ _ _ _ _ us hl => match us, hl with | [_, _], _ => rfl)
  · obtain ⟨l, L, n, rfl, _⟩ := h
    rfl
  · obtain ⟨l, L, n, rfl, hl, hL, n6, q⟩ := h
    refine ⟨_, (pss_one (ps_ret (pe_use u_turned_lot (by decide) hr (by rfl) (pa_cons (pe_use u_need_lot (by decide) hr (by rfl) (pa_cons (pv 0) (pa_cons (pv 1) pa_nil))) (pa_cons (pv 1) pa_nil))))), ?_⟩
    exact ⟨_, rfl, _, rfl, l, L, n, rfl, hl, hL, n6, fun H1 s1 h1 => ⟨_, rfl, l, L, n, rfl, h1, hL.1, by omega, hL.2.2, fun H2 t s2 h2 => q H2 t (s1.trans s2) h2⟩⟩
end
end KQ
namespace KQ
open PySem PySem.Spec PyProof.Rows L2 KR KM StX
/-- things that are no tuple -/
inductive NoTup (H : Hp) : V → Prop where
  | int (i : Int) : NoTup H (.int i)
  | bl (b : Bool) : NoTup H (.bl b)
  | non : NoTup H .non
  | str (x : Str) : NoTup H (.str x)
  | lst {a : Addr} {xs : List V} (h : H a = some (.lst xs)) : NoTup H (.ref a)
  | dK {a : Addr} {kvs : List (L2.Key × V)} (h : H a = some (.dK kvs)) : NoTup H (.ref a)
theorem NoTup.mono {H H' : Hp} {v : V} (o : NoTup H v) (s : Same H H') : NoTup H' v := by
  cases o with
  | int i => exact .int i
  | bl b => exact .bl b
  | non => exact .non
  | str x => exact .str x
  | lst h => exact .lst (s _ _ h)
  | dK h => exact .dK (s _ _ h)
theorem NoTup.odd {H : Hp} {v : V} (o : NoTup H v) : OddV H v := by
  cases o with
  | int i => exact .int i
  | bl b => exact .bl b
  | non => exact .non
  | str x => exact .str x
  | lst h => exact .lst h
  | dK h => exact .dK h
/-- a value looked at as a parting: its numbers, if it is a tuple of numbers -/
inductive PV (H : Hp) : V → Option (List Int) → Prop where
  | no {v : V} (h : NoTup H v) : PV H v none
  | row {a : Addr} {p : List Int} (h : H a = some (.tup (p.map V.int))) (l : p.length ≤ 1000) : PV H (.ref a) (some p)
  | bl {a : Addr} {b : Bool} {rest : List V} (h : H a = some (.tup (.bl b :: rest))) (l : rest.length ≤ 1000) : PV H (.ref a) none
theorem PV.mono {H H' : Hp} {v : V} {o : Option (List Int)} (h : PV H v o) (s : Same H H') : PV H' v o := by
  cases h with
  | no h => exact .no (h.mono s)
  | row h l => exact .row (s _ _ h) l
  | bl h l => exact .bl (s _ _ h) l
section
variable {P : Program} {w : World} {K : PySem.W.Frag} {mg : Str → Option Value} {base : Heap}
theorem NoTup.ty {H : Hp} {v : V} (o : NoTup H v) : ∃ T : String, TyX K H v (.type T) ∧ kitB T "tuple" = some false := by
  cases o with
  | int i => exact ⟨_, .base (.int i), by decide +kernel⟩
  | bl b => exact ⟨_, .base (.bl b), by decide +kernel⟩
  | non => exact ⟨_, .base .non, by decide +kernel⟩
  | str x => exact ⟨_, .base (.str x), by decide +kernel⟩
  | lst h => exact ⟨_, .base (.lst h), by decide +kernel⟩
  | dK h => exact ⟨_, .base (.dK h), by decide +kernel⟩
def spTupN : Sp := fun vs H Q _ => ∃ (v : V) (lo hi : Int), vs = [v, .int lo, .int hi] ∧ NoTup H v ∧ Q (.bl false) H
theorem ok_is_tuple_withinN (D : DefAt K mg "is_tuple_within" s_is_tuple_within) (T : Bt mg) : Use P w K mg base "is_tuple_within" 1 ["value", "least", "most"] spTupN := by
  refine use_of D (fun f fd F => F.ok sc_is_tuple_within (fun vs H Q E h => ?_) (fun cdv A outer s H vs Q E hr h => ?_)) (fun _ _ _ _ _ _ us hl => match us, hl with | [_, _, _], _ => rfl)
  · obtain ⟨v, lo, hi, rfl, _⟩ := h
    rfl
  · obtain ⟨v, lo, hi, rfl, o, q⟩ := h
    refine ⟨_, (pss_one (ps_ret (pe_and (pe_callB (k_isi (K := K) rfl) (by rfl) T.isinstance (by decide +kernel) (pa_cons (pv 0) (pa_cons (pe_bltn (v := .ty "tuple") (by rfl) T.tuple (by decide +kernel) rfl) pa_nil))) (pe_one (pe_chain op_le op_le (pv 1) (pe_callB (k_len (K := K) rfl) (by rfl) T.len PySem.boot_len (pa_cons (pv 0) pa_nil)) (pv 2)))))), ?_⟩
    obtain ⟨t, ty, kt⟩ := o.ty (K := K)
    exact ⟨_, rfl, _, _, _, _, false, rfl, .ty _, ty, kit_ty kt, false, rfl, iteF q⟩
/-- any tuple of numbers -/
def spFwbA : Sp := fun vs H Q _ => ∃ a p, vs = [.ref a] ∧ H a = some (.tup (p.map V.int)) ∧ ∀ H' r, Same H H' → ((r = V.non ∧ Rg 0 p) ∨ (∃ i, r = V.int i) ∧ ¬ Rg 0 p) → Q r H'
theorem rg_from (p : List Int) (h : ∀ i x, p[i]? = some x → 0 ≤ x ∧ x ≤ bc 0 (p.take i)) : Rg 0 p := by
  have : ∀ k, k ≤ p.length → Rg 0 (p.take k) := by
    intro k
    induction k with
    | zero => intro _; exact trivial
    | succ k ih =>
      intro hk
      have hx : p[k]? = some p[k] := List.getElem?_eq_getElem (by omega)
      rw [take_snoc hx, rg_app]
      obtain ⟨h0, h1⟩ := h k _ hx
      exact ⟨ih (by omega), h0, h1, trivial⟩
  have t := this p.length (Nat.le_refl _)
  rw [List.take_length] at t
  exact t
theorem ok_first_wrong_blockA (D : DefAt K mg "first_wrong_block" s_first_wrong_block) (T : Bt mg) :
    Use P w K mg base "first_wrong_block" 3 ["blocks"] spFwbA := by
  refine use_of D (fun f fd F => F.ok sc_first_wrong_block (fun vs H Q E h => ?_) (fun cdv A outer s H vs Q E hr h => ?_)) (fun _ _ _ _ _ _ us hl => match us, hl with | [_], _ => rfl)
  · obtain ⟨a, p, rfl, _⟩ := h
    rfl
  · obtain ⟨a, p, rfl, hp, q⟩ := h
    have hp : TI H a p := hp
    refine ⟨_, (pss_cons (ps_set (i := 1) sc_first_wrong_block.nd rfl (Or.inl rfl) pe_int)
      (pss_cons (ps_for PassesOwn.never rfl (k_enumT (K := K) rfl (by rfl) T.enumerate (pa_cons (pv 0) pa_nil)) (pg_tup rfl (pgs_cons (pg_name (i := 2) sc_first_wrong_block.nd rfl (Or.inl rfl)) (pgs_cons (pg_name (i := 3) sc_first_wrong_block.nd rfl (Or.inl rfl)) pgs_nil)))
      (pss_cons (ps_if (PW.pt (pw_or (pt_not (pt_val (pe_callB (k_isi (K := K) rfl) (by rfl) T.isinstance (by decide +kernel) (pa_cons (pv 3) (pa_cons (pe_bltn (v := .ty "int") (by rfl) T.int (by decide +kernel) rfl) pa_nil))))) (pw_or (pt_val (pe_callB (k_isi (K := K) rfl) (by rfl) T.isinstance (by decide +kernel) (pa_cons (pv 3) (pa_cons (pe_bltn (v := .ty "bool") (by rfl) T.bool (by decide +kernel) rfl) pa_nil)))) (pw_or (pt_cmpR op_lt (pv 3) pe_int (nomark _)) (pw_or1 (pt_cmpR op_gt (pv 3) (pv 1) (nomark _))))))) (pss_one (ps_ret (pv 2))) pss_nil)
      (pss_one (ps_if (pt_cmpR op_eq (pv 3) (pv 1) (nomark _)) (pss_one (ps_aug (i := 1) sc_first_wrong_block.nd rfl (Or.inl rfl) pe_int ip_add)) pss_nil))))
      (pss_one (ps_ret pe_non)))), ?_⟩
    refine ⟨_, rfl, a, _, rfl, hp.seq, for_enumT (K := K) (a := a) (xs := p.map V.int)
      (fun i σ H1 => ∃ y2 y3, σ = [some (.ref a), some (.int (bc 0 (p.take i))), y2, y3] ∧ Same H H1 ∧ ∀ j x, j < i → p[j]? = some x → 0 ≤ x ∧ x ≤ bc 0 (p.take j))
      ⟨none, none, rfl, Same.refl H, fun j x hj => absurd hj (Nat.not_lt_zero _)⟩ (fun i σ H1 ⟨_, _, _, sm, _⟩ => (hp.mono sm).seq) ?_ ?_⟩
    · rintro i v T1 σ H1 hi ⟨y2, y3, rfl, sm, ok⟩ hT
      obtain ⟨x, hx, rfl⟩ := map_at hi
      refine ⟨T1, _, rfl, .inl (.inl upd_same), rfl, _, _, rfl, _, [], rfl, rfl, ?_⟩
      have bad : ∀ r, ¬ (0 ≤ x ∧ x ≤ bc 0 (p.take i)) → ∀ H', Same H H' → Q (.int r) H' := fun r nr H' s' => q H' _ s' (.inr ⟨⟨_, rfl⟩, fun rg => nr (rg_at rg hx)⟩)
      refine ⟨_, rfl, _, _, _, _, true, rfl, .ty _, .base (.int x), kit_ty (by decide +kernel), true, rfl, iteF ?_⟩
      refine ⟨_, rfl, _, _, _, _, false, rfl, .ty _, .base (.int x), kit_ty (by decide +kernel), false, rfl, iteF ?_⟩
      refine ⟨_, rfl, x, 0, rfl, rfl, _, rfl, ?_⟩
      by_cases x0 : x < 0
      · rw [decide_eq_true x0]
        exact iteT ⟨_, rfl, bad _ (by omega) _ (sm.trans (same_new hT))⟩
      rw [decide_eq_false x0]
      refine iteF ⟨_, rfl, _, rfl, x, bc 0 (p.take i), rfl, rfl, _, rfl, ?_⟩
      by_cases x1 : x > bc 0 (p.take i)
      · rw [decide_eq_true x1]
        exact iteT ⟨_, rfl, bad _ (by omega) _ (sm.trans (same_new hT))⟩
      rw [decide_eq_false x1]
      have ok' : ∀ j y, j < i + 1 → p[j]? = some y → 0 ≤ y ∧ y ≤ bc 0 (p.take j) := fun j y hj hy => by
        by_cases e : j = i
        · subst e
          rw [hx] at hy
          obtain rfl := Option.some.inj hy
          exact ⟨by omega, by omega⟩
        · exact ok j y (by omega) hy
      refine iteF ?_
      · refine ⟨_, rfl, _, rfl, rfl, _, rfl, ite2 (fun e => ?_) (fun e => ?_)⟩
        · have e' : x = bc 0 (p.take i) := V.int.inj (of_decide_eq_true e)
          refine ⟨_, rfl, _, _, rfl, rfl, ?_⟩
          refine ⟨some (.int (i : Nat)), some (.int x), ?_, sm.trans (same_new hT), ok'⟩
          rw [bc_take hx, if_pos e']
          rfl
        · have e' : ¬ x = bc 0 (p.take i) := fun z => e (decide_eq_true (by rw [z]))
          refine ⟨some (.int (i : Nat)), some (.int x), ?_, sm.trans (same_new hT), ok'⟩
          rw [bc_take hx, if_neg e']
          rfl
    · rintro σ H1 ⟨y2, y3, rfl, sm, ok⟩
      refine q H1 _ sm (.inl ⟨rfl, rg_from p fun i x hx => ok i x ?_ hx⟩)
      rw [List.length_map]
      exact (List.getElem?_eq_some_iff.mp hx).1
/-- a truth at first -/
def spFwbB : Sp := fun vs H Q _ => ∃ a b rest, vs = [.ref a] ∧ H a = some (.tup (.bl b :: rest)) ∧ ∀ H' i, Same H H' → Q (.int i) H'
theorem ok_first_wrong_blockB (D : DefAt K mg "first_wrong_block" s_first_wrong_block) (T : Bt mg) :
    Use P w K mg base "first_wrong_block" 3 ["blocks"] spFwbB := by
  refine use_of D (fun f fd F => F.ok sc_first_wrong_block (fun vs H Q E h => ?_) (fun cdv A outer s H vs Q E hr h => ?_)) (fun _ _ _ _ _ _ us hl => match us, hl with | [_], _ => rfl)
  · obtain ⟨a, b, rest, rfl, _⟩ := h
    rfl
  · obtain ⟨a, b, rest, rfl, hp, q⟩ := h
    refine ⟨_, (pss_cons (ps_set (i := 1) sc_first_wrong_block.nd rfl (Or.inl rfl) pe_int)
      (pss_cons (ps_for PassesOwn.never rfl (k_enumT (K := K) rfl (by rfl) T.enumerate (pa_cons (pv 0) pa_nil)) (pg_tup rfl (pgs_cons (pg_name (i := 2) sc_first_wrong_block.nd rfl (Or.inl rfl)) (pgs_cons (pg_name (i := 3) sc_first_wrong_block.nd rfl (Or.inl rfl)) pgs_nil)))
      (pss_cons (ps_if (PW.pt (pw_or (pt_not (pt_val (pe_callB (k_isi (K := K) rfl) (by rfl) T.isinstance (by decide +kernel) (pa_cons (pv 3) (pa_cons (pe_bltn (v := .ty "int") (by rfl) T.int (by decide +kernel) rfl) pa_nil))))) (pw_or (pt_val (pe_callB (k_isi (K := K) rfl) (by rfl) T.isinstance (by decide +kernel) (pa_cons (pv 3) (pa_cons (pe_bltn (v := .ty "bool") (by rfl) T.bool (by decide +kernel) rfl) pa_nil)))) (pw_or (pt_cmpR op_lt (pv 3) pe_int (nomark _)) (pw_or1 (pt_cmpR op_gt (pv 3) (pv 1) (nomark _))))))) (pss_one (ps_ret (pv 2))) pss_nil)
      (pss_one (ps_if (pt_cmpR op_eq (pv 3) (pv 1) (nomark _)) (pss_one (ps_aug (i := 1) sc_first_wrong_block.nd rfl (Or.inl rfl) pe_int ip_add)) pss_nil))))
      (pss_one (ps_ret pe_non)))), ?_⟩
    refine ⟨_, rfl, a, _, rfl, sqT hp, for_enumT (K := K) (a := a) (xs := .bl b :: rest)
      (fun i σ H1 => ∃ y1 y2 y3, σ = [some (.ref a), y1, y2, y3] ∧ Same H H1 ∧ i = 0)
      ⟨some (.int 0), none, none, rfl, Same.refl H, rfl⟩ (fun i σ H1 ⟨_, _, _, _, sm, _⟩ => sqT (sm _ _ hp)) ?_ ?_⟩
    · rintro i v T1 σ H1 hi ⟨y1, y2, y3, rfl, sm, rfl⟩ hT
      obtain rfl : V.bl b = v := Option.some.inj hi
      refine ⟨T1, _, rfl, .inl (.inl upd_same), rfl, _, _, rfl, _, [], rfl, rfl, ?_⟩
      refine ⟨_, rfl, _, _, _, _, true, rfl, .ty _, .base (.bl b), kit_ty (by decide +kernel), true, rfl, iteF ?_⟩
      refine ⟨_, rfl, _, _, _, _, true, rfl, .ty _, .base (.bl b), kit_ty (by decide +kernel), true, rfl, iteT ?_⟩
      exact ⟨_, rfl, q _ _ (sm.trans (same_new hT))⟩
    · rintro σ H1 ⟨y1, y2, y3, rfl, sm, e⟩
      cases e
def spIsParA : Sp := fun vs H Q _ => ∃ v o, vs = [v] ∧ PV H v o ∧ ∀ H' c, Same H H' → (c = true ↔ ∃ p, o = some p ∧ Par p) → Q (.bl c) H'
theorem ok_is_partingA (D : DefAt K mg "is_parting" s_is_parting) (T : Bt mg) (c_MOST_DOORS : Cst mg "MOST_DOORS" 60) (u_tw : Use P w K mg base "is_tuple_within" 1 ["value", "least", "most"] (spTupW K))
    (u_twN : Use P w K mg base "is_tuple_within" 1 ["value", "least", "most"] spTupN) (u_fwA : Use P w K mg base "first_wrong_block" 3 ["blocks"] spFwbA) (u_fwB : Use P w K mg base "first_wrong_block" 3 ["blocks"] spFwbB) :
    Use P w K mg base "is_parting" 4 ["value"] spIsParA := by
  refine use_of D (fun f fd F => F.ok sc_is_parting (fun vs H Q E h => ?_) (fun cdv A outer s H vs Q E hr h => ?_)) (fun _ _ _ _ _ _ us hl => match us, hl with | [_], _ => rfl)
  · obtain ⟨v, o, rfl, _⟩ := h
    rfl
  · obtain ⟨v, o, rfl, pv, q⟩ := h
    cases pv with
    | no hn =>
      have u_is_tuple_within := u_twN
      have u_first_wrong_block := u_fwA
      refine ⟨_, (pss_one (ps_ret (pe_and (pe_use u_is_tuple_within (by decide) hr (by rfl) (pa_cons (pv 0) (pa_cons pe_int (pa_cons (pe_cst (by rfl) c_MOST_DOORS) pa_nil)))) (pe_one (pe_cmpR op_isN (pe_use u_first_wrong_block (by decide) hr (by rfl) (pa_cons (pv 0) pa_nil)) pe_non (nomark _)))))), ?_⟩
      refine ⟨_, rfl, v, 1, 60, rfl, hn, false, rfl, iteF ?_⟩
      exact q H false (Same.refl H) ⟨fun z => (by cases z), fun ⟨p, e, _⟩ => (by cases e)⟩
    | @row a p hp hl =>
      have u_is_tuple_within := u_tw
      have u_first_wrong_block := u_fwA
      refine ⟨_, (pss_one (ps_ret (pe_and (pe_use u_is_tuple_within (by decide) hr (by rfl) (pa_cons (pv 0) (pa_cons pe_int (pa_cons (pe_cst (by rfl) c_MOST_DOORS) pa_nil)))) (pe_one (pe_cmpR op_isN (pe_use u_first_wrong_block (by decide) hr (by rfl) (pa_cons (pv 0) pa_nil)) pe_non (nomark _)))))), ?_⟩
      have hti : TI H a p := hp
      refine ⟨_, rfl, a, p.map V.int, 1, 60, rfl, hti.seq, hti.ty, _, rfl, ?_⟩
      rw [List.length_map]
      by_cases hb : (1 : Int) ≤ (p.length : Int) ∧ (p.length : Int) ≤ 60
      · rw [decide_eq_true hb]
        have le60 : p.length ≤ 60 := by omega
        have ne0 : p ≠ [] := fun e => by rw [e] at hb; exact absurd hb.1 (by decide)
        refine iteT ⟨_, rfl, a, p, rfl, hp, fun H' r s' hr' => ?_⟩
        rcases hr' with ⟨rfl, rg⟩ | ⟨⟨i, rfl⟩, nrg⟩
        · exact ⟨rfl, q H' true s' ⟨fun _ => ⟨p, rfl, ne0, le60, rg⟩, fun _ => rfl⟩⟩
        · exact ⟨rfl, q H' false s' ⟨fun z => (by cases z), fun ⟨p', e, par⟩ => (by cases e; exact absurd par.rg nrg)⟩⟩
      · rw [decide_eq_false hb]
        refine iteF (q H false (Same.refl H) ⟨fun z => (by cases z), fun ⟨p', e, par⟩ => ?_⟩)
        cases e
        have h1 := par.le
        have h2 : p.length ≠ 0 := fun e => par.ne (List.eq_nil_of_length_eq_zero e)
        exact absurd ⟨by omega, by omega⟩ hb
    | @bl a b rest hp hl =>
      have u_is_tuple_within := u_tw
      have u_first_wrong_block := u_fwB
      refine ⟨_, (pss_one (ps_ret (pe_and (pe_use u_is_tuple_within (by decide) hr (by rfl) (pa_cons (pv 0) (pa_cons pe_int (pa_cons (pe_cst (by rfl) c_MOST_DOORS) pa_nil)))) (pe_one (pe_cmpR op_isN (pe_use u_first_wrong_block (by decide) hr (by rfl) (pa_cons (pv 0) pa_nil)) pe_non (nomark _)))))), ?_⟩
      refine ⟨_, rfl, a, _, 1, 60, rfl, sqT hp, .base (.tup hp), _, rfl, ?_⟩
      have no : ∀ H', Same H H' → Q (.bl false) H' := fun H' s' => q H' false s' ⟨fun z => (by cases z), fun ⟨p, e, _⟩ => (by cases e)⟩
      by_cases hb : (1 : Int) ≤ ((V.bl b :: rest).length : Int) ∧ ((V.bl b :: rest).length : Int) ≤ 60
      · rw [decide_eq_true hb]
        exact iteT ⟨_, rfl, a, b, rest, rfl, hp, fun H' i s' => ⟨rfl, no H' s'⟩⟩
      · rw [decide_eq_false hb]
        exact iteF (no H (Same.refl H))
end
end KQ
namespace KQ
open PySem PySem.Spec PyProof.Rows L2 KR KM StX
/-- what is wrong first with a value that is no lot of n + 1 doors -/
inductive LV (H : Hp) (n : Nat) : V → Str → Prop where
  | no {v : V} (h : NoTup H v) : LV H n v "tuple"
  | part {l : Addr} {ts : List Addr} {v : V} {rest : List V} {pre : List (List Int)} {o : Option (List Int)} (el : Rd H l (.tup (ts.map V.ref ++ v :: rest))) (its : Its H ts pre) (lp : LotP n pre)
      (up : pre.Pairwise fun x y => HT.lexLt x y = true) (pv : PV H v o) (bad : ∀ p, o = some p → Par p → p.length ≠ n + 1) : LV H n (.ref l) "parting"
  | order {l : Addr} {ts : List Addr} {t : Addr} {x y : List Int} {rest : List V} {pre : List (List Int)} (el : Rd H l (.tup (ts.map V.ref ++ .ref t :: rest))) (its : Its H ts pre) (lp : LotP n pre)
      (up : pre.Pairwise fun x y => HT.lexLt x y = true) (tx : TI H t x) (px : Par x) (lx : x.length = n + 1) (hy : pre.getLast? = some y) (bad : HT.lexLt y x = false) : LV H n (.ref l) "order"
theorem LV.mono {H H' : Hp} {n : Nat} {v : V} {word : Str} (h : LV H n v word) (s : Same H H') : LV H' n v word := by
  cases h with
  | no h => exact .no (h.mono s)
  | part el its lp up pv bad => exact .part (el.mono s) (its.mono s) lp up (pv.mono s) bad
  | order el its lp up tx px lx hy bad => exact .order (el.mono s) (its.mono s) lp up (tx.mono s) px lx hy bad
theorem LV.split {H : Hp} {n : Nat} {v : V} {word : Str} (h : LV H n v word) : (NoTup H v ∧ word = "tuple") ∨
    ∃ (l : Addr) (ts : List Addr) (e : V) (rest : List V) (pre : List (List Int)) (o : Option (List Int)), v = .ref l ∧ Rd H l (.tup (ts.map V.ref ++ e :: rest)) ∧ Its H ts pre ∧ LotP n pre ∧ (pre.Pairwise fun x y => HT.lexLt x y = true) ∧ PV H e o ∧
      ((word = "parting" ∧ ∀ p, o = some p → Par p → p.length ≠ n + 1) ∨ (word = "order" ∧ ∃ t x y, e = .ref t ∧ o = some x ∧ TI H t x ∧ Par x ∧ x.length = n + 1 ∧ pre.getLast? = some y ∧ HT.lexLt y x = false)) := by
  cases h with
  | no h => exact .inl ⟨h, rfl⟩
  | part el its lp up pv bad => exact .inr ⟨_, _, _, _, _, _, rfl, el, its, lp, up, pv, .inl ⟨rfl, bad⟩⟩
  | order el its lp up tx px lx hy bad => exact .inr ⟨_, _, _, _, _, _, rfl, el, its, lp, up, .row tx (by have := px.le; omega), .inr ⟨rfl, _, _, _, rfl, rfl, tx, px, lx, hy, bad⟩⟩
/-- what is refused: the number first -/
def spBad (CL CN : Addr) : Sp := fun vs H _ E => ∃ v u, vs = [v, u] ∧
  ((OddV H u ∧ inV u 1 6 = false ∧ ∀ H' d, Same H H' → H' d = some (.xd [("value", u)]) → E (.ref CN) (some d) H') ∨
  ∃ (n : Nat) (word : Str), u = .int ((n + 1 : Nat) : Int) ∧ n < 6 ∧ LV H n v word ∧ ∀ H' d, Same H H' → H' d = some (.xd [("word", .str word)]) → E (.ref CL) (some d) H')
section
variable {P : Program} {w : World} {K : PySem.W.Frag} {mg : Str → Option Value} {base : Heap}
def spDoorsX (CN : Addr) : Sp := fun vs H _ E => ∃ u, vs = [u] ∧ OddV H u ∧ inV u 1 6 = false ∧ ∀ H' d, Same H H' → H' d = some (.xd [("value", u)]) → E (.ref CN) (some d) H'
theorem ok_need_lot_doorsX {CN : Addr} (D : DefAt K mg "need_lot_doors" s_need_lot_doors) (T : Bt mg) (e_BadNumber : ErrC P w K mg base "BadNumber" CN "value") (c_MOST_LOT_DOORS : Cst mg "MOST_LOT_DOORS" 6)
    (u_is_integer_within : Use P w K mg base "is_integer_within" 2 ["value", "least", "most"] spIntWA) : UseX P w K mg base "need_lot_doors" 4 ["number"] (spDoorsX CN) := by
  refine usex_of D (fun f fd F => okX F sc_need_lot_doors (fun vs H Q E h => ?_) (fun cdv A outer s H vs Q E tk po hr h => ?_)) (fun _ _ _ _ _ _ us hl => match us, hl with | [_], _ => rfl)
  · obtain ⟨u, rfl, _⟩ := h
    rfl
  · obtain ⟨u, rfl, o, bad, q⟩ := h
    refine ⟨_, (pss_one (ps_if (pt_not (pt_val (pe_use u_is_integer_within (by decide) hr (by rfl) (pa_cons (pv 0) (pa_cons pe_int (pa_cons (pe_cst (by rfl) c_MOST_LOT_DOORS) pa_nil)))))) (pss_one (ps_raise rfl tk (pmk_err e_BadNumber (hr.mono (by decide)) (by rfl) (pa_cons (pv 0) pa_nil)))) pss_nil)), ?_⟩
    refine ⟨_, rfl, u, 1, 6, rfl, o, _, rfl, ?_⟩
    rw [bad]
    exact ⟨_, rfl, u, rfl, q⟩
def spFaultX : Sp := fun vs H Q _ => ∃ (v : V) (n : Nat) (word : Str), vs = [v, .int ((n + 1 : Nat) : Int)] ∧ n < 6 ∧ LV H n v word ∧ ∀ H', Same H H' → Q (.str word) H'
theorem ok_lot_faultX (D : DefAt K mg "lot_fault" s_lot_fault) (T : Bt mg) (u_is_parting : Use P w K mg base "is_parting" 4 ["value"] spIsParA) : Use P w K mg base "lot_fault" 5 ["value", "number"] spFaultX := by
  refine use_of D (fun f fd F => F.ok sc_lot_fault (fun vs H Q E h => ?_) (fun cdv A outer s H vs Q E hr h => ?_)) (fun _ _ _ _ _ _ us hl => match us, hl with | [_, _], _ => rfl)
  · obtain ⟨v, n, word, rfl, _⟩ := h
    rfl
  · obtain ⟨v, n, word, rfl, n6, lv, q⟩ := h
    refine ⟨_, (pss_cons (ps_if (pt_not (pt_val (pe_callB (k_isi (K := K) rfl) (by rfl) T.isinstance (by decide +kernel) (pa_cons (pv 0) (pa_cons (pe_bltn (v := .ty "tuple") (by rfl) T.tuple (by decide +kernel) rfl) pa_nil))))) (pss_one (ps_ret pe_str)) pss_nil)
      (pss_cons (ps_set (i := 2) sc_lot_fault.nd rfl (Or.inl rfl) (pe_tup pa_nil))
      (pss_cons (ps_for PassesOwn.never rfl (k_tup (K := K) rfl (pv 0)) (pg_name (i := 3) sc_lot_fault.nd rfl (Or.inl rfl))
      (pss_cons (ps_if (PW.pt (pw_or (pt_not (pt_val (pe_use u_is_parting (by decide) hr (by rfl) (pa_cons (pv 3) pa_nil)))) (pw_or1 (pt_cmpR op_ne (pe_callB (k_len (K := K) rfl) (by rfl) T.len PySem.boot_len (pa_cons (pv 3) pa_nil)) (pv 1) (nomark _))))) (pss_one (ps_ret pe_str)) pss_nil)
      (pss_cons (ps_if (pt_cmpR (op_leT (units0 hr)) (pv 3) (pv 2) (nomark _)) (pss_one (ps_ret pe_str)) pss_nil)
      (pss_one (ps_set (i := 2) sc_lot_fault.nd rfl (Or.inl rfl) (pv 3))))))
      (pss_one (ps_ret pe_non))))), ?_⟩
    rcases lv.split with ⟨hn, rfl⟩ | ⟨l, ts, e, rest, pre, o, rfl, el, its, lp, up, pv, fault⟩
    · obtain ⟨t, ty, kt⟩ := hn.ty (K := K)
      exact ⟨_, rfl, _, _, _, _, false, rfl, .ty _, ty, kit_ty kt, false, rfl, q H (Same.refl H)⟩
    refine ⟨_, rfl, _, _, _, _, true, rfl, .ty _, tyRd el, kit_ty (by decide +kernel), true, rfl, ?_⟩
    refine ⟨Nat.zero_le _, fun z0 nz => ?_⟩
    refine ⟨_, rfl, l, rfl, ⟨_, rdT (el.mono (same_new nz))⟩, for_tup (K := K) (a := l) (xs := ts.map V.ref ++ e :: rest)
      (fun i σ H1 => i ≤ ts.length ∧ ∃ (y3 : Option V) (z : Addr) (ls : List Int), σ = [some (.ref l), some (.int ((n + 1 : Nat) : Int)), some (.ref z), y3] ∧ Same H H1 ∧ TI H1 z ls ∧ ((i = 0 ∧ ls = []) ∨ ∃ j, i = j + 1 ∧ pre[j]? = some ls))
      ⟨Nat.zero_le _, none, z0, [], rfl, same_new nz, upd_same, .inl ⟨rfl, rfl⟩⟩ (fun i σ H1 _ ⟨_, _, _, _, _, sm, _⟩ => rdT (el.mono sm)) ?_ ?_⟩
    · rintro i v σ H1 hi ⟨hle, y3, z, ls, rfl, sm, tz, hls⟩
      by_cases hlt : i < ts.length
      · rw [List.getElem?_append_left (by rw [List.length_map]; exact hlt)] at hi
        obtain ⟨t, ht, rfl⟩ := map_at hi
        obtain ⟨x, hx, tx⟩ := its.2 i t ht
        obtain ⟨px, lx⟩ := lp x (List.mem_of_getElem? hx)
        refine ⟨_, rfl, .ref t, some x, rfl, .row (tx.mono sm) (by omega), fun H2 c s2 hc => ?_⟩
        have ct : c = true := hc.mpr ⟨x, rfl, px⟩
        subst ct
        refine ⟨_, rfl, ?_⟩
        have s02 := sm.trans s2
        refine ⟨_, rfl, t, _, rfl, .inr (tx.mono s02).seq, _, rfl, rfl, _, rfl, ?_⟩
        rw [List.length_map, lx, decide_eq_true rfl]
        refine ⟨_, rfl, _, rfl, t, z, x, ls, rfl, rfl, (tx.mono s02).seq, (tz.mono s2).seq, _, rfl, ?_⟩
        have hlx : HT.lexLt ls x = true := by
          rcases hls with ⟨rfl, rfl⟩ | ⟨j, rfl, hj⟩
          · cases x with
            | nil => cases lx
            | cons a x => rfl
          · have l1 := List.getElem?_eq_some_iff.mp hj
            have l2 := List.getElem?_eq_some_iff.mp hx
            rw [← l1.2, ← l2.2]
            exact List.pairwise_iff_getElem.mp up j (j + 1) l1.1 l2.1 (by omega)
        rw [le_rows, hlx]
        exact ⟨_, rfl, hlt, _, t, x, rfl, s02, tx.mono s02, .inr ⟨i, rfl, hx⟩⟩
      · have ei : i = ts.length := by omega
        rw [List.getElem?_append_right (by rw [List.length_map]; omega), List.length_map, ei, Nat.sub_self] at hi
        obtain rfl : e = v := Option.some.inj hi
        refine ⟨_, rfl, e, o, rfl, pv.mono sm, fun H2 c s2 hc => ?_⟩
        have s02 := sm.trans s2
        rcases fault with ⟨rfl, bad⟩ | ⟨rfl, t, x, y, rfl, rfl, tx, px, lx, hy, bad⟩
        · cases c with
          | false => exact ⟨_, rfl, q H2 s02⟩
          | true =>
            obtain ⟨p, rfl, par⟩ := hc.mp rfl
            cases pv with
            | @row t p hp hl =>
              have tp : TI H2 t p := s02 _ _ hp
              refine ⟨_, rfl, ?_⟩
              refine ⟨_, rfl, t, _, rfl, .inr tp.seq, _, rfl, rfl, _, rfl, ?_⟩
              have bp := bad p rfl par
              rw [List.length_map, decide_eq_false (fun z => bp (by have := V.int.inj z; omega))]
              exact q H2 s02
        · have ct : c = true := hc.mpr ⟨x, rfl, px⟩
          subst ct
          refine ⟨_, rfl, ?_⟩
          refine ⟨_, rfl, t, _, rfl, .inr (tx.mono s02).seq, _, rfl, rfl, _, rfl, ?_⟩
          rw [List.length_map, lx, decide_eq_true rfl]
          refine ⟨_, rfl, _, rfl, t, z, x, ls, rfl, rfl, (tx.mono s02).seq, (tz.mono s2).seq, _, rfl, ?_⟩
          have ely : ls = y := by
            rw [List.getLast?_eq_getElem?] at hy
            have hpl := (List.getElem?_eq_some_iff.mp hy).1
            have := its.1
            rcases hls with ⟨e0, _⟩ | ⟨j, ej, hj⟩
            · omega
            · rw [show pre.length - 1 = j by omega, hj] at hy
              exact Option.some.inj hy
          rw [le_rows, ely, bad]
          exact q H2 s02
    · rintro σ H1 ⟨hle, _⟩
      rw [List.length_append, List.length_map, List.length_cons] at hle
      omega
theorem ok_look_at_lotX {CL : Addr} (D : DefAt K mg "look_at_lot" s_look_at_lot) (T : Bt mg) (e_BadLot : ErrC P w K mg base "BadLot" CL "word") (u_lot_fault : Use P w K mg base "lot_fault" 5 ["value", "number"] spFaultX) :
    UseX P w K mg base "look_at_lot" 6 ["lot", "number"] (fun vs H _ E => ∃ (v : V) (n : Nat) (word : Str), vs = [v, .int ((n + 1 : Nat) : Int)] ∧ n < 6 ∧ LV H n v word ∧ ∀ H' d, Same H H' → H' d = some (.xd [("word", .str word)]) → E (.ref CL) (some d) H') := by
  refine usex_of D (fun f fd F => okX F sc_look_at_lot (fun vs H Q E h => ?_) (fun cdv A outer s H vs Q E tk po hr h => ?_)) (fun _ _ _ _ _ _ us hl => match us, hl with | [_, _], _ => rfl)
  · obtain ⟨v, n, word, rfl, _⟩ := h
    rfl
  · obtain ⟨v, n, word, rfl, n6, lv, q⟩ := h
    refine ⟨_, (pss_cons (ps_set (i := 2) sc_look_at_lot.nd rfl (Or.inl rfl) (pe_use u_lot_fault (by decide) hr (by rfl) (pa_cons (pv 0) (pa_cons (pv 1) pa_nil))))
      (pss_one (ps_if (pt_cmpR op_notN (pv 2) pe_non (nomark _)) (pss_one (ps_raise rfl tk (pmk_err e_BadLot (hr.mono (by decide)) (by rfl) (pa_cons (pv 2) pa_nil)))) pss_nil))), ?_⟩
    exact ⟨_, rfl, _, rfl, v, n, word, rfl, n6, lv, fun H1 s1 => ⟨_, rfl, rfl, _, rfl, _, rfl, .str word, rfl, fun H' d s' e => q H' d (s1.trans s') e⟩⟩
theorem ok_need_lotX {CL CN : Addr} (D : DefAt K mg "need_lot" s_need_lot) (T : Bt mg) (ux_d : UseX P w K mg base "need_lot_doors" 4 ["number"] (spDoorsX CN)) (u_need_lot_doors : Use P w K mg base "need_lot_doors" 3 ["number"] spLotDoors)
    (ux_look_at_lot : UseX P w K mg base "look_at_lot" 6 ["lot", "number"] (fun vs H _ E => ∃ (v : V) (n : Nat) (word : Str), vs = [v, .int ((n + 1 : Nat) : Int)] ∧ n < 6 ∧ LV H n v word ∧ ∀ H' d, Same H H' → H' d = some (.xd [("word", .str word)]) → E (.ref CL) (some d) H')) :
    UseX P w K mg base "need_lot" 7 ["lot", "number"] (spBad CL CN) := by
  refine usex_of D (fun f fd F => okX F sc_need_lot (fun vs H Q E h => ?_) (fun cdv A outer s H vs Q E tk po hr h => ?_)) (fun _ _ _ _ _ _ us hl => match us, hl with | [_, _], _ => rfl)
  · obtain ⟨v, u, rfl, _⟩ := h
    rfl
  · obtain ⟨v, u, rfl, ⟨o, bad, q⟩ | ⟨n, word, rfl, n6, lv, q⟩⟩ := h
    · have ux_need_lot_doors := ux_d
      refine ⟨_, (pss_cons (ps_expr (pe_usex ux_need_lot_doors tk (by decide) hr (by rfl) (pa_cons (pv 1) pa_nil)))
      (pss_cons (ps_expr (pe_usex ux_look_at_lot tk (by decide) hr (by rfl) (pa_cons (pv 0) (pa_cons (pv 1) pa_nil))))
      (pss_one (ps_ret (pe_callTy (k_tupOf (K := K) rfl) (by rfl) T.tuple (by decide +kernel) (pa_cons (pv 0) pa_nil)))))), ?_⟩
      exact ⟨_, rfl, u, rfl, o, bad, q⟩
    · have ux_need_lot_doors := u_need_lot_doors.up
      refine ⟨_, (pss_cons (ps_expr (pe_usex ux_need_lot_doors tk (by decide) hr (by rfl) (pa_cons (pv 1) pa_nil)))
      (pss_cons (ps_expr (pe_usex ux_look_at_lot tk (by decide) hr (by rfl) (pa_cons (pv 0) (pa_cons (pv 1) pa_nil))))
      (pss_one (ps_ret (pe_callTy (k_tupOf (K := K) rfl) (by rfl) T.tuple (by decide +kernel) (pa_cons (pv 0) pa_nil)))))), ?_⟩
      refine ⟨_, rfl, n, rfl, n6, fun H1 s1 => ?_⟩
      exact ⟨_, rfl, _, rfl, v, n, word, rfl, n6, lv.mono s1, fun H' d s' e => q H' d (s1.trans s') e⟩
theorem ok_turnedX {CL CN : Addr} (D : DefAt K mg "turned" s_turned) (T : Bt mg) (ux_need_lot : UseX P w K mg base "need_lot" 7 ["lot", "number"] (spBad CL CN)) (u_turned_lot : Use P w K mg base "turned_lot" 6 ["lot", "number"] spTurnLot) :
    UseX P w K mg base "turned" 8 ["lot", "number"] (spBad CL CN) := by
  refine usex_of D (fun f fd F => okX F sc_turned (fun vs H Q E h => ?_) (fun cdv A outer s H vs Q E tk po hr h => ?_)) (fun _ _ _ _ _ _ us hl => match us, hl with | [_, _], _ => rfl)
  · obtain ⟨v, u, rfl, _⟩ := h
    rfl
  · obtain ⟨v, u, rfl, h⟩ := h
    exact ⟨_, (pss_one (ps_ret (pe_use u_turned_lot (by decide) hr (by rfl) (pa_cons (pe_usex ux_need_lot tk (by decide) hr (by rfl) (pa_cons (pv 0) (pa_cons (pv 1) pa_nil))) (pa_cons (pv 1) pa_nil))))), ⟨_, rfl, _, rfl, v, u, rfl, h⟩⟩
end
end KQ
/-! written lots; lots that something meets -/
namespace KQ
open PySem PySem.Spec PyProof.Rows L2 KR KM StX
theorem met_ok : ∀ n : Fin 6, ((allP n.val).all fun p => (allP n.val).any fun r => treeB r p) = true := by decide +kernel
theorem some_met {n : Nat} (h : n < 6) {p : List Int} (par : Par p) (l : p.length = n + 1) : turnB n [p] ≠ [] := fun e => by
  have h1 := List.all_eq_true.mp (met_ok ⟨n, h⟩) p (allP_all n p par.rg l)
  obtain ⟨r, hr, ht⟩ := List.any_eq_true.mp h1
  have : r ∈ turnB n [p] := mem_turn.mpr ⟨hr, fun x hx => by rw [List.mem_singleton.mp hx]; exact ht⟩
  rw [e] at this
  cases this
theorem allP_up6 : ∀ n : Fin 6, (allP n.val).Pairwise fun x y => HT.lexLt x y = true := by decide +kernel
theorem turn_up {n : Nat} (h : n < 6) (L : List (List Int)) : (turnB n L).Pairwise fun x y => HT.lexLt x y = true := (allP_up6 ⟨n, h⟩).filter _
theorem few0 : turnB 0 [] = [[0]] := by decide +kernel
theorem few1 : turnB 0 (turnB 0 []) = [[0]] := by decide +kernel
theorem few2 : turnB 1 (turnB 1 []) = [] := by decide +kernel
theorem few3 : turnB 2 [[0, 0, 1]] = [[0, 1, 0], [0, 1, 1]] := by decide +kernel
theorem few4 : turnB 2 (turnB 2 [[0, 0, 1], [0, 1, 0]]) = [[0, 0, 1], [0, 1, 0]] := by decide +kernel
end KQ
/-! rows looked for in a tuple of rows; numbers counted -/
namespace KQ
open PySem PySem.Spec PyProof.Rows L2 KR KM StX
abbrev rowU (xs : List Int) : PySem.W.Tup Int := ⟨xs⟩
theorem toD_rowU (xss : List (List Int)) : (xss.map rowU).map PySem.W.Datum.toD = xss.map rowD := by
  rw [List.map_map]
  rfl
def rRowIx (K : PySem.W.Frag) : V → List V → Hp → VK → Prop := fun x xs H Q => ∃ (a t : Addr) (ts : List Addr) (xss : List (List Int)) (y : List Int), x = .ref a ∧ xs = [.ref t] ∧ SqT K H a (ts.map V.ref) ∧ Its H ts xss ∧ TI H t y ∧ y ∈ xss ∧
  ∀ j : Nat, xss[j]? = some y → Q (.int (j : Nat)) H
theorem mt_rowIx {X : Cx} (hu : X.A.units + 65 < cLine) : MtR X "tuple.index" (rRowIx X.K) := by
  intro pins s σ H x xs v us Q I rx rxs h
  obtain ⟨a, t, ts, xss, y, rfl, rfl, ha, its, ty, mem, q⟩ := h
  cases rx
  obtain ⟨u, rfl, ru⟩ := rxs.one
  obtain ⟨vs, rv, pt, hz⟩ := I.tuple ha
  obtain ⟨as, hr⟩ := Dp.reads I (rowD y) _ u (dp_ti ty) ru
  obtain ⟨bs, hrs⟩ := Dp.readsAll I (xss.map rowD) _ vs (dp_its its) rv
  have hall : PySem.W.HoldAll s.heap vs (xss.map rowU) := ⟨bs, by rw [toD_rowU]; exact hrs⟩
  have hone : PySem.W.Holds s.heap u (rowU y) := ⟨as, hr⟩
  have hm : rowU y ∈ xss.map rowU := List.mem_map.mpr ⟨y, mem, rfl⟩
  have hlt : (xss.map rowU).idxOf (rowU y) < (xss.map rowU).length := List.idxOf_lt_length_iff.mpr hm
  have hget := List.getElem_idxOf hlt
  refine PySem.W.index_tuple_datum pt hall hone (by show X.A.units + 1 + (0 + 1) < cLine; omega) hm ⟨.int ((xss.map rowU).idxOf (rowU y) : Nat), H, I.tok _, ⟨_, rfl⟩, q _ ?_⟩
  rw [List.length_map] at hlt
  rw [List.getElem_map] at hget
  rw [List.getElem?_eq_getElem hlt]
  exact congrArg some (PySem.W.Tup.mk.inj hget)
theorem k_rowIx {X : Cx} {K : PySem.W.Frag} (hK : X.K = K) (hu : X.A.units + 65 < cLine) : MtR X "tuple.index" (rRowIx K) := by
  subst hK
  exact mt_rowIx hu
theorem k_lcount {X : Cx} {K : PySem.W.Frag} (hK : X.K = K) : MtR X "list.count" (rCntI K) := by
  subst hK
  exact mt_lcount
def rNotInT : R2 := fun x y H Q => ∃ (t a : Addr) (p : List Int) (xss : List (List Int)), x = .ref t ∧ y = .ref a ∧ TI H t p ∧ TL H a xss ∧ Q (.bl (!decide (p ∈ xss))) H
theorem op_notInT {X : Cx} (hu : X.A.units + 65 < cLine) : OpR X (compareOp .NotIn) rNotInT := by
  intro pins s σ H x y v u Q I rx ry h
  obtain ⟨t, a, p, xss, rfl, rfl, tp, ta, q⟩ := h
  obtain ⟨as, r1⟩ := Dp.reads I (rowD p) _ v (dp_ti tp) rx
  obtain ⟨bs, r2⟩ := Dp.reads I (.tuple (xss.map rowD)) _ u (dp_tl ta) ry
  have h1 : PyData.canLay0 (rowD p) = true := SeqAt.canLay_of_shaped (shaped_row p)
  refine SeqAt.notIn_tuple_reads r2 r1 (lay_rowD xss) h1 ?_ ⟨.bl _, H, I, rfl, ?_⟩
  · have h2 : (rowD p).depth = 1 := by
      show PyData.depth (.tuple _) = 1
      simp only [PyData.depth, depth0]
    omega
  · rw [any_rowD]
    exact q
end KQ
namespace KQ
open PySem PySem.Spec PyProof.Rows L2 KR KM StX
theorem lotOf_mem {rows L : List (List Int)} (h : LotOf rows L) {x : List Int} : x ∈ L ↔ x ∈ rows := h.1.mem_iff.trans (mem_firsts rows)
theorem lotOf_lot {n : Nat} {rows L : List (List Int)} (h : LotOf rows L) (hp : LotP n rows) (len : rows.length ≤ 4140) : LotT n L := by
  refine ⟨fun q hq => hp q ((lotOf_mem h).mp hq), ?_, ?_⟩
  · have nd : L.Nodup := h.1.nodup_iff.mpr (firsts_nodup rows)
    refine (List.pairwise_and_iff.mpr ⟨h.2, nd⟩).imp fun {x y} hh => ?_
    cases e : HT.lexLt x y with
    | true => rfl
    | false => exact absurd (lex_eq x y e hh.1) hh.2
  · have h1 := h.1.length_eq
    have h2 := firsts_le rows
    omega
theorem turn_lotT {n : Nat} (h : n < 6) (L : List (List Int)) : LotT n (turnB n L) :=
  ⟨turn_lot (by omega) L, turn_up h L, Nat.le_trans (List.length_filter_le _ _) (allP_count ⟨n, by omega⟩)⟩
theorem ms_rd {H : Hp} {m c g a : Addr} {b : Int} {vs : List V} (ms : MS H m c g b) (h : Rd H a (.tup vs)) : a ≠ m ∧ a ≠ g := by
  obtain ⟨cs, gs, k, h1, h2, h3, r⟩ := ms
  exact ⟨h.ne h1 (fun _ z => by cases z) (fun _ _ z => by cases z), h.ne h3 (fun _ z => by cases z) (fun _ _ z => by cases z)⟩
theorem _root_.L2.Rd.kept {H H' : Hp} {m c g a : Addr} {b : Int} {vs : List V} (h : Rd H a (.tup vs)) (ms : MS H m c g b) (k : Kept H H' m g) : Rd H' a (.tup vs) := by
  obtain ⟨n1, n2⟩ := ms_rd ms h
  rcases h with h | ⟨o, h⟩
  · exact .inl (k _ _ h n1 n2)
  · exact .inr ⟨o, k _ _ h n1 n2⟩
theorem Bare.kept {H H' : Hp} {m c g a : Addr} {b : Int} (h : Bare H a) (ms : MS H m c g b) (k : Kept H H' m g) : Bare H' a := by
  obtain ⟨cs, gs, n, h1, h2, h3, r⟩ := ms
  obtain ⟨o, u, e, d⟩ := h
  exact ⟨o, u, k _ _ e (fun z => by rw [z, h1] at e; cases e) (fun z => by rw [z, h3] at e; cases e), d⟩
theorem allP_lotT {n : Nat} (h : n < 6) : LotT n (allP n) := by
  have := turn_lotT h []
  rw [turn_nil] at this
  exact this
section
variable {P : Program} {w : World} {K : PySem.W.Frag} {mg : Str → Option Value} {base : Heap}
abbrev s__law_parting : Stmt := topS 42
theorem sc__law_parting : FnScope ["m", "many", "door"] ["m", "many"] (defScope s__law_parting) := ⟨rfl, rfl, rfl, by decide +kernel, rfl, by decide +kernel, by decide +kernel⟩
def spLPar : Sp := fun vs H Q _ => ∃ m c g b many, vs = [.ref m, .int many] ∧ MS H m c g b ∧ b ≤ 900000 ∧ 1 ≤ many ∧ many ≤ 60 ∧
  ∀ H' t p, Kept H H' m g → MS H' m c g (b + many) → TI H' t p → Par p → p.length = many.toNat → Q (.ref t) H'
theorem ok_lparting (D : DefAt K mg "_law_parting" s__law_parting) (T : Bt mg) (u__law_draw : Use P w K mg base "_law_draw" 2 ["m", "limit"] spDraw)
    (u__law_numbered : Use P w K mg base "_law_numbered" 1 ["labels"] spNumL) : Use P w K mg base "_law_parting" 3 ["m", "many"] spLPar := by
  refine use_of D (fun f fd F => F.ok sc__law_parting (fun vs H Q E h => ?_) (fun cdv A outer s H vs Q E hr h => ?_)) (fun _ _ _ _ _ _ us hl => match us, hl with | [_, _], _ => rfl)
  · obtain ⟨m, c, g, b, many, rfl, _⟩ := h
    rfl
  · obtain ⟨m, c, g, b, many, rfl, ms, hb, m1, m2, q⟩ := h
    refine ⟨_, (pss_one (ps_ret (pe_use u__law_numbered (by decide) hr (by rfl) (pa_cons (pe_lc (own := [("door", 2)]) rfl sc__law_parting.nd (pi_range1 (by rfl) T.range (pa_cons (pv 1) pa_nil)) (blkOk_by (N := ["m", "many", "door"]) (sc := defScope s__law_parting) (by decide +kernel)) (fun _ _ _ _ _ => (pg_name (i := 2) sc__law_parting.nd rfl (Or.inl rfl))) (fun _ _ _ _ _ => pts_nil) (fun _ _ _ _ _ => (pe_use u__law_draw (by decide) hr (by rfl) (pa_cons (pv 0) (pa_cons (pv 1) pa_nil))))) pa_nil)))), ?_⟩
    refine ⟨_, rfl, _, rfl, by omega, by omega, fun L nL => ?_⟩
    have Ln := ms.ne nL
    refine lc_range (fun i H2 => (∃ xs : List Int, H2 L = some (.lst (xs.map V.int)) ∧ xs.length = i) ∧ Kept H H2 m g ∧ MS H2 m c g (b + (i : Nat)))
      ⟨⟨[], upd_same, rfl⟩, Kept.of (same_new nL), by simpa using ms.put Ln.1 Ln.2.1 Ln.2.2⟩ ?_ ?_
    · rintro i H2 hi ⟨⟨xs, eL, lx⟩, k2, ms2⟩
      refine ⟨rfl, _, rfl, _, rfl, m, c, g, _, _, rfl, ms2, by omega, by omega, by omega, fun H3 e k3 ms3 e0 e1 => ?_⟩
      have eL3 := k3 L _ eL Ln.1 Ln.2.2
      refine ⟨_, eL3, ?_, ⟨xs ++ [e], ?_, ?_⟩, ?_, ?_⟩
      · rw [List.length_map, lx]
        exact small_of (by omega)
      · rw [upd_same, List.map_append]
        rfl
      · rw [List.length_append, lx]
        rfl
      · exact kept_mut (k2.trans k3) nL
      · rw [show b + ((i + 1 : Nat) : Int) = b + (i : Nat) + 1 by omega]
        exact ms3.put Ln.1 Ln.2.1 Ln.2.2
    · rintro H2 ⟨⟨xs, eL, lx⟩, k2, ms2⟩
      refine ⟨L, xs, rfl, eL, by omega, fun H3 t s3 ht => ?_⟩
      refine q H3 t (num xs) (k2.trans (Kept.of s3)) ?_ ht (num_par ?_ (by omega)) (by rw [num_len, lx])
      · have := ms2.mono s3
        rw [show (((many.toNat : Nat)) : Int) = many by omega] at this
        exact this
      · intro e
        rw [e] at lx
        simp at lx
        omega
def spOfT : Sp := fun vs H Q _ => ∃ (m c g : Addr) (b : Int) (l : Addr) (L : List (List Int)), vs = [.ref m, .ref l] ∧ MS H m c g b ∧ b ≤ 1000000 ∧ TL H l L ∧ L ≠ [] ∧ L.length ≤ 1000000 ∧
  ∀ H' t x, Kept H H' m g → MS H' m c g (b + 1) → x ∈ L → TI H' t x → Q (.ref t) H'
theorem ok_ofT (D : DefAt K mg "_law_of" s__law_of) (T : Bt mg) (u__law_draw : Use P w K mg base "_law_draw" 2 ["m", "limit"] spDraw) : Use P w K mg base "_law_of" 3 ["m", "some"] spOfT := by
  refine use_of D (fun f fd F => F.ok sc__law_of (fun vs H Q E h => ?_) (fun cdv A outer s H vs Q E hr h => ?_)) (fun _ _ _ _ _ _ us hl => match us, hl with | [_, _], _ => rfl)
  · obtain ⟨m, c, g, b, l, L, rfl, _⟩ := h
    rfl
  · obtain ⟨m, c, g, b, l, L, rfl, ms, hb, ⟨ts, el, its⟩, ne, hle, q⟩ := h
    refine ⟨_, (pss_one (ps_ret (pe_ix (k_ixt (K := K) rfl) (pv 1) (pe_use u__law_draw (by decide) hr (by rfl) (pa_cons (pv 0) (pa_cons (pe_callB (k_len (K := K) rfl) (by rfl) T.len PySem.boot_len (pa_cons (pv 1) pa_nil)) pa_nil))) (fun _ _ => rfl)))), ?_⟩
    have its : Its H ts L := its
    have pos := List.length_pos_iff.mpr ne
    have l1 := its.1
    refine ⟨_, rfl, _, rfl, _, rfl, l, _, rfl, .inr (rdT el), m, c, g, b, _, rfl, ms, hb, by rw [List.length_map]; omega, by rw [List.length_map]; omega, fun H1 d k1 ms1 d0 d1 => ?_⟩
    rw [List.length_map] at d1
    obtain ⟨t, ht⟩ := at_some (xs := ts) (i := d.toNat) (by omega)
    obtain ⟨x, hx, tx⟩ := its.2 _ t ht
    exact ⟨l, _, d, .ref t, rfl, rfl, rdT (el.kept ms k1), atI_of (j := d.toNat) (by omega) (at_map ht), q H1 t x k1 ms1 (List.mem_of_getElem? hx) (k1.ti ms tx)⟩
def spMetAllL : Sp := fun vs H Q _ => ∃ (l : Addr) (ts : List Addr) (L : List (List Int)) (n : Nat), vs = [.ref l, .int ((n + 1 : Nat) : Int)] ∧ H l = some (.lst (ts.map V.ref)) ∧ Its H ts L ∧ LotP n L ∧ n < 8 ∧ ∀ H' t, Same H H' → TT H' t (turnB n L) → Q (.ref t) H'
theorem ok_met_allL (D : DefAt K mg "_law_met_all" s__law_met_all) (T : Bt mg) (u__law_partings : Use P w K mg base "_law_partings" 1 ["many"] spLParts) (u__law_meet : Use P w K mg base "_law_meet" 2 ["one", "two"] spMeets) :
    Use P w K mg base "_law_met_all" 3 ["lot", "many"] spMetAllL := by
  refine use_of D (fun f fd F => F.ok sc__law_met_all (fun vs H Q E h => ?_) (fun cdv A outer s H vs Q E hr h => ?_)) (fun _ _ _ _ _ _ us hl => match us, hl with | [_, _], _ => rfl)
  · obtain ⟨l, ts, L, n, rfl, _⟩ := h
    rfl
  · obtain ⟨l, ts, L, n, rfl, el, its, hL, n8, q⟩ := h
    refine ⟨_, (pss_cons (ps_set (i := 2) sc__law_met_all.nd rfl (Or.inl rfl) (pe_use u__law_partings (by decide) hr (by rfl) (pa_cons (pv 1) pa_nil)))
      (pss_cons (ps_for PassesOwn.never rfl (k_list (K := K) rfl (pv 0)) (pg_name (i := 3) sc__law_met_all.nd rfl (Or.inr rfl))
      (pss_one (ps_setLc (i := 2) (own := [("two", 4)]) rfl sc__law_met_all.nd rfl rfl (sw_true rfl rfl rfl (by decide +kernel)) (k_list (K := K) rfl (pv 2)) (blkOk_by (N := ["lot", "many", "left", "one", "two"]) (sc := defScope s__law_met_all) (by decide +kernel)) (fun _ _ _ _ _ => (pg_name (i := 4) sc__law_met_all.nd rfl (Or.inl rfl))) (fun _ _ _ _ _ => (pts_one (pt_val (pe_use u__law_meet (by decide) hr (by rfl) (pa_cons (pv 3) (pa_cons (pv 4) pa_nil)))))) (fun _ _ _ _ _ => (pv 4)))))
      (pss_one (ps_ret (pe_callTy (k_tupOf (K := K) rfl) (by rfl) T.tuple (by decide +kernel) (pa_cons (pv 2) pa_nil)))))), ?_⟩
    have its : Its H ts L := its
    have ap := allP_par (n := n) (by omega)
    have cnt : (allP n).length ≤ 4140 := allP_count ⟨n, n8⟩
    refine ⟨_, rfl, n, rfl, n8, fun H1 a s1 ⟨us, ea, it⟩ => ?_⟩
    have it : Its H1 us (allP n) := it
    refine ⟨_, rfl, l, rfl, ⟨_, sqL (s1 _ _ el)⟩, for_list (K := K) (a := l) (xs := ts.map V.ref)
      (fun i σ H2 => ∃ (b : Addr) (y3 : Option V) (us : List Addr), σ = [some (.ref l), some (.int ((n + 1 : Nat) : Int)), some (.ref b), y3, none] ∧ Same H H2 ∧ H2 b = some (.lst (us.map V.ref)) ∧ Its H2 us ((allP n).filter (meetsB (L.take i))))
      ⟨a, none, us, rfl, s1, ea, ?_⟩ (fun i σ H2 _ ⟨_, _, _, _, sm, _⟩ => sqL (sm _ _ el)) ?_ ?_⟩
    · rw [List.take_zero, show (allP n).filter (meetsB []) = allP n from List.filter_eq_self.mpr fun _ _ => rfl]
      exact it
    · rintro i v σ H2 hi ⟨b, y3, us, rfl, sm, eb, it⟩
      obtain ⟨t, ht, rfl⟩ := map_at hi
      obtain ⟨x, hx, tx⟩ := its.2 i t ht
      obtain ⟨px, lx⟩ := hL x (List.mem_of_getElem? hx)
      refine ⟨_, rfl, b, rfl, ⟨_, sqL eb⟩, fun G nG => ?_⟩
      refine lc_list (K := K) (a := b) (xs := us.map V.ref) (fun k H3 => Same H2 H3 ∧ ∃ ws : List Addr, H3 G = some (.lst (ws.map V.ref)) ∧ Its H3 ws ((((allP n).filter (meetsB (L.take i))).take k).filter fun z => treeB z x))
        ⟨same_new nG, [], upd_same, Its.nil⟩ (fun k H3 _ ⟨s3, _⟩ => sqL (s3 _ _ eb)) ?_ ?_
      · rintro k v H3 hk ⟨s3, ws, eG, iw⟩
        obtain ⟨u, hu, rfl⟩ := map_at hk
        obtain ⟨row, hrow, er⟩ := it.2 k u hu
        obtain ⟨rp, rl⟩ := ap row (List.mem_filter.mp (List.mem_of_getElem? hrow)).1
        have f1 : ((((allP n).filter (meetsB (L.take i))).take k).filter fun z => treeB z x).length ≤ (((allP n).filter (meetsB (L.take i))).take k).length := List.length_filter_le _ _
        have f2 : ((allP n).filter (meetsB (L.take i))).length ≤ (allP n).length := List.length_filter_le _ _
        rw [List.length_take] at f1
        have tk : (((allP n).filter (meetsB (L.take i))).take (k + 1)).filter (fun z => treeB z x) = (((allP n).filter (meetsB (L.take i))).take k).filter (fun z => treeB z x) ++ if treeB row x = true then [row] else [] := by
          rw [take_snoc hrow, List.filter_append]
          congr 1
          rw [List.filter_cons]
          rfl
        refine ⟨rfl, _, rfl, _, rfl, t, u, x, row, rfl, tx.mono (sm.trans s3), er.mono s3, px, rp, by omega, fun H4 c s4 hc => ⟨c, rfl, ?_⟩⟩
        have tb : c = true ↔ treeB row x = true := by
          rw [hc, ← treeB_ok px.rg rp.rg, treeB_flip px rp (by omega)]
        cases c with
        | true =>
          have eG4 := s4 _ _ eG
          refine ⟨_, rfl, _, eG4, ?_, same_mut (s3.trans s4) nG, ws ++ [u], ?_, ?_⟩
          · rw [List.length_map, iw.1]
            exact Nat.lt_of_le_of_lt (show _ ≤ 4140 by omega) (by decide)
          · rw [upd_same, List.map_append]
            rfl
          · rw [tk, if_pos (tb.mp rfl)]
            exact ((iw.mono s4).put eG4).app (Its.one (show TI _ u _ from by
              have ht4 : H4 u = some (.tup _) := (er.mono s3).mono s4
              show upd H4 G _ u = _
              rw [upd_ne (fun e => by rw [← e, ht4] at eG4; cases eG4)]
              exact ht4))
        | false =>
          refine ⟨s3.trans s4, ws, s4 _ _ eG, ?_⟩
          rw [tk, if_neg (fun z => by have := tb.mpr z; cases this), List.append_nil]
          exact iw.mono s4
      · rintro H3 ⟨s3, ws, eG, iw⟩
        rw [List.length_map, it.1, List.take_length, List.filter_filter] at iw
        refine ⟨G, _, ws, rfl, sm.trans s3, eG, ?_⟩
        rw [take_snoc hx, show (allP n).filter (meetsB (L.take i ++ [x])) = (allP n).filter (fun a => treeB a x && meetsB (L.take i) a) from List.filter_congr fun z _ => by rw [meetsB_snoc, Bool.and_comm]]
        exact iw
    · rintro σ H2 ⟨b, y3, us, rfl, sm, eb, it⟩
      rw [List.length_map, its.1, List.take_length] at it
      refine ⟨_, rfl, b, _, rfl, .inl ⟨sqL eb, fun t nt => ?_⟩⟩
      have sn := same_new (H := H2) (o := .tup (us.map V.ref)) nt
      exact q _ t (sm.trans sn) ⟨us, upd_same, it.mono sn⟩
end
end KQ
namespace KQ
open PySem PySem.Spec PyProof.Rows L2 KR KM StX
theorem Kept.rows {H H' : Hp} {m c g : Addr} {b : Int} (k : Kept H H' m g) (ms : MS H m c g b) {ts : List Addr} {xss : List (List Int)} (h : Its H ts xss) : Its H' ts xss :=
  ⟨h.1, fun i t ht => let ⟨xs, a, e⟩ := h.2 i t ht; ⟨xs, a, k.ti ms e⟩⟩
theorem Kept.lot {H H' : Hp} {m c g l : Addr} {b : Int} (k : Kept H H' m g) (ms : MS H m c g b) {L : List (List Int)} (h : TL H l L) : TL H' l L := by
  obtain ⟨ts, el, its⟩ := h
  exact ⟨ts, el.kept ms k, k.rows ms its⟩
theorem Its.snoc_put {H : Hp} {ts : List Addr} {xss : List (List Int)} {L t : Addr} {xs : List V} {o : HO} {x : List Int} (h : Its H ts xss) (e : H L = some (.lst xs)) (tx : TI H t x) : Its (upd H L o) (ts ++ [t]) (xss ++ [x]) :=
  (h.put e).app (Its.one (show upd H L o t = _ from by
    have ht : H t = some (.tup (x.map V.int)) := tx
    rw [upd_ne (fun z => by rw [z, e] at ht; cases ht)]
    exact ht))
theorem LotP.snoc {n : Nat} {L : List (List Int)} {p : List Int} (h : LotP n L) (par : Par p) (l : p.length = n + 1) : LotP n (L ++ [p]) := fun q hq => by
  rcases List.mem_append.mp hq with hq | hq
  · exact h q hq
  · rw [List.mem_singleton.mp hq]
    exact ⟨par, l⟩
theorem LotP.ne {n : Nat} {L : List (List Int)} (h : LotP n L) : ∀ r ∈ L, r ≠ [] := fun r hr => (h r hr).1.ne
theorem and2 {c d : Bool} {X A B : Prop} (hx : c = true → (if d = true then A else B) → X) (h : if (c && d) = true then A else B) : if c = true then X else (if false = true then A else B) := by
  cases c with
  | true => exact hx rfl h
  | false => exact h
section
variable {P : Program} {w : World} {K : PySem.W.Frag} {mg : Str → Option Value} {base : Heap}
abbrev s__law_some_lot : Stmt := topS 47
theorem sc__law_some_lot : FnScope ["m", "many", "kind", "one", "near", "turn"] ["m", "many"] (defScope s__law_some_lot) := ⟨rfl, rfl, rfl, by decide +kernel, rfl, by decide +kernel, by decide +kernel⟩
def spSomeLot : Sp := fun vs H Q _ => ∃ (m c g : Addr) (b : Int) (n : Nat), vs = [.ref m, .int ((n + 1 : Nat) : Int)] ∧ MS H m c g b ∧ b ≤ 800000 ∧ n < 6 ∧
  ∀ H' t L, Kept H H' m g → MS H' m c g (b + 50) → TL H' t L → LotT n L → (L ≠ [] → Bare H' t) → Q (.ref t) H'
theorem ok_some_lot (D : DefAt K mg "_law_some_lot" s__law_some_lot) (T : Bt mg) (u__law_draw : Use P w K mg base "_law_draw" 2 ["m", "limit"] spDraw) (u__law_parting : Use P w K mg base "_law_parting" 3 ["m", "many"] spLPar)
    (u__law_partings : Use P w K mg base "_law_partings" 1 ["many"] spLParts) (u__law_lot_from : Use P w K mg base "_law_lot_from" 1 ["rows"] spLotFrom) (u__law_met_allL : Use P w K mg base "_law_met_all" 3 ["lot", "many"] spMetAllL)
    (u__law_ofT : Use P w K mg base "_law_of" 3 ["m", "some"] spOfT) : Use P w K mg base "_law_some_lot" 4 ["m", "many"] spSomeLot := by
  refine use_of D (fun f fd F => F.ok sc__law_some_lot (fun vs H Q E h => ?_) (fun cdv A outer s H vs Q E hr h => ?_)) (fun _ _ _ _ _ _ us hl => match us, hl with | [_, _], _ => rfl)
  · obtain ⟨m, c, g, b, n, rfl, _⟩ := h
    rfl
  · obtain ⟨m, c, g, b, n, rfl, ms, hb, n6, q⟩ := h
    refine ⟨_, (pss_cons (ps_par (i := 2) (j := 3) rfl sc__law_some_lot.nd rfl rfl (by decide) rfl rfl (pa_cons (pe_use u__law_draw (by decide) hr (by rfl) (pa_cons (pv 0) (pa_cons pe_int pa_nil))) (pa_cons (pe_use u__law_parting (by decide) hr (by rfl) (pa_cons (pv 0) (pa_cons (pv 1) pa_nil))) pa_nil)) (by rfl))
      (pss_cons (ps_if (pt_cmpR op_eq (pv 2) pe_int (nomark _)) (pss_one (ps_ret (pe_tup pa_nil))) pss_nil)
      (pss_cons (ps_if (PW.pt (pw_and (pt_cmpR op_eq (pv 2) pe_int (nomark _)) (pw_and1 (pt_cmpR op_lt (pv 1) pe_int (nomark _))))) (pss_one (ps_ret (pe_callTy (k_tupB (K := K) rfl) (by rfl) T.tuple (by decide +kernel) (pa_cons (pe_use u__law_partings (by decide) hr (by rfl) (pa_cons (pv 1) pa_nil)) pa_nil)))) pss_nil)
      (pss_cons (ps_if (pt_cmpR op_lt (pv 2) pe_int (nomark _)) (pss_one (ps_ret (pe_use u__law_lot_from (by decide) hr (by rfl) (pa_cons (pe_lc (own := [("turn", 5)]) rfl sc__law_some_lot.nd (pi_range1 (by rfl) T.range (pa_cons (pe_op op_add pe_int (pe_use u__law_draw (by decide) hr (by rfl) (pa_cons (pv 0) (pa_cons pe_int pa_nil)))) pa_nil)) (blkOk_by (N := ["m", "many", "kind", "one", "near", "turn"]) (sc := defScope s__law_some_lot) (by decide +kernel)) (fun _ _ _ _ _ => (pg_name (i := 5) sc__law_some_lot.nd rfl (Or.inl rfl))) (fun _ _ _ _ _ => pts_nil) (fun _ _ _ _ _ => (pe_use u__law_parting (by decide) hr (by rfl) (pa_cons (pv 0) (pa_cons (pv 1) pa_nil))))) pa_nil)))) pss_nil)
      (pss_cons (ps_set (i := 4) sc__law_some_lot.nd rfl (Or.inr rfl) (pe_use u__law_met_allL (by decide) hr (by rfl) (pa_cons (pe_lst (pa_cons (pv 3) pa_nil)) (pa_cons (pv 1) pa_nil))))
      (pss_one (ps_ret (pe_use u__law_lot_from (by decide) hr (by rfl) (pa_cons (pe_lc (own := [("turn", 5)]) rfl sc__law_some_lot.nd (pi_range1 (by rfl) T.range (pa_cons (pe_op op_add pe_int (pe_use u__law_draw (by decide) hr (by rfl) (pa_cons (pv 0) (pa_cons pe_int pa_nil)))) pa_nil)) (blkOk_by (N := ["m", "many", "kind", "one", "near", "turn"]) (sc := defScope s__law_some_lot) (by decide +kernel)) (fun _ _ _ _ _ => (pg_name (i := 5) sc__law_some_lot.nd rfl (Or.inl rfl))) (fun _ _ _ _ _ => pts_nil) (fun _ _ _ _ _ => (pe_use u__law_ofT (by decide) hr (by rfl) (pa_cons (pv 0) (pa_cons (pv 4) pa_nil))))) pa_nil))))))))), ?_⟩
    refine ⟨_, rfl, m, c, g, b, 8, rfl, ms, by omega, by omega, by omega, fun H1 kd k1 ms1 d0 d1 => ?_⟩
    refine ⟨_, rfl, _, rfl, m, c, g, _, _, rfl, ms1, by omega, by omega, by omega, fun H2 t1 p k2 ms2 tp par lp => ⟨_, _, rfl, ?_⟩⟩
    have lp : p.length = n + 1 := by omega
    have k02 := k1.trans k2
    refine ⟨_, rfl, rfl, _, rfl, ite2 (fun _ => ?_) (fun _ => ?_)⟩
    · refine ⟨Nat.zero_le _, fun z nz => ?_⟩
      have sz := same_new (H := H2) (o := .tup []) nz
      exact q _ z [] (k02.trans (Kept.of sz)) ((ms2.mono sz).le (by omega)) ⟨[], .inl upd_same, Its.nil⟩ ⟨fun q hq => (by cases hq), List.Pairwise.nil, Nat.zero_le _⟩ (fun z => absurd rfl z)
    refine ⟨_, rfl, rfl, _, rfl, and2 (d := decide (((n + 1 : Nat) : Int) < 4)) (fun _ z => ⟨_, rfl, _, _, rfl, rfl, _, rfl, z⟩) (ite2 (fun _ => ?_) (fun _ => ?_))⟩
    · refine ⟨_, rfl, n, rfl, by omega, fun H3 a s3 ⟨us, ea, it⟩ => ⟨a, _, rfl, sqL ea, fun t ob nt db => ?_⟩⟩
      have it : Its H3 us (allP n) := it
      have sn := same_new (H := H3) (o := .frz ob (.tup (us.map V.ref))) nt
      exact q _ t (allP n) ((k02.trans (Kept.of s3)).trans (Kept.of sn)) (((ms2.mono s3).mono sn).le (by omega)) ⟨us, .inr ⟨ob, upd_same⟩, it.mono sn⟩ (allP_lotT n6) fun _ => ⟨ob, _, upd_same, db⟩
    refine ⟨_, rfl, _, _, rfl, rfl, _, rfl, ite2 (fun _ => ?_) (fun _ => ?_)⟩
    · refine ⟨_, rfl, m, c, g, _, 4, rfl, ms2, by omega, by omega, by omega, fun H3 d k3 ms3 d0 d1 => ⟨1, d, rfl, rfl, _, rfl, by omega, by omega, fun L nL => ?_⟩⟩
      have Ln := ms3.ne nL
      have k03 := k02.trans k3
      have nLH := k03.free nL Ln.1 Ln.2.2
      obtain ⟨bb, hbb⟩ : ∃ bb, b + 1 + ((n + 1 : Nat) : Int) + 1 = bb := ⟨_, rfl⟩
      rw [hbb] at ms3
      refine lc_range (fun i H4 => (∃ (ts : List Addr) (rows : List (List Int)), H4 L = some (.lst (ts.map V.ref)) ∧ Its H4 ts rows ∧ LotP n rows ∧ rows.length = i) ∧ Kept H H4 m g ∧ MS H4 m c g (bb + 6 * (i : Nat)))
        ⟨⟨[], [], upd_same, Its.nil, fun q hq => (by cases hq), rfl⟩, kept_mut k03 nLH, by simpa using ms3.put Ln.1 Ln.2.1 Ln.2.2⟩ ?_ ?_
      · rintro i H4 hi ⟨⟨ts, rows, eL, its, lot, lr⟩, k4, ms4⟩
        refine ⟨rfl, _, rfl, _, rfl, m, c, g, _, _, rfl, ms4, by omega, by omega, by omega, fun H5 t x k5 ms5 tx px lx => ?_⟩
        have eL5 := k5 L _ eL Ln.1 Ln.2.2
        refine ⟨_, eL5, ?_, ⟨ts ++ [t], rows ++ [x], ?_, (k5.rows ms4 its).snoc_put eL5 tx, lot.snoc px (by omega), ?_⟩, kept_mut (k4.trans k5) nLH, (ms5.put Ln.1 Ln.2.1 Ln.2.2).le (by omega)⟩
        · rw [List.length_map, its.1, lr]
          exact small_of (by omega)
        · rw [upd_same, List.map_append]
          rfl
        · rw [List.length_append, lr]
          rfl
      · rintro H4 ⟨⟨ts, rows, eL, its, lot, lr⟩, k4, ms4⟩
        refine ⟨L, ts, rows, rfl, eL, its, lot.ne, by omega, fun H5 t M s5 tM bt lo => ?_⟩
        exact q H5 t M (k4.trans (Kept.of s5)) ((ms4.mono s5).le (by omega)) tM (lotOf_lot lo lot (by omega)) fun _ => bt
    · refine ⟨_, rfl, by show 1 ≤ sizeLine; decide, fun N nN => ?_⟩
      have sN := same_new (H := H2) (o := .lst [V.ref t1]) nN
      refine ⟨_, rfl, N, [t1], [p], n, rfl, upd_same, Its.one (tp.mono sN), fun q hq => (by rw [List.mem_singleton.mp hq]; exact ⟨par, lp⟩), by omega, fun H3 a s3 ta => ?_⟩
      have ms3 := (ms2.mono sN).mono s3
      have k03 := (k02.trans (Kept.of sN)).trans (Kept.of s3)
      refine ⟨_, rfl, m, c, g, _, 5, rfl, ms3, by omega, by omega, by omega, fun H4 d k4 ms4 d0 d1 => ⟨1, d, rfl, rfl, _, rfl, by omega, by omega, fun L nL => ?_⟩⟩
      have ta4 := k4.lot ms3 ta.tl
      have k04 := k03.trans k4
      have Ln := ms4.ne nL
      have nLH := k04.free nL Ln.1 Ln.2.2
      obtain ⟨bb, hbb⟩ : ∃ bb, b + 1 + ((n + 1 : Nat) : Int) + 1 = bb := ⟨_, rfl⟩
      rw [hbb] at ms4
      have near := turn_lotT n6 [p]
      refine lc_range (fun i H5 => (∃ (ts : List Addr) (rows : List (List Int)), H5 L = some (.lst (ts.map V.ref)) ∧ Its H5 ts rows ∧ LotP n rows ∧ rows.length = i) ∧ TL H5 a (turnB n [p]) ∧ Kept H H5 m g ∧ MS H5 m c g (bb + (i : Nat)))
        ⟨⟨[], [], upd_same, Its.nil, fun q hq => (by cases hq), rfl⟩, ta4.mono (same_new nL), kept_mut k04 nLH, by simpa using ms4.put Ln.1 Ln.2.1 Ln.2.2⟩ ?_ ?_
      · rintro i H5 hi ⟨⟨ts, rows, eL, its, lot, lr⟩, ta5, k5, ms5⟩
        refine ⟨rfl, _, rfl, _, rfl, m, c, g, _, a, _, rfl, ms5, by omega, ta5, some_met n6 par lp, (by have := near.2.2; omega), fun H6 t x k6 ms6 hx tx => ?_⟩
        have eL6 := k6 L _ eL Ln.1 Ln.2.2
        obtain ⟨px, lx⟩ := near.1 x hx
        refine ⟨_, eL6, ?_, ⟨ts ++ [t], rows ++ [x], ?_, (k6.rows ms5 its).snoc_put eL6 tx, lot.snoc px lx, ?_⟩, (k6.lot ms5 ta5).put eL6, kept_mut (k5.trans k6) nLH, (ms6.put Ln.1 Ln.2.1 Ln.2.2).le (by omega)⟩
        · rw [List.length_map, its.1, lr]
          exact small_of (by omega)
        · rw [upd_same, List.map_append]
          rfl
        · rw [List.length_append, lr]
          rfl
      · rintro H5 ⟨⟨ts, rows, eL, its, lot, lr⟩, ta5, k5, ms5⟩
        refine ⟨L, ts, rows, rfl, eL, its, lot.ne, by omega, fun H6 t M s6 tM bt lo => ?_⟩
        exact q H6 t M (k5.trans (Kept.of s6)) ((ms5.mono s6).le (by omega)) tM (lotOf_lot lo lot (by omega)) fun _ => bt
end
end KQ
namespace KQ
open PySem PySem.Spec PyProof.Rows L2 KR KM StX
/-- what stays wrong where the state of the draws changes -/
def LVS (H : Hp) (m g : Addr) (n : Nat) (v : V) (word : Str) : Prop := ∀ H', Kept H H' m g → LV H' n v word
section
variable {H H' : Hp} {m g c : Addr} {n : Nat} {v : V} {word : Str} {b : Int}
theorem LVS.here (h : LVS H m g n v word) : LV H n v word := h H fun _ _ e _ _ => e
theorem LVS.kept (h : LVS H m g n v word) (k : Kept H H' m g) : LVS H' m g n v word := fun _ k2 => h _ (k.trans k2)
theorem LVS.same (h : LVS H m g n v word) (s : Same H H') : LVS H' m g n v word := h.kept (Kept.of s)
theorem ms_cell {a : Addr} {vs : List V} (ms : MS H m c g b) (h : H a = some (.tup vs)) : a ≠ m ∧ a ≠ g := by
  have n := ms_tup ms h
  exact ⟨fun z => n (by rw [z]; simp), fun z => n (by rw [z]; simp)⟩
/-- no parting of n + 1 doors, and it stays so -/
def WP (H : Hp) (m g : Addr) (n : Nat) (v : V) : Prop := ∃ o, (∀ H', Kept H H' m g → PV H' v o) ∧ ∀ p, o = some p → Par p → p.length ≠ n + 1
theorem WP.kept (h : WP H m g n v) (k : Kept H H' m g) : WP H' m g n v := let ⟨o, a, b⟩ := h; ⟨o, fun _ k2 => a _ (k.trans k2), b⟩
theorem WP.same (h : WP H m g n v) (s : Same H H') : WP H' m g n v := h.kept (Kept.of s)
theorem wp_no (h : ∀ H', Kept H H' m g → NoTup H' v) : WP H m g n v := ⟨none, fun H' k => .no (h H' k), fun p e => by cases e⟩
theorem wp_lst {a : Addr} {xs : List V} (h : H a = some (.lst xs)) (n1 : a ≠ m) (n2 : a ≠ g) : WP H m g n (.ref a) := wp_no fun _ k => .lst (k _ _ h n1 n2)
theorem wp_row {a : Addr} {q : List Int} (ms : MS H m c g b) (h : H a = some (.tup (q.map V.int))) (l : q.length ≤ 1000) (bad : Par q → q.length ≠ n + 1) : WP H m g n (.ref a) :=
  ⟨some q, fun _ k => .row (k _ _ h (ms_cell ms h).1 (ms_cell ms h).2) l, fun p e par => by obtain rfl := Option.some.inj e; exact bad par⟩
theorem wp_bl {a : Addr} {t : Bool} {rest : List V} (ms : MS H m c g b) (h : H a = some (.tup (.bl t :: rest))) (l : rest.length ≤ 1000) : WP H m g n (.ref a) :=
  ⟨none, fun _ k => .bl (k _ _ h (ms_cell ms h).1 (ms_cell ms h).2) l, fun p e => by cases e⟩
end
theorem orE {c d : Bool} {A B : Hp → Prop} {X : Prop} {H2 : Hp} (R : Hp → Prop) (r0 : R H2) (hx : c = false → (∀ Hz, R Hz → if d = true then A Hz else B Hz) → X) (hA : ∀ Hz, R Hz → (c || d) = true → A Hz)
    (hB : ∀ Hz, R Hz → (c || d) = false → B Hz) : if c = true then (if true = true then A H2 else B H2) else X := by
  cases c with
  | true => exact hA H2 r0 rfl
  | false =>
    refine hx rfl fun Hz r => ?_
    cases d with
    | true => exact hA Hz r rfl
    | false => exact hB Hz r rfl
theorem cut_lo {xs : List V} {k : Nat} (h : k ≤ xs.length) : cutV xs none (some ((k : Nat) : Int)) = xs.take k := by
  unfold cutV
  rw [HT.sIx_none, HT.sIx_nat, Nat.min_eq_left h, List.drop_zero, Nat.sub_zero]
theorem cut_hi {xs : List V} {k : Nat} (h : k ≤ xs.length) : cutV xs (some ((k : Nat) : Int)) none = xs.drop k := by
  unfold cutV
  rw [HT.sIx_none, HT.sIx_nat, Nat.min_eq_left h, ← List.length_drop, List.take_length]
theorem cut_last (xs : List V) : cutV xs none (some (-1)) = xs.take (xs.length - 1) := by
  have : HT.sIx xs.length xs.length (some (-1)) = xs.length - 1 := by
    show (if (-1 : Int) < 0 then ((-1 : Int) + (xs.length : Int)).toNat else min (-1 : Int).toNat xs.length) = _
    rw [if_pos (by decide)]
    omega
  unfold cutV
  rw [HT.sIx_none, List.drop_zero, Nat.sub_zero, this]
theorem rg_one {q : List Int} (h : Rg 0 (1 :: q)) : False := by
  obtain ⟨_, h1, _⟩ := h
  omega
theorem rg_big {q : List Int} {x : Int} (h : Rg 0 (q ++ [x])) (hx : (q.length : Int) < x) : False := by
  have := (rg_at h (i := q.length) (x := x) (by rw [List.getElem?_append_right (Nat.le_refl _), Nat.sub_self]; rfl)).2
  rw [List.take_left'  rfl] at this
  have h2 := bc_le 0 q
  omega
theorem eqv_nilR (xss : List (List Int)) : PyData.eqv (.tuple (xss.map rowD)) (.tuple []) = xss.isEmpty := by
  cases xss <;> rfl
theorem lex_irr (x : List Int) : HT.lexLt x x = false := by
  cases e : HT.lexLt x x with
  | false => rfl
  | true => rw [lex_asym _ _ e] at e; cases e
theorem LotT.take {n : Nat} {L : List (List Int)} (h : LotT n L) (k : Nat) : LotP n (L.take k) ∧ (L.take k).Pairwise fun x y => HT.lexLt x y = true :=
  ⟨fun q hq => h.1 q (List.mem_of_mem_take hq), h.2.1.sublist (List.take_sublist _ _)⟩
section
variable {P : Program} {w : World} {K : PySem.W.Frag} {mg : Str → Option Value} {base : Heap}
abbrev s__law_bad_lot : Stmt := topS 48
theorem sc__law_bad_lot : FnScope ["m", "lot", "many", "kind", "place", "one", "bad", "at"] ["m", "lot", "many"] (defScope s__law_bad_lot) := ⟨rfl, rfl, rfl, by decide +kernel, rfl, by decide +kernel, by decide +kernel⟩
def spBadLot : Sp := fun vs H Q _ => ∃ (m c g : Addr) (b : Int) (l : Addr) (L : List (List Int)) (n : Nat), vs = [.ref m, .ref l, .int ((n + 1 : Nat) : Int)] ∧ MS H m c g b ∧ b ≤ 800000 ∧ TL H l L ∧ LotT n L ∧ (L ≠ [] → Bare H l) ∧ n < 6 ∧
  ∀ H' t v word, Kept H H' m g → MS H' m c g (b + 20) → H' t = some (.tup [v, .str word]) → LVS H' m g n v word → Q (.ref t) H'
theorem ok_bad_lot (D : DefAt K mg "_law_bad_lot" s__law_bad_lot) (T : Bt mg) (u__law_draw : Use P w K mg base "_law_draw" 2 ["m", "limit"] spDraw) (u__law_parting : Use P w K mg base "_law_parting" 3 ["m", "many"] spLPar)
    (u__law_of : Use P w K mg base "_law_of" 3 ["m", "some"] spOfA) (u__law_ofT : Use P w K mg base "_law_of" 3 ["m", "some"] spOfT) : Use P w K mg base "_law_bad_lot" 4 ["m", "lot", "many"] spBadLot := by
  refine use_of D (fun f fd F => F.ok sc__law_bad_lot (fun vs H Q E h => ?_) (fun cdv A outer s H vs Q E hr h => ?_)) (fun _ _ _ _ _ _ us hl => match us, hl with | [_, _, _], _ => rfl)
  · obtain ⟨m, c, g, b, l, L, n, rfl, _⟩ := h
    rfl
  · obtain ⟨m, c, g, b, l, L, n, rfl, ms, hb, tl, lot, bare, n6, q⟩ := h
    refine ⟨_, (pss_cons (ps_par (i := 3) (j := 4) rfl sc__law_bad_lot.nd rfl rfl (by decide) rfl rfl (pa_cons (pe_use u__law_draw (by decide) hr (by rfl) (pa_cons (pv 0) (pa_cons pe_int pa_nil))) (pa_cons (pe_use u__law_draw (by decide) hr (by rfl) (pa_cons (pv 0) (pa_cons (pe_op op_add (pe_callB (k_len (K := K) rfl) (by rfl) T.len PySem.boot_len (pa_cons (pv 1) pa_nil)) pe_int) pa_nil))) pa_nil)) (by rfl))
      (pss_cons (ps_if (pt_cmpR op_eq (pv 3) pe_int (nomark _)) (pss_one (ps_ret (pe_tup (pa_cons (pe_use u__law_of (by decide) hr (by rfl) (pa_cons (pv 0) (pa_cons (pe_lst (pa_cons pe_non (pa_cons (pe_callTy (k_listOf (K := K) rfl) (by rfl) T.list (by decide +kernel) (pa_cons (pv 1) pa_nil)) (pa_cons pe_int (pa_cons pe_str (pa_cons pe_dnewK pa_nil)))))) pa_nil))) (pa_cons pe_str pa_nil))))) pss_nil)
      (pss_cons (ps_if (PW.pt (pw_or (pt_cmpR op_lt (pv 3) pe_int (nomark _)) (pw_or1 (pt_cmpR (k_eqD (K := K) rfl hr.units) (pv 1) (pe_tup pa_nil) (nomark _))))) (pss_cons (ps_set (i := 5) sc__law_bad_lot.nd rfl (Or.inl rfl) (pe_use u__law_parting (by decide) hr (by rfl) (pa_cons (pv 0) (pa_cons (pv 2) pa_nil))))
      (pss_cons (ps_set (i := 6) sc__law_bad_lot.nd rfl (Or.inl rfl) (pe_use u__law_of (by decide) hr (by rfl) (pa_cons (pv 0) (pa_cons (pe_lst (pa_cons pe_non (pa_cons (pe_callTy (k_listOf (K := K) rfl) (by rfl) T.list (by decide +kernel) (pa_cons (pv 5) pa_nil)) (pa_cons (pe_op (k_catR (K := K) rfl) (pv 5) (pe_tup (pa_cons pe_int pa_nil))) (pa_cons (pe_slice (k_slR (K := K) rfl) (pv 5) (po_some pe_int) po_none) (pa_cons (pe_op (k_catR (K := K) rfl) (pe_tup (pa_cons pe_int pa_nil)) (pe_slice (k_slR (K := K) rfl) (pv 5) (po_some pe_int) po_none)) (pa_cons (pe_op (k_catR (K := K) rfl) (pe_slice (k_slR (K := K) rfl) (pv 5) po_none (po_some (pe_un un_neg pe_int))) (pe_tup (pa_cons (pv 2) pa_nil))) (pa_cons (pe_op (k_catR (K := K) rfl) (pe_tup (pa_cons pe_bl pa_nil)) (pe_slice (k_slR (K := K) rfl) (pv 5) (po_some pe_int) po_none)) (pa_cons pe_int pa_nil))))))))) pa_nil))))
      (pss_one (ps_ret (pe_tup (pa_cons (pe_op (k_catR (K := K) rfl) (pe_op (k_catR (K := K) rfl) (pe_slice (k_slR (K := K) rfl) (pv 1) po_none (po_some (pv 4))) (pe_tup (pa_cons (pv 6) pa_nil))) (pe_slice (k_slR (K := K) rfl) (pv 1) (po_some (pv 4)) po_none)) (pa_cons pe_str pa_nil))))))) pss_nil)
      (pss_cons (ps_set (i := 5) sc__law_bad_lot.nd rfl (Or.inl rfl) (pe_use u__law_ofT (by decide) hr (by rfl) (pa_cons (pv 0) (pa_cons (pv 1) pa_nil))))
      (pss_cons (ps_set (i := 7) sc__law_bad_lot.nd rfl (Or.inl rfl) (k_tm (K := K) rfl PySem.F.slot_tuple_index PySem.F.type_tuple_index (k_rowIx rfl (room66 hr)) (pv 1) (pa_cons (pv 5) pa_nil)))
      (pss_one (ps_ret (pe_tup (pa_cons (pe_ifExp (pt_cmpR op_eq (pv 3) pe_int (nomark _)) (pe_op (k_catR (K := K) rfl) (pe_op (k_catR (K := K) rfl) (pe_slice (k_slR (K := K) rfl) (pv 1) po_none (po_some (pe_op op_add (pv 7) pe_int))) (pe_tup (pa_cons (pv 5) pa_nil))) (pe_slice (k_slR (K := K) rfl) (pv 1) (po_some (pe_op op_add (pv 7) pe_int)) po_none)) (pe_op (k_catR (K := K) rfl) (pv 1) (pe_tup (pa_cons (pe_ix (k_ixt (K := K) rfl) (pv 1) pe_int (fun _ _ => rfl)) pa_nil)))) (pa_cons pe_str pa_nil)))))))))), ?_⟩
    have ll := lot.2.2
    refine ⟨_, rfl, m, c, g, b, 6, rfl, ms, by omega, by omega, by omega, fun H1 kd k1 ms1 d0 d1 => ?_⟩
    have tl1 := k1.lot ms tl
    obtain ⟨ts, el1, its1⟩ := id tl1
    have its1 : Its H1 ts L := its1
    have tlen := its1.1
    refine ⟨_, rfl, _, rfl, l, _, rfl, .inr (rdT el1), _, _, rfl, rfl, m, c, g, _, _, rfl, ms1, by omega, by rw [List.length_map]; omega, by rw [List.length_map]; omega, fun H2 pl k2 ms2 p0 p1 => ⟨_, _, rfl, ?_⟩⟩
    rw [List.length_map] at p1
    have k02 := k1.trans k2
    have tl2 := k2.lot ms1 tl1
    have el2 := el1.kept ms1 k2
    have bare2 := fun z => ((bare z).kept ms k1).kept ms1 k2
    have its2 := k2.rows ms1 its1
    clear el1 its1 tl1 k1 k2 ms1
    refine ⟨_, rfl, rfl, _, rfl, ite2 (fun _ => ?_) (fun _ => ?_)⟩
    · refine ⟨_, rfl, _, rfl, l, _, rfl, .inr (rdT el2), fun pb npb => ?_⟩
      have nb := ms2.ne npb
      have sb := same_new (H := H2) (o := .lst (ts.map V.ref)) npb
      refine fun d nd => ?_
      have nd' := (ms2.mono sb).ne nd
      have sd := same_new (o := .dK []) nd
      refine ⟨by show 5 ≤ sizeLine; decide, fun N nN => ?_⟩
      have nN' := ((ms2.mono sb).mono sd).ne nN
      have sN := same_new (o := .lst [V.non, .ref pb, .int 3, .str "()", .ref d]) nN
      have msN := ((ms2.mono sb).mono sd).mono sN
      have eb := sN _ _ (sd _ _ (upd_same (H := H2) (a := pb) (o := .lst (ts.map V.ref))))
      have ed := sN _ _ (upd_same (H := upd H2 pb (.lst (ts.map V.ref))) (a := d) (o := .dK []))
      refine ⟨m, c, g, _, N, _, rfl, msN, by omega, upd_same, nN'.2.2, by simp, by show 5 ≤ 1000000; decide, fun H3 x k3 ms3 hx => ?_⟩
      refine ⟨by show 2 ≤ sizeLine; decide, fun t nt => ?_⟩
      have st := same_new (o := .tup [x, .str "tuple"]) nt
      refine q _ t x "tuple" (((k02.trans (Kept.of ((sb.trans sd).trans sN))).trans k3).trans (Kept.of st)) ((ms3.mono st).le (by omega)) upd_same ?_
      refine LVS.same ?_ st
      have e3b := k3 _ _ eb nb.1 nb.2.2
      have e3d := k3 _ _ ed nd'.1 nd'.2.2
      simp only [List.mem_cons, List.mem_nil_iff, or_false] at hx
      rcases hx with rfl | rfl | rfl | rfl | rfl
      · exact fun _ _ => .no .non
      · exact fun _ k => .no (.lst (k _ _ e3b nb.1 nb.2.2))
      · exact fun _ _ => .no (.int _)
      · exact fun _ _ => .no (.str _)
      · exact fun _ k => .no (.dK (k _ _ e3d nd'.1 nd'.2.2))
    refine ⟨_, rfl, _, _, rfl, rfl, _, rfl, orE (d := L.isEmpty) (fun Hz => Same H2 Hz) (Same.refl H2) (fun _ go => ⟨_, rfl, by show 0 ≤ sizeLine; decide, fun z nz =>
      ⟨.tuple (L.map rowD), .tuple [], dp_tl (tl2.mono (same_new nz)), .tup (sqT (xs := []) upd_same) .nil, shaped_rowT L, rfl, _, rfl, ?_⟩⟩) (fun H3 s3 _ => ?_) (fun H3 s3 hn => ?_)⟩
    · rw [eqv_nilR]
      exact go _ (same_new nz)
    · have ms3 := ms2.mono s3
      have tl3 := tl2.mono s3
      have its3 := its2.mono s3
      have el3 := el2.mono s3
      have k03 := k02.trans (Kept.of s3)
      clear ms2 tl2 its2 el2 k02
      refine ⟨_, rfl, _, rfl, m, c, g, _, _, rfl, ms3, by omega, by omega, by omega, fun H4 t1 p k4 ms4 tp par lp => ?_⟩
      have lp : p.length = n + 1 := by omega
      have its4 := k4.rows ms3 its3
      have el4 := el3.kept ms3 k4
      have k04 := k03.trans k4
      clear its3 el3 k03
      have tp : H4 t1 = some (.tup (p.map V.int)) := tp
      have l60 := par.le
      refine ⟨_, rfl, _, rfl, t1, _, rfl, .inr (sqT tp), fun pb npb => ?_⟩
      have sb : Same H4 (upd H4 pb (.lst (p.map V.int))) := same_new npb
      have nb := ms4.ne npb
      have W1 : WP (upd H4 pb (.lst (p.map V.int))) m g n (.ref pb) := wp_lst upd_same nb.1 nb.2.2
      generalize upd H4 pb (.lst (p.map V.int)) = H5 at sb W1
      refine ⟨_, rfl, by show 1 ≤ sizeLine; decide, fun T1 nT1 => ?_⟩
      have sT1 := same_new (H := H5) (o := .tup [.int 0]) nT1
      refine .inl ⟨t1, T1, _, _, rfl, rfl, sT1 _ _ (sb _ _ tp), upd_same, (by rw [List.length_map]; show p.length + 1 ≤ 100000; omega), fun H6 p6 s6 e6 => ?_⟩
      have s46 := (sb.trans sT1).trans s6
      have W2 : WP H6 m g n (.ref p6) := wp_row (ms4.mono s46) (q := p ++ [0]) (by rw [e6, List.map_append]; rfl) (by rw [List.length_append]; show p.length + 1 ≤ 1000; omega) (fun _ => by rw [List.length_append]; show p.length + 1 ≠ _; omega)
      have W1 := W1.same (sT1.trans s6)
      clear sb sT1 s6 e6 nb npb nT1
      have cut1 : cutV (p.map V.int) (some 1) none = (p.drop 1).map V.int := by
        rw [show (1 : Int) = ((1 : Nat) : Int) from rfl, cut_hi (by rw [List.length_map]; omega), List.map_drop]
      have ldr : (p.drop 1).length = n := by rw [List.length_drop]; omega
      refine ⟨_, rfl, 1, rfl, .inl ⟨t1, _, rfl, s46 _ _ tp, fun H7 p7 s7 e7 => ?_⟩⟩
      rw [cut1] at e7
      have s47 := s46.trans s7
      have W3 : WP H7 m g n (.ref p7) := wp_row (ms4.mono s47) e7 (by omega) (fun _ => by omega)
      have W1 := W1.same s7
      have W2 := W2.same s7
      clear s46 s7 e7
      refine ⟨by show 1 ≤ sizeLine; decide, fun T2 nT2 => ?_⟩
      have sT2 := same_new (H := H7) (o := .tup [.int 1]) nT2
      refine ⟨_, rfl, 1, rfl, .inl ⟨t1, _, rfl, sT2 _ _ (s47 _ _ tp), fun H8 p8 s8 e8 => ?_⟩⟩
      rw [cut1] at e8
      refine .inl ⟨T2, p8, _, _, rfl, rfl, s8 _ _ upd_same, e8, (by rw [List.length_map]; show 1 + (p.drop 1).length ≤ 100000; omega), fun H9 p9 s9 e9 => ?_⟩
      have s79 := (sT2.trans s8).trans s9
      have s49 := s47.trans s79
      have W4 : WP H9 m g n (.ref p9) := wp_row (ms4.mono s49) (q := 1 :: p.drop 1) e9 (by show (p.drop 1).length + 1 ≤ 1000; omega) (fun z => (rg_one z.rg).elim)
      have W1 := W1.same s79
      have W2 := W2.same s79
      have W3 := W3.same s79
      clear s47 sT2 s8 e8 s9 e9 s79 nT2
      refine ⟨_, rfl, 1, rfl, -1, rfl, .inl ⟨t1, _, rfl, s49 _ _ tp, fun Ha pa sa ea => ?_⟩⟩
      rw [cut_last] at ea
      refine ⟨_, rfl, by show 1 ≤ sizeLine; decide, fun T3 nT3 => ?_⟩
      have sT3 := same_new (H := Ha) (o := .tup [.int ((n + 1 : Nat) : Int)]) nT3
      refine .inl ⟨pa, T3, _, _, rfl, rfl, sT3 _ _ ea, upd_same, (by rw [List.length_take, List.length_map]; show _ + 1 ≤ 100000; omega), fun Hb pb2 sb eb => ?_⟩
      have s9b := (sa.trans sT3).trans sb
      have s4b := s49.trans s9b
      have W5 : WP Hb m g n (.ref pb2) := wp_row (ms4.mono s4b) (q := p.take n ++ [((n + 1 : Nat) : Int)])
        (by rw [eb, List.length_map, lp, List.map_append, List.map_take]; rfl) (by rw [List.length_append, List.length_take]; show _ + 1 ≤ 1000; omega) (fun z => (rg_big z.rg (by rw [List.length_take]; omega)).elim)
      have W1 := W1.same s9b
      have W2 := W2.same s9b
      have W3 := W3.same s9b
      have W4 := W4.same s9b
      clear s49 sa ea sT3 sb eb s9b nT3
      refine ⟨by show 1 ≤ sizeLine; decide, fun T4 nT4 => ?_⟩
      have sT4 := same_new (H := Hb) (o := .tup [.bl false]) nT4
      refine ⟨_, rfl, 1, rfl, .inl ⟨t1, _, rfl, sT4 _ _ (s4b _ _ tp), fun Hc pc sc ec => ?_⟩⟩
      rw [cut1] at ec
      refine .inl ⟨T4, pc, _, _, rfl, rfl, sc _ _ upd_same, ec, (by rw [List.length_map]; show 1 + (p.drop 1).length ≤ 100000; omega), fun Hd pd sd ed => ?_⟩
      have sbd := (sT4.trans sc).trans sd
      have s4d := s4b.trans sbd
      have W6 : WP Hd m g n (.ref pd) := wp_bl (ms4.mono s4d) (rest := (p.drop 1).map V.int) ed (by rw [List.length_map]; omega)
      have W1 := W1.same sbd
      have W2 := W2.same sbd
      have W3 := W3.same sbd
      have W4 := W4.same sbd
      have W5 := W5.same sbd
      clear s4b sT4 sc ec sd ed sbd nT4 cut1
      refine ⟨by show 8 ≤ sizeLine; decide, fun N nN => ?_⟩
      have nN' := (ms4.mono s4d).ne nN
      have sN := same_new (o := .lst [V.non, .ref pb, .ref p6, .ref p7, .ref p9, .ref pb2, .ref pd, .int 0]) nN
      have s4N := s4d.trans sN
      refine ⟨m, c, g, _, N, _, rfl, ms4.mono s4N, by omega, upd_same, nN'.2.2, by simp, by show 8 ≤ 1000000; decide, fun H5' x k5 ms5 hx => ?_⟩
      have WX : WP H5' m g n x := by
        refine WP.kept ?_ k5
        refine WP.same ?_ sN
        simp only [List.mem_cons, List.mem_nil_iff, or_false] at hx
        rcases hx with rfl | rfl | rfl | rfl | rfl | rfl | rfl | rfl
        · exact wp_no fun _ _ => .non
        · exact W1
        · exact W2
        · exact W3
        · exact W4
        · exact W5
        · exact W6
        · exact wp_no fun _ _ => .int _
      have el5 := (el4.mono s4N).kept (ms4.mono s4N) k5
      have its5 := k5.rows (ms4.mono s4N) (its4.mono s4N)
      have k05 := (k04.trans (Kept.of s4N)).trans k5
      clear W1 W2 W3 W4 W5 W6 s4N sN nN nN' s4d k5 hx ms4 tp el4 its4 k04 k4 ms3 tl3 s3
      obtain ⟨k, rfl⟩ : ∃ k : Nat, pl = ((k : Nat) : Int) := ⟨pl.toNat, by omega⟩
      have hk : k ≤ (ts.map V.ref).length := by rw [List.length_map]; omega
      refine ⟨_, rfl, _, rfl, _, rfl, .inr ⟨l, _, rfl, el5, fun H6' q6 s6 e6 => ?_⟩⟩
      rw [cut_lo hk] at e6
      refine ⟨_, rfl, by show 1 ≤ sizeLine; decide, fun T nT => ?_⟩
      have sT := same_new (H := H6') (o := .tup [x]) nT
      refine .inr ⟨q6, T, _, _, rfl, rfl, e6.mono sT, .inl upd_same, (by rw [List.length_take, List.length_map]; show _ + 1 ≤ 100000; omega), fun H7' q7 s7 e7 => ?_⟩
      have s57 := (s6.trans sT).trans s7
      refine ⟨_, rfl, _, rfl, _, rfl, .inr ⟨l, _, rfl, el5.mono s57, fun H8' q8 s8 e8 => ?_⟩⟩
      rw [cut_hi hk] at e8
      refine .inr ⟨q7, q8, _, _, rfl, rfl, e7.mono s8, e8, (by rw [List.length_append, List.length_take, List.length_drop, List.length_map]; show _ + 1 + _ ≤ 100000; omega), fun H9' q9 s9 e9 => ?_⟩
      have s59 := (s57.trans s8).trans s9
      refine ⟨by show 2 ≤ sizeLine; decide, fun t nt => ?_⟩
      have st := same_new (H := H9') (o := .tup [.ref q9, .str "parting"]) nt
      refine q _ t (.ref q9) "parting" (k05.trans (Kept.of (s59.trans st))) ((ms5.mono (s59.trans st)).le (by omega)) upd_same ?_
      refine LVS.same ?_ st
      intro HF kF
      obtain ⟨o, pv, bad⟩ := WX.same s59
      rw [List.append_assoc, ← List.map_take] at e9
      exact .part (e9.kept (ms5.mono s59) kF) (kF.rows (ms5.mono s59) ((its5.take k).mono s59)) (lot.take k).1 (lot.take k).2 (pv _ kF) bad
    · have hn := (Bool.or_eq_false_iff.mp hn).2
      have neL : L ≠ [] := fun e => by rw [e] at hn; cases hn
      have ms3 := ms2.mono s3
      have tl3 := tl2.mono s3
      have k03 := k02.trans (Kept.of s3)
      have its3 := its2.mono s3
      have el3 := el2.mono s3
      refine ⟨_, rfl, _, rfl, m, c, g, _, l, L, rfl, ms3, by omega, tl3, neL, by omega, fun H4 t x k4 ms4 hx tx => ?_⟩
      have el4 := el3.kept ms3 k4
      have its4 := k4.rows ms3 its3
      have k04 := k03.trans k4
      have tx : TI H4 t x := tx
      refine ⟨_, rfl, ⟨l, _, rfl, rdT el4, ((bare2 neL).mono s3).kept ms3 k4⟩, _, rfl, l, t, ts, L, x, rfl, rfl, rdT el4, its4, tx, hx, fun j hj => ?_⟩
      have jl := (List.getElem?_eq_some_iff.mp hj).1
      have px := lot.1 x hx
      refine ⟨_, rfl, rfl, _, rfl, ite2 (fun _ => ?_) (fun _ => ?_)⟩
      · have hk : j + 1 ≤ (ts.map V.ref).length := by rw [List.length_map]; omega
        refine ⟨_, rfl, _, rfl, _, _, rfl, rfl, _, rfl, .inr ⟨l, _, rfl, el4, fun H6' q6 s6 e6 => ?_⟩⟩
        rw [show ((j : Nat) : Int) + 1 = ((j + 1 : Nat) : Int) from rfl, cut_lo hk] at e6
        refine ⟨_, rfl, by show 1 ≤ sizeLine; decide, fun T nT => ?_⟩
        have sT := same_new (H := H6') (o := .tup [.ref t]) nT
        refine .inr ⟨q6, T, _, _, rfl, rfl, e6.mono sT, .inl upd_same, (by rw [List.length_take, List.length_map]; show _ + 1 ≤ 100000; omega), fun H7' q7 s7 e7 => ?_⟩
        have s57 := (s6.trans sT).trans s7
        refine ⟨_, rfl, _, rfl, _, _, rfl, rfl, _, rfl, .inr ⟨l, _, rfl, el4.mono s57, fun H8' q8 s8 e8 => ?_⟩⟩
        rw [show ((j : Nat) : Int) + 1 = ((j + 1 : Nat) : Int) from rfl, cut_hi hk] at e8
        refine .inr ⟨q7, q8, _, _, rfl, rfl, e7.mono s8, e8, (by rw [List.length_append, List.length_take, List.length_drop, List.length_map]; show _ + 1 + _ ≤ 100000; omega), fun H9' q9 s9 e9 => ?_⟩
        have s59 := (s57.trans s8).trans s9
        refine ⟨by show 2 ≤ sizeLine; decide, fun tt nt => ?_⟩
        have st := same_new (H := H9') (o := .tup [.ref q9, .str "order"]) nt
        refine q _ tt (.ref q9) "order" (k04.trans (Kept.of (s59.trans st))) ((ms4.mono (s59.trans st)).le (by omega)) upd_same ?_
        refine LVS.same ?_ st
        intro HF kF
        have ms9 := ms4.mono s59
        rw [List.append_assoc, ← List.map_take] at e9
        exact .order (e9.kept ms9 kF) (kF.rows ms9 ((its4.take (j + 1)).mono s59)) (lot.take (j + 1)).1 (lot.take (j + 1)).2 (kF.ti ms9 (tx.mono s59)) px.1 px.2
          (by rw [List.take_add_one, hj]; exact List.getLast?_concat ..) (lex_irr x)
      · obtain ⟨t0, ht0⟩ := at_some (xs := ts) (i := 0) (by omega)
        obtain ⟨x0, hx0, tx0⟩ := its4.2 0 t0 ht0
        refine ⟨_, rfl, _, rfl, l, _, 0, .ref t0, rfl, rfl, rdT el4, atI_of (j := 0) rfl (at_map ht0), by show 1 ≤ sizeLine; decide, fun T nT => ?_⟩
        have sT := same_new (H := H4) (o := .tup [.ref t0]) nT
        refine .inr ⟨l, T, _, _, rfl, rfl, el4.mono sT, .inl upd_same, (by rw [List.length_map]; show _ + 1 ≤ 100000; omega), fun H9' q9 s9 e9 => ?_⟩
        have s59 := sT.trans s9
        refine ⟨by show 2 ≤ sizeLine; decide, fun tt nt => ?_⟩
        have st := same_new (H := H9') (o := .tup [.ref q9, .str "order"]) nt
        refine q _ tt (.ref q9) "order" (k04.trans (Kept.of (s59.trans st))) ((ms4.mono (s59.trans st)).le (by omega)) upd_same ?_
        refine LVS.same ?_ st
        intro HF kF
        have ms9 := ms4.mono s59
        have p0 := lot.1 x0 (List.mem_of_getElem? hx0)
        obtain ⟨y, hy⟩ : ∃ y, L.getLast? = some y := ⟨_, List.getLast?_eq_some_getLast neL⟩
        refine .order (e9.kept ms9 kF) (kF.rows ms9 (its4.mono s59)) lot.1 lot.2.1 (kF.ti ms9 (tx0.mono s59)) p0.1 p0.2 hy ?_
        rw [List.getLast?_eq_getElem?] at hy
        have l1 := List.getElem?_eq_some_iff.mp hy
        have l2 := List.getElem?_eq_some_iff.mp hx0
        by_cases e : L.length = 1
        · have : y = x0 := by
            rw [← l1.2, ← l2.2]
            congr 1
            omega
          rw [this]
          exact lex_irr x0
        · refine lex_asym _ _ ?_
          rw [← l1.2, ← l2.2]
          exact List.pairwise_iff_getElem.mp lot.2.1 0 (L.length - 1) l2.1 l1.1 (by omega)
end
end KQ
namespace KQ
open PySem PySem.Spec PyProof.Rows L2 KR KM StX
section
variable {P : Program} {w : World} {K : PySem.W.Frag} {mg : Str → Option Value} {base : Heap}
def spTwiceBad : Sp := fun vs H Q _ => ∃ (m c g : Addr) (b : Int) (l : Addr) (L : List (List Int)) (n : Nat), vs = [.ref m, .ref l, .int ((n + 1 : Nat) : Int)] ∧ MS H m c g b ∧ b ≤ 800000 ∧ TL H l L ∧ LotT n L ∧ n < 6 ∧
  ∀ H' t v word, Kept H H' m g → MS H' m c g (b + 20) → H' t = some (.tup [v, .str word]) → LVS H' m g n v word → Q (.ref t) H'
end
end KQ
namespace KQ
open PySem PySem.Spec PyProof.Rows L2 KR KM StX
theorem nc_lot {n : Nat} {L : List (List Int)} (n6 : n < 6) (h : LotT n L) : Nc 2 277380 (.tuple (L.map rowD)) := (nc_tt 6 fun xs hx => by
  obtain ⟨h1, h2⟩ := h.1 xs hx
  exact ⟨par_small h1.rg h1.le, by omega⟩).le (Nat.le_refl _) (Nat.le_trans (Nat.mul_le_mul (Nat.le_refl _) h.2.2) (by decide))
theorem orF {c : Bool} {A : Prop} {X : Prop} (hc : c = false) (h : X) : if c = true then A else X := by
  rw [if_neg (by rw [hc]; exact Bool.false_ne_true)]
  exact h
def spTurned : Sp := fun vs H Q _ => ∃ (l : Addr) (L : List (List Int)) (n : Nat), vs = [.ref l, .int ((n + 1 : Nat) : Int)] ∧ TL H l L ∧ LotT n L ∧ n < 6 ∧ ∀ H' t, Same H H' → TT H' t (turnB n L) → Q (.ref t) H'
def spClosed : Sp := fun vs H Q _ => ∃ (l : Addr) (L : List (List Int)) (n : Nat), vs = [.ref l, .int ((n + 1 : Nat) : Int)] ∧ TL H l L ∧ LotT n L ∧ n < 6 ∧ ∀ H' t, Same H H' → TT H' t (turnB n (turnB n L)) → Q (.ref t) H'
def spIsClosed : Sp := fun vs H Q _ => ∃ (l : Addr) (L : List (List Int)) (n : Nat), vs = [.ref l, .int ((n + 1 : Nat) : Int)] ∧ TL H l L ∧ LotT n L ∧ n < 6 ∧ ∀ H', Same H H' → Q (.bl (decide (turnB n (turnB n L) = L))) H'
section
variable {P : Program} {w : World} {K : PySem.W.Frag} {mg : Str → Option Value} {base : Heap}
def spRight : Sp := fun vs H Q _ => ∃ (m c g : Addr) (b : Int) (l : Addr) (L : List (List Int)) (n : Nat), vs = [.ref m, .ref l, .int ((n + 1 : Nat) : Int)] ∧ MS H m c g b ∧ b ≤ 800000 ∧ TL H l L ∧ LotT n L ∧ L.length ≤ 900 ∧ n < 6 ∧
  ∀ H', Kept H H' m g → MS H' m c g (b + 10) → Q (.bl true) H'
end
end KQ
namespace KQ
open PySem PySem.Spec PyProof.Rows L2 KR KM StX
/-! ### data with a great number -/
structure Nw (k W : Nat) (d : PyData) : Prop where
  sh : d.showable = true
  nd : d.hasDict = false
  dp : d.depth ≤ k
  lf : d.leavesShort 40 = true
  wt : d.weight ≤ W
theorem Nw.le {k W k' W' : Nat} {d : PyData} (h : Nw k W d) (h1 : k ≤ k') (h2 : W ≤ W') : Nw k' W' d := ⟨h.sh, h.nd, Nat.le_trans h.dp h1, h.lf, Nat.le_trans h.wt h2⟩
theorem nw_int {i : Int} (h : i.natAbs < 10 ^ 38) : Nw 0 140 (.int i) := by
  have hlog : i.natAbs = 0 ∨ i.natAbs.log2 < 130 := by
    by_cases h0 : i.natAbs = 0
    · exact .inl h0
    · exact .inr ((Nat.log2_lt h0).2 (Nat.lt_of_lt_of_le h (by decide)))
  refine ⟨?_, rfl, Nat.le_refl _, ?_, ?_⟩
  · simp only [PyData.showable]
    refine decide_eq_true ?_
    rcases hlog with h0 | h0
    · rw [h0]
      decide
    · omega
  · simp only [PyData.leavesShort]
    refine decide_eq_true ?_
    have e := int_text_length_le10 (k := 38) (by decide) h
    show (Str.ofString (toString i)).length ≤ 40
    rw [PySem.ofString_length]
    omega
  · simp only [PyData.weight]
    split
    · omega
    · rename_i h1
      rcases hlog with h0 | h0
      · exact absurd (show (i == 0) = true from by rw [Int.natAbs_eq_zero.mp h0]; rfl) h1
      · omega
theorem nw_two {x : Str} {d : PyData} {W : Nat} (hx : (PyData.str x).leavesShort 40 = true) (hc : (PyData.str x).weight ≤ 20) (h : Nw 1 W d) : Nw 2 (22 + W) (.tuple [.str x, d]) := by
  refine ⟨?_, ?_, ?_, ?_, ?_⟩
  · simp only [PyData.showable, PyData.showableAll, h.sh]; rfl
  · simp only [PyData.hasDict, PyData.hasDictAll, h.nd]; rfl
  · have := h.dp
    simp only [PyData.depth, PyData.depthAll]
    omega
  · have : PyData.leavesShort 40 (.str x) = true := hx
    simp only [PyData.leavesShort] at this
    simp only [PyData.leavesShort, PyData.leavesShortAll, this, h.lf]; rfl
  · have := h.wt
    have hc : x.cps.size ≤ 20 := hc
    simp only [PyData.weight, PyData.weightAll]
    omega
theorem nw_three {d1 d2 d3 : PyData} {k W : Nat} (h1 : Nw k W d1) (h2 : Nw k W d2) (h3 : Nw k W d3) : Nw (k + 1) (3 * W + 3) (.list [d1, d2, d3]) := by
  refine ⟨?_, ?_, ?_, ?_, ?_⟩
  · simp only [PyData.showable, PyData.showableAll, h1.sh, h2.sh, h3.sh]; rfl
  · simp only [PyData.hasDict, PyData.hasDictAll, h1.nd, h2.nd, h3.nd]; rfl
  · have := h1.dp
    have := h2.dp
    have := h3.dp
    simp only [PyData.depth, PyData.depthAll]
    omega
  · simp only [PyData.leavesShort, PyData.leavesShortAll, h1.lf, h2.lf, h3.lf]; rfl
  · have := h1.wt
    have := h2.wt
    have := h3.wt
    simp only [PyData.weight, PyData.weightAll]
    omega
/-- a number asked for that is refused, told and kept -/
structure Wr (H : Hp) (m g : Addr) (x : V) (d : PyData) : Prop where
  odd : ∀ H', Kept H H' m g → OddV H' x
  out : inV x 1 6 = false
  nw : Nw 1 200 d
theorem allP_203 : ∀ n : Fin 6, (allP n.val).length ≤ 203 := by decide +kernel
theorem LotT.few {n : Nat} {L : List (List Int)} (n6 : n < 6) (h : LotT n L) : L.length ≤ 203 := by
  refine Nat.le_trans (sub_len (ys := allP n) ?_ fun x hx => allP_all n x (h.1 x hx).1.rg (h.1 x hx).2) (allP_203 ⟨n, n6⟩)
  refine h.2.1.imp fun {x y} hxy e => ?_
  rw [e, lex_irr] at hxy
  cases hxy
theorem LV.word {H : Hp} {n : Nat} {v : V} {word : Str} (h : LV H n v word) : word = "tuple" ∨ word = "parting" ∨ word = "order" := by
  cases h with
  | no => exact .inl rfl
  | part => exact .inr (.inl rfl)
  | order => exact .inr (.inr rfl)
theorem word_short {word : Str} (h : word = "tuple" ∨ word = "parting" ∨ word = "order") : (PyData.str word).leavesShort 40 = true ∧ (PyData.str word).weight ≤ 20 ∧ Nc 0 20 (.str word) := by
  rcases h with rfl | rfl | rfl
  · exact ⟨by decide +kernel, by decide +kernel, by decide +kernel, rfl, by decide, by decide +kernel, by decide +kernel⟩
  · exact ⟨by decide +kernel, by decide +kernel, by decide +kernel, rfl, by decide, by decide +kernel, by decide +kernel⟩
  · exact ⟨by decide +kernel, by decide +kernel, by decide +kernel, rfl, by decide, by decide +kernel, by decide +kernel⟩
section
variable {P : Program} {w : World} {K : PySem.W.Frag} {mg : Str → Option Value} {base : Heap}
def spLikeW (K : PySem.W.Frag) : Sp := fun vs H Q _ => ∃ x y d, vs = [x, y] ∧ Dp K H x d ∧ Dp K H y d ∧ isDisplay d = true ∧ Nw 20 10000 d ∧ Q (.bl true) H
theorem ok_likeW (D : DefAt K mg "_law_like" s__law_like) (T : Bt mg) : UseG P w K mg base "_law_like" 1 ["got", "due"] (spLikeW K) := by
  refine use_ofG D (fun f fd F => Fun.okG F sc__law_like (fun vs H Q E h => ?_) (fun cdv A outer s H vs Q E gd hr h => ?_)) (fun _ _ _ _ _ _ us hl => match us, hl with | [_, _], _ => rfl)
  · obtain ⟨x, y, d, rfl, _⟩ := h
    rfl
  · obtain ⟨x, y, d, rfl, hx, hy, dis, nc, q⟩ := h
    refine ⟨_, (pss_one (ps_ret (pe_cmpR op_eq (pe_callB (k_repr (K := K) rfl gd hr.units) (by rfl) T.repr (by decide +kernel) (pa_cons (pv 0) pa_nil)) (pe_callB (k_repr (K := K) rfl gd hr.units) (by rfl) T.repr (by decide +kernel) (pa_cons (pv 1) pa_nil)) (nomark _)))), ?_⟩
    have hl : d.shown.length ≤ sizeLine := by
      have h := PyData.shown_le 40 (by decide) d nc.lf
      have h2 := nc.wt
      rw [sizeLine_eq]
      omega
    have dp : d.depth ≤ 30 := Nat.le_trans nc.dp (by decide)
    refine ⟨_, rfl, x, d, rfl, hx, dis, nc.sh, nc.nd, dp, hl, _, rfl, y, d, rfl, hy, dis, nc.sh, nc.nd, dp, hl, ?_⟩
    refine ⟨rfl, ?_⟩
    rw [decide_eq_true rfl]
    exact q
def spBegunS (K : PySem.W.Frag) : Sp := fun vs H Q _ => ∃ (a : Addr) (ns : List Int), vs = [.ref a] ∧ SqL K H a (ns.map V.int) ∧ ns.length ≤ 63 ∧
  ∀ H' m c g, Same H H' → MS H' m c g 0 → Q (.ref m) H'
theorem ok_begunS (D : DefAt K mg "_law_begun" s__law_begun) (T : Bt mg) (u__law_folded : Use P w K mg base "_law_folded" 1 ["script"] (spFolded K)) : Use P w K mg base "_law_begun" 2 ["script"] (spBegunS K) := by
  refine use_of D (fun f fd F => F.ok sc__law_begun (fun vs H Q E h => ?_) (fun cdv A outer s H vs Q E hr h => ?_)) (fun _ _ _ _ _ _ us hl => match us, hl with | [_], _ => rfl)
  · obtain ⟨a, ns, rfl, _⟩ := h
    rfl
  · obtain ⟨a, ns, rfl, hs, hl, q⟩ := h
    refine ⟨_, (pss_cons (ps_set (i := 1) sc__law_begun.nd rfl (Or.inl rfl) (pe_disp (pps_cons pe_str (pe_use u__law_folded (by decide) hr (by rfl) (pa_cons (pv 0) pa_nil)) (pps_cons pe_str (pe_lst pa_nil) (pps_cons pe_str pe_int pps_nil))) (by rfl) (by rfl) (fun z => by cases z) (by decide)))
      (pss_cons (ps_dput (hu_of hr) (pv 1) pe_str (pe_lc (own := [("cell", 2)]) rfl sc__law_begun.nd (k_list (K := K) rfl (pv 0)) (blkOk_by (N := ["script", "m", "cell"]) (sc := defScope s__law_begun) (by decide +kernel)) (fun _ _ _ _ _ => (pg_name (i := 2) sc__law_begun.nd rfl (Or.inl rfl))) (fun _ _ _ _ _ => pts_nil) (fun _ _ _ _ _ => (pe_ifExp (pt_cmpR op_ge (pv 2) (pe_op op_pow pe_int pe_int) (nomark _)) (pv 2) pe_int))) rfl)
      (pss_one (ps_ret (pv 1))))), ?_⟩
    refine fun m nm => ⟨_, rfl, a, ns, rfl, sameSL (same_new nm) hs, hl, fun H1 c cs s1 nc hc ok => ⟨Nat.zero_le _, fun g ng => ?_⟩⟩
    have mc : m ≠ c := fun e => by rw [← e, upd_same] at nc; cases nc
    have hm1 : H1 m = some (.dK []) := s1 _ _ upd_same
    have mg1 : m ≠ g := fun e => by rw [e, ng] at hm1; cases hm1
    have cg : c ≠ g := fun e => by rw [e, ng] at hc; cases hc
    refine ⟨by rw [upd_ne mg1]; exact hm1, [(.inr "cells", .ref c), (.inr "great", .ref g), (.inr "spot", .int 0)], rfl, Nat.le_of_ble_eq_true rfl, ?_⟩
    rw [show mergeK [] [((.inr "cells" : L2.Key), V.ref c), (.inr "great", .ref g), (.inr "spot", .int 0)] = [(.inr "cells", .ref c), (.inr "great", .ref g), (.inr "spot", .int 0)] from rfl]
    generalize hH2 : upd (upd H1 g (.lst [])) m (.dK [((.inr "cells" : L2.Key), V.ref c), (.inr "great", .ref g), (.inr "spot", .int 0)]) = H2
    have hm2 : H2 m = some (.dK [((.inr "cells" : L2.Key), V.ref c), (.inr "great", .ref g), (.inr "spot", .int 0)]) := by rw [← hH2, upd_same]
    have hc2 : H2 c = some (.lst (cs.map V.int)) := by rw [← hH2, upd_ne mc.symm, upd_ne cg]; exact hc
    have hs2 : SqL K H2 a (ns.map V.int) := by
      refine sameSL (fun b u hb => ?_) hs
      have h1 : H1 b = some u := (Same.trans (same_new nm) s1) b u hb
      rw [← hH2, upd_ne (ne_of_none hb nm), upd_ne (ne_of_none h1 ng)]
      exact h1
    have sm2 : Same H H2 := fun b u hb => by
      have h1 : H1 b = some u := (Same.trans (same_new nm) s1) b u hb
      rw [← hH2, upd_ne (ne_of_none hb nm), upd_ne (ne_of_none h1 ng)]
      exact h1
    refine ⟨_, rfl, a, rfl, ⟨_, hs2⟩, fun L nL => ?_⟩
    have Lm : L ≠ m := fun e => by rw [e, hm2] at nL; cases nL
    have Lc : L ≠ c := fun e => by rw [e, hc2] at nL; cases nL
    refine lc_list (K := K) (a := a) (xs := ns.map V.int) (fun i H3 => Same H2 H3 ∧ ∃ gs : List Int, H3 L = some (.lst (gs.map V.int)) ∧ gs.length = i) ⟨same_new nL, [], upd_same, rfl⟩
      (fun i H3 _ ⟨sm, _⟩ => sameSL sm hs2) ?_ ?_
    · rintro i v H3 hi ⟨sm, gs, eL, lg⟩
      obtain ⟨x, hx, rfl⟩ := map_at hi
      have hi63 : i < ns.length := (List.getElem?_eq_some_iff.mp hx).1
      have put : ∀ y : Int, ∃ acc, H3 L = some (.lst acc) ∧ acc.length < sizeLine ∧ (Same H2 (upd H3 L (.lst (acc ++ [V.int y]))) ∧ ∃ gs : List Int, upd H3 L (.lst (acc ++ [V.int y])) L = some (.lst (gs.map V.int)) ∧ gs.length = i + 1) := fun y =>
        ⟨_, eL, by rw [List.length_map]; exact small_of (by omega), same_mut sm nL, gs ++ [y], by rw [upd_same, List.map_append]; rfl, by rw [List.length_append, lg]; rfl⟩
      refine ⟨rfl, _, rfl, 10, 18, rfl, rfl, ⟨by decide, by decide, by decide⟩, x, _, rfl, rfl, _, rfl, ?_⟩
      by_cases hx2 : (10 : Int) ^ (18 : Int).toNat ≤ x
      · rw [decide_eq_true hx2]
        exact ⟨_, rfl, put x⟩
      · rw [decide_eq_false hx2]
        exact put 0
    · rintro H3 ⟨sm, gs, eL, lg⟩
      rw [List.length_map] at lg
      have hm3 := sm _ _ hm2
      refine ⟨_, rfl, m, _, rfl, .k (k := .inr "great") hm3 (small_of (Nat.le_of_ble_eq_true rfl)), ?_⟩
      rw [show putK [((.inr "cells" : L2.Key), V.ref c), (.inr "great", .ref g), (.inr "spot", .int 0)] (.inr "great") (V.ref L) = [(.inr "cells", .ref c), (.inr "great", .ref L), (.inr "spot", .int 0)] from rfl]
      refine ⟨_, rfl, q _ m c L (same_mut (sm2.trans sm) nm) ⟨cs, gs, 0, upd_same, ?_, ?_, ok.1, ok.2, Lc.symm, by omega, Int.le_refl _, Int.le_refl _⟩⟩
      · rw [upd_ne mc.symm]
        exact sm _ _ hc2
      · rw [upd_ne Lm]
        exact eL
end
end KQ
/-! sorted of tuples of which some are empty, the first is not -/
namespace KR
open PySem PySem.Spec PyProof.Rows L2 KM KQ PySem.W PySem.Calls
section
variable {M : PySem.Model} {P : Program} {w : World} {A : Around} {E : Value → Shared → Prop} {s : Shared}
/-- whether what is read is a tuple with something in it -/
def full : PyData → Bool
  | .tuple (_ :: _) => true
  | _ => false
theorem looks_first : ∀ {vs : List Value} {ds : List PyData}, EachIs (fun v d => ∃ as, Reads s.heap v d as) vs ds → (∀ d ∈ ds, ∃ r, d = .tuple r) → ∀ {Q : List (Option Value) → Shared → Prop},
    (∀ fs : List (Option Value), fs.map (·.isSome) = ds.map full → Q fs s) → wpAny M A (vs.mapM firstOfTuple') Q E s
  | _, _, .nil, _, Q, h => by rw [List.mapM_nil]; exact wpAny_pure (h [] rfl)
  | _, _, .cons (a := v) (b := d) (as := vs) (bs := ds) ⟨_, r⟩ t, ht, Q, h => by
    obtain ⟨xs, rfl⟩ := ht d List.mem_cons_self
    cases r with
    | @tuple a o its n _ _ ho hc hd hr =>
      rw [List.mapM_cons]
      refine wpAny_bind ?_
      rw [kas_first_eq]
      refine wpAny_bind (Looks.here (show Looks M s.heap (typeOf (Value.ref a)) o.cls from (Looks.ld ho).andThen Looks.now) ?_)
      rw [hc]
      refine wp_if_neg (by decide) ?_
      refine wpAny_bind (listItems_at ho hd (wpAny_pure ?_))
      refine wpAny_bind (looks_first t (fun d hd => ht d (List.mem_cons_of_mem _ hd)) (Q := fun bs s' => wpAny M A (pure (its[0]? :: bs)) Q E s') fun fs hf => wpAny_pure (h _ ?_))
      rw [List.map_cons, List.map_cons, hf]
      refine congrArg (· :: _) ?_
      rw [← Array.getElem?_toList]
      cases q : its.toList with
      | nil =>
        rw [q] at hr
        cases hr
        rfl
      | cons f fr =>
        rw [q] at hr
        cases hr
        rfl
theorem kind_mixed {vs : List Value} {ds : List PyData} (e : EachIs (fun v d => ∃ as, Reads s.heap v d as) vs ds) (ht : ∀ d ∈ ds, ∃ r, d = .tuple r) {d0 : PyData} {dr : List PyData} (hd : ds = d0 :: dr) (h0 : full d0 = true) (h1 : ds.all full = false)
    {Q : SortKind → Shared → Prop} (h : Q general' s) : wpAny M A (keyKind' vs.toArray) Q E s := by
  rw [kat_kind_eq, List.mapM_toArray, map_eq_pure_bind]
  refine wpAny_bind (wpAny_bind (looks_first e ht fun fs hf => wpAny_pure ?_))
  have na : (fs.toArray.all fun x => x.isSome) = false := by
    rw [List.all_toArray, ← h1]
    have := congrArg (fun l => l.all id) hf
    simpa [List.all_map, Function.comp_def] using this
  refine wp_if_neg (by rw [na]; decide) ?_
  have n0 : ((fs.toArray[0]?).bind id).isSome = true := by
    rw [hd] at hf
    cases fs with
    | nil => cases hf
    | cons f fr =>
      rw [List.map_cons, List.map_cons] at hf
      have := (List.cons.inj hf).1
      rw [h0] at this
      simpa using this
  refine wp_if_pos n0 ?_
  exact wpAny_pure h
/-- values that read as tuples alike, the first with something in it -/
theorem sorts_mixed {vs : List Value} {ds : List PyData} (e : EachIs (fun v d => ∃ as, Reads s.heap v d as) vs ds) (hal : AllAlike ds) (ht : ∀ d ∈ ds, ∃ r, d = .tuple r) {d0 : PyData} {dr : List PyData} (hd : ds = d0 :: dr) (h0 : full d0 = true)
    (hu : ∀ d ∈ ds, A.units + d.depth < cLine) : SortsAt P w A s (dataKind s.heap ds) vs := by
  by_cases h1 : ds.all full = true
  · refine SortsAt.data e hal (.inl fun d m => ?_) hu
    obtain ⟨r, rfl⟩ := ht d m
    have := List.all_eq_true.mp h1 _ m
    cases r with
    | nil => cases this
    | cons x r => exact ⟨x, r, rfl⟩
  · refine ⟨fun v m => ?_, general', ?_, fun _ E' Q' q' => kind_mixed e ht hd h0 (by simpa using h1) q'⟩
    · obtain ⟨d, m', as, rd⟩ := e.left v m
      exact ⟨_, dataKind_some hal m' rd⟩
    · intro E' x y a b Q' ha hb q'
      obtain ⟨d, as, m1, ra, rfl⟩ := dataKind_inv ha
      obtain ⟨d', as', m2, rb, rfl⟩ := dataKind_inv hb
      refine (show wpAny (model P w) A (oneLt' false x y) Q' E' s from ?_)
      refine oneLt_alike (fun z => by cases z) ra rb (hal _ m1 _ m2) (fun z => ?_) (Nat.lt_of_le_of_lt (Nat.add_le_add_left (Nat.min_le_left _ _) _) (hu d m1)) q'
      obtain ⟨r, e'⟩ := ht d m1
      rw [e'] at z
      cases z
end
end KR
/-! lots sorted; dicts whose keys are lots -/
namespace KR
open PySem PySem.Spec PyProof.Rows L2 KM KQ PySem.W PySem.Calls
/-- a lot with its address -/
abbrev LA := List (List Int) × Addr
abbrev lotD (L : List (List Int)) : PyData := .tuple (L.map rowD)
theorem alike_lots : ∀ L M : List (List Int), alikeAll (L.map rowD) (M.map rowD) = true
  | [], _ => by simp [alikeAll]
  | _ :: _, [] => by simp [alikeAll]
  | x :: L, y :: M => by
    rw [List.map_cons, List.map_cons, alikeAll, alike_lots L M, Bool.and_true]
    show alike (.tuple _) (.tuple _) = true
    rw [alike]
    exact alike_ints x y
theorem depth_lots : ∀ L : List (List Int), PyData.depthAll (L.map rowD) ≤ 1
  | [] => by rw [List.map_nil, PyData.depthAll]; exact Nat.zero_le _
  | x :: L => by
    have := depth_lots L
    have h2 := PySem.W.depth_ints x
    rw [List.map_cons, PyData.depthAll]
    show max (PyData.depth (.tuple _)) _ ≤ 1
    rw [PyData.depth, h2]
    omega
noncomputable def leN : LA → LA → Bool := dataLe false fun x => lotD x.1
noncomputable def leL : List (List Int) → List (List Int) → Bool := dataLe false lotD
theorem leN_map (xs : List LA) : (xs.mergeSort leN).map (·.1) = (xs.map (·.1)).mergeSort leL := List.map_mergeSort fun _ _ _ _ => rfl
theorem valsF_back {α : Type} {f : α → Addr} : ∀ {xs : List α} {us : List Value}, Vals (xs.map fun x => V.ref (f x)) us → us = xs.map fun x => Value.ref (f x)
  | [], _, r => by cases r; rfl
  | x :: xs, _, r => by
    cases r with
    | cons h t =>
      rw [List.map_cons, valsF_back t]
      cases h
      rfl
theorem valsF_of {α : Type} {f : α → Addr} : ∀ xs : List α, Vals (xs.map fun x => V.ref (f x)) (xs.map fun x => Value.ref (f x))
  | [] => .nil
  | x :: xs => .cons rfl (valsF_of xs)
theorem each_map2 {α β γ : Type} {R : β → γ → Prop} {f : α → β} {g : α → γ} : ∀ {xs : List α}, (∀ x ∈ xs, R (f x) (g x)) → EachIs R (xs.map f) (xs.map g)
  | [], _ => .nil
  | x :: xs, h => .cons (h x List.mem_cons_self) (each_map2 fun y hy => h y (List.mem_cons_of_mem _ hy))
theorem each_out {α : Type} {f : α → Addr} : ∀ {out : List Value} {xs : List α}, EachIs (fun v x => v = Value.ref (f x)) out xs → out = xs.map fun x => Value.ref (f x)
  | _, _, .nil => rfl
  | _, _, .cons h t => by rw [List.map_cons, ← each_out t, h]
def rSortN (K : PySem.W.Frag) : List V → Hp → VK → Prop := fun vs H Q => ∃ (a : Addr) (xs : List LA), vs = [V.ref a] ∧ SqL K H a (xs.map fun x => V.ref x.2) ∧ (∀ x ∈ xs, TL H x.2 x.1) ∧ (∃ x r, xs = x :: r ∧ x.1 ≠ []) ∧
  ∀ p, H p = none → Q (.ref p) (upd H p (.lst ((xs.mergeSort leN).map fun x => V.ref x.2)))
section
variable {X : Cx} {pins : List (Addr × Obj)} {σ : L2.St} {H : Hp} {s : Shared}
theorem lots_read (I : Inv X pins σ H s) {xs : List LA} (ht : ∀ x ∈ xs, TL H x.2 x.1) : ∀ x ∈ xs, ∃ as, Reads s.heap (.ref x.2) (lotD x.1) as := fun x hx => Dp.reads I (lotD x.1) _ _ (dp_tl (ht x hx)) rfl
/-- the kind that lots sort by, and what comes -/
theorem lots_sort {P : Program} {w : World} {A : Around} {s2 : Shared} {xs : List LA} (rd : ∀ x ∈ xs, ∃ as, Reads s2.heap (.ref x.2) (lotD x.1) as) (h0 : ∃ x r, xs = x :: r ∧ x.1 ≠ []) (hu : A.units + 2 < cLine) :
    SortsAt P w A s2 (dataKind s2.heap (xs.map fun x => lotD x.1)) (xs.map fun x => Value.ref x.2) ∧
    sortVals (dataKind s2.heap (xs.map fun x => lotD x.1)) false (xs.map fun x => Value.ref x.2) (xs.map fun x => Value.ref x.2) = (xs.mergeSort leN).map fun x => Value.ref x.2 := by
  have al : AllAlike (xs.map fun x => lotD x.1) := AllAlike.of fun b b' => by
    show alike (.tuple _) (.tuple _) = true
    rw [alike]
    exact alike_lots _ _
  have e := each_map2 (R := fun v d => ∃ as, Reads s2.heap v d as) (f := fun x : LA => Value.ref x.2) (g := fun x : LA => lotD x.1) rd
  obtain ⟨x0, r0, hx, n0⟩ := h0
  refine ⟨?_, each_out (sortVals_data (R := fun v (x : LA) => v = Value.ref x.2) (enc := fun x : LA => lotD x.1) false ?_ ?_ al)⟩
  · refine sorts_mixed (d0 := lotD x0.1) (dr := r0.map fun x => lotD x.1) e al (fun d hd => ?_) (by rw [hx]; rfl) ?_ fun d hd => ?_
    · obtain ⟨x, _, rfl⟩ := List.mem_map.mp hd
      exact ⟨_, rfl⟩
    · cases q : x0.1 with
      | nil => exact absurd q n0
      | cons a b => rfl
    · obtain ⟨x, _, rfl⟩ := List.mem_map.mp hd
      have := depth_lots x.1
      show A.units + PyData.depth (.tuple _) < cLine
      rw [PyData.depth]
      omega
  · have := each_map2 (R := fun v (x : LA) => v = Value.ref x.2) (f := fun x : LA => Value.ref x.2) (g := fun x : LA => x) (xs := xs) fun _ _ => rfl
    rwa [List.map_id'] at this
  · have := each_map2 (R := fun v (x : LA) => ∃ as, Reads s2.heap v (lotD x.1) as) (f := fun x : LA => Value.ref x.2) (g := fun x : LA => x) (xs := xs) rd
    rwa [List.map_id'] at this
theorem cr_sortedN (hu : X.A.units + 64 < cLine) : CallR X (.builtin "sorted") (rSortN X.K) := by
  intro pins s σ H vs us Q I r h
  obtain ⟨a, xs, rfl, hs, ht, h0, q⟩ := h
  obtain ⟨its, rv, hl, hz⟩ := I.list hs
  obtain ⟨u, rfl, ru⟩ := vals1 r
  obtain rfl : u = Value.ref a := ru
  obtain rfl := valsF_back rv
  have rd := lots_read I ht
  have rd2 : ∀ x ∈ xs, ∃ as, Reads (sortingHeap (copyHeap s.heap (xs.map fun x => Value.ref x.2)) (s.heap.objs.size + 1) (xs.map fun x => Value.ref x.2)) (.ref x.2) (lotD x.1) as := fun x hx => by
    obtain ⟨as, r⟩ := rd x hx
    exact ⟨as, PyProof.Rows.Reads.keeps (fun _ _ => sorting_copy_old) r⟩
  have le : (xs.mergeSort leN).length = xs.length := List.length_mergeSort _
  have in2 : X.A.in1.in1.units ≤ X.A.units + 2 := by simp [Around.in1]
  obtain ⟨S, e⟩ := lots_sort (P := X.prog) (w := X.w) (A := X.A.in1.in1) (s2 := { s with heap := sortingHeap (copyHeap s.heap (xs.map fun x => Value.ref x.2)) (s.heap.objs.size + 1) (xs.map fun x => Value.ref x.2) }) rd2 h0 (by omega)
  refine sorted_vals hl.isList S (by simpa using hz) ?_
  rw [e]
  obtain ⟨e0, hat⟩ := PyProof.Rows.sortedAll_at s.heap (xs.map fun x => Value.ref x.2) ((xs.mergeSort leN).map fun x => Value.ref x.2).toArray
  refine ⟨.ref (s.heap.objs.size + 1), upd H (s.heap.objs.size + 1) (.lst ((xs.mergeSort leN).map fun x => V.ref x.2)), I.laid (t' := s.toks) (fun b o e => PyProof.Rows.sortedAll_old e) (Nat.le_succ _) ⟨?_, (xs.mergeSort leN).map fun x => Value.ref x.2, e0, valsF_of _, hat⟩, rfl, q _ (I.hok.fresh (Nat.le_succ _))⟩
  rw [List.length_map, le]
  simpa using hz
end
end KR
/-! dicts whose keys are lots, all of whose values are True -/
namespace KR
open PySem PySem.Spec PyProof.Rows L2 KM KQ PySem.W PySem.Calls
abbrev rowK (r : List Int) : NestedKey := .tup (r.map .num)
abbrev lotK (L : List (List Int)) : NestedKey := .tup (L.map rowK)
theorem map_inj {α β : Type} {f : α → β} (hf : ∀ a b, f a = f b → a = b) : ∀ {xs ys : List α}, xs.map f = ys.map f → xs = ys
  | [], [], _ => rfl
  | [], _ :: _, h => by cases h
  | _ :: _, [], h => by cases h
  | x :: xs, y :: ys, h => by
    rw [List.map_cons, List.map_cons] at h
    obtain ⟨h1, h2⟩ := List.cons.inj h
    rw [hf _ _ h1, map_inj hf h2]
theorem rowK_inj {a b : List Int} (h : rowK a = rowK b) : a = b := map_inj (fun _ _ z => NestedKey.num.inj z) (NestedKey.tup.inj h)
theorem lotK_inj {a b : List (List Int)} (h : lotK a = lotK b) : a = b := map_inj (fun _ _ z => rowK_inj z) (NestedKey.tup.inj h)
/-- the entries of such a dict -/
def nkE (xs : List LA) : List (NestedKey × Addr × Value) := xs.map fun x => (lotK x.1, x.2, .bool true)
def putN (xs : List LA) (L : List (List Int)) (t : Addr) : List LA := if L ∈ xs.map (·.1) then xs else xs ++ [(L, t)]
theorem atKey_nkE : ∀ (xs : List LA) (L : List (List Int)), (atKey (nkE xs) (lotK L)).isSome = true ↔ L ∈ xs.map (·.1)
  | [], L => by simp [nkE, atKey]
  | x :: xs, L => by
    have ih := atKey_nkE xs L
    show (atKey ((lotK x.1, x.2, Value.bool true) :: nkE xs) (lotK L)).isSome = true ↔ _
    unfold atKey at ih ⊢
    rw [List.map_cons, List.mem_cons, List.find?_cons]
    by_cases e : x.1 = L
    · simp [e]
    · have e2 : ¬ lotK x.1 = lotK L := fun z => e (lotK_inj z)
      have e3 : ¬ L = x.1 := fun z => e z.symm
      simp only [e2, e3, decide_false, false_or]
      exact ih
theorem stored_nkE (xs : List LA) (L : List (List Int)) (t : Addr) : storedH (nkE xs) (lotK L) t (.bool true) = nkE (putN xs L t) := by
  unfold storedH putN
  by_cases h : L ∈ xs.map (·.1)
  · rw [if_pos ((atKey_nkE xs L).mpr h), if_pos h]
    unfold nkE
    rw [List.map_map]
    refine List.map_congr_left fun x _ => ?_
    show putAt _ _ (lotK x.1, x.2, Value.bool true) = _
    unfold putAt
    split <;> rfl
  · rw [if_neg (fun z => h ((atKey_nkE xs L).mp z)), if_neg h]
    unfold nkE
    rw [List.map_append]
    rfl
/-- such a dict at a -/
def DN (P : Program) (w : World) (a : Addr) (xs : List LA) : HO := .ext fun h => xs.length ≤ sizeLine ∧ (a == sysModules) = false ∧ (xs.map (·.1)).Nodup ∧ ∃ o es ep, h.get? a = some o ∧ o.ExactDict ∧ o.data = .dict es ep ∧ es.toList = (nkE xs).map (entryOfKey (nestedKind P w))
theorem dn_ok {P : Program} {w : World} {H : Hp} {h : Heap} {a : Addr} {xs : List LA} (hz : xs.length ≤ sizeLine) (hs : (a == sysModules) = false) (d : h.DictOfH (nestedKind P w) a (nkE xs)) : ObjOk P w H h a (DN P w a xs) := by
  obtain ⟨o, es, ep, h1, h2, h3, h4, h5, h6⟩ := d
  have nd : (xs.map (·.1)).Nodup := by
    have : ((xs.map (·.1)).map lotK).Nodup := by
      rw [List.map_map]
      unfold nkE at h6
      rw [List.map_map] at h6
      exact h6
    exact List.Pairwise.of_map lotK (fun _ _ ne e => ne (congrArg lotK e)) this
  refine ⟨⟨hz, hs, nd, o, es, ep, h1, h2, h3, h4⟩, ⟨o, h1⟩, fun g1 g2 ⟨a1, a2, a3, o', es', ep', b1, b2, b3, b4⟩ k => ⟨a1, a2, a3, o', es', ep', k o' b1, b2, b3, b4⟩⟩
theorem nested_row {h : Heap} : ∀ {r : List Int} {its : List Value}, Vals (r.map V.int) its → NestedAll h (r.map .num) its
  | [], _, v => by cases v; exact .nil
  | x :: r, _, v => by
    cases v with
    | cons h t =>
      obtain ⟨tk, rfl⟩ := h
      exact .cons (.int x tk) (nested_row t)
theorem depth_nums : ∀ r : List Int, NestedKey.depthAll (r.map .num) = 0
  | [] => rfl
  | x :: r => by
    rw [List.map_cons, NestedKey.depthAll, depth_nums r]
    rfl
theorem depth_rowKs : ∀ L : List (List Int), NestedKey.depthAll (L.map rowK) ≤ 1
  | [] => Nat.zero_le _
  | x :: L => by
    have := depth_rowKs L
    have h2 := depth_nums x
    rw [List.map_cons, NestedKey.depthAll]
    show max (NestedKey.depth (.tup _)) _ ≤ 1
    rw [NestedKey.depth, h2]
    omega
section
variable {X : Cx} {pins : List (Addr × Obj)} {σ : L2.St} {H : Hp} {s : Shared}
theorem nested_rows (I : Inv X pins σ H s) : ∀ {ts : List Addr} {L : List (List Int)} {us : List Value}, Its H ts L → Vals (ts.map V.ref) us → NestedAll s.heap (L.map rowK) us
  | [], [], _, _, v => by cases v; exact .nil
  | [], _ :: _, _, i, _ => by cases i.1
  | _ :: _, [], _, i, _ => by cases i.1
  | t :: ts, r :: L, _, i, v => by
    obtain ⟨ys, e, ht⟩ := i.2 0 t rfl
    obtain rfl : r = ys := Option.some.inj e
    cases v with
    | cons h tl =>
      cases h
      obtain ⟨its, rv, ⟨o, ho, hc, n, hd⟩, _⟩ := I.tuple (ht.seq (K := X.K))
      exact .cons (.tup ho hc hd (nested_row rv)) (nested_rows I ⟨Nat.succ.inj i.1, fun j u hu => i.2 (j + 1) u hu⟩ tl)
theorem nested_lot (I : Inv X pins σ H s) {a : Addr} {L : List (List Int)} (h : TL H a L) : (nestedKind X.prog X.w).is s.heap (lotK L) a := by
  obtain ⟨ts, e, i⟩ := h
  obtain ⟨its, rv, ⟨o, ho, hc, n, hd⟩, _⟩ := I.tuple (rdT (K := X.K) e)
  refine ⟨.tup ho hc hd (nested_rows I i rv), ?_⟩
  have := depth_rowKs L
  show NestedKey.depth (.tup _) ≤ 8
  rw [NestedKey.depth]
  omega
theorem dn_dict (I : Inv X pins σ H s) {a : Addr} {xs : List LA} (e : H a = some (DN X.prog X.w a xs)) (hk : ∀ x ∈ xs, TL H x.2 x.1) :
    s.heap.DictOfH (nestedKind X.prog X.w) a (nkE xs) ∧ xs.length ≤ sizeLine ∧ (a == sysModules) = false := by
  obtain ⟨⟨hz, hs, nd, o, es, ep, h1, h2, h3, h4⟩, _, _⟩ := I.hok a _ e
  refine ⟨⟨o, es, ep, h1, h2, h3, h4, fun y hy => ?_, ?_⟩, hz, hs⟩
  · obtain ⟨x, hx, rfl⟩ := List.mem_map.mp hy
    exact nested_lot I (hk x hx)
  · have : ((xs.map (·.1)).map lotK).Nodup := List.Pairwise.map lotK (fun _ _ ne e => ne (lotK_inj e)) nd
    rw [List.map_map] at this
    unfold nkE
    rw [List.map_map]
    exact this
end
section
variable {X : Cx} {o i value : Expr} {td ty tv : TE} {pos pos' : Pos}
/-- d[lot] = True -/
def sPutN (P : Program) (w : World) (td ty tv : TE) : TS := fun D σ H => tv σ H fun r H1 => td σ H1 fun x H2 => ty σ H2 fun y H3 => ∃ (a t : Addr) (xs : List LA) (L : List (List Int)), r = .bl true ∧ x = .ref a ∧ y = .ref t ∧ H3 a = some (DN P w a xs) ∧
  (∀ x ∈ xs, TL H3 x.2 x.1) ∧ TL H3 t L ∧ xs.length < sizeLine ∧ D.nx σ (upd H3 a (DN P w a (putN xs L t)))
theorem ps_putN (hu : X.A.units + 64 < cLine) (ho : PE X o td) (hi : PE X i ty) (hv : PE X value tv) (hs : swapsWith value (some (.Subscript o i pos')) pos.line X.env = pure false) :
    PS X (.Assign [.Subscript o i pos'] value pos) (sPutN X.prog X.w td ty tv) := by
  refine ⟨fun pins s σ H D I h => ?_⟩
  refine wpAny_Assign_Subscript (thn (hv.run pins s σ H _ I h) fun r s1 ⟨v, H1, I1, rv, q1⟩ => thn (ho.run pins s1 σ H1 _ I1 q1) fun u s2 ⟨x, H2, I2, rx, q2⟩ => thn (hi.run pins s2 σ H2 _ I2 q2) fun iv s3 ⟨y, H3, I3, ry, a, t, xs, L, e1, e2, e3, ed, hk, ht, hl, q3⟩ => ?_) hs
  subst e1 e2 e3
  obtain rfl : u = Value.ref a := rx
  obtain rfl : iv = Value.ref t := ry
  obtain rfl : r = Value.bool true := rv
  obtain ⟨dd, hz, hm⟩ := dn_dict I3 ed hk
  have l2 : (nkE xs).length = xs.length := List.length_map _
  have room : (nestedKind X.prog X.w).room X.A.in1 := by
    show X.A.in1.units + 8 < cLine
    have : X.A.in1.units ≤ X.A.units + 1 := by simp [Around.in1]
    omega
  refine wpAny_setItem_heap (hsz := by rw [l2]; exact hz) room (nested_lot I3 ht) dd fun h' d' sb => ?_
  rw [stored_nkE] at d'
  have l3 : (putN xs L t).length ≤ sizeLine := by
    unfold putN
    split
    · exact hz
    · rw [List.length_append]
      exact hl
  have ex : ∃ q, h'.get? a = some q := let ⟨q, _, _, hq, _⟩ := d'; ⟨q, hq⟩
  exact ⟨σ, _, d_write I3 (by rw [ed]; exact True.intro) sb ex (dn_ok l3 hm d'), q3⟩
/-- {lot: True} -/
def tDispN (P : Program) (w : World) (tk tv : TE) : TE := fun σ H Q => ∀ p, H p = none → tk σ (upd H p (.dK [])) fun x H1 => tv σ H1 fun y H2 => H2 p = some (.dK []) ∧ ∃ (t : Addr) (L : List (List Int)), x = .ref t ∧ y = .bl true ∧ TL H2 t L ∧ Q (.ref p) (upd H2 p (DN P w p [(L, t)]))
theorem pe_dispN {k v : Expr} {tk tv : TE} (hu : X.A.units + 64 < cLine) (hk : PE X k tk) (hv : PE X v tv) : PE X (.Dict [some k] [v] pos) (tDispN X.prog X.w tk tv) := by
  refine ⟨fun pins s σ H Q I h => ?_⟩
  have hn := I.hok.fresh (Nat.le_refl s.heap.objs.size)
  have I1 := I.laid (a := s.heap.objs.size) (o := .dK []) (h' := s.heap.push { cls := .type "dict", data := .dict #[] }) (t' := s.toks) (fun _ _ q => Heap.get?_push_of_some _ q) (Nat.le_refl _) (dk_empty s.heap I.big)
  have room : (nestedKind X.prog X.w).room X.A := by
    show X.A.units + 8 < cLine
    omega
  rw [arm_eval_Dict, zip_pairTrees [some k] [v] X.env pos rfl rfl, dictDisplay_pairs (pairTrees [some k] [v] X.env pos) (fun z => by cases z) (show 1 < 17 by decide)]
  refine wpAny_bind (wpAny_standAt (wpAny_bind (wpAny_subDictH (knd := nestedKind X.prog X.w) (Q := fun d s' => wpAny (model X.prog X.w) X.A (pure (Value.ref d)) (EP X pins σ Q) X.xe s') room (show 1 ≤ 15 by decide) ?_)))
  refine pairTrees_cons_walk (thn (hk.run pins _ σ _ _ I1 (h _ hn)) fun u s1 ⟨x, H1, J1, rx, q1⟩ => thn (hv.run pins s1 σ H1 _ J1 q1) fun u2 s2 ⟨y, H2, J2, ry, ed, t, L, e1, e2, ht, q2⟩ => pairTrees_nil_walk ?_)
  subst e1 e2
  obtain rfl : u = Value.ref t := rx
  obtain rfl : u2 = Value.bool true := ry
  obtain ⟨z, hm, vs0, r0, d0⟩ := dk_of J2.hok ed
  cases r0
  refine ⟨[(lotK L, t, .bool true)], ⟨rfl, rfl, nested_lot J2 ht, trivial⟩, ?_, fun h' tk' d' sb => ?_⟩
  · obtain ⟨o, es, ep, a1, a2, a3, a4, a5, a6⟩ := d0
    refine ⟨o, es, ep, a1, a2, a3, ?_, fun _ m => (by cases m), List.nodup_nil⟩
    rw [List.map_nil]
    generalize es.toList = l at a5
    cases a5
    rfl
  · have d2 : h'.DictOfH (nestedKind X.prog X.w) s.heap.objs.size (nkE [(L, t)]) := d'
    have ex : ∃ q, h'.get? s.heap.objs.size = some q := let ⟨q, _, _, hq, _⟩ := d2; ⟨q, hq⟩
    exact wpAny_pure ⟨.ref s.heap.objs.size, _, d_write J2 (by rw [ed]; exact True.intro) sb ex (dn_ok (xs := [(L, t)]) (by show 1 ≤ sizeLine; decide) hm d2), rfl, q2⟩
end
end KR
/-! list(d), sorted(d) of a dict whose keys are lots -/
namespace KR
open PySem PySem.Spec PyProof.Rows L2 KM KQ PySem.W PySem.Calls
theorem dn_key {P : Program} {w : World} {es : Array DictEntry} {xs : List LA} (h : es.toList = (nkE xs).map (entryOfKey (nestedKind P w))) {i : Nat} (hi : i < es.size) : ∃ x, xs[i]? = some x ∧ es[i].key = .ref x.2 := by
  have e : es.toList[i]? = some es[i] := by rw [Array.getElem?_toList]; exact Array.getElem?_eq_getElem hi
  rw [h] at e
  unfold nkE at e
  rw [List.getElem?_map, List.getElem?_map] at e
  cases q : xs[i]? with
  | none => rw [q] at e; cases e
  | some x =>
    rw [q] at e
    have e2 : entryOfKey (nestedKind P w) (lotK x.1, x.2, Value.bool true) = es[i] := Option.some.inj e
    exact ⟨x, rfl, by rw [← e2]; rfl⟩
theorem dn_size {P : Program} {w : World} {es : Array DictEntry} {xs : List LA} (h : es.toList = (nkE xs).map (entryOfKey (nestedKind P w))) : es.size = xs.length := by
  have := congrArg List.length h
  unfold nkE at this
  rw [List.length_map, List.length_map, Array.length_toList] at this
  exact this
theorem dn_items {P : Program} {w : World} {es : Array DictEntry} {xs : List LA} (h : es.toList = (nkE xs).map (entryOfKey (nestedKind P w))) {acc : Array Value} (it : ItemsOf (fun i v => ∃ hi : i < es.size, v = es[i].key) acc es.size) : acc.toList = xs.map fun x => Value.ref x.2 := by
  have l1 := dn_size h
  refine List.ext_getElem? fun j => ?_
  rw [List.getElem?_map]
  by_cases hj : j < acc.size
  · have e : acc.toList[j]? = some acc[j] := by rw [Array.getElem?_toList]; exact Array.getElem?_eq_getElem hj
    obtain ⟨hi, e2⟩ := it.2 j acc[j] (by rw [← Array.getElem?_toList]; exact e)
    obtain ⟨x, hx, ek⟩ := dn_key h hi
    rw [e, hx, e2, ek]
    rfl
  · rw [List.getElem?_eq_none (by rw [Array.length_toList]; omega), List.getElem?_eq_none (by have := it.1; omega)]
    rfl
section
variable {X : Cx}
theorem cr_listN (hc : X.calm = true) : CallR X (.type "list") (fun vs H Q => ∃ (a : Addr) (xs : List LA), vs = [V.ref a] ∧ H a = some (DN X.prog X.w a xs) ∧ ∀ p, H p = none → Q (.ref p) (upd H p (.lst (xs.map fun x => V.ref x.2)))) := by
  intro pins s σ H vs us Q I r h
  obtain ⟨a, xs, rfl, e, q⟩ := h
  obtain ⟨u, rfl, ru⟩ := vals1 r
  obtain rfl : u = Value.ref a := ru
  obtain ⟨⟨hz, hs, nd, o, es, ep, h1, h2, h3, h4⟩, _, _⟩ := I.hok a _ e
  have l1 := dn_size h4
  refine kdl_call (KdlSrc.rawDict (es := es) (ep := ep) hs) (I.ok.hd hc) ⟨o, h1, h2, h3⟩ (by omega) fun h' tk acc c kp he it => ?_
  have ea := dn_items h4 it
  refine ⟨.ref s.heap.objs.size, _, I.laid (t' := tk) (o := .lst (xs.map fun x => V.ref x.2)) kp (Nat.le_refl _) ⟨by rw [List.length_map]; exact hz, acc.toList, c, by rw [ea]; exact valsF_of _, by rw [Array.toArray_toList]; exact he⟩, rfl, q _ (I.hok.fresh (Nat.le_refl _))⟩
theorem cr_sortedDN (hc : X.calm = true) (hu : X.A.units + 64 < cLine) : CallR X (.builtin "sorted") (fun vs H Q => ∃ (a : Addr) (xs : List LA), vs = [V.ref a] ∧ H a = some (DN X.prog X.w a xs) ∧ (∀ x ∈ xs, TL H x.2 x.1) ∧ (∃ x r, xs = x :: r ∧ x.1 ≠ []) ∧
    ∀ p, H p = none → Q (.ref p) (upd H p (.lst ((xs.mergeSort leN).map fun x => V.ref x.2)))) := by
  intro pins s σ H vs us Q I r h
  obtain ⟨a, xs, rfl, e, ht, h0, q⟩ := h
  obtain ⟨u, rfl, ru⟩ := vals1 r
  obtain rfl : u = Value.ref a := ru
  obtain ⟨⟨hz, hs, nd, o, es, ep, h1, h2, h3, h4⟩, _, _⟩ := I.hok a _ e
  have l1 := dn_size h4
  have le : (xs.mergeSort leN).length = xs.length := List.length_mergeSort _
  refine call_function_entry kind_sorted plain_sorted entry_sorted (args_sorted1 _) ?_
  unfold Builtin.«sorted»
  refine wpAny_bind (m := checkCount "sorted" 1 1 _) (wpAny_pure ?_)
  refine wpAny_bind (kdu_collect (A := X.A.in1) (KdlSrc.rawDict (es := es) (ep := ep) hs) (by simp [I.ok.hd hc]) ⟨o, h1, h2, h3⟩ (by omega) fun h' tk acc kp it => ?_)
  rw [dn_items h4 it]
  refine wpAny_bind (wpAny_newList ?_ (by rw [List.length_map]; omega))
  have I2 : Inv X pins σ H { s with heap := h', toks := tk } := I.kept kp
  have rd := lots_read I2 ht
  have hL : (h'.push (seqObj "list" (xs.map fun x => Value.ref x.2).toArray 0)).get? h'.objs.size = some (seqObj "list" (xs.map fun x => Value.ref x.2).toArray 0) := Heap.get?_push_size _ rfl
  have rd2 : ∀ x ∈ xs, ∃ as, Reads (sortingHeap (h'.push (seqObj "list" (xs.map fun x => Value.ref x.2).toArray 0)) h'.objs.size (xs.map fun x => Value.ref x.2)) (.ref x.2) (lotD x.1) as := fun x hx => by
    obtain ⟨as, r⟩ := rd x hx
    exact ⟨as, PyProof.Rows.Reads.keeps (fun b o e => sortingHeap_old (Nat.ne_of_lt (Heap.lt_size e)) (Heap.get?_push_of_some _ e)) r⟩
  have in2 : X.A.in1.in1.units ≤ X.A.units + 2 := by simp [Around.in1]
  obtain ⟨S, es2⟩ := lots_sort (P := X.prog) (w := X.w) (A := X.A.in1.in1) (s2 := { s with heap := sortingHeap (h'.push (seqObj "list" (xs.map fun x => Value.ref x.2).toArray 0)) h'.objs.size (xs.map fun x => Value.ref x.2), toks := tk }) rd2 h0 (by omega)
  refine wpAny_bind (wpAny_holding (wpAny_call_entry slot_list_sort ⟨_, hL, rfl⟩ entry_list_sort (list_sort_vals (s := { s with heap := h'.push (seqObj "list" (xs.map fun x => Value.ref x.2).toArray 0), toks := tk }) hL S (by rw [List.length_map]; omega) ⟨_, rfl, ?_⟩) (args_list_sort _)))
  rw [es2]
  obtain ⟨e0, hat⟩ := PyProof.Rows.sortedHeap_at (out := ((xs.mergeSort leN).map fun x => Value.ref x.2).toArray) hL
  refine wpAny_pure ⟨_, rfl, .ref h'.objs.size, _, I2.laid (s := { s with heap := h', toks := tk }) (t' := tk) (a := h'.objs.size) (o := .lst ((xs.mergeSort leN).map fun x => V.ref x.2)) (fun b ob eb => ?_) (Nat.le_refl _) ⟨by rw [List.length_map, le]; exact hz, (xs.mergeSort leN).map fun x => Value.ref x.2, e0, valsF_of _, hat⟩, rfl, q _ (I2.hok.fresh (Nat.le_refl _))⟩
  have lb : b < h'.objs.size := Heap.lt_size eb
  rw [PyProof.Rows.sortedHeap_old (Nat.ne_of_lt lb) (by rw [size_push']; exact Nat.lt_succ_of_lt lb)]
  exact Heap.get?_push_of_some _ eb
end
end KR
/-! sorted(set(rows)): a list of rows of any length, fewer than 63 unlike ones -/
namespace KR
open PySem PySem.Spec PyProof.Rows L2 KM KQ
section
variable {P : Program} {w : World} {A : Around} {E : Value → Shared → Prop} {s : Shared}
abbrev AR := Addr × List Int
theorem few_of {L ks : List AR} {D : List (List Int)} {i : Nat} (nd : (L.map (·.2)).Nodup) (g : Got ks i L) (inD : ∀ p ∈ ks, p.2 ∈ D) : L.length ≤ D.length := by
  have := sub_len (ys := D) nd fun x hx => by
    obtain ⟨p, hp, rfl⟩ := List.mem_map.mp hx
    exact inD p (List.mem_of_mem_take (g.sub p hp))
  rwa [List.length_map] at this
/-- the loop by which a set takes rows in -/
theorem rows_loop {I T : Addr} {fp wr : List Addr} {G : Array GenState → Array GenState → Prop} {n : Nat} {Pv : Nat → Value → Prop} {St : Nat → Shared → Prop} {R : Result → Shared → Prop} (W : WalksS P w A.in1 I fp wr G n Pv St) (Tfp : T ∉ fp)
    {ks : List AR} {D : List (List Int)} (few : D.length ≤ 62) (inD : ∀ p ∈ ks, p.2 ∈ D) (len : n = ks.length) (val : ∀ i v, Pv i v → ∃ p, ks[i]? = some p ∧ v = .ref p.1) {g0 : Heap} (rows : ∀ p ∈ ks, IsT P w g0 p.2 p.1)
    (T0 : g0.get? T = none) (wr0 : ∀ b ∈ wr, g0.get? b = none) (room : A.in1.units < cLine) : ∀ (m i : Nat) (s : Shared), n - i = m → i ≤ n → St i s → (∀ b o, g0.get? b = some o → s.heap.get? b = some o) →
      (∃ L es ep t, SetTR P w s.heap T L es ep t ∧ Got ks i L) →
      (∀ s' L es ep t, Moved (T :: wr) G s s' → SetTR P w s'.heap T L es ep t → Got ks n L → (∀ b o, g0.get? b = some o → s'.heap.get? b = some o) → R (.ok (.ret .none)) s') →
      codeAny (model P w) A (.builtin "set.update.loop" ⟨[.ref T, .ref I], []⟩) R s := by
  have Twr : T ∉ wr := fun z => Tfp (W.sub _ z)
  have more : ∀ b ∈ wr, b ∈ T :: wr := fun b hb => List.mem_cons_of_mem _ hb
  have stay : ∀ {s s' : Shared}, Moved wr G s s' → (∀ b o, g0.get? b = some o → s.heap.get? b = some o) → ∀ b o, g0.get? b = some o → s'.heap.get? b = some o := fun mv kp b o e => mv.heap b o (fun hb => by rw [wr0 b hb] at e; cases e) (kp b o e)
  intro m
  induction m with
  | zero =>
    rintro i s hm hi st kp ⟨L, es, ep, t, S0, got⟩ out
    obtain rfl : i = n := by omega
    refine codeAny_builtin F.entry_set_update_loop ?_
    rw [Around.under_plainId F.plain_set_update_loop _]
    refine (show wpAny _ A.in1 (pyNext (.ref I) >>= _) _ _ s from wpAny_bind (W.done s _ _ st fun s1 mv => ?_))
    have kp1 := stay mv kp
    exact (show wpAny _ A.in1 (ret Value.none) _ _ s1 from wpAny_pure (out s1 L es ep t (mv.mono more) (S0.keep (fun o e => mv.heap T o Twr e) fun p hp => isT_keep (rows p (List.mem_of_mem_take (got.sub p hp))) kp1) got kp1))
  | succ m ih =>
    rintro i s hm hi st kp ⟨L, es, ep, t, S0, got⟩ out
    have lt : i < n := by omega
    refine codeAny_builtin F.entry_set_update_loop ?_
    rw [Around.under_plainId F.plain_set_update_loop _]
    refine (show wpAny _ A.in1 (pyNext (.ref I) >>= _) _ _ s from wpAny_bind (W.item i s _ _ lt st fun v s1 hv st1 mv => ?_))
    obtain ⟨p, hp, rfl⟩ := val i v hv
    have kp1 := stay mv kp
    have S1 : SetTR P w s1.heap T L es ep t := S0.keep (fun o e => mv.heap T o Twr e) fun q hq => isT_keep (rows q (List.mem_of_mem_take (got.sub q hq))) kp1
    have xr : IsT P w s1.heap p.2 p.1 := isT_keep (rows p (List.mem_of_getElem? hp)) kp1
    have fw := few_of S1.nd got inD
    refine (show wpAny _ A.in1 (holding [Value.ref p.1] (setAdd T (.ref p.1)) >>= _) _ _ s1 from wpAny_bind (wpAny_holding ?_))
    unfold setAdd
    refine wpAny_holding (wpAny_bind (wpAny_pyHash_tuple room xr ?_))
    refine add_at (s := { s1 with toks := s1.toks + (p.2.length + 1) }) S1 xr room (by omega) fun b h2 L2 es2 ep2 t2 sb S2 c1 c2 => ?_
    have got2 : Got ks (i + 1) L2 := (Classical.em (p.2 ∈ L.map (·.2))).elim (fun c => by rw [c1 c]; exact got.same hp c) fun c => got.more hp (c2 c)
    have kp2 : ∀ b o, g0.get? b = some o → h2.get? b = some o := fun b o e => (sb.2 b fun z => by rw [z, T0] at e; cases e).trans (kp1 b o e)
    refine wpAny_pure ⟨plainId_quiet F.plain_set_update_loop _, ih (i + 1) _ (by omega) lt (W.frame _ s1 _ _ st1 (Nat.le_add_right _ _) fun b hb o e => ?_) kp2 ⟨L2, es2, ep2, t2, S2, got2⟩ fun s3 L3 es3 ep3 t3 mv3 S3 got3 kp3 => ?_⟩
    · exact (sb.2 b fun z => Tfp (by rw [← z]; exact hb)).trans e
    · refine out s3 L3 es3 ep3 t3 (Moved.trans W.gtrans ((mv.mono more).then_heap (Nat.le_add_right _ _) fun b o hb e => ?_) mv3) S3 got3 kp3
      exact (sb.2 b fun z => hb (by rw [z]; exact List.mem_cons_self)).trans e
set_option maxHeartbeats 8000000 in
theorem set_of_rows {l : Addr} {items : Array Value} (ks : List AR) {D : List (List Int)} {Q : Value → Shared → Prop} (few : D.length ≤ 62) (inD : ∀ p ∈ ks, p.2 ∈ D) (free : A.handled = none) (lst : s.heap.IsList l items) (hit : items.toList = ks.map fun p => Value.ref p.1) (rows : ∀ p ∈ ks, IsT P w s.heap p.2 p.1) (room : A.units + 3 < cLine)
    (out : ∀ (h' : Heap) (tk : Nat) L es ep t, SetTR P w h' s.heap.objs.size L es ep t → Got ks ks.length L → (∀ b o, s.heap.get? b = some o → h'.get? b = some o) → Q (.ref s.heap.objs.size) { s with heap := h', toks := tk }) :
    wpAny (model P w) A (call (.type "set") [.ref l]) Q E s := by
  have size : items.size = ks.length := by
    have := congrArg List.length hit
    rwa [Array.length_toList, List.length_map] at this
  obtain ⟨c0, tl0, m0⟩ := F.called_set.mro
  have m1 := F.called_set.made; have m2 := F.called_set.sub; have m3 := F.called_set.notType; have m4 := F.called_set.canCreate; have m5 := F.typeCall_set_1 (.ref l)
  refine wpAny_call (codeAny_of_tree (show wpAny _ _ (callAny (.type "set") _) _ _ _ from wpAny_pure ⟨Code.quiet_builtin _ (by decide +kernel), codeAny_builtin F.entry_type_call ?_⟩))
  rw [Around.under_plain (weight_type_call_type "set" [.ref l] []) rfl]; repeat (any_goals (first | assumption | wp_step))
  refine codeAny_mono (code_set_led1 (.ref l) (E := E) (Q₁ := fun u s1 => u = .ref s.heap.objs.size ∧ s1 = bareS w s) ⟨rfl, rfl⟩) fun z s1 hz => ?_
  cases z with
  | error e => exact hz
  | ok fl =>
    cases fl with
    | ret u =>
      obtain ⟨rfl, rfl⟩ := hz
      have at0 : (s.heap.push (bare w)).get? s.heap.objs.size = some (bare w) := Heap.get?_push_size _ rfl
      have ty0 : Shared.TypeIs (bareS w s) (.ref s.heap.objs.size) "set" := ⟨_, at0, rfl⟩
      have n1 := F.called_set.init.lookup; have n2 := F.called_set.init.bind (.ref s.heap.objs.size); repeat (any_goals (first | assumption | wp_step))
      refine codeAny_mono (codeAny_call_builtin (R := wants (fun r s2 => r = .none ∧ ∃ h' tk L es ep t, s2 = { s with heap := h', toks := tk } ∧ SetTR P w h' s.heap.objs.size L es ep t ∧ Got ks ks.length L ∧ ∀ b o, s.heap.get? b = some o → h'.get? b = some o) E)
        F.called_set.init.plain F.entry_set_init (check_set_init_1 ty0 ?_)) fun r2 s2 hz2 => ?_
      · obtain ⟨⟨oc, od, oda, osl⟩, at1, c1, n1', d1⟩ := lst
        simp only at c1 d1; subst c1; subst d1
        have at2 : (s.heap.push (bare w)).get? l = some { cls := .type "list", dict := od, data := .seq items n1', slots := osl } := Heap.get?_push_of_some _ at1
        have u1 := F.sub_list_set; have u2 := F.sub_list_frozenset; have u3 : (Value.type "list" == Value.type "dict") = false := by decide
        have lst2 : (s.heap.push (bare w)).IsList l items := ⟨_, at2, rfl, n1', rfl⟩
        unfold Builtin.«set.__init__» noKeywords Builtin.Frozenset.updateFrom; generalize hq : pyIter = qi; wp_walk; subst hq
        refine wpAny_pyIter_list lst2 (wpAny_bind (wpAny_runValue ?_))
        have below : l < s.heap.objs.size := Heap.lt_size at1
        have free3 : A.in1.in1.in1.handled = none := by simp [free]
        have ne1 : l ≠ (s.heap.push (bare w)).objs.size := by rw [Heap.size_push]; exact Nat.ne_of_lt (Nat.lt_succ_of_lt below)
        have out1 : s.heap.objs.size ∉ [(s.heap.push (bare w)).objs.size, l] := by
          rw [Heap.size_push]
          simp only [List.mem_cons, List.not_mem_nil, or_false, not_or]
          exact ⟨Nat.ne_of_lt (Nat.lt_succ_self _), Nat.ne_of_gt below⟩
        have vals : ∀ (i : Nat) (v : Value), items[i]? = some v → ∃ p, ks[i]? = some p ∧ v = .ref p.1 := fun i v hv => by
          have e : items.toList[i]? = some v := by rw [Array.getElem?_toList]; exact hv
          rw [hit, List.getElem?_map] at e
          cases q : ks[i]? with
          | none => rw [q] at e; cases e
          | some p => rw [q] at e; exact ⟨p, rfl, (Option.some.inj e).symm⟩
        have fresh : ∀ b, s.heap.objs.size ≤ b → s.heap.get? b = none := fun b hb => by
          cases q : s.heap.get? b with
          | none => rfl
          | some o => exact absurd (Nat.lt_of_lt_of_le (Heap.lt_size q) hb) (Nat.lt_irrefl _)
        have room3 : A.in1.in1.in1.units < cLine := by
          have : A.in1.in1.in1.units ≤ A.units + 3 := by simp [Around.in1]
          omega
        refine rows_loop ((Walks.list free3 _ l ne1 items).toS) out1 few inD size vals (g0 := s.heap) rows (fresh _ (Nat.le_refl _)) (fun b hb => fresh b ?_) room3 (items.size - 0) 0 _ (by omega) (Nat.zero_le _) ⟨⟨_, Heap.get?_push_size _ rfl, rfl, rfl⟩, lst2.push _⟩
          (fun b o e => Heap.get?_push_of_some _ (Heap.get?_push_of_some _ e)) ⟨[], #[], 0, _, setTR_fresh (Heap.get?_push_of_some _ at0), Got.zero ks⟩ ?_
        · rw [List.mem_singleton.mp hb, Heap.size_push]
          exact Nat.le_succ _
        rintro ⟨h', g2, d', tk', os'⟩ L es ep t mv R' got kp
        obtain rfl : g2 = s.gens := mv.gens
        obtain rfl : d' = s.drawn := mv.drawn
        obtain rfl : os' = s.os := mv.os
        rw [size] at got
        exact (show wpAny _ _ _ _ _ _ from wpAny_pure (show wpAny _ _ (ret Value.none) _ _ _ from wpAny_pure ⟨rfl, h', tk', L, es, ep, t, rfl, R', got, kp⟩))
      · cases r2 with
        | error e => exact hz2
        | ok f2 =>
          cases f2 with
          | ret r =>
            obtain ⟨rfl, h', tk, L, es, ep, t, rfl, R', got, kp⟩ := hz2
            repeat (any_goals (first | assumption | wp_step))
            exact out _ _ _ _ _ _ R' got kp
          | _ => exact hz2.elim
    | _ => exact hz.elim
end
end KR
namespace KR
open PySem PySem.Spec PyProof.Rows L2 KM KQ
theorem code_of_lex {B : Int} : ∀ {x y : List Int}, x.length = y.length → TS.Bd B x → TS.Bd B y → HT.lexLt x y = true → TS.code B x < TS.code B y
  | [], [], _, _, _, h => by cases h
  | [], _ :: _, l, _, _, _ => by cases l
  | _ :: _, [], l, _, _, _ => by cases l
  | a :: x, b :: y, l, hx, hy, h => by
    have l' : x.length = y.length := Nat.succ.inj l
    rw [HT.lexLt_cons] at h
    by_cases e : a = b
    · rw [if_pos e] at h
      subst e
      exact (TS.code_same l').mpr (code_of_lex l' hx.tail hy.tail h)
    · rw [if_neg e] at h
      exact TS.code_lt l' hx.tail hy.tail (of_decide_eq_true h)
theorem lex_total {x y : List Int} (n : x ≠ y) (h : HT.lexLt y x = false) : HT.lexLt x y = true := by
  cases e : HT.lexLt x y with
  | true => rfl
  | false => exact absurd (lex_eq x y e h) n
theorem its_ks {H : Hp} : ∀ {L : List AR}, (∀ p ∈ L, TI H p.1 p.2) → Its H (L.map (·.1)) (L.map (·.2))
  | [], _ => Its.nil
  | p :: L, h => (Its.one (h p List.mem_cons_self)).app (its_ks fun q hq => h q (List.mem_cons_of_mem _ hq))
def tSrtSetT (K : PySem.W.Frag) (ta : TE) : TE := fun σ H Q => ta σ H fun x H1 => ∃ (l : Addr) (ks : List AR) (D : List (List Int)) (d : Nat), x = .ref l ∧ SqL K H1 l (ks.map fun p => V.ref p.1) ∧ (∀ p ∈ ks, TI H1 p.1 p.2) ∧ D.length ≤ 62 ∧ (∀ p ∈ ks, p.2 ∈ D) ∧ 1 ≤ d ∧
  (∀ r ∈ D, r.length = d ∧ TS.Bd 64 r) ∧ ∀ (ts : List Addr) (rows : List (List Int)) (p : Addr), rows.Pairwise (fun x y => HT.lexLt x y = true) → (∀ r, r ∈ rows ↔ r ∈ ks.map (·.2)) → Its H1 ts rows → H1 p = none → Q (.ref p) (upd H1 p (.lst (ts.map V.ref)))
section
variable {X : Cx}
theorem pe_srtSetT {a : Expr} {ta : TE} {p p2 q pos : Pos} (hc : X.calm = true) (hu : X.A.units + 64 < cLine) (hg : Gl X "sorted") (hm : X.mg "sorted" = none) (hg2 : Gl X "set") (hm2 : X.mg "set" = none) (ha : PE X a ta)
    (na : starEach [a] X.env = (false, eval a X.env) :: starEach [] X.env := by rfl) : PE X (.Call (.Name "sorted" p) [.Call (.Name "set" p2) [a] [] q] [] pos) (tSrtSetT X.K ta) := by
  refine ⟨fun pins s σ H Q I h => ?_⟩
  refine Call_ (ld_blt I hg hm (show bootBuiltins (Str.ofString "sorted") = some (.builtin "sorted") by decide +kernel) ?_)
  refine PyProof.Rows.callWith_builtin1 (PyProof.Rows.args_cons ?_ rfl) rfl rfl
  refine Call_ (ld_blt I hg2 hm2 boot_set ?_)
  refine PyProof.Rows.callWith_type1 (PyProof.Rows.args_cons (thn (ha.run pins s σ H _ I h) fun v s1 ⟨x, H1, I1, r1, q1⟩ => PyProof.Rows.args_nil ?_) na) na rfl
  obtain ⟨l, ks, D, d, rfl, hq, hk, few, inD, d1, hD, q1⟩ := q1
  cases r1
  obtain ⟨its, r, pl, hz⟩ := I1.list hq
  obtain rfl : its = ks.map fun p => Value.ref p.1 := refs_of_vals r
  refine set_of_rows ks few inD (I1.ok.hd hc) pl.isList (by simp) (fun p hp => I1.isT ((hk p hp).seq (K := X.K))) (by omega) fun h' tk L es ep t R got kp => ?_
  refine PyProof.Rows.args_nil ?_
  have I2 : Inv X pins σ H1 { s1 with heap := h', toks := tk } := I1.kept kp
  have sub : ∀ p ∈ L, p ∈ ks := fun p hp => List.mem_of_mem_take (got.sub p hp)
  have nd := R.nd
  have R2 : SetTR X.prog X.w ({ s1 with heap := h', toks := tk } : Shared).heap s1.heap.objs.size L es ep t := R
  clear R
  generalize ({ s1 with heap := h', toks := tk } : Shared) = s2 at I2 R2 ⊢
  refine sorted_setT R2 (I2.ok.hd hc) d1 (fun p hp => hD _ (inD p (sub p hp))) fun s' p out c L' k g o hp hg' hout pm pw => ?_
  have len : L'.length ≤ 62 := by
    rw [pm.length_eq]
    exact Nat.le_trans (few_of nd got inD) few
  have hv : Vals (L'.map fun q => V.ref q.1) out.toList := by rw [hout]; exact vals_of_refs L'
  have new : H1 p = none := I2.hok.fresh hp
  have J : Inv X pins σ (upd H1 p (.lst (L'.map fun q => V.ref q.1))) { s2 with heap := s'.heap, gens := s'.gens, drawn := s'.drawn, toks := s'.toks } :=
    I2.call (ch := []) (Un.laid k hp new) (I2.hok.laid k hp ⟨by rw [List.length_map, sizeLine_eq]; omega, out.toList, c, hv, hg'⟩) (by rw [g]; exact I2.bare) (fun _ z => nomatch z)
  rw [show s' = { s2 with heap := s'.heap, gens := s'.gens, drawn := s'.drawn, toks := s'.toks } by cases s'; cases s2; cases o; rfl]
  have sub' : ∀ p ∈ L', p ∈ ks := fun p hp => sub p (pm.mem_iff.mp hp)
  have nd' : (L'.map (·.2)).Nodup := (pm.map (·.2)).nodup_iff.mpr nd
  have := q1 (L'.map (·.1)) (L'.map (·.2)) p ?_ (fun z => ?_) (its_ks fun p hp => hk p (sub' p hp)) new
  · rw [List.map_map] at this
    exact ⟨.ref p, _, J, rfl, this⟩
  · rw [List.pairwise_map]
    have nd2 := List.pairwise_map.mp nd'
    refine (pw.and nd2).imp_of_mem fun {a b} ha hb ⟨le, ne⟩ => lex_total ne ?_
    cases e : HT.lexLt b.2 a.2 with
    | false => rfl
    | true =>
      obtain ⟨la, ba⟩ := hD _ (inD a (sub' a ha))
      obtain ⟨lb, bb⟩ := hD _ (inD b (sub' b hb))
      have := code_of_lex (B := 64) (by omega) bb ba e
      omega
  · rw [(pm.map (·.2)).mem_iff]
    constructor
    · intro h
      obtain ⟨p, hp, rfl⟩ := List.mem_map.mp h
      exact List.mem_map.mpr ⟨p, sub p hp, rfl⟩
    · intro h
      obtain ⟨p, hp, rfl⟩ := List.mem_map.mp h
      exact got.all p (by rw [List.take_length]; exact hp)
end
end KR
namespace KQ
open PySem PySem.Spec PyProof.Rows L2 KR KM StX
/-- a row in a tuple of rows -/
def rInT : R2 := fun x y H Q => ∃ (t a : Addr) (p : List Int) (xss : List (List Int)), x = .ref t ∧ y = .ref a ∧ TI H t p ∧ TL H a xss ∧ Q (.bl (decide (p ∈ xss))) H
theorem op_inT {X : Cx} (hu : X.A.units + 65 < cLine) : OpR X (compareOp .In) rInT := by
  intro pins s σ H x y v u Q I rx ry h
  obtain ⟨t, a, p, xss, rfl, rfl, tp, ta, q⟩ := h
  obtain ⟨as, r1⟩ := Dp.reads I (rowD p) _ v (dp_ti tp) rx
  obtain ⟨bs, r2⟩ := Dp.reads I (.tuple (xss.map rowD)) _ u (dp_tl ta) ry
  have h1 : PyData.canLay0 (rowD p) = true := SeqAt.canLay_of_shaped (shaped_row p)
  refine SeqAt.in_tuple_reads r2 r1 (lay_rowD xss) h1 ?_ ⟨.bl _, H, I, rfl, ?_⟩
  · have h2 : (rowD p).depth = 1 := by
      show PyData.depth (.tuple _) = 1
      simp only [PyData.depth, depth0]
    omega
  · rw [any_rowD]
    exact q
theorem Its.putX {H : Hp} {ts : List Addr} {xss : List (List Int)} {d : Addr} {φ : Heap → Prop} {o : HO} (h : Its H ts xss) (e : H d = some (.ext φ)) : Its (upd H d o) ts xss := ⟨h.1, fun i t ht => by
  obtain ⟨ys, a, b⟩ := h.2 i t ht
  refine ⟨ys, a, ?_⟩
  have b' : H t = some (.tup (ys.map V.int)) := b
  show upd H d o t = _
  rw [upd_ne (fun q => by rw [q, e] at b'; cases b')]
  exact b'⟩
theorem TL.putX {H : Hp} {a d : Addr} {xss : List (List Int)} {φ : Heap → Prop} {o : HO} (h : TL H a xss) (e : H d = some (.ext φ)) : TL (upd H d o) a xss := by
  obtain ⟨ts, el, its⟩ := h
  exact ⟨ts, el.put (el.ne e (fun _ z => by cases z) (fun _ _ z => by cases z)), its.putX e⟩
/-- a tuple of lots -/
def LotsAt (H : Hp) (t : Addr) (Ls : List (List (List Int))) : Prop := ∃ ys : List LA, H t = some (.tup (ys.map fun y => V.ref y.2)) ∧ ys.map (·.1) = Ls ∧ ∀ y ∈ ys, TL H y.2 y.1
theorem LotsAt.mono {H H' : Hp} {t : Addr} {Ls : List (List (List Int))} (h : LotsAt H t Ls) (s : Same H H') : LotsAt H' t Ls := let ⟨ys, a, b, c⟩ := h; ⟨ys, s _ _ a, b, fun y hy => (c y hy).mono s⟩
end KQ
namespace KQ
open PySem PySem.Spec PyProof.Rows L2 KR KM StX
section
variable {α β : Type} [DecidableEq α] [DecidableEq β]
/-- one more, unless it is there -/
def putL (F : List α) (x : α) : List α := if x ∈ F then F else F ++ [x]
def growL (f : α → α) (F : List α) : List α := (F.map f).foldl putL F
theorem mem_putL {F : List α} {x y : α} : y ∈ putL F x ↔ y ∈ F ∨ y = x := by
  unfold putL
  by_cases h : x ∈ F
  · rw [if_pos h]
    exact ⟨.inl, fun z => z.elim id fun e => by rw [e]; exact h⟩
  · rw [if_neg h, List.mem_append, List.mem_singleton]
theorem mem_foldP : ∀ {xs F : List α} {y : α}, y ∈ xs.foldl putL F ↔ y ∈ F ∨ y ∈ xs
  | [], F, y => by simp
  | x :: xs, F, y => by
    rw [List.foldl_cons, mem_foldP, mem_putL, List.mem_cons, or_assoc]
theorem mem_growL {f : α → α} {F : List α} {y : α} : y ∈ growL f F ↔ y ∈ F ∨ ∃ x ∈ F, f x = y := by
  unfold growL
  rw [mem_foldP, List.mem_map]
theorem putL_nodup {F : List α} {x : α} (h : F.Nodup) : (putL F x).Nodup := by
  unfold putL
  by_cases c : x ∈ F
  · rw [if_pos c]; exact h
  · rw [if_neg c]
    refine List.nodup_append.mpr ⟨h, by simp, fun a ha b hb e => c ?_⟩
    rw [List.mem_singleton.mp hb] at e
    rw [← e]
    exact ha
theorem foldP_nodup : ∀ {xs F : List α}, F.Nodup → (xs.foldl putL F).Nodup
  | [], _, h => h
  | x :: xs, F, h => by rw [List.foldl_cons]; exact foldP_nodup (putL_nodup h)
theorem putL_pre {F : List α} {x : α} : F <+: putL F x := by
  unfold putL
  split
  · exact List.prefix_refl _
  · exact List.prefix_append _ _
theorem foldP_pre : ∀ {xs F : List α}, F <+: xs.foldl putL F
  | [], F => List.prefix_refl _
  | x :: xs, F => by rw [List.foldl_cons]; exact putL_pre.trans foldP_pre
theorem foldP_len : ∀ {xs F : List α}, (xs.foldl putL F).length ≤ F.length + xs.length
  | [], F => Nat.le_refl _
  | x :: xs, F => by
    rw [List.foldl_cons]
    have h1 := foldP_len (xs := xs) (F := putL F x)
    have h2 : (putL F x).length ≤ F.length + 1 := by
      unfold putL
      split
      · exact Nat.le_succ _
      · rw [List.length_append]; exact Nat.le_refl _
    rw [List.length_cons]
    omega
theorem putL_map {g : α → β} {F : List α} {x : α} (inj : ∀ y ∈ F, g y = g x → y = x) : (putL F x).map g = putL (F.map g) (g x) := by
  unfold putL
  by_cases h : x ∈ F
  · rw [if_pos h, if_pos (List.mem_map_of_mem h)]
  · rw [if_neg h, if_neg fun z => by
      obtain ⟨y, hy, e⟩ := List.mem_map.mp z
      exact h (inj y hy e ▸ hy), List.map_append]
    rfl
theorem foldP_map {g : α → β} {Ok : α → Prop} (inj : ∀ a b, Ok a → Ok b → g a = g b → a = b) : ∀ {xs F : List α}, (∀ x ∈ xs, Ok x) → (∀ x ∈ F, Ok x) → (xs.foldl putL F).map g = (xs.map g).foldl putL (F.map g)
  | [], F, _, _ => rfl
  | x :: xs, F, h1, h2 => by
    rw [List.foldl_cons, List.map_cons, List.foldl_cons, ← putL_map fun y hy e => inj y x (h2 y hy) (h1 x List.mem_cons_self) e]
    refine foldP_map inj (fun y hy => h1 y (List.mem_cons_of_mem _ hy)) fun y hy => ?_
    rcases mem_putL.mp hy with h | rfl
    · exact h2 y h
    · exact h1 y List.mem_cons_self
theorem growL_map {g : α → β} {f : α → α} {f' : β → β} {Ok : α → Prop} (inj : ∀ a b, Ok a → Ok b → g a = g b → a = b) {F : List α} (ok : ∀ x ∈ F, Ok x) (okf : ∀ x ∈ F, Ok (f x)) (c : ∀ x ∈ F, g (f x) = f' (g x)) :
    (growL f F).map g = growL f' (F.map g) := by
  unfold growL
  rw [foldP_map inj (fun x hx => by obtain ⟨y, hy, rfl⟩ := List.mem_map.mp hx; exact okf y hy) ok, List.map_map, List.map_map]
  refine congrArg (fun z => List.foldl putL (F.map g) z) (List.map_congr_left fun x hx => c x hx)
end
/-- what of a lot meets one parting -/
def restr (n : Nat) (p : List Int) (X : List (List Int)) : List (List Int) := X.filter fun q => decide (q ∈ turnB n [p])
def famOf (n : Nat) (ps : List (List Int)) : List (List (List Int)) := ps.foldl (fun F p => growL (restr n p) F) [turnB n []]
/-- all closed lots, as they are found -/
def fam (n : Nat) : List (List (List Int)) := famOf n (allP n)
theorem famOf_snoc (n : Nat) (ps : List (List Int)) (p : List Int) : famOf n (ps ++ [p]) = growL (restr n p) (famOf n ps) := by
  unfold famOf
  rw [List.foldl_append]
  rfl
theorem turn_congr {n : Nat} {L M : List (List Int)} (h : ∀ x, x ∈ L ↔ x ∈ M) : turnB n L = turnB n M := by
  refine List.filter_congr fun q _ => ?_
  rw [Bool.eq_iff_iff]
  unfold meetsB
  rw [List.all_eq_true, List.all_eq_true]
  exact ⟨fun g x hx => g x ((h x).mpr hx), fun g x hx => g x ((h x).mp hx)⟩
theorem turn_app {n : Nat} (L M : List (List Int)) : turnB n (L ++ M) = (turnB n L).filter fun q => decide (q ∈ turnB n M) := by
  unfold turnB
  rw [List.filter_filter]
  refine List.filter_congr fun q hq => ?_
  rw [Bool.eq_iff_iff, Bool.and_eq_true, decide_eq_true_iff, List.mem_filter]
  unfold meetsB
  rw [List.all_append, Bool.and_eq_true]
  exact ⟨fun ⟨a, b⟩ => ⟨⟨hq, b⟩, a⟩, fun ⟨⟨_, b⟩, a⟩ => ⟨a, b⟩⟩
theorem fam_snoc_ind {Q : List (List Int) → Prop} (h0 : Q []) (h : ∀ ps p, Q ps → Q (ps ++ [p])) (ps : List (List Int)) : Q ps := by
  suffices ∀ (m : Nat) (ps : List (List Int)), ps.length = m → Q ps from this _ ps rfl
  intro m
  induction m with
  | zero => intro ps e; rw [List.length_eq_zero_iff.mp e]; exact h0
  | succ m ih =>
    intro ps e
    have ne : ps ≠ [] := fun z => by rw [z] at e; cases e
    rw [← List.dropLast_concat_getLast ne]
    exact h _ _ (ih _ (by rw [List.length_dropLast, e]; rfl))
theorem fam_is {n : Nat} (ps : List (List Int)) : ∀ {X : List (List Int)}, X ∈ famOf n ps → ∃ T, (∀ x ∈ T, x ∈ ps) ∧ X = turnB n T := by
  refine fam_snoc_ind (Q := fun ps => ∀ {X : List (List Int)}, X ∈ famOf n ps → ∃ T, (∀ x ∈ T, x ∈ ps) ∧ X = turnB n T) (fun {X} h => ⟨[], fun x hx => (by cases hx), List.mem_singleton.mp h⟩) (fun ps p ih {X} h => ?_) ps
  rw [famOf_snoc, mem_growL] at h
  rcases h with h | ⟨Y, hY, rfl⟩
  · obtain ⟨T, h1, h2⟩ := ih h
    exact ⟨T, fun x hx => List.mem_append_left _ (h1 x hx), h2⟩
  · obtain ⟨T, h1, rfl⟩ := ih hY
    refine ⟨T ++ [p], fun x hx => ?_, (turn_app T [p]).symm⟩
    rcases List.mem_append.mp hx with hx | hx
    · exact List.mem_append_left _ (h1 x hx)
    · exact List.mem_append_right _ hx
theorem fam_all {n : Nat} (ps : List (List Int)) : ∀ {T : List (List Int)}, (∀ x ∈ T, x ∈ ps) → turnB n T ∈ famOf n ps := by
  refine fam_snoc_ind (Q := fun ps => ∀ {T : List (List Int)}, (∀ x ∈ T, x ∈ ps) → turnB n T ∈ famOf n ps) (fun {T} h => ?_) (fun ps p ih {T} h => ?_) ps
  · have : T = [] := List.eq_nil_iff_forall_not_mem.mpr fun x hx => by cases h x hx
    rw [this]
    exact List.mem_singleton.mpr rfl
  · rw [famOf_snoc, mem_growL]
    have sub : ∀ x ∈ T.filter (fun x => decide (x ≠ p)), x ∈ ps := fun x hx => by
      obtain ⟨h1, h2⟩ := List.mem_filter.mp hx
      rcases List.mem_append.mp (h x h1) with g | g
      · exact g
      · exact absurd (List.mem_singleton.mp g) (of_decide_eq_true h2)
    by_cases c : p ∈ T
    · refine .inr ⟨_, ih sub, ?_⟩
      refine (turn_app _ [p]).symm.trans (turn_congr fun x => ?_)
      rw [List.mem_append, List.mem_filter, List.mem_singleton, decide_eq_true_iff]
      by_cases e : x = p
      · exact ⟨fun _ => e ▸ c, fun _ => .inr e⟩
      · exact ⟨fun z => z.elim (fun z => z.1) fun z => absurd z e, fun z => .inl ⟨z, e⟩⟩
    · refine .inl (ih fun x hx => sub x (List.mem_filter.mpr ⟨hx, decide_eq_true fun e => c (e ▸ hx)⟩))
theorem fam_head {n : Nat} (ps : List (List Int)) : ∃ r, famOf n ps = allP n :: r := by
  refine fam_snoc_ind (Q := fun ps => ∃ r, famOf n ps = allP n :: r) ⟨[], by unfold famOf; rw [List.foldl_nil, turn_nil]⟩ (fun ps p ⟨r, e⟩ => ?_) ps
  rw [famOf_snoc]
  obtain ⟨t, ht⟩ := foldP_pre (xs := (famOf n ps).map (restr n p)) (F := famOf n ps)
  refine ⟨r ++ t, ?_⟩
  unfold growL
  rw [← ht, e]
  rfl
theorem fam_nodup {n : Nat} (ps : List (List Int)) : (famOf n ps).Nodup := by
  refine fam_snoc_ind (Q := fun ps => (famOf n ps).Nodup) (List.pairwise_singleton _ _) (fun ps p ih => ?_) ps
  rw [famOf_snoc]
  exact foldP_nodup ih
theorem fam_len : ∀ n : Fin 4, (fam n.val).length = [1, 4, 10, 60].getD n.val 0 := by decide +kernel
theorem fam_lot {n : Nat} (h : n < 6) {ps : List (List Int)} {Y : List (List Int)} (hX : Y ∈ famOf n ps) : LotT n Y := by
  obtain ⟨T, _, rfl⟩ := fam_is ps hX
  exact ⟨turn_lot (by omega) T, turn_up h T, Nat.le_trans (List.length_filter_le _ _) (allP_count ⟨n, by omega⟩)⟩
end KQ
namespace KQ
open PySem PySem.Spec PyProof.Rows L2 KR KM StX
theorem few60 : ∀ n : Fin 4, [1, 4, 10, 60].getD n.val 0 ≤ 60 := by decide
theorem fam_few {n : Nat} (h : n < 4) (k : Nat) : (famOf n ((allP n).take k)).length ≤ 60 := by
  have pre : ∀ ps qs, famOf n ps <+: famOf n (ps ++ qs) := fun ps qs => by
    refine fam_snoc_ind (Q := fun qs => famOf n ps <+: famOf n (ps ++ qs)) (by rw [List.append_nil]; exact List.prefix_refl _) (fun qs p ih => ?_) qs
    rw [← List.append_assoc, famOf_snoc]
    exact ih.trans foldP_pre
  have h1 := (pre ((allP n).take k) ((allP n).drop k)).length_le
  rw [List.take_append_drop] at h1
  have h3 : (fam n).length ≤ 60 := Nat.le_trans (Nat.le_of_eq (fam_len ⟨n, h⟩)) (few60 ⟨n, h⟩)
  unfold fam at h3
  exact Nat.le_trans h1 h3
section
variable {P : Program} {w : World} {K : PySem.W.Frag} {mg : Str → Option Value} {base : Heap}
abbrev s_closed_lots : Stmt := topS 29
theorem sc_closed_lots : FnScope ["number", "rows", "parting", "one", "lot", "member"] ["number"] (defScope s_closed_lots) := ⟨rfl, rfl, rfl, by decide +kernel, rfl, by decide +kernel, by decide +kernel⟩
def spClosedLots : Sp := fun vs H Q _ => ∃ n : Nat, vs = [.int ((n + 1 : Nat) : Int)] ∧ n < 4 ∧ ∀ H' t, Same H H' → LotsAt H' t ((fam n).mergeSort leL) → Q (.ref t) H'
theorem ok_closed_lots (D : DefAt K mg "closed_lots" s_closed_lots) (T : Bt mg) (c_MOST_CLOSED_DOORS : Cst mg "MOST_CLOSED_DOORS" 4) (u_is_integer_within : Use P w K mg base "is_integer_within" 2 ["value", "least", "most"] spIntW)
    (u_turned_lot : Use P w K mg base "turned_lot" 6 ["lot", "number"] spTurnLot) (u_partings_of_doors : Use P w K mg base "partings_of_doors" 1 ["doors"] spPofD) : Use P w K mg base "closed_lots" 7 ["number"] spClosedLots := by
  refine use_of D (fun f fd F => F.ok sc_closed_lots (fun vs H Q E h => ?_) (fun cdv A outer s H vs Q E hr h => ?_)) (fun _ _ _ _ _ _ us hl => match us, hl with | [_], _ => rfl)
  · obtain ⟨n, rfl, _⟩ := h
    rfl
  · obtain ⟨n, rfl, n4, q⟩ := h
    refine ⟨_, (pss_cons (ps_if (pt_not (pt_val (pe_use u_is_integer_within (by decide) hr (by rfl) (pa_cons (pv 0) (pa_cons pe_int (pa_cons (pe_cst (by rfl) c_MOST_CLOSED_DOORS) pa_nil)))))) (pss_one ps_never) pss_nil)
      (pss_cons (ps_set (i := 1) sc_closed_lots.nd rfl (Or.inl rfl) (pe_dispN hr.units (pe_use u_turned_lot (by decide) hr (by rfl) (pa_cons (pe_tup pa_nil) (pa_cons (pv 0) pa_nil))) pe_bl))
      (pss_cons (ps_for PassesOwn.never rfl (k_tup (K := K) rfl (pe_use u_partings_of_doors (by decide) hr (by rfl) (pa_cons (pv 0) pa_nil))) (pg_name (i := 2) sc_closed_lots.nd rfl (Or.inl rfl))
      (pss_cons (ps_set (i := 3) sc_closed_lots.nd rfl (Or.inr rfl) (pe_use u_turned_lot (by decide) hr (by rfl) (pa_cons (pe_tup (pa_cons (pv 2) pa_nil)) (pa_cons (pv 0) pa_nil))))
      (pss_one (ps_for PassesOwn.never rfl (k_list (K := K) rfl (pe_callTy (cr_listN rfl) (by rfl) T.list (by decide +kernel) (pa_cons (pv 1) pa_nil))) (pg_name (i := 4) sc_closed_lots.nd rfl (Or.inl rfl))
      (pss_one (ps_putN hr.units (pv 1) (pe_callTy (k_tupOf (K := K) rfl) (by rfl) T.tuple (by decide +kernel) (pa_cons (pe_lc (own := [("member", 5)]) rfl sc_closed_lots.nd (k_tup (K := K) rfl (pv 4)) (blkOk_by (N := ["number", "rows", "parting", "one", "lot", "member"]) (sc := defScope s_closed_lots) (by decide +kernel)) (fun _ _ _ _ _ => (pg_name (i := 5) sc_closed_lots.nd rfl (Or.inl rfl))) (fun _ _ _ _ _ => (pts_one (pt_cmpR (op_inT (room66 hr)) (pv 5) (pv 3) (by rfl)))) (fun _ _ _ _ _ => (pv 5))) pa_nil)) pe_bl rfl))))))
      (pss_one (ps_ret (pe_callTy (k_tupOf (K := K) rfl) (by rfl) T.tuple (by decide +kernel) (pa_cons (pe_callB (cr_sortedDN rfl hr.units) (by rfl) T.sorted (by decide +kernel) (pa_cons (pv 1) pa_nil)) pa_nil))))))), ?_⟩
    refine ⟨_, rfl, ((n + 1 : Nat) : Int), 1, 4, rfl, _, rfl, ?_⟩
    rw [decide_eq_true (show (1 : Int) ≤ ((n + 1 : Nat) : Int) ∧ ((n + 1 : Nat) : Int) ≤ 4 from ⟨by omega, by omega⟩)]
    refine fun d nd => ⟨Nat.zero_le _, fun z nz => ?_⟩
    have s0 := (same_new (o := .dK []) nd).trans (same_new (o := .tup []) nz)
    have e0 : (upd (upd H d (.dK [])) z (.tup [])) d = some (.dK []) := by
      rw [upd_ne (fun e => by rw [← e, upd_same] at nz; cases nz), upd_same]
    refine ⟨_, rfl, z, [], n, rfl, ⟨[], .inl upd_same, Its.nil⟩, (fun q hq => by cases hq), by omega, by decide, fun H1 t1 s1 h1 => ?_⟩
    refine ⟨s1 _ _ e0, t1, _, rfl, rfl, h1.tl, ?_⟩
    have sH := same_mut (o := DN P w d [(turnB n [], t1)]) (s0.trans s1) nd
    have tl1 : TL (upd H1 d (DN P w d [(turnB n [], t1)])) t1 (turnB n []) := by
      obtain ⟨us, a, b⟩ := h1
      have e1 := s1 _ _ e0
      refine ⟨us, .inl ?_, ?_, fun i t ht => ?_⟩
      · rw [upd_ne (fun e => by rw [e, e1] at a; cases a)]
        exact a
      · exact b.1
      · obtain ⟨ys, c1, c2⟩ := b.2 i t ht
        refine ⟨ys, c1, ?_⟩
        have c2 : H1 t = some (.tup _) := c2
        show upd H1 d _ t = _
        rw [upd_ne (fun e => by rw [e, e1] at c2; cases c2)]
        exact c2
    have ed : (upd H1 d (DN P w d [(turnB n [], t1)])) d = some (DN P w d [(turnB n [], t1)]) := upd_same
    refine ⟨_, rfl, n, rfl, by omega, fun H3 t2 s3 ⟨us, et, its⟩ => ?_⟩
    have its : Its H3 us (allP n) := its
    refine ⟨t2, rfl, ⟨_, sqT et⟩, for_tup (K := K) (a := t2) (xs := us.map V.ref)
      (fun i σ H4 => ∃ (y2 y3 y4 : Option V) (xs : List LA), σ = [some (.int ((n + 1 : Nat) : Int)), some (.ref d), y2, y3, y4, none] ∧ Same H H4 ∧ H4 d = some (DN P w d xs) ∧ (∀ x ∈ xs, TL H4 x.2 x.1) ∧ xs.map (·.1) = famOf n ((allP n).take i) ∧ H4 t2 = some (.tup (us.map V.ref)) ∧ Its H4 us (allP n))
      ⟨none, none, none, _, rfl, sH.trans s3, s3 _ _ ed, fun x hx => by rw [List.mem_singleton.mp hx]; exact tl1.mono s3, rfl, et, its⟩ (fun i σ H4 _ ⟨_, _, _, _, _, _, _, _, _, e, _⟩ => sqT e) ?_ ?_⟩
    · rintro i v σ H4 hi ⟨y2, y3, y4, xs, rfl, sm, ed4, hk, hx, et4, it4⟩
      obtain ⟨t, ht, rfl⟩ := map_at hi
      obtain ⟨p, hp, tp⟩ := it4.2 i t ht
      obtain ⟨pp, pl⟩ := allP_par (n := n) (by omega) p (List.mem_of_getElem? hp)
      refine ⟨_, rfl, by show 1 ≤ sizeLine; decide, fun z1 nz1 => ?_⟩
      have sz := same_new (o := .tup [V.ref t]) nz1
      refine ⟨_, rfl, z1, [p], n, rfl, ⟨[t], .inl upd_same, Its.one (tp.mono sz)⟩, fun q hq => by rw [List.mem_singleton.mp hq]; exact ⟨pp, pl⟩, by omega, by show 1 ≤ 4140; decide, fun H5 t4 s5 h4 => ?_⟩
      have s45 := sz.trans s5
      have few := fam_few n4 i
      have lx : xs.length ≤ 60 := by rw [← List.length_map (f := fun x : LA => x.1), hx]; exact few
      refine ⟨_, rfl, d, xs, rfl, s45 _ _ ed4, fun l nl => ?_⟩
      have sl := same_new (o := .lst (xs.map fun x => V.ref x.2)) nl
      have s46 := s45.trans sl
      refine ⟨l, rfl, ⟨_, sqL upd_same⟩, for_list (K := K) (a := l) (xs := xs.map fun x => V.ref x.2)
        (fun j σ H6 => ∃ (y4 : Option V) (xs' : List LA), σ = [some (.int ((n + 1 : Nat) : Int)), some (.ref d), some (.ref t), some (.ref t4), y4, none] ∧ Same H H6 ∧ H6 d = some (DN P w d xs') ∧ (∀ x ∈ xs', TL H6 x.2 x.1) ∧
          xs'.map (·.1) = ((xs.take j).map fun x => restr n p x.1).foldl putL (xs.map (·.1)) ∧ H6 l = some (.lst (xs.map fun x => V.ref x.2)) ∧ (∀ x ∈ xs, TL H6 x.2 x.1) ∧ TL H6 t4 (turnB n [p]) ∧ H6 t2 = some (.tup (us.map V.ref)) ∧ Its H6 us (allP n))
        ⟨y4, xs, rfl, sm.trans s46, s46 _ _ ed4, fun x hx => (hk x hx).mono s46, rfl, upd_same, fun x hx => (hk x hx).mono s46, h4.tl.mono sl, s46 _ _ et4, it4.mono s46⟩ (fun j σ H6 _ ⟨_, _, _, _, _, _, _, e, _⟩ => sqL e) ?_ ?_⟩
      · rintro j v σ H6 hj ⟨y4, xs', rfl, sm6, ed6, hk6, hx6, el6, hl6, t46, et6, it6⟩
        obtain ⟨x, hxj, rfl⟩ := map_at hj
        have xm := List.mem_of_getElem? hxj
        obtain ⟨ts, ex, itx⟩ := hl6 x xm
        have xl : x.1 ∈ famOf n ((allP n).take i) := by rw [← hx]; exact List.mem_map_of_mem xm
        have lotx := fam_lot (n := n) (by omega) xl
        refine ⟨_, rfl, _, rfl, x.2, rfl, ⟨_, rdT ex⟩, fun G nG => ?_⟩
        refine lc_tup (K := K) (a := x.2) (xs := ts.map V.ref) (fun k H7 => Same H6 H7 ∧ ∃ ws : List Addr, H7 G = some (.lst (ws.map V.ref)) ∧ Its H7 ws ((x.1.take k).filter fun q => decide (q ∈ turnB n [p])))
          ⟨same_new nG, [], upd_same, Its.nil⟩ (fun k H7 _ ⟨s7, _⟩ => rdT (ex.mono s7)) ?_ ?_
        · rintro k v H7 hk7 ⟨s7, ws, eG, iw⟩
          obtain ⟨r, hr7, rfl⟩ := map_at hk7
          obtain ⟨row, hrow, tr⟩ := itx.2 k r hr7
          have fl : ((x.1.take k).filter fun q => decide (q ∈ turnB n [p])).length ≤ (x.1.take k).length := List.length_filter_le _ _
          rw [List.length_take] at fl
          have xle := lotx.2.2
          have tk : ((x.1.take (k + 1)).filter fun q => decide (q ∈ turnB n [p])) = ((x.1.take k).filter fun q => decide (q ∈ turnB n [p])) ++ if decide (row ∈ turnB n [p]) = true then [row] else [] := by
            rw [take_snoc hrow, List.filter_append]
            congr 1
            rw [List.filter_cons]
            rfl
          refine ⟨rfl, _, rfl, _, rfl, r, t4, row, turnB n [p], rfl, rfl, tr.mono s7, t46.mono s7, _, rfl, ?_⟩
          by_cases c : row ∈ turnB n [p]
          · rw [decide_eq_true c]
            refine ⟨_, rfl, _, eG, ?_, same_mut s7 nG, ws ++ [r], ?_, ?_⟩
            · rw [List.length_map, iw.1]
              exact Nat.lt_of_le_of_lt (show _ ≤ 4140 by omega) (by decide)
            · rw [upd_same, List.map_append]
              rfl
            · rw [tk, if_pos (decide_eq_true c)]
              exact (iw.put eG).app (Its.one (show TI _ r _ from by
                have tr' : H7 r = some (.tup _) := tr.mono s7
                show upd H7 G _ r = _
                rw [upd_ne (fun e => by rw [← e, tr'] at eG; cases eG)]
                exact tr'))
          · rw [decide_eq_false c]
            refine ⟨s7, ws, eG, ?_⟩
            rw [tk, if_neg (by simpa using c), List.append_nil]
            exact iw
        rintro H7 ⟨s7, ws, eG, iw⟩
        rw [List.length_map, itx.1, List.take_length] at iw
        refine ⟨G, _, rfl, .inl ⟨sqL eG, fun t7 nt7 => ?_⟩⟩
        have s7t := s7.trans (same_new (o := .tup (ws.map V.ref)) nt7)
        have tl7 : TL (upd H7 t7 (.tup (ws.map V.ref))) t7 (restr n p x.1) := ⟨ws, .inl upd_same, iw.mono (same_new nt7)⟩
        have ed7 := s7t _ _ ed6
        have hx7 : (putN xs' (restr n p x.1) t7).map (·.1) = putL (xs'.map (·.1)) (restr n p x.1) := by
          unfold putN putL
          split
          · rfl
          · rw [List.map_append]
            rfl
        have lx' : xs'.length ≤ 120 := by
          have h1 := foldP_len (xs := (xs.take j).map fun x => restr n p x.1) (F := xs.map (·.1))
          rw [← hx6, List.length_map, List.length_map, List.length_map, List.length_take] at h1
          omega
        have nd : H d = none := nd
        refine ⟨d, t7, xs', restr n p x.1, rfl, rfl, rfl, ed7, fun y hy => (hk6 y hy).mono s7t, tl7, Nat.lt_of_le_of_lt lx' (by decide), ?_⟩
        refine ⟨_, _, rfl, same_mut (sm6.trans s7t) nd, upd_same, fun y hy => ?_, ?_, ?_, fun y hy => ((hl6 y hy).mono s7t).putX ed7, (t46.mono s7t).putX ed7, ?_, (it6.mono s7t).putX ed7⟩
        · have : y ∈ xs' ∨ y = (restr n p x.1, t7) := by
            unfold putN at hy
            split at hy
            · exact .inl hy
            · rcases List.mem_append.mp hy with h | h
              · exact .inl h
              · exact .inr (List.mem_singleton.mp h)
          rcases this with h | rfl
          · exact ((hk6 y h).mono s7t).putX ed7
          · exact tl7.putX ed7
        · rw [hx7, hx6, take_snoc hxj, List.map_append, List.foldl_append]
          rfl
        · have := s7t _ _ el6
          rw [upd_ne (fun e => by rw [e, ed7] at this; cases this)]
          exact this
        · have := s7t _ _ et6
          rw [upd_ne (fun e => by rw [e, ed7] at this; cases this)]
          exact this
      · rintro σ H6 ⟨y4, xs', rfl, sm6, ed6, hk6, hx6, el6, hl6, t46, et6, it6⟩
        refine ⟨_, _, _, xs', rfl, sm6, ed6, hk6, ?_, et6, it6⟩
        rw [hx6, take_snoc hp, famOf_snoc, List.length_map, List.take_length, ← hx]
        unfold growL
        rw [List.map_map]
        rfl
    · rintro σ H4 ⟨y2, y3, y4, xs, rfl, sm, ed4, hk, hx, et4, it4⟩
      rw [List.length_map, it4.1, List.take_length] at hx
      have hx : xs.map (·.1) = fam n := hx
      obtain ⟨r0, hr0⟩ := fam_head (n := n) (allP n)
      have ne0 : allP n ≠ [] := fun z => by
        have := allP_all n (num (List.replicate (n + 1) (0 : Int))) (num_rg _) (by rw [num_len, List.length_replicate])
        rw [z] at this
        cases this
      have h0 : ∃ x r, xs = x :: r ∧ x.1 ≠ [] := by
        cases xs with
        | nil => rw [show fam n = _ from hr0] at hx; cases hx
        | cons x r =>
          rw [show fam n = _ from hr0, List.map_cons] at hx
          exact ⟨x, r, rfl, by rw [(List.cons.inj hx).1]; exact ne0⟩
      refine ⟨_, rfl, d, xs, rfl, ed4, hk, h0, fun p np => ⟨p, _, rfl, .inl ⟨sqL upd_same, fun t nt => ?_⟩⟩⟩
      have sn := (same_new (o := .lst ((xs.mergeSort leN).map fun x => V.ref x.2)) np).trans (same_new (o := .tup ((xs.mergeSort leN).map fun x => V.ref x.2)) nt)
      refine q _ t (sm.trans sn) ⟨xs.mergeSort leN, upd_same, ?_, fun y hy => (hk y ((List.mergeSort_perm xs leN).mem_iff.mp hy)).mono sn⟩
      rw [leN_map, hx]
end
end KQ
namespace KQ
open PySem PySem.Spec PyProof.Rows L2 KR KM StX
/-- what two lots have in common -/
def inB (L M : List (List Int)) : List (List Int) := L.filter fun q => decide (q ∈ M)
theorem inB_snoc {L M : List (List Int)} {k : Nat} {row : List Int} (h : L[k]? = some row) : inB (L.take (k + 1)) M = inB (L.take k) M ++ if row ∈ M then [row] else [] := by
  unfold inB
  rw [take_snoc h, List.filter_append]
  congr 1
  rw [List.filter_cons]
  by_cases c : row ∈ M
  · rw [if_pos (decide_eq_true c), if_pos c]
    rfl
  · rw [if_neg (by simpa using c), if_neg c]
    rfl
theorem inB_lot {n : Nat} {L M : List (List Int)} (h : LotT n L) : LotT n (inB L M) := ⟨fun q hq => h.1 q (List.mem_filter.mp hq).1, h.2.1.filter _, Nat.le_trans (List.length_filter_le _ _) h.2.2⟩
theorem its_snoc {H : Hp} {G r : Addr} {ws : List Addr} {rows : List (List Int)} {row : List Int} {xs : List V} {o : HO} (iw : Its H ws rows) (tr : TI H r row) (eG : H G = some (.lst xs)) : Its (upd H G o) (ws ++ [r]) (rows ++ [row]) :=
  (iw.put eG).app (Its.one (show TI _ r _ from by
    have tr' : H r = some (.tup _) := tr
    show upd H G _ r = _
    rw [upd_ne (fun e => by rw [← e, tr'] at eG; cases eG)]
    exact tr'))
theorem small4 {m : Nat} (h : m ≤ 4140) : m < sizeLine := Nat.lt_of_le_of_lt h (by decide)
/-- [q for q in a if c] -/
theorem lc_fil {K : PySem.W.Frag} {a D : Addr} {ts : List Addr} {L : List (List Int)} {g : TG} {tt : L2.TT} {te : TE} {vs : List Nat} {σ : L2.St} {H1 : Hp} {Qd : Hp → Prop} (c : List Int → Bool) (ex : Rd H1 a (.tup (ts.map V.ref))) (it : Its H1 ts L) (len : L.length ≤ 4140) (nD : H1 D = none)
    (hs : ∀ (t : Addr) (row : List Int) (H : Hp), Same H1 H → row ∈ L → TI H t row → ∀ N : Hp → Prop, (∀ H', Same H H' → (c row = true → ∃ acc, H' D = some (.lst acc) ∧ acc.length < sizeLine ∧ N (upd H' D (.lst (acc ++ [V.ref t])))) ∧ (c row = false → N H')) →
      g (.ref t) (wipe σ vs) H fun σ2 H2 => wipe σ2 vs = wipe σ vs ∧ tt σ2 H2 fun b H3 => if b = true then te σ2 H3 fun y H4 => ∃ acc, H4 D = some (.lst acc) ∧ acc.length < sizeLine ∧ N (upd H4 D (.lst (acc ++ [y]))) else N H3)
    (hd : ∀ (H : Hp) (us : List Addr), Same H1 H → H D = some (.lst (us.map V.ref)) → Its H us (L.filter c) → Qd H) : ∃ W : Nat → Nat → Hp → Prop, (∃ m, W 0 m (upd H1 D (.lst []))) ∧ ∀ i m H, W i m H →
      ((Itt K a).stop i H ∧ Qd H) ∨ ((Itt K a).go i H ∧ ∃ Nx : Hp → Prop, (∀ H', Nx H' → ∃ m', m' < m ∧ W (i + 1) m' H') ∧ ∀ x H', (Itt K a).yld i H x H' → g x (wipe σ vs) H' fun σ2 H2 => wipe σ2 vs = wipe σ vs ∧ tt σ2 H2 fun b H3 =>
        if b = true then te σ2 H3 fun y H4 => ∃ acc, H4 D = some (.lst acc) ∧ acc.length < sizeLine ∧ Nx (upd H4 D (.lst (acc ++ [y]))) else Nx H3) := by
  refine lc_tup (K := K) (a := a) (xs := ts.map V.ref) (fun k H => Same H1 H ∧ ∃ ws : List Addr, H D = some (.lst (ws.map V.ref)) ∧ Its H ws ((L.take k).filter c)) ⟨same_new nD, [], upd_same, Its.nil⟩ (fun k H _ ⟨s, _⟩ => rdT (ex.mono s)) ?_ ?_
  · rintro k v H hk ⟨sm, ws, eG, iw⟩
    obtain ⟨t, ht, rfl⟩ := map_at hk
    obtain ⟨row, hrow, tr⟩ := it.2 k t ht
    have fl : ((L.take k).filter c).length ≤ (L.take k).length := List.length_filter_le _ _
    rw [List.length_take] at fl
    have tk : (L.take (k + 1)).filter c = (L.take k).filter c ++ if c row = true then [row] else [] := by
      rw [take_snoc hrow, List.filter_append]
      congr 1
      rw [List.filter_cons]
      rfl
    refine hs t row H sm (List.mem_of_getElem? hrow) (tr.mono sm) _ fun H' s' => ⟨fun hc => ⟨_, s' _ _ eG, ?_, same_mut (sm.trans s') nD, ws ++ [t], ?_, ?_⟩, fun hc => ⟨sm.trans s', ws, s' _ _ eG, ?_⟩⟩
    · rw [List.length_map, iw.1]
      exact small4 (by omega)
    · rw [upd_same, List.map_append]
      rfl
    · rw [tk, if_pos hc]
      exact its_snoc (iw.mono s') ((tr.mono sm).mono s') (s' _ _ eG)
    · rw [tk, if_neg (by rw [hc]; decide), List.append_nil]
      exact iw.mono s'
  · rintro H ⟨sm, ws, eG, iw⟩
    rw [List.length_map, it.1, List.take_length] at iw
    exact hd H ws sm eG iw
theorem keepT {c : Bool} {A B : Prop} (h : (c = true → A) ∧ (c = false → B)) : if c = true then A else B := by
  cases c with
  | true => exact h.1 rfl
  | false => exact h.2 rfl
theorem its_pairs {H : Hp} : ∀ {ts : List Addr} {L : List (List Int)}, Its H ts L → ∃ ks : List AR, ks.map (·.1) = ts ∧ ks.map (·.2) = L ∧ ∀ p ∈ ks, TI H p.1 p.2
  | [], [], _ => ⟨[], rfl, rfl, fun p hp => by cases hp⟩
  | [], _ :: _, i => by cases i.1
  | _ :: _, [], i => by cases i.1
  | t :: ts, r :: L, i => by
    obtain ⟨ys, e, ht⟩ := i.2 0 t rfl
    obtain rfl : r = ys := Option.some.inj e
    obtain ⟨ks, e1, e2, h⟩ := its_pairs (ts := ts) (L := L) ⟨Nat.succ.inj i.1, fun j u hu => i.2 (j + 1) u hu⟩
    refine ⟨(t, r) :: ks, by rw [List.map_cons, e1], by rw [List.map_cons, e2], fun p hp => ?_⟩
    rcases List.mem_cons.mp hp with rfl | hp
    · exact ht
    · exact h p hp
section
variable {P : Program} {w : World} {K : PySem.W.Frag} {mg : Str → Option Value} {base : Heap}
abbrev s_met : Stmt := topS 31
theorem sc_met : FnScope ["lot", "other", "number", "parting"] ["lot", "other", "number"] (defScope s_met) := ⟨rfl, rfl, rfl, by decide +kernel, rfl, by decide +kernel, by decide +kernel⟩
def spMet : Sp := fun vs H Q _ => ∃ (l k : Addr) (L M : List (List Int)) (n : Nat), vs = [.ref l, .ref k, .int ((n + 1 : Nat) : Int)] ∧ TL H l L ∧ TL H k M ∧ LotT n L ∧ LotT n M ∧ n < 6 ∧ ∀ H' t, Same H H' → TT H' t (inB L M) → Q (.ref t) H'
theorem ok_met (D : DefAt K mg "met" s_met) (T : Bt mg) (u_need_lot : Use P w K mg base "need_lot" 7 ["lot", "number"] spNeedLot) : Use P w K mg base "met" 8 ["lot", "other", "number"] spMet := by
  refine use_of D (fun f fd F => F.ok sc_met (fun vs H Q E h => ?_) (fun cdv A outer s H vs Q E hr h => ?_)) (fun _ _ _ _ _ _ us hl => match us, hl with | [_, _, _], _ => rfl)
  · obtain ⟨l, k, L, M, n, rfl, _⟩ := h
    rfl
  · obtain ⟨l, k, L, M, n, rfl, hl, hk, lotL, lotM, n6, q⟩ := h
    refine ⟨_, (pss_cons (ps_expr (pe_use u_need_lot (by decide) hr (by rfl) (pa_cons (pv 0) (pa_cons (pv 2) pa_nil))))
      (pss_cons (ps_expr (pe_use u_need_lot (by decide) hr (by rfl) (pa_cons (pv 1) (pa_cons (pv 2) pa_nil))))
      (pss_one (ps_ret (pe_callTy (k_tupOf (K := K) rfl) (by rfl) T.tuple (by decide +kernel) (pa_cons (pe_lc (own := [("parting", 3)]) rfl sc_met.nd (k_tup (K := K) rfl (pv 0)) (blkOk_by (N := ["lot", "other", "number", "parting"]) (sc := defScope s_met) (by decide +kernel)) (fun _ _ _ _ _ => (pg_name (i := 3) sc_met.nd rfl (Or.inl rfl))) (fun _ _ _ _ _ => (pts_one (pt_cmpR (op_inT (room66 hr)) (pv 3) (pv 1) (by rfl)))) (fun _ _ _ _ _ => (pv 3))) pa_nil)))))), ?_⟩
    refine ⟨_, rfl, _, rfl, l, L, n, rfl, hl, lotL, n6, fun H1 s1 h1 => ?_⟩
    refine ⟨_, rfl, _, rfl, k, M, n, rfl, hk.mono s1, lotM, n6, fun H2 s2 h2 => ?_⟩
    have s12 := s1.trans s2
    have hk2 := hk.mono s12
    obtain ⟨ts, el, its⟩ := hl.mono s12
    refine ⟨_, rfl, l, rfl, ⟨_, rdT el⟩, fun G nG => ?_⟩
    refine lc_fil (K := K) (fun q => decide (q ∈ M)) el its lotL.2.2 nG (fun t row H sm _ tr N z => ?_) fun H us sm eG iw => ?_
    · exact ⟨rfl, _, rfl, _, rfl, t, k, row, M, rfl, rfl, tr, hk2.mono sm, _, rfl, keepT ⟨fun c => ⟨_, rfl, (z H (Same.refl H)).1 c⟩, fun c => (z H (Same.refl H)).2 c⟩⟩
    · refine ⟨G, _, rfl, .inl ⟨sqL eG, fun t nt => ?_⟩⟩
      have sn := same_new (H := H) (o := .tup (us.map V.ref)) nt
      exact q _ t ((s12.trans sm).trans sn) ⟨us, upd_same, iw.mono sn⟩
abbrev s__law_common : Stmt := topS 51
theorem sc__law_common : FnScope ["one", "two", "row"] ["one", "two"] (defScope s__law_common) := ⟨rfl, rfl, rfl, by decide +kernel, rfl, by decide +kernel, by decide +kernel⟩
def spCommon : Sp := fun vs H Q _ => ∃ (l k : Addr) (L M : List (List Int)), vs = [.ref l, .ref k] ∧ TL H l L ∧ TL H k M ∧ L.length ≤ 4140 ∧ ∀ H' t, Same H H' → TT H' t (inB L M) → Q (.ref t) H'
theorem ok_common (D : DefAt K mg "_law_common" s__law_common) (T : Bt mg) : Use P w K mg base "_law_common" 1 ["one", "two"] spCommon := by
  refine use_of D (fun f fd F => F.ok sc__law_common (fun vs H Q E h => ?_) (fun cdv A outer s H vs Q E hr h => ?_)) (fun _ _ _ _ _ _ us hl => match us, hl with | [_, _], _ => rfl)
  · obtain ⟨l, k, L, M, rfl, _⟩ := h
    rfl
  · obtain ⟨l, k, L, M, rfl, ⟨ts, el, its⟩, hk, l4, q⟩ := h
    refine ⟨_, (pss_one (ps_ret (pe_callTy (k_tupOf (K := K) rfl) (by rfl) T.tuple (by decide +kernel) (pa_cons (pe_lc (own := [("row", 2)]) rfl sc__law_common.nd (k_tup (K := K) rfl (pv 0)) (blkOk_by (N := ["one", "two", "row"]) (sc := defScope s__law_common) (by decide +kernel)) (fun _ _ _ _ _ => (pg_name (i := 2) sc__law_common.nd rfl (Or.inl rfl))) (fun _ _ _ _ _ => (pts_one (pt_cmpR (op_inT (room66 hr)) (pv 2) (pv 1) (by rfl)))) (fun _ _ _ _ _ => (pv 2))) pa_nil)))), ?_⟩
    refine ⟨_, rfl, l, rfl, ⟨_, rdT el⟩, fun G nG => ?_⟩
    refine lc_fil (K := K) (fun q => decide (q ∈ M)) el its l4 nG (fun t row H sm _ tr N z => ?_) fun H us sm eG iw => ?_
    · exact ⟨rfl, _, rfl, _, rfl, t, k, row, M, rfl, rfl, tr, hk.mono sm, _, rfl, keepT ⟨fun c => ⟨_, rfl, (z H (Same.refl H)).1 c⟩, fun c => (z H (Same.refl H)).2 c⟩⟩
    · refine ⟨G, _, rfl, .inl ⟨sqL eG, fun t nt => ?_⟩⟩
      have sn := same_new (H := H) (o := .tup (us.map V.ref)) nt
      exact q _ t (sm.trans sn) ⟨us, upd_same, iw.mono sn⟩
abbrev s_spanned : Stmt := topS 32
theorem sc_spanned : FnScope ["lot", "other", "number"] ["lot", "other", "number"] (defScope s_spanned) := ⟨rfl, rfl, rfl, by decide +kernel, rfl, by decide +kernel, by decide +kernel⟩
/-- what two lots span -/
def spanB (n : Nat) (L M : List (List Int)) : List (List Int) := turnB n (turnB n (L ++ M))
def spSpanned : Sp := fun vs H Q _ => ∃ (l k : Addr) (L M : List (List Int)) (n : Nat), vs = [.ref l, .ref k, .int ((n + 1 : Nat) : Int)] ∧ TL H l L ∧ TL H k M ∧ LotT n L ∧ LotT n M ∧ n < 5 ∧ ∀ H' t, Same H H' → TT H' t (spanB n L M) → Q (.ref t) H'
theorem allP_52 : ∀ n : Fin 5, (allP n.val).length ≤ 62 := by decide +kernel
theorem ok_spanned (D : DefAt K mg "spanned" s_spanned) (T : Bt mg) (u_need_lot : Use P w K mg base "need_lot" 7 ["lot", "number"] spNeedLot) (u_closed_lot : Use P w K mg base "closed_lot" 7 ["lot", "number"] spCloseLot) : Use P w K mg base "spanned" 8 ["lot", "other", "number"] spSpanned := by
  refine use_of D (fun f fd F => F.ok sc_spanned (fun vs H Q E h => ?_) (fun cdv A outer s H vs Q E hr h => ?_)) (fun _ _ _ _ _ _ us hl => match us, hl with | [_, _, _], _ => rfl)
  · obtain ⟨l, k, L, M, n, rfl, _⟩ := h
    rfl
  · obtain ⟨l, k, L, M, n, rfl, hl, hk, lotL, lotM, n5, q⟩ := h
    refine ⟨_, (pss_cons (ps_expr (pe_use u_need_lot (by decide) hr (by rfl) (pa_cons (pv 0) (pa_cons (pv 2) pa_nil))))
      (pss_cons (ps_expr (pe_use u_need_lot (by decide) hr (by rfl) (pa_cons (pv 1) (pa_cons (pv 2) pa_nil))))
      (pss_one (ps_ret (pe_use u_closed_lot (by decide) hr (by rfl) (pa_cons (pe_callTy (k_tupOf (K := K) rfl) (by rfl) T.tuple (by decide +kernel) (pa_cons (pe_srtSetT rfl hr.units (by rfl) T.sorted (by rfl) T.set (pe_lst (k_star (K := K) rfl (pv 0) (k_star (K := K) rfl (pv 1) pa_nil)))) pa_nil)) (pa_cons (pv 2) pa_nil))))))), ?_⟩
    refine ⟨_, rfl, _, rfl, l, L, n, rfl, hl, lotL, by omega, fun H1 s1 h1 => ?_⟩
    refine ⟨_, rfl, _, rfl, k, M, n, rfl, hk.mono s1, lotM, by omega, fun H2 s2 h2 => ?_⟩
    have s12 := s1.trans s2
    obtain ⟨us, ek, itk⟩ := hk.mono s12
    obtain ⟨ts, el, its⟩ := hl.mono s12
    obtain ⟨ks, a1, a2, a3⟩ := its_pairs its
    obtain ⟨kt, b1, b2, b3⟩ := its_pairs itk
    have inA : ∀ N : List (List Int), LotP n N → ∀ x ∈ N, x ∈ allP n := fun N h x hx => allP_all n x (h x hx).1.rg (h x hx).2
    have len : (ts.map V.ref ++ (us.map V.ref ++ [])).length ≤ sizeLine := by
      have h1 := its.1
      have h2 := itk.1
      have h3 := lotL.2.2
      have h4 := lotM.2.2
      rw [List.length_append, List.length_append, List.length_map, List.length_map, h1, h2]
      exact Nat.le_of_lt (Nat.lt_of_le_of_lt (show _ ≤ 8280 by rw [List.length_nil]; omega) (by decide))
    refine ⟨_, rfl, l, _, rfl, .inl (rdT el), _, rfl, k, _, rfl, .inl (rdT ek), len, fun G nG => ?_⟩
    have sG := same_new (H := H2) (o := .lst (ts.map V.ref ++ (us.map V.ref ++ []))) nG
    have ex : (ks ++ kt).map (fun p => V.ref p.1) = ts.map V.ref ++ (us.map V.ref ++ []) := by
      rw [List.map_append, List.append_nil, ← a1, ← b1, List.map_map, List.map_map]
      rfl
    have e2 : (ks ++ kt).map (·.2) = L ++ M := by rw [List.map_append, a2, b2]
    refine ⟨G, ks ++ kt, allP n, n + 1, rfl, by rw [ex]; exact sqL upd_same, fun p hp => ?_, allP_52 ⟨n, n5⟩, fun p hp => ?_, by omega, fun r hr => ?_, fun ws rows p up mem iw np => ?_⟩
    · rcases List.mem_append.mp hp with hp | hp
      · exact (a3 p hp).mono sG
      · exact (b3 p hp).mono sG
    · rcases List.mem_append.mp hp with hp | hp
      · exact inA L lotL.1 _ (by rw [← a2]; exact List.mem_map_of_mem hp)
      · exact inA M lotM.1 _ (by rw [← b2]; exact List.mem_map_of_mem hp)
    · obtain ⟨pr, lr⟩ := allP_par (n := n) (by omega) r hr
      refine ⟨lr, fun m hm => ?_⟩
      have h1 := (rg_mem 0 r (Int.le_refl _) pr.rg).1 m hm
      have h2 := bc_le 0 r
      omega
    · have sp := same_new (o := .lst (ws.map V.ref)) np
      refine ⟨p, _, rfl, .inl ⟨sqL upd_same, fun t nt => ?_⟩⟩
      have st := same_new (o := .tup (ws.map V.ref)) nt
      have sz := (sG.trans sp).trans st
      have rmem : ∀ r, r ∈ rows ↔ r ∈ L ++ M := fun r => by rw [mem r, e2]
      have rp : LotP n rows := fun r hr => by
        rcases List.mem_append.mp ((rmem r).mp hr) with h | h
        · exact lotL.1 r h
        · exact lotM.1 r h
      have rl : rows.length ≤ 4140 := by
        have := sub_len (xs := rows) (ys := allP n) (up.imp fun {x y} h e => by
          rw [e, lex_irr] at h
          cases h) fun r hr => inA rows rp r hr
        have h2 := allP_52 ⟨n, n5⟩
        exact Nat.le_trans this (Nat.le_trans h2 (by decide))
      refine ⟨_, rfl, t, rows, n, rfl, ⟨ws, .inl upd_same, (iw.mono sp).mono st⟩, rp, by omega, rl, fun H3 t3 s3 h3 => q H3 t3 ((s12.trans sz).trans s3) ?_⟩
      rw [show spanB n L M = turnB n (turnB n rows) from by unfold spanB; rw [turn_congr rmem]]
      exact h3
end
end KQ
namespace KQ
open PySem PySem.Spec PyProof.Rows L2 KR KM StX
/-! the law's own family, by the numbers of its rows -/
def gI (n : Nat) (I : List Nat) : List (List Int) := I.map fun i => (allP n).getD i []
def nearI (n : Nat) (p : List Int) (k : Nat) : List Nat := (List.range k).filter fun i => treeB p ((allP n).getD i [])
def cutI (n : Nat) (p : List Int) (I : List Nat) : List Nat := I.filter fun i => decide (i ∈ nearI n p (allP n).length)
def famI (n : Nat) (ps : List (List Int)) : List (List Nat) := ps.foldl (fun F p => growL (cutI n p) F) [List.range (allP n).length]
theorem famI_snoc (n : Nat) (ps : List (List Int)) (p : List Int) : famI n (ps ++ [p]) = growL (cutI n p) (famI n ps) := by
  unfold famI
  rw [List.foldl_append]
  rfl
theorem famI_ok {n : Nat} (ps : List (List Int)) : ∀ I ∈ famI n ps, ∀ i ∈ I, i < (allP n).length := by
  refine fam_snoc_ind (Q := fun ps => ∀ I ∈ famI n ps, ∀ i ∈ I, i < (allP n).length) (fun I h i hi => ?_) (fun ps p ih I h i hi => ?_) ps
  · rw [List.mem_singleton.mp h] at hi
    exact List.mem_range.mp hi
  · rw [famI_snoc, mem_growL] at h
    rcases h with h | ⟨J, hJ, rfl⟩
    · exact ih I h i hi
    · exact ih J hJ i (List.mem_filter.mp hi).1
theorem famI_len {n : Nat} (ps : List (List Int)) : ∀ I ∈ famI n ps, I.length ≤ (allP n).length := by
  refine fam_snoc_ind (Q := fun ps => ∀ I ∈ famI n ps, I.length ≤ (allP n).length) (fun I h => ?_) (fun ps p ih I h => ?_) ps
  · rw [List.mem_singleton.mp h, List.length_range]
    exact Nat.le_refl _
  · rw [famI_snoc, mem_growL] at h
    rcases h with h | ⟨J, hJ, rfl⟩
    · exact ih I h
    · exact Nat.le_trans (List.length_filter_le _ _) (ih J hJ)
theorem gI_inj {n : Nat} (hn : n < 6) : ∀ {I J : List Nat}, (∀ i ∈ I, i < (allP n).length) → (∀ i ∈ J, i < (allP n).length) → gI n I = gI n J → I = J
  | [], [], _, _, _ => rfl
  | [], _ :: _, _, _, h => by cases h
  | _ :: _, [], _, _, h => by cases h
  | i :: I, j :: J, h1, h2, h => by
    obtain ⟨e1, e2⟩ := List.cons.inj h
    have il := h1 i List.mem_cons_self
    have jl := h2 j List.mem_cons_self
    have e1 : (allP n).getD i [] = (allP n).getD j [] := e1
    rw [List.getD_eq_getElem?_getD, List.getD_eq_getElem?_getD, List.getElem?_eq_getElem il, List.getElem?_eq_getElem jl] at e1
    have nd : (allP n).Nodup := by
      refine List.nodup_iff_pairwise_ne.mpr ((allP_up6 ⟨n, hn⟩).imp fun {a b} g e => ?_)
      rw [e, lex_irr] at g
      cases g
    have : i = j := by
      rcases Nat.lt_trichotomy i j with c | c | c
      · exact absurd e1 (List.pairwise_iff_getElem.mp nd i j il jl c)
      · exact c
      · exact absurd e1.symm (List.pairwise_iff_getElem.mp nd j i jl il c)
    rw [this, gI_inj hn (fun x hx => h1 x (List.mem_cons_of_mem _ hx)) (fun x hx => h2 x (List.mem_cons_of_mem _ hx)) e2]
theorem gI_cut {n : Nat} (h : n < 60) {p : List Int} (par : Par p) (lp : p.length = n + 1) {I : List Nat} (ok : ∀ i ∈ I, i < (allP n).length) : gI n (cutI n p I) = restr n p (gI n I) := by
  unfold gI cutI restr
  rw [List.filter_map]
  refine congrArg _ (List.filter_congr fun i hi => ?_)
  have il := ok i hi
  show decide _ = decide ((allP n).getD i [] ∈ turnB n [p])
  have e : (allP n).getD i [] = (allP n)[i] := by rw [List.getD_eq_getElem?_getD, List.getElem?_eq_getElem il]; rfl
  have mem : (allP n)[i] ∈ allP n := List.getElem_mem il
  obtain ⟨q1, q2⟩ := allP_par h _ mem
  rw [decide_eq_decide, e, mem_turn]
  unfold nearI
  rw [List.mem_filter, List.mem_range, e, treeB_flip par q1 (by omega)]
  exact ⟨fun ⟨_, z⟩ => ⟨mem, fun x hx => by rw [List.mem_singleton.mp hx]; exact z⟩, fun ⟨_, z⟩ => ⟨il, z p List.mem_cons_self⟩⟩
theorem famI_map {n : Nat} (hn : n < 6) (ps : List (List Int)) (hp : ∀ p ∈ ps, p ∈ allP n) : (famI n ps).map (gI n) = famOf n ps := by
  have h : n < 60 := by omega
  revert hp
  refine fam_snoc_ind (Q := fun ps => (∀ p ∈ ps, p ∈ allP n) → (famI n ps).map (gI n) = famOf n ps) (fun _ => ?_) (fun ps p ih hp => ?_) ps
  · show [gI n (List.range (allP n).length)] = [turnB n []]
    rw [turn_nil]
    refine congrArg (fun z => [z]) ?_
    unfold gI
    refine List.ext_getElem? fun i => ?_
    rw [List.getElem?_map]
    by_cases il : i < (allP n).length
    · rw [List.getElem?_range il, List.getElem?_eq_getElem il]
      show some ((allP n).getD i []) = _
      rw [List.getD_eq_getElem?_getD, List.getElem?_eq_getElem il]
      rfl
    · rw [List.getElem?_eq_none (by rw [List.length_range]; omega), List.getElem?_eq_none (by omega)]
      rfl
  · obtain ⟨p1, p2⟩ := allP_par h p (hp p (List.mem_append_right _ List.mem_cons_self))
    rw [famI_snoc, famOf_snoc, ← ih fun q hq => hp q (List.mem_append_left _ hq)]
    exact growL_map (Ok := fun I => ∀ i ∈ I, i < (allP n).length) (fun a b ha hb e => gI_inj hn ha hb e) (famI_ok ps) (fun I hI i hi => famI_ok ps I hI i (List.mem_filter.mp hi).1) fun I hI => gI_cut h p1 p2 (famI_ok ps I hI)
/-- lists of numbers -/
def ItN (H : Hp) (ts : List Addr) (Is : List (List Nat)) : Prop := ts.length = Is.length ∧ ∀ (i : Nat) (t : Addr), ts[i]? = some t → ∃ I, Is[i]? = some I ∧ H t = some (.lst (hv I))
theorem ItN.mono {H H' : Hp} {ts : List Addr} {Is : List (List Nat)} (h : ItN H ts Is) (s : Same H H') : ItN H' ts Is := ⟨h.1, fun i t ht => let ⟨I, a, b⟩ := h.2 i t ht; ⟨I, a, s _ _ b⟩⟩
theorem itN_snoc {H : Hp} {G r : Addr} {ws : List Addr} {Is : List (List Nat)} {I : List Nat} {xs : List V} {o : HO} (iw : ItN H ws Is) (tr : H r = some (.lst (hv I))) (eG : H G = some (.lst xs)) (nG : ∀ t ∈ ws ++ [r], t ≠ G) : ItN (upd H G o) (ws ++ [r]) (Is ++ [I]) := by
  refine ⟨by rw [List.length_append, List.length_append, iw.1]; rfl, fun i t ht => ?_⟩
  have tn := nG t (List.mem_of_getElem? ht)
  rw [upd_ne tn]
  by_cases c : i < ws.length
  · rw [List.getElem?_append_left c] at ht
    obtain ⟨J, a, b⟩ := iw.2 i t ht
    exact ⟨J, by rw [List.getElem?_append_left (by rw [← iw.1]; exact c)]; exact a, b⟩
  · have il := (List.getElem?_eq_some_iff.mp ht).1
    rw [List.length_append] at il
    have il : i < ws.length + 1 := il
    obtain rfl : i = ws.length := by omega
    rw [List.getElem?_append_right (Nat.le_refl _), Nat.sub_self] at ht
    obtain rfl : r = t := Option.some.inj ht
    exact ⟨I, by rw [iw.1, List.getElem?_append_right (Nat.le_refl _), Nat.sub_self]; rfl, tr⟩
abbrev numD (I : List Nat) : PyData := .list (I.map fun i => PyData.int ((i : Nat) : Int))
theorem numD_ints (I : List Nat) : numD I = .list ((I.map fun i => ((i : Nat) : Int)).map PyData.int) := by rw [List.map_map]; rfl
theorem hv_ints (I : List Nat) : hv I = (I.map fun i => ((i : Nat) : Int)).map V.int := by
  unfold hv
  rw [List.map_map]
  rfl
theorem cast_mem {I : List Nat} {i : Nat} : ((i : Nat) : Int) ∈ I.map (fun i => ((i : Nat) : Int)) ↔ i ∈ I := by
  rw [List.mem_map]
  exact ⟨fun ⟨j, h, e⟩ => by rw [← Int.ofNat.inj e]; exact h, fun h => ⟨i, h, rfl⟩⟩
theorem cast_inj : ∀ {I J : List Nat}, I.map (fun i => ((i : Nat) : Int)) = J.map (fun i => ((i : Nat) : Int)) → I = J
  | [], [], _ => rfl
  | [], _ :: _, h => by cases h
  | _ :: _, [], h => by cases h
  | i :: I, j :: J, h => by
    rw [List.map_cons, List.map_cons] at h
    obtain ⟨a, b⟩ := List.cons.inj h
    rw [Int.ofNat.inj a, cast_inj b]
theorem eqv_num (I J : List Nat) : PyData.eqv (numD I) (numD J) = decide (I = J) := by
  rw [numD_ints, numD_ints]
  show PyData.eqvAll _ _ = _
  rw [eqv_ints]
  exact decide_eq_decide.mpr ⟨cast_inj, fun e => by rw [e]⟩
theorem lay_num : ∀ Is : List (List Nat), PyData.canLayAll0 (Is.map numD) = true
  | [] => rfl
  | I :: r => by
    rw [List.map_cons, numD_ints]
    simp only [PyData.canLayAll0, PyData.canLay0, lay0, lay_num r, Bool.and_self]
theorem depth_num : ∀ Is : List (List Nat), PyData.depthAll (Is.map numD) ≤ 1
  | [] => Nat.zero_le _
  | I :: r => by
    rw [List.map_cons, numD_ints]
    have := depth_num r
    simp only [PyData.depthAll, PyData.depth, depth0]
    omega
theorem shaped_numL (Is : List (List Nat)) : SeqAt.shaped (.list (Is.map numD)) = true := by
  have h1 : PyData.canLay0 (.list (Is.map numD)) = true := by simp only [PyData.canLay0, lay_num]
  have h2 : PyData.depth (.list (Is.map numD)) ≤ 64 := by
    have := depth_num Is
    simp only [PyData.depth]
    omega
  exact Bool.and_eq_true_iff.mpr ⟨h1, decide_eq_true h2⟩
theorem shaped_num (I : List Nat) : SeqAt.shaped (numD I) = true := by
  rw [numD_ints]
  unfold SeqAt.shaped
  simp only [PyData.canLay0, lay0, PyData.depth, depth0]
  rfl
theorem any_num (Is : List (List Nat)) (I : List Nat) : ((Is.map numD).any fun z => PyData.eqv z (numD I)) = decide (I ∈ Is) := by
  induction Is with
  | nil => rfl
  | cons J r ih =>
    rw [List.map_cons, List.any_cons, ih, eqv_num]
    by_cases e : J = I
    · subst e
      simp
    · have e2 : ¬ I = J := fun q => e q.symm
      simp [e, e2]
theorem dp_num {K : PySem.W.Frag} {H : Hp} {t : Addr} {I : List Nat} (h : H t = some (.lst (hv I))) : Dp K H (.ref t) (numD I) := by
  rw [numD_ints]
  rw [hv_ints] at h
  exact .lst (sqL h) (dpAll_ints _)
theorem dp_nums {K : PySem.W.Frag} {H : Hp} : ∀ {ts : List Addr} {Is : List (List Nat)}, ItN H ts Is → DpAll K H (ts.map V.ref) (Is.map numD)
  | [], [], _ => .nil
  | [], _ :: _, h => by cases h.1
  | _ :: _, [], h => by cases h.1
  | t :: ts, I :: Is, h => by
    obtain ⟨J, e, ht⟩ := h.2 0 t rfl
    obtain rfl : I = J := Option.some.inj e
    exact .cons (dp_num ht) (dp_nums ⟨Nat.succ.inj h.1, fun i u hu => h.2 (i + 1) u hu⟩)
theorem allP_15 : ∀ n : Fin 4, (allP n.val).length ≤ 15 := by decide +kernel
theorem nearI_snoc (n : Nat) (p : List Int) (k : Nat) : nearI n p (k + 1) = nearI n p k ++ if treeB p ((allP n).getD k []) = true then [k] else [] := by
  unfold nearI
  rw [List.range_succ, List.filter_append, List.filter_cons]
  rfl
theorem hv_snoc (I : List Nat) (i : Nat) : hv (I ++ [i]) = hv I ++ [V.int ((i : Nat) : Int)] := by
  unfold hv
  rw [List.map_append]
  rfl
/-- a list of lots -/
def LotsL (H : Hp) (t : Addr) (Ls : List (List (List Int))) : Prop := ∃ ys : List LA, H t = some (.lst (ys.map fun y => V.ref y.2)) ∧ ys.map (·.1) = Ls ∧ ∀ y ∈ ys, TL H y.2 y.1
section
variable {P : Program} {w : World} {K : PySem.W.Frag} {mg : Str → Option Value} {base : Heap}
abbrev s__law_family : Stmt := topS 49
theorem sc__law_family : FnScope ["many", "rows", "family", "one", "near", "fresh", "row", "n"] ["many"] (defScope s__law_family) := ⟨rfl, rfl, rfl, by decide +kernel, rfl, by decide +kernel, by decide +kernel⟩
def scFa : Scope := match (defBody s__law_family).getD 2 (.Pass ⟨0, 0, 0, 0⟩) with
  | Stmt.For _ _ (_ :: Stmt.Assign _ (Expr.ListComp _ _ sc _) _ :: _) _ _ => sc
  | _ => defScope s__law_family
def scFb : Scope := match (defBody s__law_family).getD 3 (.Pass ⟨0, 0, 0, 0⟩) with
  | Stmt.Return (some (Expr.Call _ [Expr.ListComp _ _ sc _] _ _)) _ => sc
  | _ => defScope s__law_family
def spFamily : Sp := fun vs H Q _ => ∃ n : Nat, vs = [.int ((n + 1 : Nat) : Int)] ∧ n < 4 ∧ ∀ H' t, Same H H' → LotsL H' t ((fam n).mergeSort leL) → Q (.ref t) H'
theorem ok_family (D : DefAt K mg "_law_family" s__law_family) (T : Bt mg) (u__law_partings : Use P w K mg base "_law_partings" 1 ["many"] spLParts) (u__law_meet : Use P w K mg base "_law_meet" 2 ["one", "two"] spMeets) : Use P w K mg base "_law_family" 3 ["many"] spFamily := by
  refine use_of D (fun f fd F => F.ok sc__law_family (fun vs H Q E h => ?_) (fun cdv A outer s H vs Q E hr h => ?_)) (fun _ _ _ _ _ _ us hl => match us, hl with | [_], _ => rfl)
  · obtain ⟨n, rfl, _⟩ := h
    rfl
  · obtain ⟨n, rfl, n4, q⟩ := h
    refine ⟨_, (pss_cons (ps_set (i := 1) sc__law_family.nd rfl (Or.inr rfl) (pe_use u__law_partings (by decide) hr (by rfl) (pa_cons (pv 0) pa_nil)))
      (pss_cons (ps_set (i := 2) sc__law_family.nd rfl (Or.inl rfl) (pe_lst (pa_cons (pe_listRg rfl (by rfl) T.list (prg_1 (by rfl) T.range (pe_callB (k_len (K := K) rfl) (by rfl) T.len PySem.boot_len (pa_cons (pv 1) pa_nil)))) pa_nil)))
      (pss_cons (ps_for PassesOwn.never rfl (k_list (K := K) rfl (pv 1)) (pg_name (i := 3) sc__law_family.nd rfl (Or.inr rfl))
      (pss_cons (ps_set (i := 4) sc__law_family.nd rfl (Or.inr rfl) (pe_lc (own := [("n", 7)]) rfl sc__law_family.nd (pi_range1 (by rfl) T.range (pa_cons (pe_callB (k_len (K := K) rfl) (by rfl) T.len PySem.boot_len (pa_cons (pv 1) pa_nil)) pa_nil)) (blkOk_by (N := ["many", "rows", "family", "one", "near", "fresh", "row", "n"]) (sc := defScope s__law_family) (by decide +kernel)) (fun _ _ _ _ _ => (pg_name (i := 7) sc__law_family.nd rfl (Or.inl rfl))) (fun _ _ _ _ _ => (pts_one (pt_val (pe_use u__law_meet (by decide) hr (by rfl) (pa_cons (pv 3) (pa_cons (pe_ix (k_ixl (K := K) rfl) (pv 1) (pv 7) (fun _ _ => rfl)) pa_nil)))))) (fun _ _ _ _ _ => (pv 7))))
      (pss_cons (ps_setLc (i := 5) (own := [("row", 6)]) rfl sc__law_family.nd rfl rfl (sw_true rfl rfl rfl (by decide +kernel)) (k_list (K := K) rfl (pv 2)) (blkOk_by (N := ["many", "rows", "family", "one", "near", "fresh", "row", "n"]) (sc := defScope s__law_family) (by decide +kernel)) (fun _ _ _ _ _ => (pg_name (i := 6) sc__law_family.nd rfl (Or.inl rfl))) (fun _ _ _ _ _ => pts_nil) (fun _ _ _ _ _ => (pe_lc (own := [("n", 7)]) rfl sc__law_family.nd (k_list (K := K) rfl (pv 6)) (blkOk_by (N := ["many", "rows", "family", "one", "near", "fresh", "row", "n"]) (sc := relS scFa (defScope s__law_family)) (by decide +kernel)) (fun _ _ _ _ _ => (pg_name (i := 7) sc__law_family.nd rfl (Or.inl rfl))) (fun _ _ _ _ _ => (pts_one (pt_cmpR (k_in (K := K) rfl) (pv 7) (pv 4) (by rfl)))) (fun _ _ _ _ _ => (pv 7)))))
      (pss_one (ps_for PassesOwn.never rfl (k_list (K := K) rfl (pv 5)) (pg_name (i := 6) sc__law_family.nd rfl (Or.inl rfl))
      (pss_one (ps_if (pt_cmpR (k_notInD (K := K) rfl (room66 hr)) (pv 6) (pv 2) (by rfl)) (pss_one (ps_expr (k_bm (K := K) rfl PySem.F.plainAttrs_list PySem.F.slot_list_append PySem.F.type_list_append mt_append (pv 2) (pa_cons (pv 6) pa_nil)))) pss_nil)))))))
      (pss_one (ps_ret (pe_callB (cr_sortedN hr.units) (by rfl) T.sorted (by decide +kernel) (pa_cons (pe_lc (own := [("row", 6)]) rfl sc__law_family.nd (k_list (K := K) rfl (pv 2)) (blkOk_by (N := ["many", "rows", "family", "one", "near", "fresh", "row", "n"]) (sc := defScope s__law_family) (by decide +kernel)) (fun _ _ _ _ _ => (pg_name (i := 6) sc__law_family.nd rfl (Or.inl rfl))) (fun _ _ _ _ _ => pts_nil) (fun _ _ _ _ _ => (pe_callTy (k_tupOf (K := K) rfl) (by rfl) T.tuple (by decide +kernel) (pa_cons (pe_lc (own := [("n", 7)]) rfl sc__law_family.nd (k_list (K := K) rfl (pv 6)) (blkOk_by (N := ["many", "rows", "family", "one", "near", "fresh", "row", "n"]) (sc := relS scFb (defScope s__law_family)) (by decide +kernel)) (fun _ _ _ _ _ => (pg_name (i := 7) sc__law_family.nd rfl (Or.inl rfl))) (fun _ _ _ _ _ => pts_nil) (fun _ _ _ _ _ => (pe_ix (k_ixl (K := K) rfl) (pv 1) (pv 7) (fun _ _ => rfl)))) pa_nil)))) pa_nil))))))), ?_⟩
    have n15 := allP_15 ⟨n, n4⟩
    have n15 : (allP n).length ≤ 15 := n15
    refine ⟨_, rfl, n, rfl, by omega, fun H1 l s1 ⟨ts, el, its⟩ => ?_⟩
    have its : Its H1 ts (allP n) := its
    have lts : (ts.map V.ref).length = (allP n).length := by rw [List.length_map, its.1]
    refine ⟨_, rfl, l, _, rfl, .inl (sqL el), _, rfl, RgOk.of_le (by omega) (by omega) (by omega) (by omega), fun w0 nw0 => ?_⟩
    rw [lts, rgV_hv]
    refine ⟨by show 1 ≤ sizeLine; decide, fun F nF => ?_⟩
    have wF : w0 ≠ F := fun e => by rw [← e, upd_same] at nF; cases nF
    have nF1 : H1 F = none := (same_new nw0).free nF
    have s2 := (same_new (o := .lst (hv (List.range (allP n).length))) nw0).trans (same_new (o := .lst [V.ref w0]) nF)
    have it0 : ItN (upd (upd H1 w0 (.lst (hv (List.range (allP n).length)))) F (.lst [V.ref w0])) [w0] (famI n ((allP n).take 0)) := by
      refine ⟨rfl, fun i t ht => ?_⟩
      have il := (List.getElem?_eq_some_iff.mp ht).1
      have i0 : i = 0 := by simp at il; omega
      subst i0
      obtain rfl : w0 = t := Option.some.inj ht
      exact ⟨_, rfl, by rw [upd_ne wF, upd_same]⟩
    have eF0 : (upd (upd H1 w0 (.lst (hv (List.range (allP n).length)))) F (.lst [V.ref w0])) F = some (.lst ([w0].map V.ref)) := upd_same
    refine ⟨_, rfl, l, rfl, ⟨_, sqL (s2 _ _ el)⟩, for_list (K := K) (a := l) (xs := ts.map V.ref)
      (fun i σ H3 => ∃ (y3 y4 y5 y6 : Option V) (fs : List Addr), σ = [some (.int ((n + 1 : Nat) : Int)), some (.ref l), some (.ref F), y3, y4, y5, y6, none] ∧ Same H1 H3 ∧ H3 F = some (.lst (fs.map V.ref)) ∧ ItN H3 fs (famI n ((allP n).take i)))
      ⟨none, none, none, none, [w0], rfl, s2, eF0, it0⟩ (fun i σ H3 _ ⟨_, _, _, _, _, _, sm, _⟩ => sqL (sm _ _ el)) ?_ ?_⟩
    · rintro i v σ H3 hi ⟨y3, y4, y5, y6, fs, rfl, sm, eF, itf⟩
      obtain ⟨t, ht, rfl⟩ := map_at hi
      obtain ⟨p, hp, tp⟩ := its.2 i t ht
      obtain ⟨pp, lp⟩ := allP_par (n := n) (by omega) p (List.mem_of_getElem? hp)
      have el3 := sm _ _ el
      have okI := famI_ok (n := n) ((allP n).take i)
      have flen : (famI n ((allP n).take i)).length ≤ 60 := by
        have := famI_map (n := n) (by omega) ((allP n).take i) fun q hq => List.mem_of_mem_take hq
        have h2 := congrArg List.length this
        rw [List.length_map] at h2
        rw [h2]
        exact fam_few n4 i
      refine ⟨_, rfl, l, _, rfl, .inl (sqL el3), _, rfl, by omega, by omega, fun G nG => ?_⟩
      rw [lts]
      refine lc_range (fun k H4 => Same H3 H4 ∧ H4 G = some (.lst (hv (nearI n p k)))) ⟨same_new nG, upd_same⟩ ?_ ?_
      · rintro k H4 hk ⟨s4, eG⟩
        rw [Int.toNat_natCast] at hk
        obtain ⟨tr, htr⟩ := at_some (xs := ts) (i := k) (by rw [its.1]; exact hk)
        obtain ⟨row, hrow, trr⟩ := its.2 k tr htr
        obtain ⟨pr, lr⟩ := allP_par (n := n) (by omega) row (List.mem_of_getElem? hrow)
        have s34 := sm.trans s4
        have er : (allP n).getD k [] = row := by rw [List.getD_eq_getElem?_getD, hrow]; rfl
        refine ⟨rfl, _, rfl, _, rfl, _, rfl, l, _, _, .ref tr, rfl, rfl, sqL (s34 _ _ el), atI_of (j := k) (by omega) (at_map htr), t, tr, p, row, rfl, tp.mono s34, trr.mono s34, pp, pr, by omega, fun H5 c s5 hc => ⟨c, rfl, ?_⟩⟩
        have tb := treeB_ok pp.rg pr.rg
        have nl : (nearI n p k).length ≤ 15 := by
          have := List.length_filter_le (fun i => treeB p ((allP n).getD i [])) (List.range k)
          rw [List.length_range] at this
          unfold nearI
          omega
        cases c with
        | true =>
          refine ⟨_, rfl, _, s5 _ _ eG, by rw [hv_len]; exact small_of (by omega), same_mut (s4.trans s5) nG, ?_⟩
          rw [upd_same, nearI_snoc, er, if_pos (tb.mpr (hc.mp rfl)), hv_snoc]
          refine congrArg (fun z => some (HO.lst (_ ++ [V.int z]))) ?_
          omega
        | false =>
          refine ⟨s4.trans s5, ?_⟩
          rw [nearI_snoc, er, if_neg (fun z => by have := hc.mpr (tb.mp z); cases this), List.append_nil]
          exact s5 _ _ eG
      rintro H4 ⟨s4, eG⟩
      rw [Int.toNat_natCast] at eG
      have eF4 := s4 _ _ eF
      have itf4 := itf.mono s4
      have lfs := itf.1
      have nlen : (nearI n p (allP n).length).length ≤ 15 := by
        have := List.length_filter_le (fun i => treeB p ((allP n).getD i [])) (List.range (allP n).length)
        rw [List.length_range] at this
        unfold nearI
        omega
      refine ⟨_, rfl, F, rfl, ⟨_, sqL eF4⟩, fun R nR => ?_⟩
      refine lc_list (K := K) (a := F) (xs := fs.map V.ref) (fun k H6 => Same H4 H6 ∧ ∃ ws : List Addr, H6 R = some (.lst (ws.map V.ref)) ∧ ItN H6 ws (((famI n ((allP n).take i)).take k).map (cutI n p)))
        ⟨same_new nR, [], upd_same, rfl, fun i t h => by simp at h⟩ (fun k H6 _ ⟨s6, _⟩ => sqL (s6 _ _ eF4)) ?_ ?_
      · rintro k v H6 hk ⟨s6, ws, eR, iw⟩
        obtain ⟨f, hf, rfl⟩ := map_at hk
        obtain ⟨I, hI, ef⟩ := itf4.2 k f hf
        have ef6 := s6 _ _ ef
        have kl := (List.getElem?_eq_some_iff.mp hI).1
        have wl := iw.1
        rw [List.length_map, List.length_take] at wl
        have Il : ∀ j : Nat, ((I.take j).filter fun i => decide (i ∈ nearI n p (allP n).length)).length ≤ I.length := fun j => Nat.le_trans (List.length_filter_le _ _) (by rw [List.length_take]; omega)
        have Ib : I.length ≤ 15 := Nat.le_trans (famI_len _ I (List.mem_of_getElem? hI)) n15
        refine ⟨rfl, _, rfl, f, rfl, ⟨_, sqL ef6⟩, fun G2 nG2 => ?_⟩
        refine lc_list (K := K) (a := f) (xs := hv I) (fun j H7 => Same H6 H7 ∧ H7 G2 = some (.lst (hv ((I.take j).filter fun i => decide (i ∈ nearI n p (allP n).length))))) ⟨same_new nG2, upd_same⟩ (fun j H7 _ ⟨s7, _⟩ => sqL (s7 _ _ ef6)) ?_ ?_
        · rintro j v H7 hj ⟨s7, eG2⟩
          obtain ⟨x, hx, rfl⟩ := map_at hj
          have eG7 := s7 _ _ (s6 _ _ eG)
          refine ⟨rfl, _, rfl, _, rfl, G, _, rfl, .inl (sqL eG7), rfl, by rw [hv_ints]; exact flat_ints _, _, rfl, ?_⟩
          rw [show (if false = true then !L2.inV (V.int ((x : Nat) : Int)) (hv (nearI n p (allP n).length)) else L2.inV (V.int ((x : Nat) : Int)) (hv (nearI n p (allP n).length))) = decide (x ∈ nearI n p (allP n).length) from by
            rw [if_neg (by decide), hv_ints, inV_ints]
            exact decide_eq_decide.mpr cast_mem]
          have sn : (I.take (j + 1)).filter (fun i => decide (i ∈ nearI n p (allP n).length)) = (I.take j).filter (fun i => decide (i ∈ nearI n p (allP n).length)) ++ if decide (x ∈ nearI n p (allP n).length) = true then [x] else [] := by
            rw [take_snoc hx, List.filter_append]
            congr 1
            rw [List.filter_cons]
            rfl
          refine keepT ⟨fun c => ⟨_, rfl, _, eG2, ?_, same_mut s7 nG2, ?_⟩, fun c => ⟨s7, ?_⟩⟩
          · rw [hv_len]
            exact small_of (Nat.le_trans (Il j) (by omega))
          · rw [upd_same, sn, if_pos c, hv_snoc]
          · rw [sn, if_neg (by rw [c]; decide), List.append_nil]
            exact eG2
        rintro H7 ⟨s7, eG2⟩
        rw [hv_len, List.take_length] at eG2
        have eR7 := s7 _ _ eR
        refine ⟨_, eR7, by rw [List.length_map]; exact small_of (by omega), same_mut (s6.trans s7) nR, ws ++ [G2], by rw [upd_same, List.map_append]; rfl, ?_⟩
        rw [take_snoc hI, List.map_append]
        refine itN_snoc (iw.mono s7) eG2 eR7 fun u hu z => ?_
        rcases List.mem_append.mp hu with hu | hu
        · obtain ⟨x, hx⟩ := List.mem_iff_getElem?.mp hu
          obtain ⟨J, _, eJ⟩ := iw.2 x u hx
          rw [z, eR] at eJ
          have e := HO.lst.inj (Option.some.inj eJ)
          have hm : V.ref u ∈ hv J := by rw [← e]; exact List.mem_map_of_mem hu
          obtain ⟨q, _, hq⟩ := List.mem_map.mp hm
          cases hq
        · rw [List.mem_singleton.mp hu] at z
          rw [z, eR] at nG2
          cases nG2
      rintro H5 ⟨s5, ws, eR, iw⟩
      rw [List.length_map, lfs, List.take_length] at iw
      have s15 := (sm.trans s4).trans s5
      have eF5 := s5 _ _ eF4
      have itf5 := itf4.mono s5
      refine ⟨_, rfl, R, rfl, ⟨_, sqL eR⟩, for_list (K := K) (a := R) (xs := ws.map V.ref)
        (fun j σ H8 => ∃ (y6 : Option V) (fs' : List Addr), σ = [some (.int ((n + 1 : Nat) : Int)), some (.ref l), some (.ref F), some (.ref t), some (.ref G), some (.ref R), y6, none] ∧ Same H1 H8 ∧ H8 F = some (.lst (fs'.map V.ref)) ∧
          ItN H8 fs' ((((famI n ((allP n).take i)).map (cutI n p)).take j).foldl putL (famI n ((allP n).take i))) ∧ H8 R = some (.lst (ws.map V.ref)) ∧ ItN H8 ws ((famI n ((allP n).take i)).map (cutI n p)))
        ⟨y6, fs, rfl, s15, eF5, itf5, eR, iw⟩ (fun j σ H8 _ ⟨_, _, _, _, _, _, e, _⟩ => sqL e) ?_ ?_⟩
      · rintro j v σ H8 hj ⟨y6, fs', rfl, sm8, eF8, itf8, eR8, iw8⟩
        obtain ⟨f, hf, rfl⟩ := map_at hj
        obtain ⟨I, hI, ef⟩ := iw8.2 j f hf
        have FR : F ≠ R := fun z => by rw [← z] at nR; rw [eF4] at nR; cases nR
        have fl2 := foldP_len (xs := ((famI n ((allP n).take i)).map (cutI n p)).take j) (F := famI n ((allP n).take i))
        rw [← itf8.1, List.length_take, List.length_map] at fl2
        have wsl := iw8.1
        rw [List.length_map] at wsl
        have sn : (((famI n ((allP n).take i)).map (cutI n p)).take (j + 1)).foldl putL (famI n ((allP n).take i)) = putL ((((famI n ((allP n).take i)).map (cutI n p)).take j).foldl putL (famI n ((allP n).take i))) I := by
          rw [take_snoc hI, List.foldl_append]
          rfl
        refine ⟨_, rfl, _, rfl, numD I, _, dp_num ef, .lst (sqL eF8) (dp_nums itf8), shaped_num _, shaped_numL _, _, rfl, ?_⟩
        rw [any_num]
        by_cases c : I ∈ (((famI n ((allP n).take i)).map (cutI n p)).take j).foldl putL (famI n ((allP n).take i))
        · rw [decide_eq_true c]
          refine ⟨_, fs', rfl, sm8, eF8, ?_, eR8, iw8⟩
          rw [sn, show putL _ I = _ from if_pos c]
          exact itf8
        · rw [decide_eq_false c]
          have apart : ∀ {X : Addr} {us : List Addr} {Js : List (List Nat)}, H8 X = some (.lst (us.map V.ref)) → us ≠ [] → ∀ {u : Addr} {J : List Nat}, H8 u = some (.lst (hv J)) → u ≠ X := fun {X us Js} hX ne {u J} hu z => by
            rw [z, hX] at hu
            have e := HO.lst.inj (Option.some.inj hu)
            cases us with
            | nil => exact ne rfl
            | cons a r =>
              have hm : V.ref a ∈ hv J := by rw [← e]; exact List.mem_cons_self
              obtain ⟨q, _, hq⟩ := List.mem_map.mp hm
              cases hq
          have fne : fs' ≠ [] := fun z => by
            have h1 := itf8.1
            obtain ⟨pr, hpr⟩ := foldP_pre (xs := ((famI n ((allP n).take i)).map (cutI n p)).take j) (F := famI n ((allP n).take i))
            have h2 := congrArg List.length hpr
            rw [List.length_append] at h2
            rw [z, List.length_nil] at h1
            have := (List.getElem?_eq_some_iff.mp hf).1
            omega
          have fF : f ≠ F := apart (Js := []) eF8 fne ef
          refine ⟨_, rfl, .inl ⟨rfl, _, .inl (.inl eF8)⟩, _, rfl, F, _, _, rfl, rfl, eF8, by rw [List.length_map]; exact small_of (by omega), ?_⟩
          refine ⟨_, fs' ++ [f], rfl, same_mut sm8 nF1, by rw [upd_same, List.map_append]; rfl, ?_, by rw [upd_ne FR.symm]; exact eR8, iw8.1, fun k u hu => ?_⟩
          · rw [sn, show putL _ I = _ from if_neg c]
            refine itN_snoc itf8 ef eF8 fun u hu => ?_
            rcases List.mem_append.mp hu with hu | hu
            · obtain ⟨x, hx⟩ := List.mem_iff_getElem?.mp hu
              obtain ⟨J, _, eJ⟩ := itf8.2 x u hx
              exact apart (Js := []) eF8 fne eJ
            · rw [List.mem_singleton.mp hu]
              exact fF
          · obtain ⟨J, hJ, eJ⟩ := iw8.2 k u hu
            exact ⟨J, hJ, by rw [upd_ne (apart (Js := []) eF8 fne eJ)]; exact eJ⟩
      · rintro σ H8 ⟨y6, fs', rfl, sm8, eF8, itf8, eR8, iw8⟩
        refine ⟨_, _, _, _, fs', rfl, sm8, eF8, ?_⟩
        have wsl := iw8.1
        rw [List.length_map, wsl, List.take_length] at itf8
        rw [take_snoc hp, famI_snoc]
        exact itf8
    · rintro σ H3 ⟨y3, y4, y5, y6, fs, rfl, sm, eF, itf⟩
      rw [lts, List.take_length] at itf
      have gmap := famI_map (n := n) (by omega) (allP n) fun q hq => hq
      have okI := famI_ok (n := n) (allP n)
      refine ⟨_, rfl, F, rfl, ⟨_, sqL eF⟩, fun R nR => ?_⟩
      refine lc_list (K := K) (a := F) (xs := fs.map V.ref) (fun k H4 => Same H3 H4 ∧ ∃ ys : List LA, H4 R = some (.lst (ys.map fun y => V.ref y.2)) ∧ ys.map (·.1) = ((famI n (allP n)).take k).map (gI n) ∧ ∀ y ∈ ys, TL H4 y.2 y.1)
        ⟨same_new nR, [], upd_same, rfl, fun y hy => by cases hy⟩ (fun k H4 _ ⟨s4, _⟩ => sqL (s4 _ _ eF)) ?_ ?_
      · rintro k v H4 hk ⟨s4, ys, eR, hys, tys⟩
        obtain ⟨f, hf, rfl⟩ := map_at hk
        obtain ⟨I, hI, ef⟩ := itf.2 k f hf
        have ef4 := s4 _ _ ef
        have s14 := sm.trans s4
        have Ib : I.length ≤ 15 := Nat.le_trans (famI_len _ I (List.mem_of_getElem? hI)) n15
        refine ⟨rfl, _, rfl, f, rfl, ⟨_, sqL ef4⟩, fun G nG => ?_⟩
        refine lc_list (K := K) (a := f) (xs := hv I) (fun j H5 => Same H4 H5 ∧ ∃ us : List Addr, H5 G = some (.lst (us.map V.ref)) ∧ Its H5 us (gI n (I.take j))) ⟨same_new nG, [], upd_same, Its.nil⟩ (fun j H5 _ ⟨s5, _⟩ => sqL (s5 _ _ ef4)) ?_ ?_
        · rintro j v H5 hj ⟨s5, us, eG, iu⟩
          obtain ⟨x, hx, rfl⟩ := map_at hj
          have xl := okI I (List.mem_of_getElem? hI) x (List.mem_of_getElem? hx)
          obtain ⟨tr, htr⟩ := at_some (xs := ts) (i := x) (by rw [its.1]; exact xl)
          obtain ⟨row, hrow, trr⟩ := its.2 x tr htr
          have er : (allP n).getD x [] = row := by rw [List.getD_eq_getElem?_getD, hrow]; rfl
          have ul := iu.1
          unfold gI at ul
          rw [List.length_map, List.length_take] at ul
          refine ⟨rfl, _, rfl, _, rfl, l, _, _, .ref tr, rfl, rfl, sqL ((s14.trans s5) _ _ el), atI_of (j := x) rfl (at_map htr), _, eG, by rw [List.length_map]; exact small_of (by omega), same_mut s5 nG, us ++ [tr], by rw [upd_same, List.map_append]; rfl, ?_⟩
          have e2 : gI n (I.take (j + 1)) = gI n (I.take j) ++ [row] := by
            unfold gI
            rw [take_snoc hx, List.map_append, ← er]
            rfl
          rw [e2]
          exact its_snoc iu (trr.mono (s14.trans s5)) eG
        rintro H5 ⟨s5, us, eG, iu⟩
        rw [hv_len, List.take_length] at iu
        refine ⟨G, _, rfl, .inl ⟨sqL eG, fun t nt => ?_⟩⟩
        have st := s5.trans (same_new (o := .tup (us.map V.ref)) nt)
        have eRt := st _ _ eR
        have yl := congrArg List.length hys
        rw [List.length_map, List.length_map, List.length_take] at yl
        have fl := fam_few n4 (allP n).length
        rw [List.take_length, ← gmap, List.length_map] at fl
        refine ⟨_, eRt, by rw [List.length_map]; exact small_of (by omega), same_mut (s4.trans st) nR, ys ++ [(gI n I, t)], by rw [upd_same, List.map_append]; rfl, ?_, fun y hy => ?_⟩
        · rw [take_snoc hI, List.map_append, List.map_append, hys]
          rfl
        · rcases List.mem_append.mp hy with hy | hy
          · exact ((tys y hy).mono st).put eRt
          · rw [List.mem_singleton.mp hy]
            exact TL.put (a := t) (xss := gI n I) ⟨us, .inl upd_same, iu.mono (same_new nt)⟩ eRt
      rintro H4 ⟨s4, ys, eR, hys, tys⟩
      rw [List.length_map, itf.1, List.take_length, gmap] at hys
      have hys : ys.map (·.1) = fam n := hys
      obtain ⟨r0, hr0⟩ := fam_head (n := n) (allP n)
      have ne0 : allP n ≠ [] := fun z => by
        have := allP_all n (num (List.replicate (n + 1) (0 : Int))) (num_rg _) (by rw [num_len, List.length_replicate])
        rw [z] at this
        cases this
      have h0 : ∃ x r, ys = x :: r ∧ x.1 ≠ [] := by
        cases ys with
        | nil => rw [show fam n = _ from hr0] at hys; cases hys
        | cons x r =>
          rw [show fam n = _ from hr0, List.map_cons] at hys
          exact ⟨x, r, rfl, by rw [(List.cons.inj hys).1]; exact ne0⟩
      refine ⟨R, ys, rfl, sqL eR, tys, h0, fun p np => ?_⟩
      have sn := same_new (o := .lst ((ys.mergeSort leN).map fun x => V.ref x.2)) np
      refine q _ p (((s1.trans sm).trans s4).trans sn) ⟨ys.mergeSort leN, upd_same, ?_, fun y hy => (tys y ((List.mergeSort_perm ys leN).mem_iff.mp hy)).mono sn⟩
      rw [leN_map, hys]
end
end KQ
namespace KQ
open PySem PySem.Spec PyProof.Rows L2 KR KM StX
/-- with two doors and more nothing meets itself -/
theorem self_ok : ∀ n : Fin 5, ((allP n.val).all fun x => decide (n.val = 0) || !treeB x x) = true := by decide +kernel
theorem no_self {n : Nat} (h : n < 5) (n0 : n ≠ 0) {x : List Int} (hx : x ∈ allP n) : treeB x x = false := by
  have := List.all_eq_true.mp (self_ok ⟨n, h⟩) x hx
  rw [Bool.or_eq_true, decide_eq_true_iff] at this
  rcases this with h | h
  · exact absurd h n0
  · simpa using h
theorem app_flip {n : Nat} (L M : List (List Int)) : turnB n (L ++ M) = turnB n (M ++ L) := turn_congr fun x => by rw [List.mem_append, List.mem_append, or_comm]
end KQ
namespace KQ
open PySem PySem.Spec PyProof.Rows L2 KR KM StX
theorem its_cat {H : Hp} {ts us : List Addr} {L M : List (List Int)} (a : Its H ts L) (b : Its H us M) : Its H (ts ++ us) (L ++ M) := a.app b
theorem its_len4 {H : Hp} {ts : List Addr} {L : List (List Int)} (a : Its H ts L) : ts.length = L.length := a.1
section
variable {P : Program} {w : World} {K : PySem.W.Frag} {mg : Str → Option Value} {base : Heap}
abbrev s__law_right_pair : Stmt := topS 52
theorem sc__law_right_pair : FnScope ["one", "two", "many", "both", "near", "far", "span", "shut", "other", "told"] ["one", "two", "many"] (defScope s__law_right_pair) := ⟨rfl, rfl, rfl, by decide +kernel, rfl, by decide +kernel, by decide +kernel⟩
def spPair : Sp := fun vs H Q _ => ∃ (l k : Addr) (L M : List (List Int)) (n : Nat), vs = [.ref l, .ref k, .int ((n + 1 : Nat) : Int)] ∧ TL H l L ∧ TL H k M ∧ LotT n L ∧ LotT n M ∧ n < 5 ∧ ∀ H', Same H H' → Q (.bl true) H'
theorem ok_right_pair (D : DefAt K mg "_law_right_pair" s__law_right_pair) (T : Bt mg) (u__law_lot_from : Use P w K mg base "_law_lot_from" 1 ["rows"] spLotFrom) (u__law_met_all : Use P w K mg base "_law_met_all" 3 ["lot", "many"] spMetAll)
    (u__law_like : UseG P w K mg base "_law_like" 1 ["got", "due"] (spLike K)) (u_met : Use P w K mg base "met" 8 ["lot", "other", "number"] spMet) (u_spanned : Use P w K mg base "spanned" 8 ["lot", "other", "number"] spSpanned)
    (u__law_common : Use P w K mg base "_law_common" 1 ["one", "two"] spCommon) (u_turned : Use P w K mg base "turned" 8 ["lot", "number"] spTurned) (u__law_partings : Use P w K mg base "_law_partings" 1 ["many"] spLParts) :
    UseG P w K mg base "_law_right_pair" 9 ["one", "two", "many"] spPair := by
  refine use_ofG D (fun f fd F => Fun.okG F sc__law_right_pair (fun vs H Q E h => ?_) (fun cdv A outer s H vs Q E gd hr h => ?_)) (fun _ _ _ _ _ _ us hl => match us, hl with | [_, _, _], _ => rfl)
  · obtain ⟨l, k, L, M, n, rfl, _⟩ := h
    rfl
  · obtain ⟨l, k, L, M, n, rfl, hl, hk, lotL, lotM, n5, q⟩ := h
    refine ⟨_, (pss_cons (ps_set (i := 3) sc__law_right_pair.nd rfl (Or.inl rfl) (pe_use u__law_lot_from (by decide) hr (by rfl) (pa_cons (pe_op op_cat (pe_callTy (k_listOf (K := K) rfl) (by rfl) T.list (by decide +kernel) (pa_cons (pv 0) pa_nil)) (pe_callTy (k_listOf (K := K) rfl) (by rfl) T.list (by decide +kernel) (pa_cons (pv 1) pa_nil))) pa_nil)))
      (pss_cons (ps_par (i := 4) (j := 5) rfl sc__law_right_pair.nd rfl rfl (by decide) rfl rfl (pa_cons (pe_use u__law_met_all (by decide) hr (by rfl) (pa_cons (pv 0) (pa_cons (pv 2) pa_nil))) (pa_cons (pe_use u__law_met_all (by decide) hr (by rfl) (pa_cons (pv 1) (pa_cons (pv 2) pa_nil))) pa_nil)) (by rfl))
      (pss_cons (ps_set (i := 6) sc__law_right_pair.nd rfl (Or.inl rfl) (pe_use u__law_met_all (by decide) hr (by rfl) (pa_cons (pe_use u__law_met_all (by decide) hr (by rfl) (pa_cons (pv 3) (pa_cons (pv 2) pa_nil))) (pa_cons (pv 2) pa_nil))))
      (pss_cons (ps_if (pt_not (pt_val (pe_useG u__law_like gd (by decide) hr (by rfl) (pa_cons (pe_lst (pa_cons (pe_use u_met (by decide) hr (by rfl) (pa_cons (pv 0) (pa_cons (pv 1) (pa_cons (pv 2) pa_nil)))) (pa_cons (pe_use u_spanned (by decide) hr (by rfl) (pa_cons (pv 0) (pa_cons (pv 1) (pa_cons (pv 2) pa_nil)))) (pa_cons (pe_use u_spanned (by decide) hr (by rfl) (pa_cons (pv 1) (pa_cons (pv 0) (pa_cons (pv 2) pa_nil)))) pa_nil)))) (pa_cons (pe_lst (pa_cons (pe_use u__law_common (by decide) hr (by rfl) (pa_cons (pv 0) (pa_cons (pv 1) pa_nil))) (pa_cons (pv 6) (pa_cons (pv 6) pa_nil)))) pa_nil))))) (pss_one (ps_ret pe_bl)) pss_nil)
      (pss_cons (ps_if (pt_not (pt_val (pe_useG u__law_like gd (by decide) hr (by rfl) (pa_cons (pe_lst (pa_cons (pe_use u_turned (by decide) hr (by rfl) (pa_cons (pv 6) (pa_cons (pv 2) pa_nil))) (pa_cons (pe_use u_met (by decide) hr (by rfl) (pa_cons (pv 4) (pa_cons (pv 5) (pa_cons (pv 2) pa_nil)))) pa_nil))) (pa_cons (pe_lst (pa_cons (pe_use u__law_common (by decide) hr (by rfl) (pa_cons (pv 4) (pa_cons (pv 5) pa_nil))) (pa_cons (pe_use u__law_common (by decide) hr (by rfl) (pa_cons (pv 4) (pa_cons (pv 5) pa_nil))) pa_nil))) pa_nil))))) (pss_one (ps_ret pe_bl)) pss_nil)
      (pss_cons (ps_par (i := 7) (j := 8) rfl sc__law_right_pair.nd rfl rfl (by decide) rfl rfl (pa_cons (pe_use u__law_met_all (by decide) hr (by rfl) (pa_cons (pv 4) (pa_cons (pv 2) pa_nil))) (pa_cons (pe_use u__law_met_all (by decide) hr (by rfl) (pa_cons (pv 5) (pa_cons (pv 2) pa_nil))) pa_nil)) (by rfl))
      (pss_cons (ps_if (pt_not (pt_val (pe_useG u__law_like gd (by decide) hr (by rfl) (pa_cons (pe_use u_turned (by decide) hr (by rfl) (pa_cons (pe_use u_met (by decide) hr (by rfl) (pa_cons (pv 7) (pa_cons (pv 8) (pa_cons (pv 2) pa_nil)))) (pa_cons (pv 2) pa_nil))) (pa_cons (pe_use u_spanned (by decide) hr (by rfl) (pa_cons (pv 4) (pa_cons (pv 5) (pa_cons (pv 2) pa_nil)))) pa_nil))))) (pss_one (ps_ret pe_bl)) pss_nil)
      (pss_cons (ps_set (i := 9) sc__law_right_pair.nd rfl (Or.inl rfl) (pe_lst (pa_cons (pe_use u_met (by decide) hr (by rfl) (pa_cons (pv 7) (pa_cons (pv 4) (pa_cons (pv 2) pa_nil)))) (pa_cons (pe_use u_spanned (by decide) hr (by rfl) (pa_cons (pv 7) (pa_cons (pv 4) (pa_cons (pv 2) pa_nil)))) pa_nil))))
      (pss_one (ps_ret (pe_or (pe_cmpR op_eq (pv 2) pe_int (nomark _)) (pe_one (pe_useG u__law_like gd (by decide) hr (by rfl) (pa_cons (pv 9) (pa_cons (pe_lst (pa_cons (pe_tup pa_nil) (pa_cons (pe_callTy (k_tupOf (K := K) rfl) (by rfl) T.tuple (by decide +kernel) (pa_cons (pe_use u__law_partings (by decide) hr (by rfl) (pa_cons (pv 2) pa_nil)) pa_nil)) pa_nil))) pa_nil))))))))))))))), ?_⟩
    have n6 : n < 6 := by omega
    have n60 : n < 60 := by omega
    have fL := lotL.few n6
    have fM := lotM.few n6
    obtain ⟨ts, el, its⟩ := hl
    obtain ⟨us, ek, itk⟩ := hk
    have hl : TL H l L := ⟨ts, el, its⟩
    have hk : TL H k M := ⟨us, ek, itk⟩
    -- both
    refine ⟨_, rfl, l, _, rfl, .inr (rdT el), fun G1 nG1 => ?_⟩
    have s1 := same_new (o := .lst (ts.map V.ref)) nG1
    refine ⟨_, rfl, k, _, rfl, .inr (rdT (ek.mono s1)), fun G2 nG2 => ?_⟩
    have s2 := same_new (o := .lst (us.map V.ref)) nG2
    have ltl := its.1
    have ltk := itk.1
    refine ⟨G1, G2, _, _, rfl, rfl, s2 _ _ upd_same, upd_same, by rw [List.length_map, List.length_map]; exact Nat.le_of_lt (small_of (by omega)), fun G3 nG3 => ?_⟩
    have s3 := same_new (o := .lst (ts.map V.ref ++ us.map V.ref)) nG3
    have s13 := (s1.trans s2).trans s3
    have itb := (its.mono s13).app (itk.mono s13)
    refine ⟨G3, ts ++ us, L ++ M, rfl, by rw [upd_same, List.map_append], itb, fun r hr => ?_, by rw [List.length_append]; omega, fun H4 b B s4 tB bB oB => ?_⟩
    · rcases List.mem_append.mp hr with h | h
      · exact (lotL.1 r h).1.ne
      · exact (lotM.1 r h).1.ne
    have memB : ∀ x, x ∈ B ↔ x ∈ L ++ M := fun x => (oB.1.mem_iff).trans (mem_firsts _)
    have lotB : LotP n B := fun x hx => by
      rcases List.mem_append.mp ((memB x).mp hx) with h | h
      · exact lotL.1 x h
      · exact lotM.1 x h
    have s04 := s13.trans s4
    clear itb s1 s2 s3 s13 nG1 nG2 nG3 s4 bB oB
    have hl := hl.mono s04
    have hk := hk.mono s04
    clear its itk el ek ltl ltk
    -- near, far
    refine ⟨_, rfl, _, rfl, l, L, n, rfl, hl, lotL.1, by omega, fun H5 na s5 tn => ?_⟩
    refine ⟨_, rfl, _, rfl, k, M, n, rfl, hk.mono s5, lotM.1, by omega, fun H6 fa s6 tf => ⟨_, _, rfl, ?_⟩⟩
    have lotN := turn_lotT n6 L
    have lotF := turn_lotT n6 M
    have s46 := s5.trans s6
    -- span
    refine ⟨_, rfl, _, rfl, b, B, n, rfl, tB.mono s46, lotB, by omega, fun H7 x7 s7 t7 => ?_⟩
    refine ⟨_, rfl, x7, _, n, rfl, t7.tl, turn_lot n60 B, by omega, fun H8 sp s8 tS => ?_⟩
    have s48 := (s46.trans s7).trans s8
    have s68 := s7.trans s8
    have eS : turnB n (turnB n B) = spanB n L M := by unfold spanB; rw [turn_congr memB]
    have eS2 : spanB n M L = spanB n L M := by unfold spanB; rw [app_flip]
    rw [eS] at tS
    have lotS : LotT n (spanB n L M) := turn_lotT n6 _
    have hl := hl.mono s48
    have hk := hk.mono s48
    have tn := tn.mono (s6.trans s68)
    have tf := tf.mono s68
    have s08 := s04.trans s48
    clear s04 s5 s6 s7 s8 s46 s48 s68 t7 tB
    -- met and spanned
    refine ⟨_, rfl, _, rfl, _, rfl, l, k, L, M, n, rfl, hl, hk, lotL, lotM, n6, fun H9 a1 s9 t1 => ?_⟩
    refine ⟨_, rfl, _, rfl, _, rfl, l, k, L, M, n, rfl, hl.mono s9, hk.mono s9, lotL, lotM, n5, fun Ha a2 sa t2 => ?_⟩
    refine ⟨_, rfl, _, rfl, _, rfl, k, l, M, L, n, rfl, (hk.mono s9).mono sa, (hl.mono s9).mono sa, lotM, lotL, n5, fun Hb a3 sb t3 => ?_⟩
    rw [eS2] at t3
    refine ⟨by show 3 ≤ sizeLine; decide, fun N1 nN1 => ?_⟩
    have sN1 := same_new (H := Hb) (o := .lst [V.ref a1, .ref a2, .ref a3]) nN1
    have s8b := (s9.trans sa).trans sb
    have s8n := s8b.trans sN1
    refine ⟨_, rfl, _, rfl, l, k, L, M, rfl, hl.mono s8n, hk.mono s8n, lotL.2.2, fun Hc c1 sc tc => ?_⟩
    refine ⟨_, rfl, _, rfl, by show 3 ≤ sizeLine; decide, fun N2 nN2 => ?_⟩
    have sN2 := same_new (H := Hc) (o := .lst [V.ref c1, .ref sp, .ref sp]) nN2
    have scz := sN2
    have snz := sc.trans sN2
    have sbz := sN1.trans snz
    have saz := sb.trans sbz
    have s9z := sa.trans saz
    have s8z := s9.trans s9z
    have lotC : LotT n (inB L M) := inB_lot lotL
    refine ⟨.ref N1, .ref N2, .list [.tuple ((inB L M).map rowD), .tuple ((spanB n L M).map rowD), .tuple ((spanB n L M).map rowD)], rfl, .lst (sqL (snz _ _ upd_same)) (.cons (dp_tt (t1.mono s9z)) (.cons (dp_tt (t2.mono saz)) (.cons (dp_tt (t3.mono sbz)) .nil))),
      .lst (sqL upd_same) (.cons (dp_tt (tc.mono scz)) (.cons (dp_tt (tS.mono s8z)) (.cons (dp_tt (tS.mono s8z)) .nil))), rfl,
      (nc_lst (nc_cons (nc_lot n6 lotC) (nc_cons (nc_lot n6 lotS) (nc_cons (nc_lot n6 lotS) (nc_nil 2))))).le (by decide) (by decide), true, rfl, ?_⟩
    have s0z := s08.trans s8z
    have tn := tn.mono s8z
    have tf := tf.mono s8z
    have tS := tS.mono s8z
    clear s8z s9z saz sbz snz scz sN2 nN2 tc sc s8n s8b sN1 nN1 t1 t2 t3 sb sa s9 hl hk s08
    generalize upd Hc N2 (.lst [V.ref c1, .ref sp, .ref sp]) = H8 at s0z tn tf tS
    -- turned
    have eT : turnB n (spanB n L M) = inB (turnB n L) (turnB n M) := by
      have := turn_thrice n60 (L := L ++ M) fun x hx => by
        rcases List.mem_append.mp hx with h | h
        · exact lotL.1 x h
        · exact lotM.1 x h
      unfold spanB
      rw [this, turn_app]
      rfl
    refine ⟨_, rfl, _, rfl, sp, _, n, rfl, tS.tl, lotS, n6, fun H9 a1 s9 t1 => ?_⟩
    rw [eT] at t1
    refine ⟨_, rfl, _, rfl, _, rfl, na, fa, _, _, n, rfl, (tn.mono s9).tl, (tf.mono s9).tl, lotN, lotF, n6, fun Ha a2 sa t2 => ?_⟩
    refine ⟨by show 2 ≤ sizeLine; decide, fun N1 nN1 => ?_⟩
    have sN1 := same_new (H := Ha) (o := .lst [V.ref a1, .ref a2]) nN1
    have s8n := (s9.trans sa).trans sN1
    refine ⟨_, rfl, _, rfl, na, fa, _, _, rfl, (tn.mono s8n).tl, (tf.mono s8n).tl, lotN.2.2, fun Hb b1 sb tb1 => ?_⟩
    refine ⟨_, rfl, _, rfl, na, fa, _, _, rfl, (tn.mono (s8n.trans sb)).tl, (tf.mono (s8n.trans sb)).tl, lotN.2.2, fun Hc b2 sc tb2 => ?_⟩
    refine ⟨by show 2 ≤ sizeLine; decide, fun N2 nN2 => ?_⟩
    have sN2 := same_new (H := Hc) (o := .lst [V.ref b1, .ref b2]) nN2
    have sbz := sc.trans sN2
    have snz := sb.trans sbz
    have saz := sN1.trans snz
    have s9z := sa.trans saz
    have s8z := s9.trans s9z
    have lotI : LotT n (inB (turnB n L) (turnB n M)) := inB_lot lotN
    refine ⟨.ref N1, .ref N2, .list [.tuple ((inB (turnB n L) (turnB n M)).map rowD), .tuple ((inB (turnB n L) (turnB n M)).map rowD)], rfl, .lst (sqL (snz _ _ upd_same)) (.cons (dp_tt (t1.mono s9z)) (.cons (dp_tt (t2.mono saz)) .nil)),
      .lst (sqL upd_same) (.cons (dp_tt (tb1.mono sbz)) (.cons (dp_tt (tb2.mono sN2)) .nil)), rfl, (nc_lst (nc_cons (nc_lot n6 lotI) (nc_cons (nc_lot n6 lotI) (nc_nil 2)))).le (by decide) (by decide), true, rfl, ?_⟩
    have s0z := s0z.trans s8z
    have tn := tn.mono s8z
    have tf := tf.mono s8z
    clear s8z s9z saz snz sbz sN2 nN2 tb1 tb2 sb sc s8n sN1 nN1 t1 t2 sa s9 tS
    generalize upd Hc N2 (.lst [V.ref b1, .ref b2]) = H8 at s0z tn tf
    -- shut, other
    refine ⟨_, rfl, _, rfl, na, _, n, rfl, tn.tl, lotN.1, by omega, fun H5 sa5 s5 tsh => ?_⟩
    refine ⟨_, rfl, _, rfl, fa, _, n, rfl, (tf.mono s5).tl, lotF.1, by omega, fun H6 ot s6 tot => ⟨_, _, rfl, ?_⟩⟩
    have s86 := s5.trans s6
    have tsh := tsh.mono s6
    have lotSh := turn_lotT n6 (turnB n L)
    have lotOt := turn_lotT n6 (turnB n M)
    refine ⟨_, rfl, _, rfl, _, rfl, sa5, ot, _, _, n, rfl, tsh.tl, tot.tl, lotSh, lotOt, n6, fun H7 m7 s7 tm7 => ?_⟩
    refine ⟨_, rfl, m7, _, n, rfl, tm7.tl, inB_lot lotSh, n6, fun H9 a9 s9 t9 => ?_⟩
    have s89 := (s86.trans s7).trans s9
    refine ⟨_, rfl, _, rfl, _, rfl, na, fa, _, _, n, rfl, (tn.mono s89).tl, (tf.mono s89).tl, lotN, lotF, n5, fun Ha aa sa ta => ?_⟩
    have e9 : turnB n (inB (turnB n (turnB n L)) (turnB n (turnB n M))) = spanB n (turnB n L) (turnB n M) := by
      unfold spanB
      rw [turn_app]
      rfl
    rw [e9] at t9
    refine ⟨.ref a9, .ref aa, .tuple ((spanB n (turnB n L) (turnB n M)).map rowD), rfl, dp_tt (t9.mono sa), dp_tt ta, rfl, (nc_lot n6 (turn_lotT n6 _)).le (by decide) (by decide), true, rfl, ?_⟩
    have s8a := s89.trans sa
    have s0a := s0z.trans s8a
    have tn := tn.mono s8a
    have tsh := tsh.mono ((s7.trans s9).trans sa)
    clear s89 sa ta t9 s9 tm7 s7 tot s86 s5 s6 s8a
    -- shut beside near
    refine ⟨_, rfl, _, rfl, _, rfl, sa5, na, _, _, n, rfl, tsh.tl, tn.tl, lotSh, lotN, n6, fun Hb b1 sb tb1 => ?_⟩
    refine ⟨_, rfl, _, rfl, _, rfl, sa5, na, _, _, n, rfl, (tsh.mono sb).tl, (tn.mono sb).tl, lotSh, lotN, n5, fun Hc b2 sc tb2 => ?_⟩
    refine ⟨by show 2 ≤ sizeLine; decide, fun N1 nN1 => ?_⟩
    have sN1 := same_new (H := Hc) (o := .lst [V.ref b1, .ref b2]) nN1
    have s0n := ((s0a.trans sb).trans sc).trans sN1
    refine ⟨_, rfl, rfl, _, rfl, ?_⟩
    by_cases n0 : n = 0
    · rw [decide_eq_true (show V.int ((n + 1 : Nat) : Int) = V.int 1 by rw [n0]; rfl)]
      exact iteT (q _ s0n)
    rw [decide_eq_false (show ¬ V.int ((n + 1 : Nat) : Int) = V.int 1 from fun z => n0 (by have := V.int.inj z; omega))]
    refine iteF ⟨_, rfl, Nat.zero_le _, fun Z nZ => ?_⟩
    have sZ := same_new (o := .tup []) nZ
    refine ⟨_, rfl, n, rfl, by omega, fun Hd l7 sd ⟨ts7, el7, it7⟩ => ?_⟩
    have it7 : Its Hd ts7 (allP n) := it7
    refine ⟨l7, _, rfl, .inl ⟨sqL el7, fun t7 nt7 => ?_⟩⟩
    have st7 := same_new (o := .tup (ts7.map V.ref)) nt7
    refine ⟨by show 2 ≤ sizeLine; decide, fun N2 nN2 => ?_⟩
    have sN2 := same_new (H := upd Hd t7 (.tup (ts7.map V.ref))) (o := .lst [V.ref Z, .ref t7]) nN2
    have e1 : inB (turnB n (turnB n L)) (turnB n L) = [] := by
      refine List.filter_eq_nil_iff.mpr fun x hx c => ?_
      have h1 := (mem_turn.mp hx).2 x (of_decide_eq_true c)
      rw [no_self n5 n0 (mem_turn.mp hx).1] at h1
      cases h1
    have e2 : spanB n (turnB n (turnB n L)) (turnB n L) = allP n := by
      unfold spanB
      have : turnB n (turnB n (turnB n L) ++ turnB n L) = [] := by
        rw [turn_app]
        refine List.filter_eq_nil_iff.mpr fun x hx c => ?_
        have h1 := (mem_turn.mp hx).2 x (of_decide_eq_true c)
        rw [no_self n5 n0 (mem_turn.mp hx).1] at h1
        cases h1
      rw [this, turn_nil]
    rw [e1] at tb1
    rw [e2] at tb2
    have sdz := st7.trans sN2
    have sZz := sd.trans sdz
    have snz := sZ.trans sZz
    have scz := sN1.trans snz
    have lotA : LotT n (allP n) := by
      have := turn_lotT n6 []
      rwa [turn_nil] at this
    refine ⟨.ref N1, .ref N2, .list [.tuple (([] : List (List Int)).map rowD), .tuple ((allP n).map rowD)], rfl, .lst (sqL (snz _ _ upd_same)) (.cons (dp_tt (tb1.mono (sc.trans scz))) (.cons (dp_tt (tb2.mono scz)) .nil)),
      .lst (sqL upd_same) (.cons (.tup (sqT (sZz _ _ upd_same)) .nil) (.cons (.tup (sqT (sN2 _ _ upd_same)) (dp_its (it7.mono sdz))) .nil)), rfl, (nc_lst (nc_cons ((nc_tup (nc_nil 1)).le (Nat.le_refl 2) (Nat.zero_le 2)) (nc_cons (nc_lot n6 lotA) (nc_nil 2)))).le (by decide) (by decide), q _ (s0n.trans snz)⟩
end
end KQ
/-! a def of the text called in a try's body -/
namespace KR
open PySem PySem.Spec PyProof.Rows L2
def tCallW (sp : Sp) (W : WX) (t : TA) : TE := fun σ H Q => t σ H fun vs H1 => sp vs H1 Q (fun cls d H' => W cls d σ H')
section
variable {X : Cx} {k j : Nat} {ps : List Str} {sp : Sp} {W : WX} {x : Str} {p pos : Pos} {e : Expr} {es : List Expr} {t : TA}
theorem pe_usexW (u : UseX X.prog X.w X.K X.mg X.base x j ps sp) (tk : Takes X W) (le : j ≤ k) (hr : Room k X.A) (hg : Gl X x) (ha : PA X (e :: es) t)
    (hdb : (x == ("__debug__" : Str)) = false := by decide) (he : starEach (e :: es) X.env = (false, eval e X.env) :: starEach es X.env := by rfl)
    (hpl : (backTo pos (starEach es X.env)).any (·.1) = false := by rfl) : PE X (.Call (.Name x p) (e :: es) [] pos) (tCallW sp W t) := by
  obtain ⟨f, fd, F, hm, kp, b⟩ := u
  refine ⟨fun pins s σ H Q I h => ?_⟩
  refine wpAny_Call_Name_kw (ld_glob I hg hm ?_ hdb)
  refine PySem.W.callWith_K (h₀ := X.base) I.ok.mod.kin kp (thn (ha.run pos pins s σ _ _ I h) fun us s2 ⟨vs, H2, I2, r, q⟩ => ⟨I2.kIn, ?_⟩) he hpl
  have q' : sp (vs ++ []) H2 Q (fun cls d H' => W cls d σ H') := by rw [List.append_nil]; exact q
  refine run_fnSD (E := fun σ cls d H' => W cls d σ H') (dvs := []) (ds := []) F (hr.mono le) b .nil (fun pins H s e s' I c => ?_) I2 r q'
  exact tk e s' (XE.of_call I (fun _ _ _ h => h) c)
end
end KR
namespace KQ
open PySem PySem.Spec PyProof.Rows L2 KR KM StX
section
variable {P : Program} {w : World} {K : PySem.W.Frag} {mg : Str → Option Value} {base : Heap}
/-- a lot let or refused -/
def spNLX (CL CN : Addr) : Sp := fun vs H Q E => spBad CL CN vs H Q E ∨ ∃ (l : Addr) (L : List (List Int)) (n : Nat), vs = [.ref l, .int ((n + 1 : Nat) : Int)] ∧ TL H l L ∧ LotT n L ∧ n < 6 ∧ ∀ H', Same H H' → Q (.ref l) H'
theorem ok_need_lotM {CL CN : Addr} (D : DefAt K mg "need_lot" s_need_lot) (T : Bt mg) (ux_d : UseX P w K mg base "need_lot_doors" 4 ["number"] (spDoorsX CN)) (u_need_lot_doors : Use P w K mg base "need_lot_doors" 3 ["number"] spLotDoors)
    (u_look_at_lot : Use P w K mg base "look_at_lot" 6 ["lot", "number"] spFault)
    (ux_l : UseX P w K mg base "look_at_lot" 6 ["lot", "number"] (fun vs H _ E => ∃ (v : V) (n : Nat) (word : Str), vs = [v, .int ((n + 1 : Nat) : Int)] ∧ n < 6 ∧ LV H n v word ∧ ∀ H' d, Same H H' → H' d = some (.xd [("word", .str word)]) → E (.ref CL) (some d) H')) :
    UseX P w K mg base "need_lot" 7 ["lot", "number"] (spNLX CL CN) := by
  refine usex_of D (fun f fd F => okX F sc_need_lot (fun vs H Q E h => ?_) (fun cdv A outer s H vs Q E tk po hr h => ?_)) (fun _ _ _ _ _ _ us hl => match us, hl with | [_, _], _ => rfl)
  · rcases h with ⟨v, u, rfl, _⟩ | ⟨l, L, n, rfl, _⟩ <;> rfl
  · rcases h with ⟨v, u, rfl, ⟨o, bad, q⟩ | ⟨n, word, rfl, n6, lv, q⟩⟩ | ⟨l, L, n, rfl, hl, hL, n6, q⟩
    · have ux_need_lot_doors := ux_d
      have ux_look_at_lot := ux_l
      refine ⟨_, (pss_cons (ps_expr (pe_usex ux_need_lot_doors tk (by decide) hr (by rfl) (pa_cons (pv 1) pa_nil)))
      (pss_cons (ps_expr (pe_usex ux_look_at_lot tk (by decide) hr (by rfl) (pa_cons (pv 0) (pa_cons (pv 1) pa_nil))))
      (pss_one (ps_ret (pe_callTy (k_tupOf (K := K) rfl) (by rfl) T.tuple (by decide +kernel) (pa_cons (pv 0) pa_nil)))))), ?_⟩
      exact ⟨_, rfl, u, rfl, o, bad, q⟩
    · have ux_need_lot_doors := u_need_lot_doors.up
      have ux_look_at_lot := ux_l
      refine ⟨_, (pss_cons (ps_expr (pe_usex ux_need_lot_doors tk (by decide) hr (by rfl) (pa_cons (pv 1) pa_nil)))
      (pss_cons (ps_expr (pe_usex ux_look_at_lot tk (by decide) hr (by rfl) (pa_cons (pv 0) (pa_cons (pv 1) pa_nil))))
      (pss_one (ps_ret (pe_callTy (k_tupOf (K := K) rfl) (by rfl) T.tuple (by decide +kernel) (pa_cons (pv 0) pa_nil)))))), ?_⟩
      refine ⟨_, rfl, n, rfl, n6, fun H1 s1 => ?_⟩
      exact ⟨_, rfl, _, rfl, v, n, word, rfl, n6, lv.mono s1, fun H' d s' e => q H' d (s1.trans s') e⟩
    · have ux_need_lot_doors := u_need_lot_doors.up
      have ux_look_at_lot := u_look_at_lot.up
      refine ⟨_, (pss_cons (ps_expr (pe_usex ux_need_lot_doors tk (by decide) hr (by rfl) (pa_cons (pv 1) pa_nil)))
      (pss_cons (ps_expr (pe_usex ux_look_at_lot tk (by decide) hr (by rfl) (pa_cons (pv 0) (pa_cons (pv 1) pa_nil))))
      (pss_one (ps_ret (pe_callTy (k_tupOf (K := K) rfl) (by rfl) T.tuple (by decide +kernel) (pa_cons (pv 0) pa_nil)))))), ?_⟩
      refine ⟨_, rfl, n, rfl, n6, fun H1 s1 => ?_⟩
      refine ⟨_, rfl, _, rfl, l, L, n, rfl, hl.mono s1, hL, n6, fun H2 s2 => ?_⟩
      obtain ⟨ts, el, its⟩ := hl
      have s02 := s1.trans s2
      exact ⟨_, rfl, l, _, rfl, .inr ⟨rdT (el.mono s02), q _ s02⟩⟩
/-- two lots and a number that are refused -/
def BadTwo (H : Hp) (v v2 u : V) (r : Sum V Str) : Prop := (OddV H u ∧ inV u 1 6 = false ∧ r = .inl u) ∨ (∃ (n : Nat) (word : Str), u = .int ((n + 1 : Nat) : Int) ∧ n < 6 ∧ LV H n v word ∧ r = .inr word) ∨
  ∃ (l : Addr) (L : List (List Int)) (n : Nat) (word : Str), u = .int ((n + 1 : Nat) : Int) ∧ v = .ref l ∧ TL H l L ∧ LotT n L ∧ n < 6 ∧ LV H n v2 word ∧ r = .inr word
theorem BadTwo.mono {H H' : Hp} {v v2 u : V} {r : Sum V Str} (h : BadTwo H v v2 u r) (s : Same H H') : BadTwo H' v v2 u r := by
  rcases h with ⟨o, b, e⟩ | ⟨n, word, a, b, c, e⟩ | ⟨l, L, n, word, a, b, c, d, e, f, g⟩
  · exact .inl ⟨o.mono s, b, e⟩
  · exact .inr (.inl ⟨n, word, a, b, c.mono s, e⟩)
  · exact .inr (.inr ⟨l, L, n, word, a, b, c.mono s, d, e, f.mono s, g⟩)
/-- what such a call raises -/
def Raised (CL CN : Addr) (r : Sum V Str) (H : Hp) (E : Value → Option Addr → Hp → Prop) : Prop := match r with
  | .inl u => ∀ H' d, Same H H' → H' d = some (.xd [("value", u)]) → E (.ref CN) (some d) H'
  | .inr word => ∀ H' d, Same H H' → H' d = some (.xd [("word", .str word)]) → E (.ref CL) (some d) H'
def spTwoX (CL CN : Addr) : Sp := fun vs H _ E => ∃ v v2 u r, vs = [v, v2, u] ∧ BadTwo H v v2 u r ∧ Raised CL CN r H E
theorem ok_metX {CL CN : Addr} (D : DefAt K mg "met" s_met) (T : Bt mg) (ux_need_lot : UseX P w K mg base "need_lot" 7 ["lot", "number"] (spNLX CL CN)) : UseX P w K mg base "met" 8 ["lot", "other", "number"] (spTwoX CL CN) := by
  refine usex_of D (fun f fd F => okX F sc_met (fun vs H Q E h => ?_) (fun cdv A outer s H vs Q E tk po hr h => ?_)) (fun _ _ _ _ _ _ us hl => match us, hl with | [_, _, _], _ => rfl)
  · obtain ⟨v, v2, u, r, rfl, _⟩ := h
    rfl
  · obtain ⟨v, v2, u, r, rfl, h, ra⟩ := h
    refine ⟨_, (pss_cons (ps_expr (pe_usex ux_need_lot tk (by decide) hr (by rfl) (pa_cons (pv 0) (pa_cons (pv 2) pa_nil))))
      (pss_cons (ps_expr (pe_usex ux_need_lot tk (by decide) hr (by rfl) (pa_cons (pv 1) (pa_cons (pv 2) pa_nil))))
      (pss_one (ps_ret (pe_callTy (k_tupOf (K := K) rfl) (by rfl) T.tuple (by decide +kernel) (pa_cons (pe_lc (own := [("parting", 3)]) rfl sc_met.nd (k_tup (K := K) rfl (pv 0)) (blkOk_by (N := ["lot", "other", "number", "parting"]) (sc := defScope s_met) (by decide +kernel)) (fun _ _ _ _ _ => (pg_name (i := 3) sc_met.nd rfl (Or.inl rfl))) (fun _ _ _ _ _ => (pts_one (pt_cmpR (op_inT (room66 hr)) (pv 3) (pv 1) (by rfl)))) (fun _ _ _ _ _ => (pv 3))) pa_nil)))))), ?_⟩
    rcases h with ⟨o, b, rfl⟩ | ⟨n, word, rfl, n6, lv, rfl⟩ | ⟨l, L, n, word, rfl, rfl, hl, lot, n6, lv, rfl⟩
    · exact ⟨_, rfl, _, rfl, .inl ⟨v, u, rfl, .inl ⟨o, b, ra⟩⟩⟩
    · exact ⟨_, rfl, _, rfl, .inl ⟨v, _, rfl, .inr ⟨n, word, rfl, n6, lv, ra⟩⟩⟩
    · refine ⟨_, rfl, _, rfl, .inr ⟨l, L, n, rfl, hl, lot, n6, fun H1 s1 => ?_⟩⟩
      exact ⟨_, rfl, _, rfl, .inl ⟨v2, _, rfl, .inr ⟨n, word, rfl, n6, lv.mono s1, fun H' d s' e => ra H' d (s1.trans s') e⟩⟩⟩
theorem ok_spannedX {CL CN : Addr} (D : DefAt K mg "spanned" s_spanned) (T : Bt mg) (ux_need_lot : UseX P w K mg base "need_lot" 7 ["lot", "number"] (spNLX CL CN)) (u_closed_lot : Use P w K mg base "closed_lot" 7 ["lot", "number"] spCloseLot) : UseX P w K mg base "spanned" 8 ["lot", "other", "number"] (spTwoX CL CN) := by
  refine usex_of D (fun f fd F => okX F sc_spanned (fun vs H Q E h => ?_) (fun cdv A outer s H vs Q E tk po hr h => ?_)) (fun _ _ _ _ _ _ us hl => match us, hl with | [_, _, _], _ => rfl)
  · obtain ⟨v, v2, u, r, rfl, _⟩ := h
    rfl
  · obtain ⟨v, v2, u, r, rfl, h, ra⟩ := h
    refine ⟨_, (pss_cons (ps_expr (pe_usex ux_need_lot tk (by decide) hr (by rfl) (pa_cons (pv 0) (pa_cons (pv 2) pa_nil))))
      (pss_cons (ps_expr (pe_usex ux_need_lot tk (by decide) hr (by rfl) (pa_cons (pv 1) (pa_cons (pv 2) pa_nil))))
      (pss_one (ps_ret (pe_use u_closed_lot (by decide) hr (by rfl) (pa_cons (pe_callTy (k_tupOf (K := K) rfl) (by rfl) T.tuple (by decide +kernel) (pa_cons (pe_srtSetT rfl hr.units (by rfl) T.sorted (by rfl) T.set (pe_lst (k_star (K := K) rfl (pv 0) (k_star (K := K) rfl (pv 1) pa_nil)))) pa_nil)) (pa_cons (pv 2) pa_nil))))))), ?_⟩
    rcases h with ⟨o, b, rfl⟩ | ⟨n, word, rfl, n6, lv, rfl⟩ | ⟨l, L, n, word, rfl, rfl, hl, lot, n6, lv, rfl⟩
    · exact ⟨_, rfl, _, rfl, .inl ⟨v, u, rfl, .inl ⟨o, b, ra⟩⟩⟩
    · exact ⟨_, rfl, _, rfl, .inl ⟨v, _, rfl, .inr ⟨n, word, rfl, n6, lv, ra⟩⟩⟩
    · refine ⟨_, rfl, _, rfl, .inr ⟨l, L, n, rfl, hl, lot, n6, fun H1 s1 => ?_⟩⟩
      exact ⟨_, rfl, _, rfl, .inl ⟨v2, _, rfl, .inr ⟨n, word, rfl, n6, lv.mono s1, fun H' d s' e => ra H' d (s1.trans s') e⟩⟩⟩
def spClosedX (CN : Addr) : Sp := fun vs H _ E => ∃ u, vs = [u] ∧ OddV H u ∧ inV u 1 4 = false ∧ ∀ H' d, Same H H' → H' d = some (.xd [("value", u)]) → E (.ref CN) (some d) H'
theorem ok_closed_lotsX {CN : Addr} (D : DefAt K mg "closed_lots" s_closed_lots) (T : Bt mg) (e_BadNumber : ErrC P w K mg base "BadNumber" CN "value") (c_MOST_CLOSED_DOORS : Cst mg "MOST_CLOSED_DOORS" 4) (u_is_integer_within : Use P w K mg base "is_integer_within" 2 ["value", "least", "most"] spIntWA)
    (u_turned_lot : Use P w K mg base "turned_lot" 6 ["lot", "number"] spTurnLot) (u_partings_of_doors : Use P w K mg base "partings_of_doors" 1 ["doors"] spPofD) : UseX P w K mg base "closed_lots" 7 ["number"] (spClosedX CN) := by
  refine usex_of D (fun f fd F => okX F sc_closed_lots (fun vs H Q E h => ?_) (fun cdv A outer s H vs Q E tk po hr h => ?_)) (fun _ _ _ _ _ _ us hl => match us, hl with | [_], _ => rfl)
  · obtain ⟨u, rfl, _⟩ := h
    rfl
  · obtain ⟨u, rfl, o, bad, q⟩ := h
    refine ⟨_, (pss_cons (ps_if (pt_not (pt_val (pe_use u_is_integer_within (by decide) hr (by rfl) (pa_cons (pv 0) (pa_cons pe_int (pa_cons (pe_cst (by rfl) c_MOST_CLOSED_DOORS) pa_nil)))))) (pss_one (ps_raise rfl tk (pmk_err e_BadNumber (hr.mono (by decide)) (by rfl) (pa_cons (pv 0) pa_nil)))) pss_nil)
      (pss_cons (ps_set (i := 1) sc_closed_lots.nd rfl (Or.inl rfl) (pe_dispN hr.units (pe_use u_turned_lot (by decide) hr (by rfl) (pa_cons (pe_tup pa_nil) (pa_cons (pv 0) pa_nil))) pe_bl))
      (pss_cons (ps_for po rfl (k_tup (K := K) rfl (pe_use u_partings_of_doors (by decide) hr (by rfl) (pa_cons (pv 0) pa_nil))) (pg_name (i := 2) sc_closed_lots.nd rfl (Or.inl rfl))
      (pss_cons (ps_set (i := 3) sc_closed_lots.nd rfl (Or.inr rfl) (pe_use u_turned_lot (by decide) hr (by rfl) (pa_cons (pe_tup (pa_cons (pv 2) pa_nil)) (pa_cons (pv 0) pa_nil))))
      (pss_one (ps_for po rfl (k_list (K := K) rfl (pe_callTy (cr_listN rfl) (by rfl) T.list (by decide +kernel) (pa_cons (pv 1) pa_nil))) (pg_name (i := 4) sc_closed_lots.nd rfl (Or.inl rfl))
      (pss_one (ps_putN hr.units (pv 1) (pe_callTy (k_tupOf (K := K) rfl) (by rfl) T.tuple (by decide +kernel) (pa_cons (pe_lc (own := [("member", 5)]) rfl sc_closed_lots.nd (k_tup (K := K) rfl (pv 4)) (blkOk_by (N := ["number", "rows", "parting", "one", "lot", "member"]) (sc := defScope s_closed_lots) (by decide +kernel)) (fun _ _ _ _ _ => (pg_name (i := 5) sc_closed_lots.nd rfl (Or.inl rfl))) (fun _ _ _ _ _ => (pts_one (pt_cmpR (op_inT (room66 hr)) (pv 5) (pv 3) (by rfl)))) (fun _ _ _ _ _ => (pv 5))) pa_nil)) pe_bl rfl))))))
      (pss_one (ps_ret (pe_callTy (k_tupOf (K := K) rfl) (by rfl) T.tuple (by decide +kernel) (pa_cons (pe_callB (cr_sortedDN rfl hr.units) (by rfl) T.sorted (by decide +kernel) (pa_cons (pv 1) pa_nil)) pa_nil))))))), ?_⟩
    refine ⟨_, rfl, u, 1, 4, rfl, o, _, rfl, ?_⟩
    rw [bad]
    exact ⟨_, rfl, u, rfl, q⟩
abbrev s__law_asked : Stmt := topS 50
theorem sc__law_asked : FnScope ["which", "lot", "other", "many", "told", "e"] ["which", "lot", "other", "many"] (defScope s__law_asked) := ⟨rfl, rfl, rfl, by decide +kernel, rfl, by decide +kernel, by decide +kernel⟩
def askedV : Sum V Str → List V
  | .inl u => [.str "number", u]
  | .inr word => [.str "lot", .str word]
def spAsk2 : Sp := fun vs H Q _ => ∃ (v v2 u : V) (r : Sum V Str), (vs = [.str "met", v, v2, u] ∧ BadTwo H v v2 u r ∨ vs = [.str "spanned", v, v2, u] ∧ BadTwo H v v2 u r ∨ vs = [.str "list", v, v2, u] ∧ OddV H u ∧ inV u 1 4 = false ∧ r = .inl u) ∧ ∀ H' t, Same H H' → H' t = some (.tup (askedV r)) → Q (.ref t) H'
theorem ok_asked2 {CL CN : Addr} (D : DefAt K mg "_law_asked" s__law_asked) (T : Bt mg) (ex : ExM K CL CN) (e_BadLot : ErrC P w K mg base "BadLot" CL "word") (e_BadNumber : ErrC P w K mg base "BadNumber" CN "value")
    (ux_met : UseX P w K mg base "met" 8 ["lot", "other", "number"] (spTwoX CL CN)) (ux_spanned : UseX P w K mg base "spanned" 8 ["lot", "other", "number"] (spTwoX CL CN)) (ux_closed_lots : UseX P w K mg base "closed_lots" 7 ["number"] (spClosedX CN)) :
    Use P w K mg base "_law_asked" 9 ["which", "lot", "other", "many"] spAsk2 := by
  refine use_of D (fun f fd F => F.ok sc__law_asked (fun vs H Q E h => ?_) (fun cdv A outer s H vs Q E hr h => ?_)) (fun _ _ _ _ _ _ us hl => match us, hl with | [_, _, _, _], _ => rfl)
  · obtain ⟨v, v2, u, r, ⟨rfl, _⟩ | ⟨rfl, _⟩ | ⟨rfl, _⟩, _⟩ := h <;> rfl
  · obtain ⟨v, v2, u, r, h, q⟩ := h
    rcases h with ⟨rfl, bt⟩ | ⟨rfl, bt⟩ | ⟨rfl, o, bad, rfl⟩
    · refine ⟨_, (pss_cons (ps_set (i := 4) sc__law_asked.nd rfl (Or.inl rfl) (pe_tup pa_nil))
      (pss_cons (ps_try_manyA rfl rfl sc__law_asked.nd takes_none5 (fun W pn xe tk po => (pss_one (ps_if (pt_cmpR op_eq (pv 0) pe_str (nomark _)) (pss_one (ps_set (i := 4) sc__law_asked.nd rfl (Or.inl rfl) (pe_tup (pa_cons pe_str (pa_cons (pe_usexW ux_closed_lots tk (by decide) hr (by rfl) (pa_cons (pv 3) pa_nil)) pa_nil))))) (pss_one (ps_set (i := 4) sc__law_asked.nd rfl (Or.inl rfl) (pe_tup (pa_cons pe_str (pa_cons (pe_ifExp (pt_cmpR op_eq (pv 0) pe_str (nomark _)) (pe_usexW ux_met tk (by decide) hr (by rfl) (pa_cons (pv 1) (pa_cons (pv 2) (pa_cons (pv 3) pa_nil)))) (pe_usexW ux_spanned tk (by decide) hr (by rfl) (pa_cons (pv 1) (pa_cons (pv 2) (pa_cons (pv 3) pa_nil))))) pa_nil)))))))) (HdsA.cons (i := 5) ⟨by rfl, by decide, .inl e_BadLot.hm⟩ rfl rfl (fun a oe cls d pn hz hf => (pss_one (ps_set (i := 4) sc__law_asked.nd rfl (Or.inl rfl) (pe_tup (pa_cons pe_str (pa_cons (pe_xf e_BadLot.xf e_BadLot.nf hz hf (pv 5) rfl) pa_nil)))))) (HdsA.cons (i := 5) ⟨by rfl, by decide, .inl e_BadNumber.hm⟩ rfl rfl (fun a oe cls d pn hz hf => (pss_one (ps_set (i := 4) sc__law_asked.nd rfl (Or.inl rfl) (pe_tup (pa_cons pe_str (pa_cons (pe_xf e_BadNumber.xf e_BadNumber.nf hz hf (pv 5) rfl) pa_nil)))))) HdsA.nil)))
      (pss_one (ps_ret (pv 4))))), ?_⟩
      refine ⟨Nat.zero_le _, fun z nz => ?_⟩
      have s1 := same_new (o := .tup []) nz
      refine ⟨_, rfl, rfl, _, rfl, ?_⟩
      rw [decide_eq_false (show ¬ V.str "met" = V.str "list" by decide)]
      refine ⟨_, rfl, rfl, _, rfl, ?_⟩
      rw [decide_eq_true (show V.str "met" = V.str "met" from rfl)]
      refine ⟨_, rfl, _, rfl, _, rfl, v, v2, u, r, rfl, bt.mono s1, ?_⟩
      cases r with
      | inl u' =>
        refine fun H' d s' e => ?_
        refine ⟨false, ex.ba, (fun z => by cases z), fun _ => ⟨true, ex.bb, fun _ a na => ?_, (fun z => by cases z)⟩⟩
        refine ⟨_, rfl, rfl, rfl, d, _, u', rfl, e, rfl, by show 2 ≤ sizeLine; decide, fun t nt => ?_⟩
        exact ⟨_, rfl, q _ t ((s1.trans s').trans (same_new nt)) upd_same⟩
      | inr word =>
        refine fun H' d s' e => ?_
        refine ⟨true, ex.aa, fun _ a na => ?_, (fun z => by cases z)⟩
        refine ⟨_, rfl, rfl, rfl, d, _, .str word, rfl, e, rfl, by show 2 ≤ sizeLine; decide, fun t nt => ?_⟩
        exact ⟨_, rfl, q _ t ((s1.trans s').trans (same_new nt)) upd_same⟩
    · refine ⟨_, (pss_cons (ps_set (i := 4) sc__law_asked.nd rfl (Or.inl rfl) (pe_tup pa_nil))
      (pss_cons (ps_try_manyA rfl rfl sc__law_asked.nd takes_none5 (fun W pn xe tk po => (pss_one (ps_if (pt_cmpR op_eq (pv 0) pe_str (nomark _)) (pss_one (ps_set (i := 4) sc__law_asked.nd rfl (Or.inl rfl) (pe_tup (pa_cons pe_str (pa_cons (pe_usexW ux_closed_lots tk (by decide) hr (by rfl) (pa_cons (pv 3) pa_nil)) pa_nil))))) (pss_one (ps_set (i := 4) sc__law_asked.nd rfl (Or.inl rfl) (pe_tup (pa_cons pe_str (pa_cons (pe_ifExp (pt_cmpR op_eq (pv 0) pe_str (nomark _)) (pe_usexW ux_met tk (by decide) hr (by rfl) (pa_cons (pv 1) (pa_cons (pv 2) (pa_cons (pv 3) pa_nil)))) (pe_usexW ux_spanned tk (by decide) hr (by rfl) (pa_cons (pv 1) (pa_cons (pv 2) (pa_cons (pv 3) pa_nil))))) pa_nil)))))))) (HdsA.cons (i := 5) ⟨by rfl, by decide, .inl e_BadLot.hm⟩ rfl rfl (fun a oe cls d pn hz hf => (pss_one (ps_set (i := 4) sc__law_asked.nd rfl (Or.inl rfl) (pe_tup (pa_cons pe_str (pa_cons (pe_xf e_BadLot.xf e_BadLot.nf hz hf (pv 5) rfl) pa_nil)))))) (HdsA.cons (i := 5) ⟨by rfl, by decide, .inl e_BadNumber.hm⟩ rfl rfl (fun a oe cls d pn hz hf => (pss_one (ps_set (i := 4) sc__law_asked.nd rfl (Or.inl rfl) (pe_tup (pa_cons pe_str (pa_cons (pe_xf e_BadNumber.xf e_BadNumber.nf hz hf (pv 5) rfl) pa_nil)))))) HdsA.nil)))
      (pss_one (ps_ret (pv 4))))), ?_⟩
      refine ⟨Nat.zero_le _, fun z nz => ?_⟩
      have s1 := same_new (o := .tup []) nz
      refine ⟨_, rfl, rfl, _, rfl, ?_⟩
      rw [decide_eq_false (show ¬ V.str "spanned" = V.str "list" by decide)]
      refine ⟨_, rfl, rfl, _, rfl, ?_⟩
      rw [decide_eq_false (show ¬ V.str "spanned" = V.str "met" by decide)]
      refine ⟨_, rfl, _, rfl, _, rfl, v, v2, u, r, rfl, bt.mono s1, ?_⟩
      cases r with
      | inl u' =>
        refine fun H' d s' e => ?_
        refine ⟨false, ex.ba, (fun z => by cases z), fun _ => ⟨true, ex.bb, fun _ a na => ?_, (fun z => by cases z)⟩⟩
        refine ⟨_, rfl, rfl, rfl, d, _, u', rfl, e, rfl, by show 2 ≤ sizeLine; decide, fun t nt => ?_⟩
        exact ⟨_, rfl, q _ t ((s1.trans s').trans (same_new nt)) upd_same⟩
      | inr word =>
        refine fun H' d s' e => ?_
        refine ⟨true, ex.aa, fun _ a na => ?_, (fun z => by cases z)⟩
        refine ⟨_, rfl, rfl, rfl, d, _, .str word, rfl, e, rfl, by show 2 ≤ sizeLine; decide, fun t nt => ?_⟩
        exact ⟨_, rfl, q _ t ((s1.trans s').trans (same_new nt)) upd_same⟩
    · refine ⟨_, (pss_cons (ps_set (i := 4) sc__law_asked.nd rfl (Or.inl rfl) (pe_tup pa_nil))
      (pss_cons (ps_try_manyA rfl rfl sc__law_asked.nd takes_none5 (fun W pn xe tk po => (pss_one (ps_if (pt_cmpR op_eq (pv 0) pe_str (nomark _)) (pss_one (ps_set (i := 4) sc__law_asked.nd rfl (Or.inl rfl) (pe_tup (pa_cons pe_str (pa_cons (pe_usexW ux_closed_lots tk (by decide) hr (by rfl) (pa_cons (pv 3) pa_nil)) pa_nil))))) (pss_one (ps_set (i := 4) sc__law_asked.nd rfl (Or.inl rfl) (pe_tup (pa_cons pe_str (pa_cons (pe_ifExp (pt_cmpR op_eq (pv 0) pe_str (nomark _)) (pe_usexW ux_met tk (by decide) hr (by rfl) (pa_cons (pv 1) (pa_cons (pv 2) (pa_cons (pv 3) pa_nil)))) (pe_usexW ux_spanned tk (by decide) hr (by rfl) (pa_cons (pv 1) (pa_cons (pv 2) (pa_cons (pv 3) pa_nil))))) pa_nil)))))))) (HdsA.cons (i := 5) ⟨by rfl, by decide, .inl e_BadLot.hm⟩ rfl rfl (fun a oe cls d pn hz hf => (pss_one (ps_set (i := 4) sc__law_asked.nd rfl (Or.inl rfl) (pe_tup (pa_cons pe_str (pa_cons (pe_xf e_BadLot.xf e_BadLot.nf hz hf (pv 5) rfl) pa_nil)))))) (HdsA.cons (i := 5) ⟨by rfl, by decide, .inl e_BadNumber.hm⟩ rfl rfl (fun a oe cls d pn hz hf => (pss_one (ps_set (i := 4) sc__law_asked.nd rfl (Or.inl rfl) (pe_tup (pa_cons pe_str (pa_cons (pe_xf e_BadNumber.xf e_BadNumber.nf hz hf (pv 5) rfl) pa_nil)))))) HdsA.nil)))
      (pss_one (ps_ret (pv 4))))), ?_⟩
      refine ⟨Nat.zero_le _, fun z nz => ?_⟩
      have s1 := same_new (o := .tup []) nz
      refine ⟨_, rfl, rfl, _, rfl, ?_⟩
      rw [decide_eq_true (show V.str "list" = V.str "list" from rfl)]
      refine ⟨_, rfl, u, rfl, o.mono s1, bad, fun H' d s' e => ?_⟩
      refine ⟨false, ex.ba, (fun z => by cases z), fun _ => ⟨true, ex.bb, fun _ a na => ?_, (fun z => by cases z)⟩⟩
      refine ⟨_, rfl, rfl, rfl, d, _, u, rfl, e, rfl, by show 2 ≤ sizeLine; decide, fun t nt => ?_⟩
      exact ⟨_, rfl, q _ t ((s1.trans s').trans (same_new nt)) upd_same⟩
end
end KQ
namespace KQ
open PySem PySem.Spec PyProof.Rows L2 KR KM StX
/-- two ascending lots with the same rows are one -/
theorem lot_same {L M : List (List Int)} (h : L.Pairwise fun x y => HT.lexLt x y = true) (g : M.Pairwise fun x y => HT.lexLt x y = true) (e : ∀ x, x ∈ L ↔ x ∈ M) : L = M := by
  have nd : ∀ {Z : List (List Int)}, (Z.Pairwise fun x y => HT.lexLt x y = true) → Z.Nodup := fun {Z} z => List.nodup_iff_pairwise_ne.mpr (z.imp fun {a b} q e => by
    rw [e, lex_irr] at q
    cases q)
  exact rows_uniq ((List.perm_ext_iff_of_nodup (nd h) (nd g)).mpr e) (h.imp fun {a b} q => lex_asym _ _ q) (g.imp fun {a b} q => lex_asym _ _ q)
/-- what every closed lot around two lots has is what they span -/
theorem around_due {n : Nat} (n6 : n < 6) {L M Z : List (List Int)} {W R : List (List (List Int))} (hW : ∀ X, X ∈ W ↔ X ∈ fam n) (hL : LotP n L) (hM : LotP n M)
    (e : W.filter (fun X => (L ++ M).all fun x => decide (x ∈ X)) = Z :: R) : (Z.filter fun x => (W.filter fun X => (L ++ M).all fun x => decide (x ∈ X)).all fun X => decide (x ∈ X)) = spanB n L M := by
  have n60 : n < 60 := by omega
  have mem : ∀ X, X ∈ W.filter (fun X => (L ++ M).all fun x => decide (x ∈ X)) ↔ X ∈ fam n ∧ ∀ x ∈ L ++ M, x ∈ X := fun X => by
    rw [List.mem_filter, hW, List.all_eq_true]
    exact ⟨fun h => ⟨h.1, fun x hx => of_decide_eq_true (h.2 x hx)⟩, fun h => ⟨h.1, fun x hx => decide_eq_true (h.2 x hx)⟩⟩
  have hLM : LotP n (L ++ M) := fun x hx => by
    rcases List.mem_append.mp hx with h | h
    · exact hL x h
    · exact hM x h
  have hZ : Z ∈ fam n := ((mem Z).mp (by rw [e]; exact List.mem_cons_self)).1
  have hS : spanB n L M ∈ W.filter (fun X => (L ++ M).all fun x => decide (x ∈ X)) := (mem _).mpr ⟨fam_all _ fun x hx => (mem_turn.mp hx).1, sub_twice n60 hLM⟩
  have low : ∀ X ∈ fam n, (∀ x ∈ L ++ M, x ∈ X) → ∀ x ∈ spanB n L M, x ∈ X := fun X hX g x hx => by
    obtain ⟨T, t1, rfl⟩ := fam_is _ hX
    have hT : LotP n T := fun y hy => allP_par n60 y (t1 y hy)
    rw [← turn_thrice n60 hT]
    exact turn_less (turn_less g) x hx
  refine lot_same ((fam_lot n6 hZ).2.1.filter _) (turn_up n6 _) fun x => ?_
  rw [List.mem_filter, List.all_eq_true]
  constructor
  · exact fun h => of_decide_eq_true (h.2 _ hS)
  · intro h
    have hZ2 := (mem Z).mp (by rw [e]; exact List.mem_cons_self)
    exact ⟨low Z hZ2.1 hZ2.2 x h, fun X hX => decide_eq_true (low X ((mem X).mp hX).1 ((mem X).mp hX).2 x h)⟩
theorem around_ne {n : Nat} (n6 : n < 6) {L M : List (List Int)} {W : List (List (List Int))} (hW : ∀ X, X ∈ W ↔ X ∈ fam n) (hL : LotP n L) (hM : LotP n M) :
    W.filter (fun X => (L ++ M).all fun x => decide (x ∈ X)) ≠ [] := by
  have hLM : LotP n (L ++ M) := fun x hx => by
    rcases List.mem_append.mp hx with h | h
    · exact hL x h
    · exact hM x h
  refine List.ne_nil_of_mem (a := spanB n L M) (List.mem_filter.mpr ⟨(hW _).mpr (fam_all _ fun x hx => (mem_turn.mp hx).1), List.all_eq_true.mpr fun x hx => decide_eq_true (sub_twice (by omega) hLM x hx)⟩)
/-- [h x for x in a if c], a a tuple -/
theorem lc_filT {α : Type} {K : PySem.W.Frag} {a D : Addr} {f h : α → V} {xs : List α} {g : TG} {tt : L2.TT} {te : TE} {vs : List Nat} {σ : L2.St} {H1 : Hp} {Qd : Hp → Prop} (c : α → Bool) (ex : SqT K H1 a (xs.map f)) (len : xs.length ≤ 100000) (nD : H1 D = none)
    (hs : ∀ (x : α) (H : Hp), Same H1 H → x ∈ xs → ∀ N : Hp → Prop, (∀ H', Same H H' → (c x = true → ∃ acc, H' D = some (.lst acc) ∧ acc.length < sizeLine ∧ N (upd H' D (.lst (acc ++ [h x])))) ∧ (c x = false → N H')) →
      g (f x) (wipe σ vs) H fun σ2 H2 => wipe σ2 vs = wipe σ vs ∧ tt σ2 H2 fun b H3 => if b = true then te σ2 H3 fun y H4 => ∃ acc, H4 D = some (.lst acc) ∧ acc.length < sizeLine ∧ N (upd H4 D (.lst (acc ++ [y]))) else N H3)
    (hd : ∀ (H : Hp), Same H1 H → H D = some (.lst ((xs.filter c).map h)) → Qd H) : ∃ W : Nat → Nat → Hp → Prop, (∃ m, W 0 m (upd H1 D (.lst []))) ∧ ∀ i m H, W i m H →
      ((Itt K a).stop i H ∧ Qd H) ∨ ((Itt K a).go i H ∧ ∃ Nx : Hp → Prop, (∀ H', Nx H' → ∃ m', m' < m ∧ W (i + 1) m' H') ∧ ∀ x H', (Itt K a).yld i H x H' → g x (wipe σ vs) H' fun σ2 H2 => wipe σ2 vs = wipe σ vs ∧ tt σ2 H2 fun b H3 =>
        if b = true then te σ2 H3 fun y H4 => ∃ acc, H4 D = some (.lst acc) ∧ acc.length < sizeLine ∧ Nx (upd H4 D (.lst (acc ++ [y]))) else Nx H3) := by
  refine lc_tup (K := K) (a := a) (xs := xs.map f) (fun k H => Same H1 H ∧ H D = some (.lst (((xs.take k).filter c).map h))) ⟨same_new nD, upd_same⟩ (fun k H _ ⟨s, _⟩ => sameT s ex) ?_ ?_
  · rintro k v H hk ⟨sm, eG⟩
    obtain ⟨x, hx, rfl⟩ := map_at hk
    have fl : ((xs.take k).filter c).length ≤ (xs.take k).length := List.length_filter_le _ _
    rw [List.length_take] at fl
    have tk : (xs.take (k + 1)).filter c = (xs.take k).filter c ++ if c x = true then [x] else [] := by
      rw [take_snoc hx, List.filter_append]
      congr 1
      rw [List.filter_cons]
      rfl
    refine hs x H sm (List.mem_of_getElem? hx) _ fun H' s' => ⟨fun hc => ⟨_, s' _ _ eG, ?_, same_mut (sm.trans s') nD, ?_⟩, fun hc => ⟨sm.trans s', ?_⟩⟩
    · rw [List.length_map]
      exact small_of (by omega)
    · rw [upd_same, tk, if_pos hc, List.map_append]
      rfl
    · rw [tk, if_neg (by rw [hc]; decide), List.append_nil]
      exact s' _ _ eG
  · rintro H ⟨sm, eG⟩
    rw [List.length_map, List.take_length] at eG
    exact hd H sm eG
/-- [h x for x in a if c], a a list -/
theorem lc_filL {α : Type} {K : PySem.W.Frag} {a D : Addr} {f h : α → V} {xs : List α} {g : TG} {tt : L2.TT} {te : TE} {vs : List Nat} {σ : L2.St} {H1 : Hp} {Qd : Hp → Prop} (c : α → Bool) (ex : H1 a = some (.lst (xs.map f))) (len : xs.length ≤ 100000) (nD : H1 D = none)
    (hs : ∀ (x : α) (H : Hp), Same H1 H → x ∈ xs → ∀ N : Hp → Prop, (∀ H', Same H H' → (c x = true → ∃ acc, H' D = some (.lst acc) ∧ acc.length < sizeLine ∧ N (upd H' D (.lst (acc ++ [h x])))) ∧ (c x = false → N H')) →
      g (f x) (wipe σ vs) H fun σ2 H2 => wipe σ2 vs = wipe σ vs ∧ tt σ2 H2 fun b H3 => if b = true then te σ2 H3 fun y H4 => ∃ acc, H4 D = some (.lst acc) ∧ acc.length < sizeLine ∧ N (upd H4 D (.lst (acc ++ [y]))) else N H3)
    (hd : ∀ (H : Hp), Same H1 H → H D = some (.lst ((xs.filter c).map h)) → Qd H) : ∃ W : Nat → Nat → Hp → Prop, (∃ m, W 0 m (upd H1 D (.lst []))) ∧ ∀ i m H, W i m H →
      ((L2.Itl K a).stop i H ∧ Qd H) ∨ ((L2.Itl K a).go i H ∧ ∃ Nx : Hp → Prop, (∀ H', Nx H' → ∃ m', m' < m ∧ W (i + 1) m' H') ∧ ∀ x H', (L2.Itl K a).yld i H x H' → g x (wipe σ vs) H' fun σ2 H2 => wipe σ2 vs = wipe σ vs ∧ tt σ2 H2 fun b H3 =>
        if b = true then te σ2 H3 fun y H4 => ∃ acc, H4 D = some (.lst acc) ∧ acc.length < sizeLine ∧ Nx (upd H4 D (.lst (acc ++ [y]))) else Nx H3) := by
  refine lc_list (K := K) (a := a) (xs := xs.map f) (fun k H => Same H1 H ∧ H D = some (.lst (((xs.take k).filter c).map h))) ⟨same_new nD, upd_same⟩ (fun k H _ ⟨s, _⟩ => sqL (s _ _ ex)) ?_ ?_
  · rintro k v H hk ⟨sm, eG⟩
    obtain ⟨x, hx, rfl⟩ := map_at hk
    have fl : ((xs.take k).filter c).length ≤ (xs.take k).length := List.length_filter_le _ _
    rw [List.length_take] at fl
    have tk : (xs.take (k + 1)).filter c = (xs.take k).filter c ++ if c x = true then [x] else [] := by
      rw [take_snoc hx, List.filter_append]
      congr 1
      rw [List.filter_cons]
      rfl
    refine hs x H sm (List.mem_of_getElem? hx) _ fun H' s' => ⟨fun hc => ⟨_, s' _ _ eG, ?_, same_mut (sm.trans s') nD, ?_⟩, fun hc => ⟨sm.trans s', ?_⟩⟩
    · rw [List.length_map]
      exact small_of (by omega)
    · rw [upd_same, tk, if_pos hc, List.map_append]
      rfl
    · rw [tk, if_neg (by rw [hc]; decide), List.append_nil]
      exact s' _ _ eG
  · rintro H ⟨sm, eG⟩
    rw [List.length_map, List.take_length] at eG
    exact hd H sm eG
/-- a list of ones is empty where none was kept -/
theorem ones_eqv {α : Type} (xs : List α) (c : α → Bool) : PyData.eqv (.list ((xs.filter c).map fun _ => PyData.int 1)) (.list []) = xs.all fun x => !c x := by
  induction xs with
  | nil => rfl
  | cons x r ih =>
    rw [List.filter_cons, List.all_cons]
    cases c x with
    | true => rfl
    | false => exact ih
theorem dpAll_ones {α : Type} {K : PySem.W.Frag} {H : Hp} : ∀ xs : List α, DpAll K H (xs.map fun _ => V.int 1) (xs.map fun _ => PyData.int 1)
  | [] => .nil
  | _ :: r => .cons (.int _) (dpAll_ones r)
theorem shaped_ones {α : Type} (xs : List α) : SeqAt.shaped (.list (xs.map fun _ => PyData.int 1)) = true := by
  have := shaped_ints (xs.map fun _ => (1 : Int))
  rw [List.map_map] at this
  exact this
end KQ
namespace KQ
open PySem PySem.Spec PyProof.Rows L2 KR KM StX
theorem if_factB6 {b : Bool} {t u : TE} {σ : L2.St} {H : Hp} {Q : VK} (Fact : V → Hp → Prop) (h1 : b = true → ∀ Q : VK, (∀ v H', Fact v H' → Q v H') → t σ H Q) (h2 : b = false → ∀ Q : VK, (∀ v H', Fact v H' → Q v H') → u σ H Q)
    (k : ∀ v H', Fact v H' → Q v H') : if b = true then t σ H Q else u σ H Q := by
  cases b
  · exact h2 rfl Q k
  · exact h1 rfl Q k
section
variable {P : Program} {w : World} {K : PySem.W.Frag} {mg : Str → Option Value} {base : Heap}
/-- a list known stays where all but two new ones stays -/
theorem sqL_kept {H H0 H1 : Hp} {a m g : Addr} {xs : List V} (h : SqL K H a xs) (s : Same H H0) (k : Kept H0 H1 m g) (nm : H m = none) (ng : H g = none) : SqL K H1 a xs := by
  rcases h with (h | ⟨o, h⟩) | h
  · exact .inl (.inl (k _ _ (s _ _ h) (fun e => by rw [e, nm] at h; cases h) (fun e => by rw [e, ng] at h; cases h)))
  · exact .inl (.inr ⟨o, k _ _ (s _ _ h) (fun e => by rw [e, nm] at h; cases h) (fun e => by rw [e, ng] at h; cases h)⟩)
  · exact .inr h
def spBegunF (K : PySem.W.Frag) : Sp := fun vs H Q _ => ∃ (a : Addr) (ns : List Int), vs = [.ref a] ∧ SqL K H a (ns.map V.int) ∧ ns.length ≤ 63 ∧
  ∀ H' m c g, Same H H' → MS H' m c g 0 → H m = none → H g = none → Q (.ref m) H'
theorem ok_begunF (D : DefAt K mg "_law_begun" s__law_begun) (T : Bt mg) (u__law_folded : Use P w K mg base "_law_folded" 1 ["script"] (spFolded K)) : Use P w K mg base "_law_begun" 2 ["script"] (spBegunF K) := by
  refine use_of D (fun f fd F => F.ok sc__law_begun (fun vs H Q E h => ?_) (fun cdv A outer s H vs Q E hr h => ?_)) (fun _ _ _ _ _ _ us hl => match us, hl with | [_], _ => rfl)
  · obtain ⟨a, ns, rfl, _⟩ := h
    rfl
  · obtain ⟨a, ns, rfl, hs, hl, q⟩ := h
    refine ⟨_, (pss_cons (ps_set (i := 1) sc__law_begun.nd rfl (Or.inl rfl) (pe_disp (pps_cons pe_str (pe_use u__law_folded (by decide) hr (by rfl) (pa_cons (pv 0) pa_nil)) (pps_cons pe_str (pe_lst pa_nil) (pps_cons pe_str pe_int pps_nil))) (by rfl) (by rfl) (fun z => by cases z) (by decide)))
      (pss_cons (ps_dput (hu_of hr) (pv 1) pe_str (pe_lc (own := [("cell", 2)]) rfl sc__law_begun.nd (k_list (K := K) rfl (pv 0)) (blkOk_by (N := ["script", "m", "cell"]) (sc := defScope s__law_begun) (by decide +kernel)) (fun _ _ _ _ _ => (pg_name (i := 2) sc__law_begun.nd rfl (Or.inl rfl))) (fun _ _ _ _ _ => pts_nil) (fun _ _ _ _ _ => (pe_ifExp (pt_cmpR op_ge (pv 2) (pe_op op_pow pe_int pe_int) (nomark _)) (pv 2) pe_int))) rfl)
      (pss_one (ps_ret (pv 1))))), ?_⟩
    refine fun m nm => ⟨_, rfl, a, ns, rfl, sameSL (same_new nm) hs, hl, fun H1 c cs s1 nc hc ok => ⟨Nat.zero_le _, fun g ng => ?_⟩⟩
    have mc : m ≠ c := fun e => by rw [← e, upd_same] at nc; cases nc
    have hm1 : H1 m = some (.dK []) := s1 _ _ upd_same
    have mg1 : m ≠ g := fun e => by rw [e, ng] at hm1; cases hm1
    have cg : c ≠ g := fun e => by rw [e, ng] at hc; cases hc
    refine ⟨by rw [upd_ne mg1]; exact hm1, [(.inr "cells", .ref c), (.inr "great", .ref g), (.inr "spot", .int 0)], rfl, Nat.le_of_ble_eq_true rfl, ?_⟩
    rw [show mergeK [] [((.inr "cells" : L2.Key), V.ref c), (.inr "great", .ref g), (.inr "spot", .int 0)] = [(.inr "cells", .ref c), (.inr "great", .ref g), (.inr "spot", .int 0)] from rfl]
    generalize hH2 : upd (upd H1 g (.lst [])) m (.dK [((.inr "cells" : L2.Key), V.ref c), (.inr "great", .ref g), (.inr "spot", .int 0)]) = H2
    have hm2 : H2 m = some (.dK [((.inr "cells" : L2.Key), V.ref c), (.inr "great", .ref g), (.inr "spot", .int 0)]) := by rw [← hH2, upd_same]
    have hc2 : H2 c = some (.lst (cs.map V.int)) := by rw [← hH2, upd_ne mc.symm, upd_ne cg]; exact hc
    have hs2 : SqL K H2 a (ns.map V.int) := by
      refine sameSL (fun b u hb => ?_) hs
      have h1 : H1 b = some u := (Same.trans (same_new nm) s1) b u hb
      rw [← hH2, upd_ne (ne_of_none hb nm), upd_ne (ne_of_none h1 ng)]
      exact h1
    have sm2 : Same H H2 := fun b u hb => by
      have h1 : H1 b = some u := (Same.trans (same_new nm) s1) b u hb
      rw [← hH2, upd_ne (ne_of_none hb nm), upd_ne (ne_of_none h1 ng)]
      exact h1
    refine ⟨_, rfl, a, rfl, ⟨_, hs2⟩, fun L nL => ?_⟩
    have Lm : L ≠ m := fun e => by rw [e, hm2] at nL; cases nL
    have Lc : L ≠ c := fun e => by rw [e, hc2] at nL; cases nL
    refine lc_list (K := K) (a := a) (xs := ns.map V.int) (fun i H3 => Same H2 H3 ∧ ∃ gs : List Int, H3 L = some (.lst (gs.map V.int)) ∧ gs.length = i) ⟨same_new nL, [], upd_same, rfl⟩
      (fun i H3 _ ⟨sm, _⟩ => sameSL sm hs2) ?_ ?_
    · rintro i v H3 hi ⟨sm, gs, eL, lg⟩
      obtain ⟨x, hx, rfl⟩ := map_at hi
      have hi63 : i < ns.length := (List.getElem?_eq_some_iff.mp hx).1
      have put : ∀ y : Int, ∃ acc, H3 L = some (.lst acc) ∧ acc.length < sizeLine ∧ (Same H2 (upd H3 L (.lst (acc ++ [V.int y]))) ∧ ∃ gs : List Int, upd H3 L (.lst (acc ++ [V.int y])) L = some (.lst (gs.map V.int)) ∧ gs.length = i + 1) := fun y =>
        ⟨_, eL, by rw [List.length_map]; exact small_of (by omega), same_mut sm nL, gs ++ [y], by rw [upd_same, List.map_append]; rfl, by rw [List.length_append, lg]; rfl⟩
      refine ⟨rfl, _, rfl, 10, 18, rfl, rfl, ⟨by decide, by decide, by decide⟩, x, _, rfl, rfl, _, rfl, ?_⟩
      by_cases hx2 : (10 : Int) ^ (18 : Int).toNat ≤ x
      · rw [decide_eq_true hx2]
        exact ⟨_, rfl, put x⟩
      · rw [decide_eq_false hx2]
        exact put 0
    · rintro H3 ⟨sm, gs, eL, lg⟩
      rw [List.length_map] at lg
      have hm3 := sm _ _ hm2
      refine ⟨_, rfl, m, _, rfl, .k (k := .inr "great") hm3 (small_of (Nat.le_of_ble_eq_true rfl)), ?_⟩
      rw [show putK [((.inr "cells" : L2.Key), V.ref c), (.inr "great", .ref g), (.inr "spot", .int 0)] (.inr "great") (V.ref L) = [(.inr "cells", .ref c), (.inr "great", .ref L), (.inr "spot", .int 0)] from rfl]
      refine ⟨_, rfl, q _ m c L (same_mut (sm2.trans sm) nm) ⟨cs, gs, 0, upd_same, ?_, ?_, ok.1, ok.2, Lc.symm, by omega, Int.le_refl _, Int.le_refl _⟩ nm (sm2.free nL)⟩
      · rw [upd_ne mc.symm]
        exact sm _ _ hc2
      · rw [upd_ne Lm]
        exact eL
/-- a list of lots and the state of the draws -/
theorem lots_ms {H : Hp} {m c g t : Addr} {b : Int} {xs : List Addr} (ms : MS H m c g b) (h : H t = some (.lst (xs.map V.ref))) (ne : xs ≠ []) : t ≠ m ∧ t ≠ g := by
  obtain ⟨cs, gs, n, h1, h2, h3, r⟩ := ms
  refine ⟨fun e => ?_, fun e => ?_⟩
  · rw [e, h1] at h
    cases h
  · rw [e, h3] at h
    cases xs with
    | nil => exact ne rfl
    | cons x r =>
      cases gs with
      | nil => cases h
      | cons y s => cases h
theorem Kept.lots {H H' : Hp} {m c g : Addr} {b : Int} {ys : List LA} (k : Kept H H' m g) (ms : MS H m c g b) (h : ∀ y ∈ ys, TL H y.2 y.1) : ∀ y ∈ ys, TL H' y.2 y.1 := fun y hy => k.lot ms (h y hy)
theorem dpAll_lots {H : Hp} : ∀ {ys : List LA}, (∀ y ∈ ys, TL H y.2 y.1) → DpAll K H (ys.map fun y => V.ref y.2) (ys.map fun y => PyData.tuple (y.1.map rowD))
  | [], _ => .nil
  | y :: ys, h => .cons (dp_tl (h y List.mem_cons_self)) (dpAll_lots fun z hz => h z (List.mem_cons_of_mem _ hz))
theorem nc_lots {n : Nat} (n4 : n < 4) : ∀ {Ys : List (List (List Int))}, (∀ Y ∈ Ys, LotT n Y) → NcA 2 (2000 * Ys.length) (Ys.map fun Y => PyData.tuple (Y.map rowD))
  | [], _ => nc_nil 2
  | Y :: Ys, h => by
    have hY := h Y List.mem_cons_self
    have l15 : Y.length ≤ 15 := by
      refine Nat.le_trans (sub_len (ys := allP n) ?_ fun x hx => allP_all n x (hY.1 x hx).1.rg (hY.1 x hx).2) (allP_15 ⟨n, n4⟩)
      refine hY.2.1.imp fun {x y} hxy e => ?_
      rw [e, lex_irr] at hxy
      cases hxy
    have h1 : Nc 2 1999 (.tuple (Y.map rowD)) := (nc_tt 6 fun xs hx => by
      obtain ⟨p1, p2⟩ := hY.1 xs hx
      exact ⟨par_small p1.rg p1.le, by omega⟩).le (Nat.le_refl _) (Nat.le_trans (Nat.mul_le_mul (Nat.le_refl _) l15) (by decide))
    have h2 := nc_cons h1 (nc_lots n4 fun Z hZ => h Z (List.mem_cons_of_mem _ hZ))
    have e : 2000 * (Y :: Ys).length = 1999 + 1 + 2000 * Ys.length := by rw [List.length_cons]; omega
    rw [e]
    exact h2
end
end KQ
namespace KQ
open PySem PySem.Spec PyProof.Rows L2 KR KM StX
section
variable {P : Program} {w : World} {K : PySem.W.Frag} {mg : Str → Option Value} {base : Heap}
theorem dp_lots {H : Hp} {ys : List LA} {Ls : List (List (List Int))} (e : ys.map (·.1) = Ls) (h : ∀ y ∈ ys, TL H y.2 y.1) : DpAll K H (ys.map fun y => V.ref y.2) (Ls.map fun Y => PyData.tuple (Y.map rowD)) := by
  subst e
  rw [List.map_map]
  exact dpAll_lots h
theorem around_split {n : Nat} (n6 : n < 6) {L M : List (List Int)} {W : List (List (List Int))} {ys : List LA} (ey : ys.map (·.1) = W) (hW : ∀ X, X ∈ W ↔ X ∈ fam n) (hL : LotP n L) (hM : LotP n M) :
    ∃ z r, ys.filter (fun y => (L ++ M).all fun x => decide (x ∈ y.1)) = z :: r ∧ (z.1.filter fun x => (z :: r).all fun y => decide (x ∈ y.1)) = spanB n L M := by
  have e : W.filter (fun X => (L ++ M).all fun x => decide (x ∈ X)) = (ys.filter (fun y => (L ++ M).all fun x => decide (x ∈ y.1))).map (·.1) := by
    rw [← ey, List.filter_map]
    rfl
  have ne := around_ne n6 hW hL hM
  rw [e] at ne
  cases c : ys.filter (fun y => (L ++ M).all fun x => decide (x ∈ y.1)) with
  | nil =>
    rw [c] at ne
    exact absurd rfl ne
  | cons z r =>
    refine ⟨z, r, rfl, ?_⟩
    rw [c, List.map_cons] at e
    have := around_due n6 hW hL hM e
    rw [e, ← List.map_cons (f := fun y : LA => y.1)] at this
    rw [← this]
    refine List.filter_congr fun x _ => ?_
    rw [List.all_map]
    rfl
theorem ask_of {H : Hp} {wh v v2 u : V} {r : Sum V Str} (h : wh = .str "met" ∨ wh = .str "spanned") (bt : BadTwo H v v2 u r) :
    [wh, v, v2, u] = [.str "met", v, v2, u] ∧ BadTwo H v v2 u r ∨ [wh, v, v2, u] = [.str "spanned", v, v2, u] ∧ BadTwo H v v2 u r ∨ [wh, v, v2, u] = [.str "list", v, v2, u] ∧ OddV H u ∧ inV u 1 4 = false ∧ r = .inl u := by
  rcases h with rfl | rfl
  · exact .inl ⟨rfl, bt⟩
  · exact .inr (.inl ⟨rfl, bt⟩)
abbrev s_law : Stmt := topS 53
theorem sc_law : FnScope ["script", "m", "many", "family", "turn", "one", "two", "around", "due", "more", "which", "wrong", "bad", "word", "odd", "other", "told", "row", "part"] ["script"] (defScope s_law) := ⟨rfl, rfl, rfl, by decide +kernel, rfl, by decide +kernel, by decide +kernel⟩
def scLa : Scope := match (defBody s_law).getD 4 (.Pass ⟨0, 0, 0, 0⟩) with
  | Stmt.For _ _ (_ :: _ :: Stmt.Assign _ (Expr.ListComp _ _ sc _) _ :: _) _ _ => sc
  | _ => defScope s_law
def scLb : Scope := match (defBody s_law).getD 4 (.Pass ⟨0, 0, 0, 0⟩) with
  | Stmt.For _ _ (_ :: _ :: _ :: Stmt.Assign _ (Expr.Call _ [Expr.ListComp _ _ sc _] _ _) _ :: _) _ _ => sc
  | _ => defScope s_law
/-- what law calls -/
structure Calls (P : Program) (w : World) (K : PySem.W.Frag) (mg : Str → Option Value) (base : Heap) : Prop where
  begun : Use P w K mg base "_law_begun" 2 ["script"] (spBegunF K)
  draw : Use P w K mg base "_law_draw" 2 ["m", "limit"] spDraw
  family : Use P w K mg base "_law_family" 3 ["many"] spFamily
  like : UseG P w K mg base "_law_like" 1 ["got", "due"] (spLike K)
  likeW : UseG P w K mg base "_law_like" 1 ["got", "due"] (spLikeW K)
  closed : Use P w K mg base "closed_lots" 7 ["number"] spClosedLots
  of : Use P w K mg base "_law_of" 3 ["m", "some"] spOfA
  right : UseG P w K mg base "_law_right_pair" 9 ["one", "two", "many"] spPair
  spanned : Use P w K mg base "spanned" 8 ["lot", "other", "number"] spSpanned
  some : Use P w K mg base "_law_some_lot" 4 ["m", "many"] spSomeLot
  bad : Use P w K mg base "_law_bad_lot" 4 ["m", "lot", "many"] spBadLot
  asked : Use P w K mg base "_law_asked" 9 ["which", "lot", "other", "many"] spAsk2
def spLaw (K : PySem.W.Frag) : Sp := fun vs H Q _ => ∃ (a : Addr) (ns : List Int), vs = [.ref a] ∧ SqL K H a (ns.map V.int) ∧ ns.length ≤ 63 ∧ ∀ H', Q (.bl true) H'
/-- the context of law's own lines -/
abbrev LX (P : Program) (w : World) (K : PySem.W.Frag) (mg : Str → Option Value) (base : Heap) (f : Addr) (cdv : Value) (A : Around) (outer : List Env) (s : Shared) (H : Hp) (E : XK) : Cx :=
  (cxOf CX0 P w K mg base ["script", "m", "many", "family", "turn", "one", "two", "around", "due", "more", "which", "wrong", "bad", "word", "odd", "other", "told", "row", "part"] "law" (defScope s_law) f cdv A outer s H E).nox
variable {f : Addr} {fd : FuncData} {cdv : Value} {A : Around} {outer : List Env} {s : Shared} {H0 : Hp} {E : XK}
theorem lawC (T : Bt mg) (C : Calls P w K mg base) (gd : (A.deeper (envOfC "law" (defScope s_law) s.heap.objs.size f cdv)).guards = some []) (hr : Room 9 (A.deeper (envOfC "law" (defScope s_law) s.heap.objs.size f cdv))) :
    ∃ t, PSs (LX P w K mg base f cdv A outer s H0 E) ((defBody s_law).drop 5) t ∧ ∀ (D : Ends) (σ : L2.St) (H : Hp), (∃ (m c g : Addr) (b : Int) (y0 y2 y3 y4 y5 y6 y7 y8 y9 y10 y11 y12 y13 y14 y15 y16 y17 y18 : Option V), σ = [y0, some (.ref m), y2, y3, y4, y5, y6, y7, y8, y9, y10, y11, y12, y13, y14, y15, y16, y17, y18] ∧ MS H m c g b ∧ b ≤ 900000 ∧ ∀ H', D.rt (.bl true) H') → t D σ H := by
  have u__law_of := C.of
  have u__law_likeW := C.likeW
  have u__law_asked := C.asked
  refine ⟨_, (pss_cons (ps_set (i := 11) sc_law.nd rfl (Or.inl rfl) (pe_use u__law_of (by decide) hr (by rfl) (pa_cons (pv 1) (pa_cons (pe_lst (pa_cons pe_int (pa_cons pe_int (pa_cons pe_int (pa_cons (pe_un un_neg pe_int) (pa_cons pe_bl (pa_cons pe_non (pa_cons pe_str (pa_cons (pe_tup pa_nil) pa_nil))))))))) pa_nil))))
      (pss_one (ps_ret (pe_useG u__law_likeW gd (by decide) hr (by rfl) (pa_cons (pe_use u__law_asked (by decide) hr (by rfl) (pa_cons pe_str (pa_cons (pe_tup pa_nil) (pa_cons (pe_tup pa_nil) (pa_cons (pv 11) pa_nil))))) (pa_cons (pe_tup (pa_cons pe_str (pa_cons (pv 11) pa_nil))) pa_nil)))))), ?_⟩
  rintro D σ H ⟨m, c, g, b, y0, y2, y3, y4, y5, y6, y7, y8, y9, y10, y11, y12, y13, y14, y15, y16, y17, y18, rfl, ms, hb, q⟩
  refine ⟨_, rfl, 1, rfl, Nat.zero_le _, fun z nz => ⟨by show 8 ≤ sizeLine; decide, fun N nN => ?_⟩⟩
  have zn := ms.ne nz
  have s6 := same_new (H := H) (o := .tup []) nz
  have Nn := (ms.mono s6).ne nN
  have sN := s6.trans (same_new (o := .lst [V.int 0, .int 5, .int 6, .int (-1), .bl true, .non, .str "2", .ref z]) nN)
  have ez := (same_new (o := .lst [V.int 0, .int 5, .int 6, .int (-1), .bl true, .non, .str "2", .ref z]) nN) _ _ (upd_same (H := H) (a := z) (o := .tup []))
  refine ⟨m, c, g, _, N, _, rfl, ms.mono sN, by omega, upd_same, Nn.2.2, by simp, by show 8 ≤ 1000000; decide, fun H7 u k7 ms7 hu => ?_⟩
  obtain ⟨d, ku, iu, nwu⟩ : ∃ d : PyData, (∀ H', Same H7 H' → OddV H' u ∧ Dp K H' u d) ∧ inV u 1 4 = false ∧ Nw 1 200 d := by
    have e7 := k7 _ _ ez zn.1 zn.2.2
    simp only [List.mem_cons, List.mem_nil_iff, or_false] at hu
    rcases hu with rfl | rfl | rfl | rfl | rfl | rfl | rfl | rfl
    · exact ⟨.int 0, fun _ _ => ⟨.int _, .int _⟩, rfl, (nw_int (by decide)).le (by decide) (by decide)⟩
    · exact ⟨.int 5, fun _ _ => ⟨.int _, .int _⟩, rfl, (nw_int (by decide)).le (by decide) (by decide)⟩
    · exact ⟨.int 6, fun _ _ => ⟨.int _, .int _⟩, rfl, (nw_int (by decide)).le (by decide) (by decide)⟩
    · exact ⟨.int (-1), fun _ _ => ⟨.int _, .int _⟩, rfl, (nw_int (by decide)).le (by decide) (by decide)⟩
    · exact ⟨.bool true, fun _ _ => ⟨.bl _, .bl _⟩, rfl, ⟨rfl, rfl, by decide, rfl, by decide⟩⟩
    · exact ⟨.none, fun _ _ => ⟨.non, .non⟩, rfl, ⟨rfl, rfl, by decide, rfl, by decide⟩⟩
    · exact ⟨.str "2", fun _ _ => ⟨.str _, .str _⟩, rfl, ⟨by decide +kernel, rfl, by decide, by decide +kernel, by decide +kernel⟩⟩
    · exact ⟨.tuple [], fun _ s => ⟨.tup (s _ _ e7), .tup (sqT (s _ _ e7)) .nil⟩, rfl, ⟨rfl, rfl, by decide, rfl, by decide⟩⟩
  clear hu k7 ez sN Nn nN s6 zn nz ms7 ms
  refine ⟨Nat.zero_le _, fun z1 n1 => ⟨Nat.zero_le _, fun z2 n2 => ?_⟩⟩
  have s2 := (same_new (o := .tup []) n1).trans (same_new (o := .tup []) n2)
  refine ⟨_, rfl, .ref z1, .ref z2, u, .inl u, .inr (.inr ⟨rfl, (ku _ s2).1, iu, rfl⟩), fun H8 r1 s8 e1 => ?_⟩
  refine ⟨_, rfl, by show 2 ≤ sizeLine; decide, fun c1 m1 => ?_⟩
  have sc := same_new (H := H8) (o := .tup [V.str "number", u]) m1
  have du := (ku _ ((s2.trans s8).trans sc)).2
  exact ⟨.ref r1, .ref c1, .tuple [.str "number", d], rfl, .tup (sqT (sc _ _ e1)) (.cons (.str _) (.cons du .nil)), .tup (sqT upd_same) (.cons (.str _) (.cons du .nil)), rfl, (nw_two (by decide +kernel) (by decide +kernel) nwu).le (by decide) (by decide), q _⟩
theorem fn_law (F : Fun K "law" "law" s_law f fd) (T : Bt mg) (C : Calls P w K mg base) : FnG P w K mg base 10 f fd ["script"] (spLaw K) := by
  have u__law_begun := C.begun
  have u__law_draw := C.draw
  have u__law_family := C.family
  have u__law_like := C.like
  have u__law_likeW := C.likeW
  have u_closed_lots := C.closed
  have u__law_of := C.of
  have u__law_right_pair := C.right
  have u_spanned := C.spanned
  have u__law_some_lot := C.some
  have u__law_bad_lot := C.bad
  have u__law_asked := C.asked
  refine Fun.okG F sc_law (fun vs H Q E h => ?_) (fun cdv A outer s H vs Q E gd hr h => ?_)
  · obtain ⟨a, ns, rfl, _⟩ := h
    rfl
  obtain ⟨a, ns, rfl, hs, hl, q⟩ := h
  obtain ⟨t2, h2, k2⟩ := lawC (P := P) (w := w) (K := K) (mg := mg) (base := base) (f := f) (cdv := cdv) (A := A) (outer := outer) (s := s) (H0 := H) (E := E) T C gd hr
  refine ⟨_, (pss_cons (ps_set (i := 1) sc_law.nd rfl (Or.inl rfl) (pe_use u__law_begun (by decide) hr (by rfl) (pa_cons (pv 0) pa_nil)))
      (pss_cons (ps_set (i := 2) sc_law.nd rfl (Or.inl rfl) (pe_ifExp (pt_cmpR op_eq (pe_use u__law_draw (by decide) hr (by rfl) (pa_cons (pv 1) (pa_cons pe_int pa_nil))) pe_int (nomark _)) pe_int (pe_op op_add pe_int (pe_use u__law_draw (by decide) hr (by rfl) (pa_cons (pv 1) (pa_cons pe_int pa_nil))))))
      (pss_cons (ps_set (i := 3) sc_law.nd rfl (Or.inl rfl) (pe_use u__law_family (by decide) hr (by rfl) (pa_cons (pv 2) pa_nil)))
      (pss_cons (ps_if (PW.pt (pw_or (pt_not (pt_val (pe_useG u__law_like gd (by decide) hr (by rfl) (pa_cons (pe_use u_closed_lots (by decide) hr (by rfl) (pa_cons (pv 2) pa_nil)) (pa_cons (pe_callTy (k_tupOf (K := K) rfl) (by rfl) T.tuple (by decide +kernel) (pa_cons (pv 3) pa_nil)) pa_nil))))) (pw_or1 (pt_cmpR op_ne (pe_callB (k_len (K := K) rfl) (by rfl) T.len PySem.boot_len (pa_cons (pv 3) pa_nil)) (pe_ix (k_ixl (K := K) rfl) (pe_lst (pa_cons pe_int (pa_cons pe_int (pa_cons pe_int (pa_cons pe_int pa_nil))))) (pe_op op_sub (pv 2) pe_int) (fun _ _ => rfl)) (nomark _))))) (pss_one (ps_ret pe_bl)) pss_nil)
      (pss_cons (ps_for PassesOwn.never rfl (pi_range1 (by rfl) T.range (pa_cons (pe_op op_add pe_int (pe_callB (call_min2 rfl) (by rfl) T.min (by decide +kernel) (pa_cons (pe_callB (k_len (K := K) rfl) (by rfl) T.len PySem.boot_len (pa_cons (pv 0) pa_nil)) (pa_cons pe_int pa_nil)))) pa_nil)) (pg_name (i := 4) sc_law.nd rfl (Or.inl rfl))
      (pss_cons (ps_asg (pe_tup (pa_cons (pe_use u__law_of (by decide) hr (by rfl) (pa_cons (pv 1) (pa_cons (pv 3) pa_nil))) (pa_cons (pe_use u__law_of (by decide) hr (by rfl) (pa_cons (pv 1) (pa_cons (pv 3) pa_nil))) pa_nil))) (pg_tup rfl (pgs_cons (pg_name (i := 5) sc_law.nd rfl (Or.inr rfl)) (pgs_cons (pg_name (i := 6) sc_law.nd rfl (Or.inr rfl)) pgs_nil))))
      (pss_cons (ps_if (pt_not (pt_val (pe_useG u__law_right_pair gd (by decide) hr (by rfl) (pa_cons (pv 5) (pa_cons (pv 6) (pa_cons (pv 2) pa_nil)))))) (pss_one (ps_ret pe_bl)) pss_nil)
      (pss_cons (ps_set (i := 7) sc_law.nd rfl (Or.inr rfl) (pe_lc (own := [("row", 17)]) rfl sc_law.nd (k_list (K := K) rfl (pv 3)) (blkOk_by (N := ["script", "m", "many", "family", "turn", "one", "two", "around", "due", "more", "which", "wrong", "bad", "word", "odd", "other", "told", "row", "part"]) (sc := defScope s_law) (by decide +kernel)) (fun _ _ _ _ _ => (pg_name (i := 17) sc_law.nd rfl (Or.inr rfl))) (fun _ _ _ _ _ => (pts_one (pt_cmpR (k_eqD (K := K) rfl hr.units) (pe_lc (own := [("part", 18)]) rfl sc_law.nd (k_tup (K := K) rfl (pe_op (k_catR (K := K) rfl) (pv 5) (pv 6))) (blkOk_by (N := ["script", "m", "many", "family", "turn", "one", "two", "around", "due", "more", "which", "wrong", "bad", "word", "odd", "other", "told", "row", "part"]) (sc := relS scLa (defScope s_law)) (by decide +kernel)) (fun _ _ _ _ _ => (pg_name (i := 18) sc_law.nd rfl (Or.inl rfl))) (fun _ _ _ _ _ => (pts_one (pt_cmpR (op_notInT (room66 hr)) (pv 18) (pv 17) (by rfl)))) (fun _ _ _ _ _ => pe_int)) (pe_lst pa_nil) (nomark _)))) (fun _ _ _ _ _ => (pv 17))))
      (pss_cons (ps_set (i := 8) sc_law.nd rfl (Or.inl rfl) (pe_callTy (k_tupOf (K := K) rfl) (by rfl) T.tuple (by decide +kernel) (pa_cons (pe_lc (own := [("part", 18)]) rfl sc_law.nd (k_tup (K := K) rfl (pe_ix (k_ixl (K := K) rfl) (pv 7) pe_int (fun _ _ => rfl))) (blkOk_by (N := ["script", "m", "many", "family", "turn", "one", "two", "around", "due", "more", "which", "wrong", "bad", "word", "odd", "other", "told", "row", "part"]) (sc := defScope s_law) (by decide +kernel)) (fun _ _ _ _ _ => (pg_name (i := 18) sc_law.nd rfl (Or.inr rfl))) (fun _ _ _ _ _ => (pts_one (pt_cmpR (k_eqD (K := K) rfl hr.units) (pe_lc (own := [("row", 17)]) rfl sc_law.nd (k_list (K := K) rfl (pv 7)) (blkOk_by (N := ["script", "m", "many", "family", "turn", "one", "two", "around", "due", "more", "which", "wrong", "bad", "word", "odd", "other", "told", "row", "part"]) (sc := relS scLb (defScope s_law)) (by decide +kernel)) (fun _ _ _ _ _ => (pg_name (i := 17) sc_law.nd rfl (Or.inl rfl))) (fun _ _ _ _ _ => (pts_one (pt_cmpR (op_notInT (room66 hr)) (pv 18) (pv 17) (by rfl)))) (fun _ _ _ _ _ => pe_int)) (pe_lst pa_nil) (nomark _)))) (fun _ _ _ _ _ => (pv 18))) pa_nil)))
      (pss_cons (ps_if (pt_not (pt_val (pe_useG u__law_like gd (by decide) hr (by rfl) (pa_cons (pe_use u_spanned (by decide) hr (by rfl) (pa_cons (pv 5) (pa_cons (pv 6) (pa_cons (pv 2) pa_nil)))) (pa_cons (pv 8) pa_nil))))) (pss_one (ps_ret pe_bl)) pss_nil)
      (pss_cons (ps_set (i := 9) sc_law.nd rfl (Or.inl rfl) (pe_use u__law_of (by decide) hr (by rfl) (pa_cons (pv 1) (pa_cons (pe_lst (pa_cons pe_int (pa_cons pe_int (pa_cons pe_int (pa_cons pe_int (pa_cons pe_int pa_nil)))))) pa_nil))))
      (pss_cons (ps_asg (pe_tup (pa_cons (pe_use u__law_some_lot (by decide) hr (by rfl) (pa_cons (pv 1) (pa_cons (pv 9) pa_nil))) (pa_cons (pe_use u__law_some_lot (by decide) hr (by rfl) (pa_cons (pv 1) (pa_cons (pv 9) pa_nil))) pa_nil))) (pg_tup rfl (pgs_cons (pg_name (i := 5) sc_law.nd rfl (Or.inr rfl)) (pgs_cons (pg_name (i := 6) sc_law.nd rfl (Or.inr rfl)) pgs_nil))))
      (pss_cons (ps_if (pt_not (pt_val (pe_useG u__law_right_pair gd (by decide) hr (by rfl) (pa_cons (pv 5) (pa_cons (pv 6) (pa_cons (pv 9) pa_nil)))))) (pss_one (ps_ret pe_bl)) pss_nil)
      (pss_cons (ps_par (i := 10) (j := 11) rfl sc_law.nd rfl rfl (by decide) rfl rfl (pa_cons (pe_use u__law_of (by decide) hr (by rfl) (pa_cons (pv 1) (pa_cons (pe_lst (pa_cons pe_str (pa_cons pe_str pa_nil))) pa_nil))) (pa_cons (pe_use u__law_of (by decide) hr (by rfl) (pa_cons (pv 1) (pa_cons (pe_lst (pa_cons pe_int (pa_cons pe_int (pa_cons (pe_un un_neg pe_int) (pa_cons pe_bl (pa_cons pe_non (pa_cons pe_str (pa_cons (pe_lst pa_nil) pa_nil)))))))) pa_nil))) pa_nil)) (by rfl))
      (pss_cons (ps_asg (pe_use u__law_bad_lot (by decide) hr (by rfl) (pa_cons (pv 1) (pa_cons (pv 5) (pa_cons (pv 9) pa_nil)))) (pg_tup rfl (pgs_cons (pg_name (i := 12) sc_law.nd rfl (Or.inl rfl)) (pgs_cons (pg_name (i := 13) sc_law.nd rfl (Or.inl rfl)) pgs_nil))))
      (pss_cons (ps_asg (pe_use u__law_bad_lot (by decide) hr (by rfl) (pa_cons (pv 1) (pa_cons (pv 6) (pa_cons (pv 9) pa_nil)))) (pg_tup rfl (pgs_cons (pg_name (i := 14) sc_law.nd rfl (Or.inl rfl)) (pgs_cons (pg_name (i := 15) sc_law.nd rfl (Or.inl rfl)) pgs_nil))))
      (pss_cons (ps_set (i := 16) sc_law.nd rfl (Or.inl rfl) (pe_lst (pa_cons (pe_use u__law_asked (by decide) hr (by rfl) (pa_cons (pv 10) (pa_cons (pv 12) (pa_cons (pv 14) (pa_cons (pv 9) pa_nil))))) (pa_cons (pe_use u__law_asked (by decide) hr (by rfl) (pa_cons (pv 10) (pa_cons (pv 5) (pa_cons (pv 14) (pa_cons (pv 9) pa_nil))))) (pa_cons (pe_use u__law_asked (by decide) hr (by rfl) (pa_cons (pv 10) (pa_cons (pv 12) (pa_cons (pv 14) (pa_cons (pv 11) pa_nil))))) pa_nil)))))
      (pss_one (ps_if (pt_not (pt_val (pe_useG u__law_likeW gd (by decide) hr (by rfl) (pa_cons (pv 16) (pa_cons (pe_lst (pa_cons (pe_tup (pa_cons pe_str (pa_cons (pv 13) pa_nil))) (pa_cons (pe_tup (pa_cons pe_str (pa_cons (pv 15) pa_nil))) (pa_cons (pe_tup (pa_cons pe_str (pa_cons (pv 11) pa_nil))) pa_nil)))) pa_nil))))) (pss_one (ps_ret pe_bl)) pss_nil)))))))))))))))
      h2))))), ?_⟩
  refine ⟨_, rfl, a, ns, rfl, hs, hl, fun H0 m c g s0 ms0 nm ng => ?_⟩
  have keep := fun (H1 : Hp) (k : Kept H0 H1 m g) => sqL_kept hs s0 k nm ng
  refine ⟨_, rfl, m, c, g, _, 4, rfl, ms0, by omega, by omega, by omega, fun H1 d k1 ms1 d0 d1 => ⟨rfl, _, rfl, ?_⟩⟩
  refine if_factB6 (fun v H' => ∃ n : Nat, n < 4 ∧ v = .int ((n + 1 : Nat) : Int) ∧ Kept H0 H' m g ∧ MS H' m c g 2) (fun _ Q k => k _ _ ⟨3, by decide, rfl, k1, ms1.le (by decide)⟩)
    (fun _ Q k => ⟨_, rfl, m, c, g, _, 3, rfl, ms1, by omega, by omega, by omega, fun H2 d2 k2 ms2 e0 e1 => ⟨1, d2, rfl, rfl, k _ _ ⟨d2.toNat, by omega, congrArg V.int (by omega), k1.trans k2, ms2.le (by decide)⟩⟩⟩) ?_
  rintro v H2 ⟨n, n4, rfl, k02, ms2⟩
  have n6 : n < 6 := by omega
  clear d0 d1 ms1 k1 ms0
  refine ⟨_, rfl, n, rfl, n4, fun H3 fa s3 ⟨ys, ef, ey, hy⟩ => ?_⟩
  obtain ⟨W, hW⟩ : ∃ W, (fam n).mergeSort leL = W := ⟨_, rfl⟩
  have mW : ∀ X, X ∈ W ↔ X ∈ fam n := fun X => by rw [← hW]; exact List.mem_mergeSort
  have lW : W.length = (fam n).length := by rw [← hW]; exact List.length_mergeSort _
  have lY : ys.length = (fam n).length := by rw [← lW, ← hW, ← ey, List.length_map]
  have few : (fam n).length ≤ 60 := by have := fam_few n4 (allP n).length; rwa [List.take_length] at this
  have lotW : ∀ X ∈ W, LotT n X := fun X hX => fam_lot n6 ((mW X).mp hX)
  have k03 := k02.trans (Kept.of s3)
  have ms3 := ms2.mono s3
  clear k02 ms2
  refine ⟨_, rfl, n, rfl, n4, fun H4 cl s4 ⟨zs, ez, ezs, hz⟩ => ⟨_, rfl, fa, _, rfl, .inl ⟨sqL (s4 _ _ ef), fun tp ntp => ?_⟩⟩⟩
  have st := same_new (o := .tup (ys.map fun y => V.ref y.2)) ntp
  rw [hW] at ey ezs
  refine ⟨.ref cl, .ref tp, .tuple (W.map fun Y => PyData.tuple (Y.map rowD)), rfl, .tup (sqT (st _ _ ez)) (dp_lots ezs fun y hy => (hz y hy).mono st), .tup (sqT upd_same) (dp_lots ey fun y h => ((hy y h).mono s4).mono st), rfl, (nc_tup (nc_lots n4 lotW)).le (by decide) (by rw [lW]; omega), true, rfl, ?_⟩
  have ef5 := st _ _ (s4 _ _ ef)
  refine ⟨_, rfl, fa, _, rfl, .inl (sqL ef5), ?_⟩
  refine ⟨by show 4 ≤ sizeLine; decide, fun N nN => ?_⟩
  have sN := same_new (o := .lst [V.int 1, .int 4, .int 10, .int 60]) nN
  have at4 : atI [V.int 1, .int 4, .int 10, .int 60] (((n + 1 : Nat) : Int) - 1) = some (.int (((ys.map fun y => V.ref y.2).length : Nat) : Int)) := by
    rw [List.length_map, lY]
    have fl : (fam n).length = [1, 4, 10, 60].getD n 0 := fam_len ⟨n, n4⟩
    rw [fl]
    obtain h | h | h | h : n = 0 ∨ n = 1 ∨ n = 2 ∨ n = 3 := by omega
    all_goals
      subst h
      rfl
  refine ⟨_, rfl, _, _, rfl, rfl, N, _, _, _, rfl, rfl, sqL upd_same, at4, ?_⟩
  refine ⟨rfl, _, rfl, ?_⟩
  rw [show (!decide (V.int (((ys.map fun y => V.ref y.2).length : Nat) : Int) = V.int (((ys.map fun y => V.ref y.2).length : Nat) : Int))) = false from by rw [decide_eq_true rfl]; rfl]
  have k3n := Kept.of (m := m) (g := g) ((s4.trans st).trans sN)
  have s3n := (s4.trans st).trans sN
  have ef := sN _ _ ef5
  generalize upd (upd H4 tp (.tup (ys.map fun y => V.ref y.2))) N (.lst [V.int 1, .int 4, .int 10, .int 60]) = H5 at ef s3n k3n ⊢
  have hy := fun y h => (hy y h).mono s3n
  have ms5 := ms3.mono s3n
  have k05 := k03.trans k3n
  clear at4 sN nN ef5 st ntp hz ez s4 ezs s3n k3n k03 ms3
  obtain ⟨k, hk, k63⟩ : ∃ k : Nat, (if (3 : Int) < (((ns.map V.int).length : Nat) : Int) then (3 : Int) else (((ns.map V.int).length : Nat) : Int)) = ((k : Nat) : Int) ∧ k ≤ 63 := by
    by_cases h : (3 : Int) < (((ns.map V.int).length : Nat) : Int)
    · exact ⟨3, if_pos h, by decide⟩
    · exact ⟨_, if_neg h, by rw [List.length_map]; exact hl⟩
  refine ⟨_, rfl, a, _, rfl, .inl (keep _ k05), _, _, rfl, ?_⟩
  rw [hk]
  refine ⟨1, ((k : Nat) : Int), rfl, rfl, _, rfl, by omega, by omega, for_range (lo := 0) (n := (1 + ((k : Nat) : Int)).toNat)
    (fun i σ H1 => ∃ (y4 y5 y6 y7 y8 y9 y10 y11 y12 y13 y14 y15 y16 y17 y18 : Option V), σ = [some (.ref a), some (.ref m), some (.int ((n + 1 : Nat) : Int)), some (.ref fa), y4, y5, y6, y7, y8, y9, y10, y11, y12, y13, y14, y15, y16, y17, y18] ∧ MS H1 m c g (200 * (i : Nat) + 2) ∧ H1 fa = some (.lst (ys.map fun y => V.ref y.2)) ∧ ∀ y ∈ ys, TL H1 y.2 y.1)
    ⟨none, none, none, none, none, none, none, none, none, none, none, none, none, none, none, rfl, by simpa using ms5, ef, hy⟩ ?_ ?_⟩
  · clear ms5 ef hy k05 s3 keep s0 nm ng hs hl hk
    rintro i σ H1 hi ⟨y4, y5, y6, y7, y8, y9, y10, y11, y12, y13, y14, y15, y16, y17, y18, rfl, ms1, ef, hy⟩
    obtain ⟨b, hb⟩ : ∃ b : Int, 200 * ((i : Nat) : Int) = b := ⟨_, rfl⟩
    have b9 : b ≤ 100000 := by omega
    rw [show 200 * ((i + 1 : Nat) : Int) + 2 = b + 202 by omega]
    rw [hb] at ms1
    -- two of the family
    have fg := (lots_ms (xs := ys.map (·.2)) ms1 (by rw [List.map_map]; exact ef) (fun e => by have := congrArg List.length e; rw [List.length_map, lY] at this; obtain ⟨r, hr⟩ := fam_head (n := n) (allP n); rw [show fam n = famOf n (allP n) from rfl, hr] at this; simp at this)).2
    have yne : ys.map (fun y => V.ref y.2) ≠ [] := fun e => by have := congrArg List.length e; rw [List.length_map, lY] at this; obtain ⟨r, hr⟩ := fam_head (n := n) (allP n); rw [show fam n = famOf n (allP n) from rfl, hr] at this; simp at this
    have fm : fa ≠ m := by
      obtain ⟨cs, gs, j, h1, h2, h3, r⟩ := ms1
      intro e
      rw [e, h1] at ef
      cases ef
    have ly : (ys.map fun y => V.ref y.2).length ≤ 1000000 := by rw [List.length_map]; omega
    refine ⟨_, rfl, _, rfl, m, c, g, _, fa, _, rfl, ms1, by omega, ef, fg, yne, ly, fun H2 x1 k2 ms2 hx1 => ?_⟩
    have ef2 := k2 _ _ ef fm fg
    refine ⟨_, rfl, _, rfl, m, c, g, _, fa, _, rfl, ms2, by omega, ef2, fg, yne, ly, fun H3 x2 k3 ms3 hx2 => ?_⟩
    obtain ⟨⟨L, l⟩, m1, rfl⟩ := List.mem_map.mp hx1
    obtain ⟨⟨M, l2⟩, m2, rfl⟩ := List.mem_map.mp hx2
    refine ⟨by show 2 ≤ sizeLine; decide, fun tb nt => ?_⟩
    have st := same_new (o := .tup [V.ref l, V.ref l2]) nt
    refine ⟨tb, _, rfl, .inl (.inl upd_same), rfl, _, _, rfl, _, [], rfl, rfl, ?_⟩
    have hy3 := fun y h => (k3.lot ms2 (k2.lot ms1 (hy y h))).mono st
    have ef3 := st _ _ (k3 _ _ ef2 fm fg)
    have ms3 := ms3.mono st
    have inW : ∀ {y : LA}, y ∈ ys → y.1 ∈ W := fun {y} h => by rw [← ey]; exact List.mem_map_of_mem h
    have lotL : LotT n L := lotW L (inW m1)
    have lotM : LotT n M := lotW M (inW m2)
    clear hx1 hx2 k2 k3 ef ef2 ms1 ms2 hy nt st
    generalize upd H3 tb (.tup [V.ref l, V.ref l2]) = H4 at hy3 ef3 ms3 ⊢
    refine ⟨_, rfl, _, rfl, _, rfl, l, l2, L, M, n, rfl, hy3 _ m1, hy3 _ m2, lotL, lotM, by omega, fun H5 s5 => ⟨true, rfl, ?_⟩⟩
    have hy5 := fun y h => (hy3 y h).mono s5
    have ef5 := s5 _ _ ef3
    have ms5 := ms3.mono s5
    clear hy3 ef3 ms3 s5
    -- the closed lots around both
    obtain ⟨z, zr, ez, due⟩ := around_split n6 ey mW lotL.1 lotM.1
    have tl5 : TL H5 l L := hy5 _ m1
    have tm5 : TL H5 l2 M := hy5 _ m2
    obtain ⟨ts, el, its⟩ := id tl5
    obtain ⟨us, el2, its2⟩ := id tm5
    have lab : (ts ++ us).length ≤ 100000 := by
      have h1 : ts.length = L.length := its.1
      have h2 : us.length = M.length := its2.1
      have h3 := lotL.few n6
      have h4 := lotM.few n6
      rw [List.length_append]
      omega
    have itb := its.app its2
    obtain ⟨ks, e1, e2, hk⟩ := its_pairs itb
    refine ⟨_, rfl, fa, rfl, ⟨_, sqL ef5⟩, fun G nG => ?_⟩
    refine lc_filL (K := K) (f := fun y : LA => V.ref y.2) (h := fun y : LA => V.ref y.2) (fun y : LA => (L ++ M).all fun x => decide (x ∈ y.1)) ef5 (by omega) nG (fun y H6 s6 hyy N zz => ?_) fun H6 s6 eG => ?_
    · refine ⟨rfl, _, rfl, _, rfl, .inr ⟨l, l2, _, _, rfl, rfl, (show Rd H5 l _ from el).mono s6, (show Rd H5 l2 _ from el2).mono s6, by rw [List.length_map, List.length_map, ← List.length_append]; exact lab, fun H7 pp s7 ep => ⟨pp, rfl, ⟨_, rdT ep⟩, fun G2 nG2 => ?_⟩⟩⟩
      rw [← List.map_append, ← e1, List.map_map] at ep
      have s57 := s6.trans s7
      refine lc_filT (K := K) (f := fun q : AR => V.ref q.1) (h := fun _ => V.int 1) (fun q : AR => !decide (q.2 ∈ y.1)) (rdT ep) ?_ nG2 (fun q H8 s8 hq N2 z2 => ?_) fun H8 s8 eG2 => ?_
      · have : ks.length = (ts ++ us).length := by rw [← e1, List.length_map]
        omega
      · exact ⟨rfl, _, rfl, _, rfl, q.1, y.2, q.2, y.1, rfl, rfl, (hk q hq).mono (s57.trans s8), (hy5 y hyy).mono (s57.trans s8), _, rfl, keepT ⟨fun c => (z2 H8 (Same.refl H8)).1 c, fun c => (z2 H8 (Same.refl H8)).2 c⟩⟩
      · refine ⟨Nat.zero_le _, fun e ne => ?_⟩
        have se := same_new (H := H8) (o := .lst []) ne
        refine ⟨.list ((ks.filter fun q : AR => !decide (q.2 ∈ y.1)).map fun _ => PyData.int 1), .list [], .lst (sqL (se _ _ eG2)) (dpAll_ones _), .lst (sqL upd_same) .nil, shaped_ones _, rfl, _, rfl, ?_⟩
        rw [ones_eqv, show (ks.all fun q : AR => !!decide (q.2 ∈ y.1)) = (L ++ M).all fun x => decide (x ∈ y.1) from by
          rw [← e2, List.all_map]
          refine congrArg (fun z => List.all ks z) (funext fun q => ?_)
          rw [Bool.not_not]
          rfl]
        have s6e := (s7.trans s8).trans se
        exact keepT ⟨fun c => ⟨_, rfl, (zz _ s6e).1 c⟩, fun c => (zz _ s6e).2 c⟩
    rw [ez] at eG
    clear e1 e2 hk itb lab el its el2 its2 nG
    have zin : ∀ y, y ∈ z :: zr → y ∈ ys := fun y h => (List.mem_filter.mp (by rw [ez]; exact h)).1
    have zl : (z :: zr).length ≤ ys.length := by rw [← ez]; exact List.length_filter_le _ _
    have hy6 := fun y h => (hy5 y h).mono s6
    have ef6 := s6 _ _ ef5
    have ms6 := ms5.mono s6
    have tl6 := tl5.mono s6
    have tm6 := tm5.mono s6
    clear hy5 ef5 ms5 tl5 tm5 s6
    -- what they have in common
    have lotZ : LotT n z.1 := lotW _ (inW (zin z List.mem_cons_self))
    obtain ⟨ts, el, its⟩ := hy6 z (zin z List.mem_cons_self)
    refine ⟨_, rfl, G, _, 0, .ref z.2, rfl, rfl, sqL eG, atI_of (j := 0) rfl rfl, z.2, rfl, ⟨_, rdT el⟩, fun D nD => ?_⟩
    refine lc_fil (K := K) (fun x => (z :: zr).all fun y => decide (x ∈ y.1)) el its lotZ.2.2 nD (fun t row H7 s7 _ tr N zz => ?_) fun H7 vs s7 eD iw => ?_
    · refine ⟨rfl, _, rfl, G, rfl, ⟨_, sqL (s7 _ _ eG)⟩, fun G2 nG2 => ?_⟩
      refine lc_filL (K := K) (f := fun y : LA => V.ref y.2) (h := fun _ => V.int 1) (fun y : LA => !decide (row ∈ y.1)) (s7 _ _ eG) (by omega) nG2 (fun y H8 s8 hyy N2 z2 => ?_) fun H8 s8 eG2 => ?_
      · exact ⟨rfl, _, rfl, _, rfl, t, y.2, row, y.1, rfl, rfl, tr.mono s8, (hy6 y (zin y hyy)).mono (s7.trans s8), _, rfl, keepT ⟨fun c => (z2 H8 (Same.refl H8)).1 c, fun c => (z2 H8 (Same.refl H8)).2 c⟩⟩
      · refine ⟨Nat.zero_le _, fun e ne => ?_⟩
        have se := same_new (H := H8) (o := .lst []) ne
        refine ⟨.list (((z :: zr).filter fun y : LA => !decide (row ∈ y.1)).map fun _ => PyData.int 1), .list [], .lst (sqL (se _ _ eG2)) (dpAll_ones _), .lst (sqL upd_same) .nil, shaped_ones _, rfl, _, rfl, ?_⟩
        rw [ones_eqv, show ((z :: zr).all fun y : LA => !!decide (row ∈ y.1)) = (z :: zr).all fun y => decide (row ∈ y.1) from
          congrArg (fun g => List.all (z :: zr) g) (funext fun q => Bool.not_not _)]
        have s8e := s8.trans se
        exact keepT ⟨fun c => ⟨_, rfl, (zz _ s8e).1 c⟩, fun c => (zz _ s8e).2 c⟩
    rw [due] at iw
    refine ⟨D, _, rfl, .inl ⟨sqL eD, fun dt ndt => ?_⟩⟩
    have sd := same_new (o := .tup (vs.map V.ref)) ndt
    have s67 := s7.trans sd
    have tdue : TT (upd H7 dt (.tup (vs.map V.ref))) dt (spanB n L M) := ⟨vs, upd_same, iw.mono sd⟩
    generalize upd H7 dt (.tup (vs.map V.ref)) = H8 at s67 tdue
    clear sd ndt iw eD s7 nD eG el its lotZ
    refine ⟨_, rfl, _, rfl, _, rfl, l, l2, L, M, n, rfl, tl6.mono s67, tm6.mono s67, lotL, lotM, by omega, fun H9 sp s9 tsp => ?_⟩
    refine ⟨_, rfl, .ref sp, .ref dt, .tuple ((spanB n L M).map rowD), rfl, dp_tt tsp, dp_tt (tdue.mono s9), rfl, (nc_lot n6 (turn_lotT n6 _)).le (by decide) (by decide), true, rfl, ?_⟩
    have s69 := s67.trans s9
    have hy9 := fun y h => (hy6 y h).mono s69
    have ef9 := s69 _ _ ef6
    have ms9 := ms6.mono s69
    clear tdue s67 s9 tsp s69 tl6 tm6 hy6 ef6 ms6 due ez zin zl lotL lotM
    -- more doors
    dsimp only [List.set_cons_succ, List.set_cons_zero]
    refine ⟨_, rfl, by show 5 ≤ sizeLine; decide, fun N nN => ?_⟩
    have Nn := ms9.ne nN
    have sN := same_new (H := H9) (o := .lst [V.int 1, .int 2, .int 3, .int 4, .int 5]) nN
    refine ⟨m, c, g, _, N, _, rfl, ms9.mono sN, by omega, upd_same, Nn.2.2, by simp, by show 5 ≤ 1000000; decide, fun Ha x ka msa hx => ?_⟩
    obtain ⟨j, j5, rfl⟩ : ∃ j : Nat, j < 5 ∧ x = .int ((j + 1 : Nat) : Int) := by
      simp only [List.mem_cons, List.mem_nil_iff, or_false] at hx
      rcases hx with rfl | rfl | rfl | rfl | rfl
      · exact ⟨0, by decide, rfl⟩
      · exact ⟨1, by decide, rfl⟩
      · exact ⟨2, by decide, rfl⟩
      · exact ⟨3, by decide, rfl⟩
      · exact ⟨4, by decide, rfl⟩
    have j6 : j < 6 := by omega
    have k9 : Kept H9 Ha m g := (Kept.of sN).trans ka
    clear hx ka sN Nn nN
    refine ⟨_, rfl, _, rfl, m, c, g, _, j, rfl, msa, by omega, j6, fun Hb la La kb msb tla lotA bareA => ?_⟩
    refine ⟨_, rfl, _, rfl, m, c, g, _, j, rfl, msb, by omega, j6, fun Hc lb Lb kc msc tlb lotB bareB => ?_⟩
    have tla := kc.lot msb tla
    have bareA := fun z => (bareA z).kept msb kc
    refine ⟨by show 2 ≤ sizeLine; decide, fun tb nt => ?_⟩
    have st := same_new (H := Hc) (o := .tup [V.ref la, V.ref lb]) nt
    refine ⟨tb, _, rfl, .inl (.inl upd_same), rfl, _, _, rfl, _, [], rfl, rfl, ?_⟩
    have k9 := ((k9.trans kb).trans kc).trans (Kept.of st)
    have tla := tla.mono st
    have tlb := tlb.mono st
    have bareA := fun z => (bareA z).mono st
    have bareB := fun z => (bareB z).mono st
    have msc := msc.mono st
    generalize upd Hc tb (.tup [V.ref la, V.ref lb]) = Hd at k9 tla tlb bareA bareB msc ⊢
    clear st nt kb kc msb msa
    refine ⟨_, rfl, _, rfl, _, rfl, la, lb, La, Lb, j, rfl, tla, tlb, lotA, lotB, j5, fun He se => ⟨true, rfl, ?_⟩⟩
    have k9 := k9.trans (Kept.of se)
    have tla := tla.mono se
    have tlb := tlb.mono se
    have bareA := fun z => (bareA z).mono se
    have bareB := fun z => (bareB z).mono se
    have msc := msc.mono se
    clear se
    -- which, wrong
    dsimp only [List.set_cons_succ, List.set_cons_zero]
    refine ⟨_, rfl, by show 2 ≤ sizeLine; decide, fun N nN => ?_⟩
    have Nn := msc.ne nN
    have sN := same_new (H := He) (o := .lst [V.str "met", .str "spanned"]) nN
    refine ⟨m, c, g, _, N, _, rfl, msc.mono sN, by omega, upd_same, Nn.2.2, by simp, by show 2 ≤ 1000000; decide, fun Hf wh kf msf hwh => ?_⟩
    have hwh : wh = .str "met" ∨ wh = .str "spanned" := by
      simp only [List.mem_cons, List.mem_nil_iff, or_false] at hwh
      exact hwh
    have k9 := (k9.trans (Kept.of sN)).trans kf
    have tla := kf.lot (msc.mono sN) (tla.mono sN)
    have tlb := kf.lot (msc.mono sN) (tlb.mono sN)
    have bareA := fun z => ((bareA z).mono sN).kept (msc.mono sN) kf
    have bareB := fun z => ((bareB z).mono sN).kept (msc.mono sN) kf
    clear kf sN Nn nN msc
    refine ⟨_, rfl, 1, rfl, Nat.zero_le _, fun z nz => ⟨by show 7 ≤ sizeLine; decide, fun N nN => ?_⟩⟩
    have zn := msf.ne nz
    have s6 := same_new (H := Hf) (o := .lst []) nz
    have Nn := (msf.mono s6).ne nN
    have sN := s6.trans (same_new (o := .lst [V.int 0, .int 7, .int (-1), .bl true, .non, .str "3", .ref z]) nN)
    have ez := (same_new (o := .lst [V.int 0, .int 7, .int (-1), .bl true, .non, .str "3", .ref z]) nN) _ _ (upd_same (H := Hf) (a := z) (o := .lst []))
    refine ⟨m, c, g, _, N, _, rfl, msf.mono sN, by omega, upd_same, Nn.2.2, by simp, by show 7 ≤ 1000000; decide, fun H7 u k7 ms7 hu => ⟨_, _, rfl, ?_⟩⟩
    obtain ⟨d, ku, iu, nwu⟩ : ∃ d : PyData, (∀ H', Kept H7 H' m g → OddV H' u ∧ Dp K H' u d) ∧ inV u 1 6 = false ∧ Nw 1 200 d := by
      have e7 := k7 _ _ ez zn.1 zn.2.2
      simp only [List.mem_cons, List.mem_nil_iff, or_false] at hu
      rcases hu with rfl | rfl | rfl | rfl | rfl | rfl | rfl
      · exact ⟨.int 0, fun _ _ => ⟨.int _, .int _⟩, rfl, (nw_int (by decide)).le (by decide) (by decide)⟩
      · exact ⟨.int 7, fun _ _ => ⟨.int _, .int _⟩, rfl, (nw_int (by decide)).le (by decide) (by decide)⟩
      · exact ⟨.int (-1), fun _ _ => ⟨.int _, .int _⟩, rfl, (nw_int (by decide)).le (by decide) (by decide)⟩
      · exact ⟨.bool true, fun _ _ => ⟨.bl _, .bl _⟩, rfl, ⟨rfl, rfl, by decide, rfl, by decide⟩⟩
      · exact ⟨.none, fun _ _ => ⟨.non, .non⟩, rfl, ⟨rfl, rfl, by decide, rfl, by decide⟩⟩
      · exact ⟨.str "3", fun _ _ => ⟨.str _, .str _⟩, rfl, ⟨by decide +kernel, rfl, by decide, by decide +kernel, by decide +kernel⟩⟩
      · exact ⟨.list [], fun _ k => ⟨.lst (k _ _ e7 zn.1 zn.2.2), .lst (sqL (k _ _ e7 zn.1 zn.2.2)) .nil⟩, rfl, ⟨rfl, rfl, by decide, rfl, by decide⟩⟩
    have k9 := (k9.trans (Kept.of sN)).trans k7
    have tla := k7.lot (msf.mono sN) (tla.mono sN)
    have tlb := k7.lot (msf.mono sN) (tlb.mono sN)
    have bareA := fun z => ((bareA z).mono sN).kept (msf.mono sN) k7
    have bareB := fun z => ((bareB z).mono sN).kept (msf.mono sN) k7
    clear hu k7 ez sN Nn nN s6 zn nz msf
    -- two bad lots
    refine ⟨_, rfl, _, rfl, _, rfl, m, c, g, _, la, La, j, rfl, ms7, by omega, tla, lotA, bareA, j6, fun H8 tb v word k8 ms8 etb lv => ?_⟩
    refine ⟨tb, _, rfl, .inl (.inl etb), rfl, _, _, rfl, _, [], rfl, rfl, ?_⟩
    have k9 := k9.trans k8
    have ku := fun H' k => ku H' (k8.trans k)
    have tla := k8.lot ms7 tla
    have tlb := k8.lot ms7 tlb
    have bareB := fun z => (bareB z).kept ms7 k8
    clear k8 ms7 etb bareA
    refine ⟨_, rfl, _, rfl, _, rfl, m, c, g, _, lb, Lb, j, rfl, ms8, by omega, tlb, lotB, bareB, j6, fun Hg tb v2 word2 kg msg etb lv2 => ?_⟩
    refine ⟨tb, _, rfl, .inl (.inl etb), rfl, _, _, rfl, _, [], rfl, rfl, ?_⟩
    have k9 := k9.trans kg
    have ku := fun H' (s' : Same Hg H') => ku H' (kg.trans (Kept.of s'))
    have tla := kg.lot ms8 tla
    have lv := lv.kept kg
    clear kg ms8 etb bareB tlb
    have ws := word_short lv.here.word
    have ws2 := word_short lv2.here.word
    -- asked three times
    dsimp only [List.set_cons_succ, List.set_cons_zero]
    refine ⟨_, rfl, _, rfl, _, rfl, _, rfl, v, v2, _, .inr word, ask_of hwh (.inr (.inl ⟨j, word, rfl, j6, lv.here, rfl⟩)), fun H8 r1 s8 e1 => ?_⟩
    refine ⟨_, rfl, _, rfl, _, rfl, _, rfl, .ref la, v2, _, .inr word2, ask_of hwh (.inr (.inr ⟨la, La, j, word2, rfl, rfl, tla.mono s8, lotA, j6, (lv2.same s8).here, rfl⟩)), fun Hh r2 s9 e2 => ?_⟩
    have s79 := s8.trans s9
    refine ⟨_, rfl, _, rfl, _, rfl, _, rfl, v, v2, u, .inl u, ask_of hwh (.inl ⟨(ku _ s79).1, iu, rfl⟩), fun Hi r3 sa e3 => ?_⟩
    have s7a := s79.trans sa
    refine ⟨by show 3 ≤ sizeLine; decide, fun N nN => ?_⟩
    have sN := same_new (H := Hi) (o := .lst [V.ref r1, .ref r2, .ref r3]) nN
    have e1 := sN _ _ (sa _ _ (s9 _ _ e1))
    have e2 := sN _ _ (sa _ _ e2)
    have e3 := sN _ _ e3
    have eN : (upd Hi N (.lst [V.ref r1, .ref r2, .ref r3])) N = some (.lst [V.ref r1, .ref r2, .ref r3]) := upd_same
    have s7N := s7a.trans sN
    clear s8 s9 sa s79 s7a
    generalize upd Hi N (.lst [V.ref r1, .ref r2, .ref r3]) = Hj at e1 e2 e3 eN s7N ⊢
    clear sN nN
    refine ⟨_, rfl, ?_⟩
    refine ⟨_, rfl, by show 2 ≤ sizeLine; decide, fun c1 m1 => ⟨_, rfl, by show 2 ≤ sizeLine; decide, fun c2 m2 => ⟨_, rfl, by show 2 ≤ sizeLine; decide, fun c3 m3 => ⟨by show 3 ≤ sizeLine; decide, fun M mM => ?_⟩⟩⟩⟩
    have q1 := same_new (o := .tup [V.str "lot", .str word]) m1
    have q2 := same_new (o := .tup [V.str "lot", .str word2]) m2
    have q3 := same_new (o := .tup [V.str "number", u]) m3
    have q4 := same_new (o := .lst [V.ref c1, .ref c2, .ref c3]) mM
    have w3 := q3.trans q4
    have w2 := q2.trans w3
    have w1 := q1.trans w2
    have b1 := w2 _ _ (upd_same (H := Hj) (a := c1) (o := .tup [V.str "lot", .str word]))
    have b2 := w3 _ _ (upd_same (a := c2) (o := .tup [V.str "lot", .str word2]))
    have b3 := q4 _ _ (upd_same (a := c3) (o := .tup [V.str "number", u]))
    have e1 := w1 _ _ e1
    have e2 := w1 _ _ e2
    have e3 := w1 _ _ e3
    have eN := w1 _ _ eN
    have s7z := s7N.trans w1
    have eM := upd_same (H := upd (upd (upd Hj c1 (.tup [V.str "lot", .str word])) c2 (.tup [V.str "lot", .str word2])) c3 (.tup [V.str "number", u])) (a := M) (o := .lst [V.ref c1, .ref c2, .ref c3])
    have du := (ku _ s7z).2
    have nwW : Nw 2 222 (.tuple [.str "lot", .str word]) := (nw_two (by decide +kernel) (by decide +kernel) (show Nw 1 20 (.str word) from ⟨rfl, rfl, Nat.zero_le 1, ws.1, ws.2.1⟩)).le (by decide) (by decide)
    have nwV : Nw 2 222 (.tuple [.str "lot", .str word2]) := (nw_two (by decide +kernel) (by decide +kernel) (show Nw 1 20 (.str word2) from ⟨rfl, rfl, Nat.zero_le 1, ws2.1, ws2.2.1⟩)).le (by decide) (by decide)
    have nwU : Nw 2 222 (.tuple [.str "number", d]) := nw_two (by decide +kernel) (by decide +kernel) nwu
    refine ⟨.ref N, .ref M, .list [.tuple [.str "lot", .str word], .tuple [.str "lot", .str word2], .tuple [.str "number", d]], rfl,
      .lst (sqL eN) (.cons (.tup (sqT e1) (.cons (.str _) (.cons (.str _) .nil))) (.cons (.tup (sqT e2) (.cons (.str _) (.cons (.str _) .nil))) (.cons (.tup (sqT e3) (.cons (.str _) (.cons du .nil))) .nil))),
      .lst (sqL eM) (.cons (.tup (sqT b1) (.cons (.str _) (.cons (.str _) .nil))) (.cons (.tup (sqT b2) (.cons (.str _) (.cons (.str _) .nil))) (.cons (.tup (sqT b3) (.cons (.str _) (.cons du .nil))) .nil))), rfl,
      (nw_three nwW nwV nwU).le (by decide) (by decide), true, rfl, ?_⟩
    have k9 := k9.trans (Kept.of s7z)
    exact ⟨_, _, _, _, _, _, _, _, _, _, _, _, _, _, _, rfl, (msg.mono s7z).le (by omega), k9 _ _ ef9 fm fg, fun y h => k9.lot ms9 (hy9 y h)⟩
  · rintro σ H1 ⟨y4, y5, y6, y7, y8, y9, y10, y11, y12, y13, y14, y15, y16, y17, y18, rfl, ms1, _⟩
    exact k2 _ _ _ ⟨m, c, g, _, _, _, _, _, _, _, _, _, _, _, _, _, _, _, _, _, _, _, rfl, ms1, by omega, fun H' => q H'⟩
end
end KQ
namespace KQ
open PySem PySem.Spec PyProof.Rows L2 KR
section
variable {P : Program} {w : World} {K : PySem.W.Frag} {mg : Str → Option Value} {h : Heap} {Goal : Prop}
/-- a def that the top has -/
theorem step_def {x : Str} {st : Stmt} {f : Addr} {oc : Value} {od an : Option Addr} {osl : Array (Option Value)} {kV doc pm cdv ct : Value} (X : K.In h) (G : h.Ns mainGlobals mg)
    (a : PySem.W.nsIn K mainGlobals x = some (some (.ref f))) (l : K.lookup f = some ⟨oc, od, .func (PySem.W.fnOf x x (defArgs st) (defBody st) (defScope st) .none kV doc pm an cdv ct), osl⟩)
    (c : PySem.W.codeIn K cdv x = true) (k : PySem.W.keepIn K (.ref f) = true) (n : DefAt K mg x st → Goal) : Goal :=
  n ⟨f, _, fun_mk (st := st) l c k, PySem.W.mg_of X G a⟩
theorem step_cst {x : Str} {v : Int} {t : Tok} (X : K.In h) (G : h.Ns mainGlobals mg) (a : PySem.W.nsIn K mainGlobals x = some (some (.int v t))) (n : Cst mg x v → Goal) : Goal := n ⟨t, PySem.W.mg_of X G a⟩
theorem step_none {x : Str} (X : K.In h) (G : h.Ns mainGlobals mg) (a : PySem.W.nsIn K mainGlobals x = some none) (n : mg x = none → Goal) : Goal := n (PySem.W.mg_none_of X G a)
theorem step_cls {x : Str} {C : Addr} (X : K.In h) (G : h.Ns mainGlobals mg) (aC : PySem.W.nsIn K mainGlobals x = some (some (.ref C))) (pg : PySem.W.plainGet K C Str.empty = true) (hd : PySem.W.hasDictIn K C = true)
    (po : PySem.W.plainOver K C = true) (sa : PySem.W.findIn K (.ref C) "__setattr__" = some (some (.builtin "object.__setattr__"))) (mk : PySem.W.makesIn K C = true) (kc : PySem.W.keepIn K (.ref C) = true)
    (n : Cls K C → mg x = some (.ref C) → PySem.W.makesIn K C = true → PySem.W.keepIn K (.ref C) = true → Goal) : Goal := n ⟨pg, hd, po, sa⟩ (PySem.W.mg_of X G aC) mk kc
theorem step_init {q : Str} {st : Stmt} {C f : Addr} {oc : Value} {od an : Option Addr} {osl : Array (Option Value)} {kV doc pm cdv ct : Value}
    (a : PySem.W.findIn K (.ref C) "__init__" = some (some (.ref f))) (i : PySem.W.isFn K (.ref f) = true) (l : K.lookup f = some ⟨oc, od, .func (PySem.W.fnOf "__init__" q (defArgs st) (defBody st) (defScope st) .none kV doc pm an cdv ct), osl⟩)
    (c : PySem.W.codeIn K cdv q = true) (k : PySem.W.keepIn K (.ref f) = true) (mk : PySem.W.makesIn K C = true) (kc : PySem.W.keepIn K (.ref C) = true) (n : IAt K C q st → Goal) : Goal :=
  n ⟨f, _, fun_mk (st := st) l c k, ⟨mk, a, i, kc⟩⟩
theorem step_meth {m q : Str} {st : Stmt} {C f : Addr} {oc : Value} {od an : Option Addr} {osl : Array (Option Value)} {kV doc pm cdv ct : Value}
    (_X : Cls K C) (a : PySem.W.findIn K (.ref C) m = some (some (.ref f))) (i : PySem.W.isFn K (.ref f) = true) (l : K.lookup f = some ⟨oc, od, .func (PySem.W.fnOf m q (defArgs st) (defBody st) (defScope st) .none kV doc pm an cdv ct), osl⟩)
    (c : PySem.W.codeIn K cdv q = true) (k : PySem.W.keepIn K (.ref f) = true) (n : MAt K C m q st → Goal) : Goal :=
  n ⟨f, _, fun_mk (st := st) l c k, ⟨a, i, k⟩⟩
theorem step_noattr {x : Str} {C : Addr} (_X : Cls K C) (a : PySem.W.findIn K (.ref C) x = some none) (n : NoAttr K C x → Goal) : Goal := n a
end
end KQ
/-! own errors of the text, told by the written part -/
namespace KQ
open PySem PySem.Spec PyProof.Rows L2 KR
structure ErrK (P : Program) (K : PySem.W.Frag) (mg : Str → Option Value) (x : Str) (C : Addr) (fld : Str) : Prop where
  T : OexC K C
  ini : ∃ fI fd p, (∀ (w : World) (base : Heap), FnOk P w K mg base CX0 1 fI fd ["self", p] (spIni C fld)) ∧ PySem.W.findIn K (.ref C) "__init__" = some (some (.ref fI)) ∧ PySem.W.typeIn K (.ref fI) = some (.type "function") ∧ Binds K fd ["self", p] []
  hm : mg x = some (.ref C)
  xf : XfC K C
  nf : PySem.W.findIn K (.ref C) fld = some none
theorem ErrK.err {P : Program} {w : World} {K : PySem.W.Frag} {mg : Str → Option Value} {base : Heap} {x fld : Str} {C : Addr} (e : ErrK P K mg x C fld) : ErrC P w K mg base x C fld :=
  ⟨e.T, let ⟨fI, fd, p, F, a, b, c⟩ := e.ini; ⟨fI, fd, p, F w base, a, b, c⟩, e.hm, e.xf, e.nf⟩
section
variable {P : Program} {K : PySem.W.Frag} {mg : Str → Option Value} {h : Heap} {Goal : Prop}
theorem step_err {f cc cda C : Addr} {name qual fld x msg cx : Str} {params : Arguments} {scope : Scope} {dV kV doc pm ct oc ccl cl : Value} {an od cdd cld : Option Addr} {osl ccs csl : Array (Option Value)} {vs0 : Array Value} {file : Str} {tf : Tok} {ar : Arg}
    {j : Nat} {p0 p1 p2 p3 p4 p5 q1 q2 q3 q4 : Pos} {nm q : Str} {N : Addr} {bs bm : List Value} {sn : List Str} {sub : List Value} {ab : Bool} {col : Option Bool} {dd : Option Addr} {k0 k1 k2 k3 k5 : Option Value} {pl : Sem Bool}
    (X : K.In h) (G : h.Ns mainGlobals mg) (hsm : mg "super" = none)
    (aC : PySem.W.nsIn K mainGlobals cx = some (some (.ref C)))
    (lC : K.lookup C = some (excClassObj nm q C N bs bm true sn sub ab col dd k0 k1 k2 k3 k5 "ValueError.__new__")) (rv : PySem.HandSPX.refsVE bm = true)
    (sa : PySem.W.findIn K (.ref C) "__setattr__" = some (some (.builtin "object.__setattr__"))) (exC : PySem.W.subIn K (.ref C) (.type "BaseException") = some true) (tyC : PySem.W.typeIn K (.ref C) = some (.type "type")) (kC : PySem.W.keepIn K (.ref C) = true)
    (iC : PySem.W.findIn K (.ref C) "__init__" = some (some (.ref f))) (tI : PySem.W.typeIn K (.ref f) = some (.type "function"))
    (lk : K.lookup f = some ⟨oc, od, .func (PySem.W.ksFn name qual params (iniBody msg fld x j p0 p1 p2 p3 p4 p5 q1 q2 q3 q4) scope dV kV doc pm an (.ref cda) ct cc), osl⟩)
    (hcd : PySem.W.codeIn K (.ref cda) qual = true) (hcode : K.lookup cda = some ⟨ccl, cdd, .fields vs0, ccs⟩) (hvs : vs0[2]? = some (.str file tf)) (hfile : ((P.main.file : Str) == file) = true)
    (htop : (P.main.scope.names.lookup ("super" : Str)).isSome = false) (hcell : K.lookup cc = some ⟨cl, cld, .cell (some (.ref C)), csl⟩)
    (hsup : PySem.W.ks_superIn K C C "__init__" = some (some (.builtin "ValueError.__init__"))) (hV : PySem.W.subIn K (.ref C) (.type "ValueError") = some true) (hmro : PySem.W.mroIn K C (.ref C) = some true)
    (hop : PySem.W.nsIn K cStatics "thirdparty.any" = some none) (hfa : PySem.W.findIn K (.ref C) fld = some none)
    (hp : (params.posonlyargs ++ params.args).head? = some ar) (har : ar.arg = "self") (hx : ¬ (x = "self")) (hxd : (x == ("__debug__" : Str)) = false) (hxc : (x == ("__classdict__" : Str)) = false)
    (hk : scope.kind = .function) (hco : scope.isCoroutine = false) (hgen : scope.isGenerator = false)
    (l1 : scope.names.lookup ("self" : Str) = some .local) (l2 : scope.names.lookup x = some .local) (l3 : scope.names.lookup ("__class__" : Str) = some .free) (l4 : scope.names.lookup ("super" : Str) = some .globalImplicit)
    (hev : ∀ L, eval (.Call (.Attribute (.Call (.Name "super" p0) [] [] p1) "__init__" p2) [.Constant (.str msg) j p3] [] p4) (PySem.W.ksEnv qual scope L f (.ref cda) cc) = (do
      let ov ← attributeBase (.Call (.Name "super" p0) [] [] p1) "__init__" (PySem.W.ksEnv qual scope L f (.ref cda) cc) (eval (.Call (.Name "super" p0) [] [] p1) (PySem.W.ksEnv qual scope L f (.ref cda) cc))
      standAt p2.atName
      let (fn, first) ← holding [ov] (getMethod ov "__init__" pl)
      callWith p4 fn first (backTo p4 (starEach [.Constant (.str msg) j p3] (PySem.W.ksEnv qual scope L f (.ref cda) cc))) []))
    (l5 : ∀ y ∈ scope.names, y.2 ≠ .cell) (l6 : ∀ y ∈ scope.names, y.2 = .free → y.1 = "__class__")
    (hb : ∀ us : List Value, us.length = 2 → bindArgs (PySem.W.ksFn name qual params (iniBody msg fld x j p0 p1 p2 p3 p4 p5 q1 q2 q3 q4) scope dV kV doc pm an (.ref cda) ct cc) ⟨us, []⟩ = pure ((["self", x] : List Str).zip us))
    (ga : PySem.W.findIn K (.ref C) "__getattribute__" = some (some (.builtin "BaseException.__getattribute__"))) (gg : PySem.W.findIn K (.ref C) "__getattr__" = some none) (hdC : PySem.W.hasDictIn K C = true)
    (n : ErrK P K mg cx C fld → Goal) : Goal :=
  have T : OexC K C := ⟨⟨nm, q, N, bs, bm, sn, sub, ab, col, dd, k0, k1, k2, k3, k5, lC, rv⟩, sa, exC, tyC, kC⟩
  n ⟨T, ⟨f, _, x, fun w base => fn_ini T lk hcd hcode hvs hfile htop hcell hsup hV hmro hop hsm hfa hp har hx hxd hxc hk hco hgen l1 l2 l3 l4 hev l5 l6, iC, tI, Binds.all hb⟩, PySem.W.mg_of X G aC, ⟨ga, gg, exC, hdC⟩, hfa⟩
theorem step_exm1 {x fx : Str} {A : Addr} (eA : ErrK P K mg x A fx) (h1 : PySem.W.subIn K (.ref A) (.ref A) = some true) (n : PySem.W.exmOne K (.ref A) (.ref A) = some true → Goal) : Goal :=
  n (PySem.W.exm_ref eA.xf.exC eA.xf.hdC eA.T.tyC h1)
/-- which clause takes which of two own errors -/
theorem step_exm {x y fx fy : Str} {A B : Addr} (eA : ErrK P K mg x A fx) (eB : ErrK P K mg y B fy) (h1 : PySem.W.subIn K (.ref A) (.ref A) = some true) (h2 : PySem.W.subIn K (.ref B) (.ref A) = some false) (h3 : PySem.W.subIn K (.ref B) (.ref B) = some true)
    (n : ExM K A B → Goal) : Goal :=
  n ⟨PySem.W.exm_ref eA.xf.exC eA.xf.hdC eA.T.tyC h1, PySem.W.exm_ref eA.xf.exC eA.xf.hdC eA.T.tyC h2, PySem.W.exm_ref eB.xf.exC eB.xf.hdC eB.T.tyC h3⟩
end
end KQ
namespace KQ
open PySem PySem.Spec PyProof.Rows L2 KR KM StX
section
variable {P : Program} {w : World} {K : PySem.W.Frag} {mg : Str → Option Value} {base : Heap}
structure Defs (K : PySem.W.Frag) (mg : Str → Option Value) : Prop where
  d_is_integer : DefAt K mg "is_integer" s_is_integer
  d_is_integer_within : DefAt K mg "is_integer_within" s_is_integer_within
  d_is_tuple_within : DefAt K mg "is_tuple_within" s_is_tuple_within
  d_first_wrong_block : DefAt K mg "first_wrong_block" s_first_wrong_block
  d_is_parting : DefAt K mg "is_parting" s_is_parting
  d_block_count : DefAt K mg "block_count" s_block_count
  d_partings_of_doors : DefAt K mg "partings_of_doors" s_partings_of_doors
  d_partings_into : DefAt K mg "partings_into" s_partings_into
  d_need_lot_doors : DefAt K mg "need_lot_doors" s_need_lot_doors
  d_lot_fault : DefAt K mg "lot_fault" s_lot_fault
  d_look_at_lot : DefAt K mg "look_at_lot" s_look_at_lot
  d_need_lot : DefAt K mg "need_lot" s_need_lot
  d_has_no_ring : DefAt K mg "has_no_ring" s_has_no_ring
  d_has_no_rings : DefAt K mg "has_no_rings" s_has_no_rings
  d_turned_lot : DefAt K mg "turned_lot" s_turned_lot
  d_turned : DefAt K mg "turned" s_turned
  d_closed_lot : DefAt K mg "closed_lot" s_closed_lot
  d_closed_lots : DefAt K mg "closed_lots" s_closed_lots
  d_met : DefAt K mg "met" s_met
  d_spanned : DefAt K mg "spanned" s_spanned
  d__law_mixed : DefAt K mg "_law_mixed" s__law_mixed
  d__law_folded : DefAt K mg "_law_folded" s__law_folded
  d__law_draw : DefAt K mg "_law_draw" s__law_draw
  d__law_begun : DefAt K mg "_law_begun" s__law_begun
  d__law_like : DefAt K mg "_law_like" s__law_like
  d__law_of : DefAt K mg "_law_of" s__law_of
  d__law_numbered : DefAt K mg "_law_numbered" s__law_numbered
  d__law_partings : DefAt K mg "_law_partings" s__law_partings
  d__law_parting : DefAt K mg "_law_parting" s__law_parting
  d__law_root : DefAt K mg "_law_root" s__law_root
  d__law_meet : DefAt K mg "_law_meet" s__law_meet
  d__law_met_all : DefAt K mg "_law_met_all" s__law_met_all
  d__law_lot_from : DefAt K mg "_law_lot_from" s__law_lot_from
  d__law_some_lot : DefAt K mg "_law_some_lot" s__law_some_lot
  d__law_bad_lot : DefAt K mg "_law_bad_lot" s__law_bad_lot
  d__law_family : DefAt K mg "_law_family" s__law_family
  d__law_asked : DefAt K mg "_law_asked" s__law_asked
  d__law_common : DefAt K mg "_law_common" s__law_common
  d__law_right_pair : DefAt K mg "_law_right_pair" s__law_right_pair
  c_MOST_DOORS : Cst mg "MOST_DOORS" 60
  c_MOST_LOT_DOORS : Cst mg "MOST_LOT_DOORS" 6
  c_MOST_CLOSED_DOORS : Cst mg "MOST_CLOSED_DOORS" 4
theorem calls {CL : Addr} {CN : Addr} (D : Defs K mg) (T : Bt mg) (eL : ErrK P K mg "BadLot" CL "word") (eN : ErrK P K mg "BadNumber" CN "value") (X : ExM K CL CN) : Calls P w K mg base := by
  have eL := eL.err (w := w) (base := base)
  have eN := eN.err (w := w) (base := base)
  have u_is_integer := ok_is_integer (P := P) (w := w) (base := base) D.d_is_integer T
  have u_within := ok_is_integer_within D.d_is_integer_within T u_is_integer
  have u_withinA := ok_is_integer_withinA (P := P) (w := w) (base := base) D.d_is_integer_within T (ok_is_integerA (P := P) (w := w) (base := base) D.d_is_integer T)
  have u_tw := ok_is_tuple_within (P := P) (w := w) (base := base) D.d_is_tuple_within T
  have u_twN := ok_is_tuple_withinN (P := P) (w := w) (base := base) D.d_is_tuple_within T
  have u_fw := ok_first_wrong_block (P := P) (w := w) (base := base) D.d_first_wrong_block T
  have u_fwA := ok_first_wrong_blockA (P := P) (w := w) (base := base) D.d_first_wrong_block T
  have u_fwB := ok_first_wrong_blockB (P := P) (w := w) (base := base) D.d_first_wrong_block T
  have u_ispar := ok_is_parting D.d_is_parting T D.c_MOST_DOORS u_tw u_fw
  have u_isparA := ok_is_partingA D.d_is_parting T D.c_MOST_DOORS u_tw u_twN u_fwA u_fwB
  have u_block_count := ok_block_count (P := P) (w := w) (base := base) D.d_block_count T
  have u_pofd := ok_partings_of_doors (P := P) (w := w) (base := base) D.d_partings_of_doors T
  have u_into := ok_partings_into (P := P) (w := w) (base := base) D.d_partings_into T
  have u_ring := ok_has_no_ring D.d_has_no_ring T u_block_count
  have u_rings := ok_has_no_rings D.d_has_no_rings T u_ring
  have u_turned_lot := ok_turned_lot D.d_turned_lot T u_block_count u_pofd u_into u_rings
  have u_closed_lot := ok_closed_lot D.d_closed_lot T u_turned_lot
  have u_doors := ok_need_lot_doors D.d_need_lot_doors T D.c_MOST_LOT_DOORS u_within
  have u_fault := ok_lot_fault D.d_lot_fault T u_ispar
  have u_look := ok_look_at_lot D.d_look_at_lot T u_fault
  have u_need := ok_need_lot D.d_need_lot T u_doors u_look
  have u_turned := ok_turned D.d_turned T u_need u_turned_lot
  have u_met := ok_met D.d_met T u_need
  have u_spanned := ok_spanned D.d_spanned T u_need u_closed_lot
  have u_closed_lots := ok_closed_lots D.d_closed_lots T D.c_MOST_CLOSED_DOORS u_within u_turned_lot u_pofd
  have ux_doors := ok_need_lot_doorsX D.d_need_lot_doors T eN D.c_MOST_LOT_DOORS u_withinA
  have ux_look := ok_look_at_lotX D.d_look_at_lot T eL (ok_lot_faultX D.d_lot_fault T u_isparA)
  have ux_need := ok_need_lotM D.d_need_lot T ux_doors u_doors u_look ux_look
  have ux_met := ok_metX D.d_met T ux_need
  have ux_spanned := ok_spannedX D.d_spanned T ux_need u_closed_lot
  have ux_closed_lots := ok_closed_lotsX D.d_closed_lots T eN D.c_MOST_CLOSED_DOORS u_withinA u_turned_lot u_pofd
  have u_mixed := ok_mixed (P := P) (w := w) (base := base) D.d__law_mixed T
  have u_draw := ok_draw D.d__law_draw T u_mixed
  have u_folded := ok_folded (P := P) (w := w) (base := base) D.d__law_folded T
  have u_lnumL := ok_lnumL (P := P) (w := w) (base := base) D.d__law_numbered T
  have u_of := ok_ofA D.d__law_of T u_draw
  have u_ofT := ok_ofT D.d__law_of T u_draw
  have u_lparting := ok_lparting D.d__law_parting T u_draw u_lnumL
  have u_lparts := ok_lparts (P := P) (w := w) (base := base) D.d__law_partings T
  have u_root := ok_root (P := P) (w := w) (base := base) D.d__law_root T
  have u_lmeet := ok_law_meet D.d__law_meet T u_root
  have u_metL := ok_met_allL D.d__law_met_all T u_lparts u_lmeet
  have u_metA := ok_met_all D.d__law_met_all T u_lparts u_lmeet
  have u_from := ok_lot_from (P := P) (w := w) (base := base) D.d__law_lot_from T
  have u_like := ok_like (P := P) (w := w) (base := base) D.d__law_like T
  have u_common := ok_common (P := P) (w := w) (base := base) D.d__law_common T
  exact ⟨ok_begunF D.d__law_begun T u_folded, u_draw, ok_family D.d__law_family T u_lparts u_lmeet, u_like, ok_likeW D.d__law_like T, u_closed_lots, u_of,
    ok_right_pair D.d__law_right_pair T u_from u_metA u_like u_met u_spanned u_common u_turned u_lparts, u_spanned, ok_some_lot D.d__law_some_lot T u_draw u_lparting u_lparts u_from u_metL u_ofT,
    ok_bad_lot D.d__law_bad_lot T u_draw u_lparting u_of u_ofT, ok_asked2 D.d__law_asked T X eL eN ux_met ux_spanned ux_closed_lots⟩
theorem finish {l : PySem.W.OpenLaw} {fa : Addr} {CL : Addr} {CN : Addr} (hfa : mg "law" = some (.ref fa)) (DL : DefAt K mg "law" s_law) (D : Defs K mg) (T : Bt mg) (eL : ErrK l.prog K mg "BadLot" CL "word") (eN : ErrK l.prog K mg "BadNumber" CN "value") (X : ExM K CL CN) :
    ∃ fd : FuncData, (∀ (s : Shared) (u : Value), BindsTo s fd ⟨[u], []⟩ [("script", u)]) ∧ ∀ base : Heap, K.In base → base.Ns mainGlobals mg → FnG l.prog w K mg base 10 fa fd ["script"] (spLaw K) := by
  obtain ⟨f, fd, F, hm⟩ := DL
  have e := hfa.symm.trans hm
  cases e
  have F' := F
  obtain ⟨oc, od, kV, doc, pm, an, cdv, ct, osl, rfl, lk, hcd⟩ := F'.ex
  exact ⟨_, fun s v => .of_eq rfl, fun base _ _ => fn_law F T (calls D T eL eN X)⟩
theorem walk {l : PySem.W.OpenLaw} {q : Program} {loose : List Str} {XP : (Str → Option Value) → Heap → Prop} {YP : World → Heap → Prop} {d : DefRec} {K : Params → PySem.W.Frag} (hn : l.most = some 63) (hdf : d.params.defaults = [])
    (hY : ∀ (w : World) (h : Heap), YP w h → (K w.params).In h)
    (F : ∀ (w : World) (mg : Str → Option Value) (fa : Addr) (h : Heap), (K w.params).In h → h.Ns mainGlobals mg → mg d.name = some (.ref fa) →
      ∃ fd : FuncData, (∀ (s : Shared) (u : Value), BindsTo s fd ⟨[u], []⟩ [("script", u)]) ∧ ∀ base : Heap, (K w.params).In base → base.Ns mainGlobals mg → FnG l.prog w (K w.params) mg base 10 fa fd ["script"] (spLaw (K w.params))) :
    PySem.W.WalkO q loose XP YP l.row.toRowW d [] (fun f vs => PySem.call f vs) :=
  KR.walk_ofG (n := 63) (k := 10) (x := "script") (sp := fun w => spLaw (K w.params)) hn (by decide) hdf ⟨rfl, by decide, by decide⟩ hY F (fun _ _ a ns hl _ hS => ⟨a, ns, rfl, hS, hl, fun _ => rfl⟩)
end
end KQ
open PySem PySem.W PyProof.Rows
set_option maxRecDepth 100000 in
set_option maxHeartbeats 0 in
theorem PySem.Challenge.cw_fittingdoors_k16_whole_closed_lots_holds : PySem.Challenge.rw_fittingdoors_k16_whole_closed_lots.Holds := by
  w_on; o_law; k_head; (case hw => w_witness2)
  k_fill
  refine KQ.walk (l := PySem.Challenge.rw_fittingdoors_k16_whole_closed_lots) rfl rfl (fun w h Y => PySem.W.kIn_of Y) ?F
  case F =>
    intro w mg fa h KX G hmg
    refine' KQ.step_def (x := "is_integer") (st := KQ.s_is_integer) KX G ?a1 ?l1 ?c1 ?k1 ?n1
    (case a1 => k_is); (case l1 => k_is); (case c1 => k_is); (case k1 => k_is)
    intro d_is_integer
    refine' KQ.step_def (x := "is_integer_within") (st := KQ.s_is_integer_within) KX G ?a2 ?l2 ?c2 ?k2 ?n2
    (case a2 => k_is); (case l2 => k_is); (case c2 => k_is); (case k2 => k_is)
    intro d_is_integer_within
    refine' KQ.step_def (x := "is_tuple_within") (st := KQ.s_is_tuple_within) KX G ?a3 ?l3 ?c3 ?k3 ?n3
    (case a3 => k_is); (case l3 => k_is); (case c3 => k_is); (case k3 => k_is)
    intro d_is_tuple_within
    refine' KQ.step_def (x := "first_wrong_block") (st := KQ.s_first_wrong_block) KX G ?a4 ?l4 ?c4 ?k4 ?n4
    (case a4 => k_is); (case l4 => k_is); (case c4 => k_is); (case k4 => k_is)
    intro d_first_wrong_block
    refine' KQ.step_def (x := "is_parting") (st := KQ.s_is_parting) KX G ?a5 ?l5 ?c5 ?k5 ?n5
    (case a5 => k_is); (case l5 => k_is); (case c5 => k_is); (case k5 => k_is)
    intro d_is_parting
    refine' KQ.step_def (x := "block_count") (st := KQ.s_block_count) KX G ?a6 ?l6 ?c6 ?k6 ?n6
    (case a6 => k_is); (case l6 => k_is); (case c6 => k_is); (case k6 => k_is)
    intro d_block_count
    refine' KQ.step_def (x := "partings_of_doors") (st := KQ.s_partings_of_doors) KX G ?a7 ?l7 ?c7 ?k7 ?n7
    (case a7 => k_is); (case l7 => k_is); (case c7 => k_is); (case k7 => k_is)
    intro d_partings_of_doors
    refine' KQ.step_def (x := "partings_into") (st := KQ.s_partings_into) KX G ?a8 ?l8 ?c8 ?k8 ?n8
    (case a8 => k_is); (case l8 => k_is); (case c8 => k_is); (case k8 => k_is)
    intro d_partings_into
    refine' KQ.step_def (x := "need_lot_doors") (st := KQ.s_need_lot_doors) KX G ?a9 ?l9 ?c9 ?k9 ?n9
    (case a9 => k_is); (case l9 => k_is); (case c9 => k_is); (case k9 => k_is)
    intro d_need_lot_doors
    refine' KQ.step_def (x := "lot_fault") (st := KQ.s_lot_fault) KX G ?a10 ?l10 ?c10 ?k10 ?n10
    (case a10 => k_is); (case l10 => k_is); (case c10 => k_is); (case k10 => k_is)
    intro d_lot_fault
    refine' KQ.step_def (x := "look_at_lot") (st := KQ.s_look_at_lot) KX G ?a11 ?l11 ?c11 ?k11 ?n11
    (case a11 => k_is); (case l11 => k_is); (case c11 => k_is); (case k11 => k_is)
    intro d_look_at_lot
    refine' KQ.step_def (x := "need_lot") (st := KQ.s_need_lot) KX G ?a12 ?l12 ?c12 ?k12 ?n12
    (case a12 => k_is); (case l12 => k_is); (case c12 => k_is); (case k12 => k_is)
    intro d_need_lot
    refine' KQ.step_def (x := "has_no_ring") (st := KQ.s_has_no_ring) KX G ?a13 ?l13 ?c13 ?k13 ?n13
    (case a13 => k_is); (case l13 => k_is); (case c13 => k_is); (case k13 => k_is)
    intro d_has_no_ring
    refine' KQ.step_def (x := "has_no_rings") (st := KQ.s_has_no_rings) KX G ?a14 ?l14 ?c14 ?k14 ?n14
    (case a14 => k_is); (case l14 => k_is); (case c14 => k_is); (case k14 => k_is)
    intro d_has_no_rings
    refine' KQ.step_def (x := "turned_lot") (st := KQ.s_turned_lot) KX G ?a15 ?l15 ?c15 ?k15 ?n15
    (case a15 => k_is); (case l15 => k_is); (case c15 => k_is); (case k15 => k_is)
    intro d_turned_lot
    refine' KQ.step_def (x := "turned") (st := KQ.s_turned) KX G ?a16 ?l16 ?c16 ?k16 ?n16
    (case a16 => k_is); (case l16 => k_is); (case c16 => k_is); (case k16 => k_is)
    intro d_turned
    refine' KQ.step_def (x := "closed_lot") (st := KQ.s_closed_lot) KX G ?a17 ?l17 ?c17 ?k17 ?n17
    (case a17 => k_is); (case l17 => k_is); (case c17 => k_is); (case k17 => k_is)
    intro d_closed_lot
    refine' KQ.step_def (x := "closed_lots") (st := KQ.s_closed_lots) KX G ?a18 ?l18 ?c18 ?k18 ?n18
    (case a18 => k_is); (case l18 => k_is); (case c18 => k_is); (case k18 => k_is)
    intro d_closed_lots
    refine' KQ.step_def (x := "met") (st := KQ.s_met) KX G ?a19 ?l19 ?c19 ?k19 ?n19
    (case a19 => k_is); (case l19 => k_is); (case c19 => k_is); (case k19 => k_is)
    intro d_met
    refine' KQ.step_def (x := "spanned") (st := KQ.s_spanned) KX G ?a20 ?l20 ?c20 ?k20 ?n20
    (case a20 => k_is); (case l20 => k_is); (case c20 => k_is); (case k20 => k_is)
    intro d_spanned
    refine' KQ.step_def (x := "_law_mixed") (st := KQ.s__law_mixed) KX G ?a21 ?l21 ?c21 ?k21 ?n21
    (case a21 => k_is); (case l21 => k_is); (case c21 => k_is); (case k21 => k_is)
    intro d__law_mixed
    refine' KQ.step_def (x := "_law_folded") (st := KQ.s__law_folded) KX G ?a22 ?l22 ?c22 ?k22 ?n22
    (case a22 => k_is); (case l22 => k_is); (case c22 => k_is); (case k22 => k_is)
    intro d__law_folded
    refine' KQ.step_def (x := "_law_draw") (st := KQ.s__law_draw) KX G ?a23 ?l23 ?c23 ?k23 ?n23
    (case a23 => k_is); (case l23 => k_is); (case c23 => k_is); (case k23 => k_is)
    intro d__law_draw
    refine' KQ.step_def (x := "_law_begun") (st := KQ.s__law_begun) KX G ?a24 ?l24 ?c24 ?k24 ?n24
    (case a24 => k_is); (case l24 => k_is); (case c24 => k_is); (case k24 => k_is)
    intro d__law_begun
    refine' KQ.step_def (x := "_law_like") (st := KQ.s__law_like) KX G ?a25 ?l25 ?c25 ?k25 ?n25
    (case a25 => k_is); (case l25 => k_is); (case c25 => k_is); (case k25 => k_is)
    intro d__law_like
    refine' KQ.step_def (x := "_law_of") (st := KQ.s__law_of) KX G ?a26 ?l26 ?c26 ?k26 ?n26
    (case a26 => k_is); (case l26 => k_is); (case c26 => k_is); (case k26 => k_is)
    intro d__law_of
    refine' KQ.step_def (x := "_law_numbered") (st := KQ.s__law_numbered) KX G ?a27 ?l27 ?c27 ?k27 ?n27
    (case a27 => k_is); (case l27 => k_is); (case c27 => k_is); (case k27 => k_is)
    intro d__law_numbered
    refine' KQ.step_def (x := "_law_partings") (st := KQ.s__law_partings) KX G ?a28 ?l28 ?c28 ?k28 ?n28
    (case a28 => k_is); (case l28 => k_is); (case c28 => k_is); (case k28 => k_is)
    intro d__law_partings
    refine' KQ.step_def (x := "_law_parting") (st := KQ.s__law_parting) KX G ?a29 ?l29 ?c29 ?k29 ?n29
    (case a29 => k_is); (case l29 => k_is); (case c29 => k_is); (case k29 => k_is)
    intro d__law_parting
    refine' KQ.step_def (x := "_law_root") (st := KQ.s__law_root) KX G ?a30 ?l30 ?c30 ?k30 ?n30
    (case a30 => k_is); (case l30 => k_is); (case c30 => k_is); (case k30 => k_is)
    intro d__law_root
    refine' KQ.step_def (x := "_law_meet") (st := KQ.s__law_meet) KX G ?a31 ?l31 ?c31 ?k31 ?n31
    (case a31 => k_is); (case l31 => k_is); (case c31 => k_is); (case k31 => k_is)
    intro d__law_meet
    refine' KQ.step_def (x := "_law_met_all") (st := KQ.s__law_met_all) KX G ?a32 ?l32 ?c32 ?k32 ?n32
    (case a32 => k_is); (case l32 => k_is); (case c32 => k_is); (case k32 => k_is)
    intro d__law_met_all
    refine' KQ.step_def (x := "_law_lot_from") (st := KQ.s__law_lot_from) KX G ?a33 ?l33 ?c33 ?k33 ?n33
    (case a33 => k_is); (case l33 => k_is); (case c33 => k_is); (case k33 => k_is)
    intro d__law_lot_from
    refine' KQ.step_def (x := "_law_some_lot") (st := KQ.s__law_some_lot) KX G ?a34 ?l34 ?c34 ?k34 ?n34
    (case a34 => k_is); (case l34 => k_is); (case c34 => k_is); (case k34 => k_is)
    intro d__law_some_lot
    refine' KQ.step_def (x := "_law_bad_lot") (st := KQ.s__law_bad_lot) KX G ?a35 ?l35 ?c35 ?k35 ?n35
    (case a35 => k_is); (case l35 => k_is); (case c35 => k_is); (case k35 => k_is)
    intro d__law_bad_lot
    refine' KQ.step_def (x := "_law_family") (st := KQ.s__law_family) KX G ?a36 ?l36 ?c36 ?k36 ?n36
    (case a36 => k_is); (case l36 => k_is); (case c36 => k_is); (case k36 => k_is)
    intro d__law_family
    refine' KQ.step_def (x := "_law_asked") (st := KQ.s__law_asked) KX G ?a37 ?l37 ?c37 ?k37 ?n37
    (case a37 => k_is); (case l37 => k_is); (case c37 => k_is); (case k37 => k_is)
    intro d__law_asked
    refine' KQ.step_def (x := "_law_common") (st := KQ.s__law_common) KX G ?a38 ?l38 ?c38 ?k38 ?n38
    (case a38 => k_is); (case l38 => k_is); (case c38 => k_is); (case k38 => k_is)
    intro d__law_common
    refine' KQ.step_def (x := "_law_right_pair") (st := KQ.s__law_right_pair) KX G ?a39 ?l39 ?c39 ?k39 ?n39
    (case a39 => k_is); (case l39 => k_is); (case c39 => k_is); (case k39 => k_is)
    intro d__law_right_pair
    refine' KQ.step_def (x := "law") (st := KQ.s_law) KX G ?a40 ?l40 ?c40 ?k40 ?n40
    (case a40 => k_is); (case l40 => k_is); (case c40 => k_is); (case k40 => k_is)
    intro d_law
    refine' KQ.step_cst (x := "MOST_DOORS") (v := 60) KX G ?a41 ?n41
    (case a41 => k_is)
    intro c_MOST_DOORS
    refine' KQ.step_cst (x := "MOST_LOT_DOORS") (v := 6) KX G ?a42 ?n42
    (case a42 => k_is)
    intro c_MOST_LOT_DOORS
    refine' KQ.step_cst (x := "MOST_CLOSED_DOORS") (v := 4) KX G ?a43 ?n43
    (case a43 => k_is)
    intro c_MOST_CLOSED_DOORS
    refine' KQ.step_none (x := "len") KX G ?a44 ?n44
    (case a44 => k_is)
    intro z_len
    refine' KQ.step_none (x := "range") KX G ?a45 ?n45
    (case a45 => k_is)
    intro z_range
    refine' KQ.step_none (x := "enumerate") KX G ?a46 ?n46
    (case a46 => k_is)
    intro z_enumerate
    refine' KQ.step_none (x := "zip") KX G ?a47 ?n47
    (case a47 => k_is)
    intro z_zip
    refine' KQ.step_none (x := "isinstance") KX G ?a48 ?n48
    (case a48 => k_is)
    intro z_isinstance
    refine' KQ.step_none (x := "int") KX G ?a49 ?n49
    (case a49 => k_is)
    intro z_int
    refine' KQ.step_none (x := "bool") KX G ?a50 ?n50
    (case a50 => k_is)
    intro z_bool
    refine' KQ.step_none (x := "tuple") KX G ?a51 ?n51
    (case a51 => k_is)
    intro z_tuple
    refine' KQ.step_none (x := "list") KX G ?a52 ?n52
    (case a52 => k_is)
    intro z_list
    refine' KQ.step_none (x := "max") KX G ?a53 ?n53
    (case a53 => k_is)
    intro z_max
    refine' KQ.step_none (x := "min") KX G ?a54 ?n54
    (case a54 => k_is)
    intro z_min
    refine' KQ.step_none (x := "repr") KX G ?a55 ?n55
    (case a55 => k_is)
    intro z_repr
    refine' KQ.step_none (x := "set") KX G ?a56 ?n56
    (case a56 => k_is)
    intro z_set
    refine' KQ.step_none (x := "sum") KX G ?a57 ?n57
    (case a57 => k_is)
    intro z_sum
    refine' KQ.step_none (x := "sorted") KX G ?a58 ?n58
    (case a58 => k_is)
    intro z_sorted
    refine' KQ.step_none (x := "super") KX G ?a59 ?n59
    (case a59 => k_is)
    intro z_super
    refine' KQ.step_err (P := PySem.W.OpenLaw.prog PySem.Challenge.rw_fittingdoors_k16_whole_closed_lots) (cx := "BadLot") (fld := "word") (x := "word") (msg := _) KX G z_super ?aC60 ?lC60 ?rv60 ?sa60 ?exC60 ?tyC60 ?kC60 ?iC60 ?tI60 ?lk60 ?hcd60 ?hcode60 ?hvs60 ?hfile60 ?htop60 ?hcell60 ?hsup60 ?hV60 ?hmro60 ?hop60 ?hfa60 ?hp60 ?har60 ?hx60 ?hxd60 ?hxc60 ?hk60 ?hco60 ?hgen60 ?l160 ?l260 ?l360 ?l460 ?hev60 ?l560 ?l660 ?hb60 ?ga60 ?gg60 ?hdC60 ?n60
    (case aC60 => k_is)
    (case lC60 => k_is)
    (case rv60 => rfl)
    (case sa60 => k_is)
    (case exC60 => k_is)
    (case tyC60 => k_is)
    (case kC60 => k_is)
    (case iC60 => k_is)
    (case tI60 => k_is)
    (case lk60 => (refine Eq.trans (b := some _) (by k_is) ?_; rfl))
    (case hcd60 => k_is)
    (case hcode60 => k_is)
    (case hvs60 => rfl)
    (case hfile60 => rfl)
    (case htop60 => rfl)
    (case hcell60 => k_is)
    (case hsup60 => ks_is)
    (case hV60 => k_is)
    (case hmro60 => k_is)
    (case hop60 => k_is)
    (case hfa60 => k_is)
    (case hp60 => rfl)
    (case har60 => rfl)
    (case hx60 => decide)
    (case hxd60 => decide)
    (case hxc60 => decide)
    (case hk60 => rfl)
    (case hco60 => rfl)
    (case hgen60 => rfl)
    (case l160 => rfl)
    (case l260 => rfl)
    (case l360 => rfl)
    (case l460 => rfl)
    (case hev60 => exact fun _ => rfl)
    (case l560 => decide +kernel)
    (case l660 => decide +kernel)
    (case hb60 => exact fun us hl => match us, hl with | [_, _], _ => rfl)
    (case ga60 => k_is)
    (case gg60 => k_is)
    (case hdC60 => k_is)
    intro eL
    refine' KQ.step_err (P := PySem.W.OpenLaw.prog PySem.Challenge.rw_fittingdoors_k16_whole_closed_lots) (cx := "BadNumber") (fld := "value") (x := "value") (msg := _) KX G z_super ?aC61 ?lC61 ?rv61 ?sa61 ?exC61 ?tyC61 ?kC61 ?iC61 ?tI61 ?lk61 ?hcd61 ?hcode61 ?hvs61 ?hfile61 ?htop61 ?hcell61 ?hsup61 ?hV61 ?hmro61 ?hop61 ?hfa61 ?hp61 ?har61 ?hx61 ?hxd61 ?hxc61 ?hk61 ?hco61 ?hgen61 ?l161 ?l261 ?l361 ?l461 ?hev61 ?l561 ?l661 ?hb61 ?ga61 ?gg61 ?hdC61 ?n61
    (case aC61 => k_is)
    (case lC61 => k_is)
    (case rv61 => rfl)
    (case sa61 => k_is)
    (case exC61 => k_is)
    (case tyC61 => k_is)
    (case kC61 => k_is)
    (case iC61 => k_is)
    (case tI61 => k_is)
    (case lk61 => (refine Eq.trans (b := some _) (by k_is) ?_; rfl))
    (case hcd61 => k_is)
    (case hcode61 => k_is)
    (case hvs61 => rfl)
    (case hfile61 => rfl)
    (case htop61 => rfl)
    (case hcell61 => k_is)
    (case hsup61 => ks_is)
    (case hV61 => k_is)
    (case hmro61 => k_is)
    (case hop61 => k_is)
    (case hfa61 => k_is)
    (case hp61 => rfl)
    (case har61 => rfl)
    (case hx61 => decide)
    (case hxd61 => decide)
    (case hxc61 => decide)
    (case hk61 => rfl)
    (case hco61 => rfl)
    (case hgen61 => rfl)
    (case l161 => rfl)
    (case l261 => rfl)
    (case l361 => rfl)
    (case l461 => rfl)
    (case hev61 => exact fun _ => rfl)
    (case l561 => decide +kernel)
    (case l661 => decide +kernel)
    (case hb61 => exact fun us hl => match us, hl with | [_, _], _ => rfl)
    (case ga61 => k_is)
    (case gg61 => k_is)
    (case hdC61 => k_is)
    intro eN
    refine' KQ.step_exm eL eN ?a62 ?b62 ?c62 ?n62
    (case a62 => k_is); (case b62 => k_is); (case c62 => k_is)
    intro X
    exact KQ.finish hmg d_law ⟨d_is_integer, d_is_integer_within, d_is_tuple_within, d_first_wrong_block, d_is_parting, d_block_count, d_partings_of_doors, d_partings_into, d_need_lot_doors, d_lot_fault, d_look_at_lot, d_need_lot, d_has_no_ring, d_has_no_rings, d_turned_lot, d_turned, d_closed_lot, d_closed_lots, d_met, d_spanned, d__law_mixed, d__law_folded, d__law_draw, d__law_begun, d__law_like, d__law_of, d__law_numbered, d__law_partings, d__law_parting, d__law_root, d__law_meet, d__law_met_all, d__law_lot_from, d__law_some_lot, d__law_bad_lot, d__law_family, d__law_asked, d__law_common, d__law_right_pair, c_MOST_DOORS, c_MOST_LOT_DOORS, c_MOST_CLOSED_DOORS⟩ ⟨z_len, z_range, z_enumerate, z_zip, z_isinstance, z_int, z_bool, z_tuple, z_list, z_max, z_min, z_repr, z_set, z_sum, z_sorted⟩ eL eN X
#print axioms PySem.Challenge.cw_fittingdoors_k16_whole_closed_lots_holds
