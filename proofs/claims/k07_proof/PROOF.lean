import PyProof.Rows.All
import Wide.All
import OpenK.AllK
import Wide.FinOn
import HandS.ForMost
import HandS.Exc
import HandS.IsInst
import HandS.Strs
import HandS.SetKeys
import HandS.Star
import HandS.Zip
import HandS.Conv
import HandS.Wide
import HandS.Style
import KE.DataMinMax
import KE.GoesNew
import KE.GoesMore
import KE.KDictKeyed
import PyProof.Rows.NestShow
import KE.DatumOrd
import KE.KDictZip
import HandS.TupLen
import HandS.SetFor
import HandS.TupAny
import HandS.Iter
import KE.BitLaws
import HandS.SortRule
import HandS.TupSets
import KE.SortData
import KE.KDictSum
import KE.KDictCopyH
import KE.KDictDisplayH
import KE.KeyNested
import HandS.Dict
import KE.DatumIndex
import HandS.Deep
import HandS.SortInts
import PyProof.SetRoads
import HandS.ExcCtx
import HandS.ExcInit
import KE.KSuper
import KE.KExcSuper
import HandS.TryMany
import HandS.ExcField
import HandS.CallLocal
import HandS.CallSlots
import HandS.TupMul
import HandS.ExcIs
import PySem.Challenge.RW_fittingdoors_k07_pieces_checked
set_option Elab.async false
set_option linter.all false
set_option maxRecDepth 100000
set_option maxHeartbeats 8000000
/-! rules that the layer lacks: calls where no repr is going on; repr of data; max of a tuple; enumerate of a tuple -/
namespace KR
open PySem PySem.Spec PyProof.Rows L2

/-! ### defs called where no guard stands -/
structure FnG (P : Program) (w : World) (K : PySem.W.Frag) (mg : Str → Option Value) (base : Heap)
    (k : Nat) (f : Addr) (fd : FuncData) (ps : List Str) (sp : Sp) : Prop where
  len : ∀ vs H Q E, sp vs H Q E → vs.length = ps.length
  run : ∀ (A : Around) (outer : List Env) (s : Shared) (H : Hp) (args : Args) (us : List Value) (vs : List V) (Q : VK) (E : XK),
    A.guards = some [] → Room k A → Env0 P w K mg base A outer s H → BindsTo s fd args (ps.zip us) → Vals vs us → sp vs H Q E →
    codeAny (model P w) A (.call (.ref f) args) (CR CX0 outer P w H s Q E) s

theorem FnG.up {P : Program} {w : World} {K : PySem.W.Frag} {mg : Str → Option Value} {base : Heap} {j k : Nat} {f : Addr}
    {fd : FuncData} {ps : List Str} {sp : Sp} (F : FnG P w K mg base j f fd ps sp) (h : j ≤ k) : FnG P w K mg base k f fd ps sp :=
  ⟨F.len, fun A outer s H args us vs Q E hg hr => F.run A outer s H args us vs Q E hg (hr.mono h)⟩

theorem Fun.okG {P : Program} {w : World} {K : PySem.W.Frag} {mg : Str → Option Value} {base : Heap}
    {x qual : Str} {st : Stmt} {f : Addr} {fd : FuncData} {N ps : List Str} {k : Nat} {sp : Sp}
    (F : Fun K x qual st f fd) (S : FnScope N ps (defScope st)) (len : ∀ vs H Q E, sp vs H Q E → vs.length = ps.length)
    (body : ∀ (cdv : Value) (A : Around) (outer : List Env) (s : Shared) (H : Hp) (vs : List V) (Q : VK) (E : XK),
      (A.deeper (envOfC qual (defScope st) s.heap.objs.size f cdv)).guards = some [] →
      Room k (A.deeper (envOfC qual (defScope st) s.heap.objs.size f cdv)) → sp vs H Q E →
      ∃ t, PSs (cxOf CX0 P w K mg base N qual (defScope st) f cdv A outer s H E).nox (defBody st) t ∧
        t { nx := fun _ H' => Q .non H', rt := Q } (start N vs) H) : FnG P w K mg base (k + 1) f fd ps sp := by
  obtain ⟨oc, od, kV, doc, pm, an, cdv, ct, osl, rfl, lk, hcd⟩ := F.ex
  refine ⟨len, fun A outer s H args us vs Q E hg hr e0 hb r hsp => ?_⟩
  have hlen := len _ _ _ _ hsp
  have inS : K.In s.heap :=
    e0.mod.kin.keeps fun b o e => (e0.bs b o e).1
  have nolim : s.heap.NoLimit :=
    e0.mod.nolimit.keeps fun b o e => (e0.bs b o e).1
  have kinds : ∀ y ∈ ps.zip us, (defScope st).names.lookup y.1 = some .local ∨
      ((defScope st).names.lookup y.1 = some .cell ∧ ((cellsFrom (s.heap.objs.size + 1) (defScope st).names []).lookup y.1).isSome = true) := by
    rintro ⟨n, v⟩ hy
    rcases S.par n (List.of_mem_zip hy).1 with q | q
    · exact Or.inl q
    · exact Or.inr ⟨q, PySem.W.cellsFrom_some _ _ _ (Or.inl q)⟩
  refine codeAny_call_function hr.depth (inS _ _ lk) rfl S.co S.gen rfl
    (PySem.W.codeRec_of inS hcd) (hb _ _ _ _ ?_)
  refine wpAny_newFunctionEnv_cells S.kind kinds fun env he s1 x => ?_
  subst he
  refine ⟨nolim.keeps x.toInCall.keep, codeAny_func ?_⟩
  obtain ⟨t, ht, hq⟩ := body cdv A outer s H vs Q E hg (hr.deeper _) hsp
  have I : Inv (cxOf CX0 P w K mg base N qual (defScope st) f cdv A outer s H E) [] (start N vs) H s1 :=
    inv_start S hr.hd e0 hlen r x
  refine wpAny_mono (ht.nox.run [] s1 (start N vs) H _ I hq) (fun fl s' hs => ?_) (fun e s' hs => hs)
  have fin : ∀ {σ' : L2.St} {H' : Hp} {v : V} {u : Value}, Inv (cxOf CX0 P w K mg base N qual (defScope st) f cdv A outer s H E) [] σ' H' s' →
      RelV v u → Q v H' → CE outer P w H s Q u s' := by
    intro σ' H' v u J rv q
    exact ⟨v, H', J.os, J.bare, J.base, J.hok, rv, q⟩
  cases fl with
  | ret u =>
    obtain ⟨v, σ', H', J, rv, q⟩ := hs
    exact fin J rv q
  | next =>
    obtain ⟨σ', H', J, q⟩ := hs
    exact fin (v := V.non) (u := Value.none) J rfl q
  | brk =>
    obtain ⟨_, _, _, q⟩ := hs
    exact q.elim
  | cont =>
    obtain ⟨_, _, _, q⟩ := hs
    exact q.elim

section
variable {X : Cx} {k : Nat} {f : Addr} {fd : FuncData} {ps : List Str} {sp : Sp} {dvs : List V} {ds : List Value} {x : Str} {p pos : Pos} {e : Expr} {es : List Expr} {t : TA}

/-- a call where no guard stands -/
theorem pe_callG (F : FnG X.prog X.w X.K X.mg X.base k f fd ps sp) (gd : X.A.guards = some []) (hr : Room k X.A) (hg : Gl X x) (hm : X.mg x = some (.ref f))
    (hk : PySem.W.keepIn X.K (.ref f) = true) (hb : Binds X.K fd ps ds) (hd : Vals dvs ds) (ha : PA X (e :: es) t)
    (hdb : (x == ("__debug__" : Str)) = false := by decide)
    (he : starEach (e :: es) X.env = (false, eval e X.env) :: starEach es X.env := by rfl)
    (hpl : (backTo pos (starEach es X.env)).any (·.1) = false := by rfl) :
    PE X (.Call (.Name x p) (e :: es) [] pos) (tCall sp dvs E0 t) := by
  refine ⟨fun pins s σ H Q I h => ?_⟩
  refine wpAny_Call_Name_kw (ld_glob I hg hm ?_ hdb)
  refine PySem.W.callWith_K (h₀ := X.base) I.ok.mod.kin hk
    (thn (ha.run pos pins s σ H _ I h) fun us s1 ⟨vs, H1, I1, r, q⟩ => ⟨I1.kIn, ?_⟩) he hpl
  have r2 : Vals (vs ++ dvs) (us ++ ds) := r.append hd
  have hl : (us ++ ds).length = ps.length := by
    rw [← r2.length]
    exact F.len _ _ _ _ q
  refine wpAny_call (codeAny_mono (F.run X.A X.stack s1 H1 ⟨us, []⟩ (us ++ ds) (vs ++ dvs) Q E0 gd hr I1.env0
    (hb s1 us I1.kIn hl) r2 q) fun r s' hq => ?_)
  cases r with
  | error e => exact (show False from hq).elim
  | ok fl =>
    cases fl with
    | ret u => exact I1.after hq
    | next => exact (show False from hq).elim
    | brk => exact (show False from hq).elim
    | cont => exact (show False from hq).elim
end

/-! ### repr of data -/
def rRepr (K : PySem.W.Frag) : List V → Hp → VK → Prop := fun xs H Q => ∃ v d, xs = [v] ∧ Dp K H v d ∧
  isDisplay d = true ∧ d.showable = true ∧ d.hasDict = false ∧ d.depth ≤ 30 ∧ d.shown.length ≤ sizeLine ∧ Q (.str d.shown) H
theorem call_reprD {X : Cx} (gd : X.A.guards = some []) (hu : X.A.units + 64 < cLine) : CallR X (.builtin "repr") (rRepr X.K) := by
  intro pins s σ H xs us Q I r h
  obtain ⟨v, d, rfl, hd, hdisp, hs, hnd, hdep, hlen, q⟩ := h
  cases r with
  | cons r1 rr =>
    cases rr
    obtain ⟨as, rd⟩ := Dp.reads I d v _ hd r1
    obtain ⟨a, rfl⟩ := isRef_of_reads rd hdisp
    refine repr_of_reads' rd hs (PyData.noDict_hsm hnd) gd (by omega) (fun _ _ e => e) (fun h' u tk hk => ?_) hlen
    exact ⟨.str d.shown, H, I.kept hk, ⟨u, rfl⟩, q⟩

/-! ### the law's own call -/
theorem law_callG {P : Program} {w : World} {K : PySem.W.Frag} {mg mb : Str → Option Value} {k : Nat} {fa a : Addr} {fd : FuncData} {x : Str} {sp : Sp}
    {s₁ : Shared} {vs : List Value} {ns : List Int} (KX : K.In s₁.heap) (hns : s₁.heap.Ns mainGlobals mg) (hb : s₁.heap.Ns builtinsNs mb)
    (hbb : ∀ x : Str, x ≠ "__name__" → mb x = bootBuiltins x) (hlim : s₁.heap.NoLimit) (hg : s₁.gens = #[])
    (ha : s₁.heap.get? a = some { cls := .type "list", data := .seq vs.toArray }) (hi : IntsAre vs ns) (hl : ns.length ≤ sizeLine) (hr : Room k callerA)
    (F : ∀ base : Heap, K.In base → base.Ns mainGlobals mg → FnG P w K mg base k fa fd [x] sp)
    (hbind : ∀ (s : Shared) (u : Value), BindsTo s fd ⟨[u], []⟩ [(x, u)])
    (hsp : ∀ H : Hp, Only H → SqL K H a (ns.map V.int) → sp [.ref a] H (fun v _ => v = .bl true) fun _ _ _ => False) :
    codeAny (model P w) callerA (.call (.ref fa) ⟨[.ref a], []⟩)
      (fun r s' => r = .ok (.ret (.bool true)) ∧ OldK s₁.heap s'.heap ∧ s'.os = s₁.os ∧ AllBare s'.gens) s₁ := by
  have core : ∀ H : Hp, Only H → SqL K H a (ns.map V.int) → HOk P w H s₁.heap → (∀ b, H b ≠ none → b = a ∧ K.lookup b = none) →
      codeAny (model P w) callerA (.call (.ref fa) ⟨[.ref a], []⟩)
        (fun r s' => r = .ok (.ret (.bool true)) ∧ OldK s₁.heap s'.heap ∧ s'.os = s₁.os ∧ AllBare s'.gens) s₁ := by
    intro H hO hS hok hA
    have get1 : ∀ {b : Addr} {o : Obj}, s₁.heap.get? b = some o → H b = none → (hidT s₁.heap H).get? b = some o :=
      fun e n => hidT_get e n
    have freeD : ∀ {b : Addr} {o : Obj} {es : Array DictEntry} {ep : Nat}, s₁.heap.get? b = some o → o.data = .dict es ep → H b = none := by
      intro b o es ep e d
      apply Classical.byContradiction
      intro hne
      have eb := (hA b hne).1
      rw [eb, ha] at e
      cases e
      exact nomatch (show Data.seq vs.toArray _ = Data.dict es ep from d)
    have spaces : ∀ {b : Addr} {m : Str → Option Value}, s₁.heap.Ns b m → (hidT s₁.heap H).Ns b m := by
      rintro b m ⟨o, es, ep, e, d, r⟩
      exact ⟨o, es, ep, get1 e (freeD e d), d, r⟩
    have inB : K.In (hidT s₁.heap H) := by
      intro b o e
      refine get1 (KX b o e) (Classical.byContradiction fun hne => ?_)
      have := (hA b hne).2
      rw [e] at this
      cases this
    have hM : Mod K mg (hidT s₁.heap H) := by
      obtain ⟨mc, h1, h2⟩ := hlim
      exact ⟨inB, spaces hns, ⟨mb, spaces hb, hbb⟩, ⟨mc, spaces h1, h2⟩⟩
    have e0 : Env0 P w K mg (hidT s₁.heap H) callerA [] s₁ H :=
      ⟨rfl, hM, fun b o e => of_hidT e, Nat.le_of_eq (hidT_size _ _), trivial, fun b hb => (List.not_mem_nil hb).elim, hok, .of_eq hg⟩
    have run := (F _ inB (spaces hns)).run callerA [] s₁ H ⟨[.ref a], []⟩ [.ref a] [.ref a] _ _ (by first | rfl | decide) hr e0
      (hbind s₁ (.ref a)) (.cons rfl .nil) (hsp H hO hS)
    refine codeAny_mono run fun r s' h => ?_
    cases r with
    | error e => exact (show False from h).elim
    | ok fl =>
      cases fl with
      | next => exact (show False from h).elim
      | brk => exact (show False from h).elim
      | cont => exact (show False from h).elim
      | ret u =>
        obtain ⟨v, H', os, bare, un, hok', r', q⟩ := h
        obtain rfl : v = .bl true := q
        obtain rfl : u = Value.bool true := r'
        refine ⟨rfl, OldK.of_keep fun b o e => ?_, os, bare⟩
        rcases hO b with q | ⟨ob, xs, z⟩
        · exact un.keep b o e q (fun z => (List.not_mem_nil z).elim) (by simp)
        · have z2 := un.frzs b ob _ z
          obtain ⟨e1, _⟩ := hok b _ z
          obtain ⟨e2, _⟩ := hok' b _ z2
          rw [e] at e1
          cases e1
          exact e2
  have rv := vals_ints hi
  have lenV := hi.length
  cases hk : K.lookup a with
  | some o =>
    have e := KX a o hk
    rw [ha] at e
    cases e
    refine core (fun _ => none) (fun _ => Or.inl rfl) ?_ ?_ (fun b z => (z rfl).elim)
    · refine Or.inr ⟨_, vs.toArray, _, hk, rfl, rfl, rfl, ?_, ?_⟩
      · rw [List.size_toArray, lenV]
        exact hl
      · simpa using rv
    · intro b u z
      exact nomatch (show (none : Option HO) = some u from z)
  | none =>
    have only : ∀ b, (if b = a then some (HO.frz { cls := .type "list", data := .seq vs.toArray } (.lst (ns.map V.int))) else none) ≠ none → b = a := by
      intro b z
      exact Classical.byContradiction fun hb => z (if_neg hb)
    refine core (fun b => if b = a then some (.frz { cls := .type "list", data := .seq vs.toArray } (.lst (ns.map V.int))) else none) ?_ ?_ ?_ ?_
    · intro b
      by_cases hb : b = a
      · exact Or.inr ⟨_, _, if_pos hb⟩
      · exact Or.inl (if_neg hb)
    · exact Or.inl (Or.inr ⟨{ cls := .type "list", data := .seq vs.toArray }, if_pos rfl⟩)
    · intro b u z
      have hb := only b (by rw [show (if b = a then _ else _) = some u from z]; exact fun q => nomatch q)
      subst hb
      cases (if_pos rfl).symm.trans z
      exact ⟨ha, by rw [List.length_map]; exact hl, vs, _, rv, ha⟩
    · intro b z
      have hb := only b z
      exact ⟨hb, by rw [hb]; exact hk⟩

theorem walk_ofG {l : PySem.W.OpenLaw} {n k : Nat} {q : Program} {loose : List Str} {XP : (Str → Option Value) → Heap → Prop} {YP : World → Heap → Prop}
    {d : DefRec} {K : Params → PySem.W.Frag} {sp : World → Sp} {x : Str}
    (hn : l.most = some n) (hn2 : n ≤ sizeLine) (hdf : d.params.defaults = []) (hr : Room k callerA)
    (hY : ∀ (w : World) (h : Heap), YP w h → (K w.params).In h)
    (F : ∀ (w : World) (mg : Str → Option Value) (fa : Addr) (h : Heap), (K w.params).In h → h.Ns mainGlobals mg → mg d.name = some (.ref fa) →
      ∃ fd : FuncData, (∀ (s : Shared) (u : Value), BindsTo s fd ⟨[u], []⟩ [(x, u)]) ∧
        ∀ base : Heap, (K w.params).In base → base.Ns mainGlobals mg → FnG l.prog w (K w.params) mg base k fa fd [x] (sp w))
    (hsp : ∀ (w : World) (H : Hp) (a : Addr) (ns : List Int), ns.length ≤ n → Only H → SqL (K w.params) H a (ns.map V.int) →
      sp w [.ref a] H (fun v _ => v = .bl true) fun _ _ _ => False) :
    PySem.W.WalkO q loose XP YP l.row.toRowW d [] (fun f vs => PySem.call f vs) := by
  refine Att.attach_call hn hdf fun w s₀ s₁ mg mb fa o pm cd doc a vs ns G Y ho hd hcd hmg hobj hints hlen hg => ?_
  obtain ⟨fd, hb, hF⟩ := F w mg fa _ (hY w _ Y) G.T.g hmg
  exact law_callG (hY w _ Y) G.T.g G.T.b G.T.builtins G.T.nolimit hg hobj hints (Nat.le_trans hlen hn2) hr hF hb
    (fun H hO hS => hsp w H a ns hlen hO hS)
end KR
namespace KR
open PySem PySem.Spec PyProof.Rows L2

/-! ### max of a tuple of whole numbers -/
theorem dpAll_ints {K : PySem.W.Frag} {H : Hp} : ∀ ns : List Int, DpAll K H (ns.map V.int) (ns.map PyData.int)
  | [] => .nil
  | n :: ns => .cons (.int n) (dpAll_ints ns)
def rMaxT (K : PySem.W.Frag) : List V → Hp → VK → Prop := fun vs H Q => ∃ (a : Addr) (ns : List Int), vs = [V.ref a] ∧ SqT K H a (ns.map V.int) ∧ ns ≠ [] ∧
  ∀ m, m ∈ ns → (∀ y, y ∈ ns → y ≤ m) → Q (.int m) H
theorem maxOf_spec : ∀ (r : List Int) (x : Int), PySem.W.maxOf x r ∈ x :: r ∧ ∀ y ∈ x :: r, y ≤ PySem.W.maxOf x r
  | [], x => by
    refine ⟨List.mem_cons_self, fun y hy => ?_⟩
    rw [List.mem_singleton.mp hy]
    exact Int.le_refl _
  | z :: r, x => by
    have e : PySem.W.maxOf x (z :: r) = PySem.W.maxOf (if decide (x < z) = true then z else x) r := rfl
    rw [e]
    obtain ⟨h1, h2⟩ := maxOf_spec r (if decide (x < z) = true then z else x)
    have h3 : x ≤ (if decide (x < z) = true then z else x) ∧ z ≤ (if decide (x < z) = true then z else x) := by
      by_cases h : x < z
      · rw [if_pos (decide_eq_true h)]
        omega
      · rw [if_neg (by simpa using h)]
        omega
    have h4 := h2 _ List.mem_cons_self
    refine ⟨?_, fun y hy => ?_⟩
    · rcases List.mem_cons.mp h1 with q | q
      · rw [q]
        by_cases h : x < z
        · rw [if_pos (decide_eq_true h)]
          exact List.mem_cons_of_mem _ List.mem_cons_self
        · rw [if_neg (by simpa using h)]
          exact List.mem_cons_self
      · exact List.mem_cons_of_mem _ (List.mem_cons_of_mem _ q)
    · rcases List.mem_cons.mp hy with q | q
      · rw [q]
        omega
      · rcases List.mem_cons.mp q with q | q
        · rw [q]
          omega
        · exact h2 y (List.mem_cons_of_mem _ q)
theorem call_maxT {X : Cx} (hc : X.calm = true) (hu : X.A.units + 64 < cLine) : CallR X (.builtin "max") (rMaxT X.K) := by
  intro pins s σ H vs us Q I r h
  obtain ⟨a, ns, rfl, hs, hne, q⟩ := h
  obtain ⟨its, rv, hl, _⟩ := I.tuple hs
  rw [Vals.ref1 r]
  cases ns with
  | nil => exact (hne rfl).elim
  | cons x xs =>
    obtain ⟨as, rd⟩ := Dp.readsAll I ((x :: xs).map PyData.int) _ its (dpAll_ints (x :: xs)) rv
    refine PySem.W.max_tuple_datum (x := x) (xs := xs) (vs := its.toArray) (I.ok.hd hc) (show s.heap.IsTuple a its.toArray from hl) ⟨as, by rw [show its.toArray.toList = its by simp]; exact rd⟩ (by show X.A.units + 1 + 0 < cLine; omega) fun i v h' tk hv hh hk => ?_
    obtain ⟨bs, rr⟩ := hh
    obtain ⟨t, rfl⟩ : ∃ t, v = .int (PySem.W.maxOf x xs) t := by
      cases rr with
      | int _ t => exact ⟨t, rfl⟩
    obtain ⟨h1, h2⟩ := maxOf_spec xs x
    exact ⟨.int _, H, I.kept hk, ⟨_, rfl⟩, q _ h1 h2⟩

/-! ### enumerate of a tuple -/
def IteT (K : PySem.W.Frag) (a : Addr) : It where
  go := fun i H => ∃ (xs : List V) (x : V), SqT K H a xs ∧ xs[i]? = some x
  yld := fun i H v H' => ∃ T x, v = .ref T ∧ H T = none ∧ H' = upd H T (.tup [.int (i : Nat), x]) ∧ ∀ xs, SqT K H a xs → xs[i]? = some x
  stop := fun i H => ∃ xs : List V, SqT K H a xs ∧ xs.length ≤ i
theorem turn_enumT {P : Program} {w : World} {K : PySem.W.Frag} {elts : List Expr} {kk : Nat} {tpos : Pos} (a e it : Addr) (hea : a ≠ it) (hee : a ≠ e) :
    Turn P w K (.Tuple elts kk tpos) (IteT K a) [e, it] e
      (fun i h => (∃ old, IsEnum h e it ((i : Nat) : Int) old) ∧ h.IsTupleIter it a i ∧ e ≠ it) where
  mem := List.mem_cons_self
  obj := by
    rintro i h ⟨⟨old, he⟩, ⟨o, ho, hc, hd⟩, _⟩ b hb
    rcases List.mem_cons.mp hb with z | z
    · subst z
      exact ⟨_, he, fun v q => nomatch q⟩
    · cases List.mem_singleton.mp z
      exact ⟨o, ho, fun v q => by rw [hd] at q; cases q⟩
  keep := by
    rintro i h h' ⟨⟨old, he⟩, hi, hne⟩ k
    exact ⟨⟨old, k e List.mem_cons_self _ he⟩, hi.at fun o q => k it (List.mem_cons_of_mem _ List.mem_cons_self) o q, hne⟩
  item := by
    intro X hP hw hK hc i pins s σ H E I hf st hg
    subst hP hw hK
    obtain ⟨⟨old, he⟩, hit, hne⟩ := st
    obtain ⟨xs, x, hq, hx⟩ := hg
    obtain ⟨its, rv, p, hz⟩ := I.tuple hq
    obtain ⟨u, hu, ru⟩ := rv.get hx
    have hT : s.heap.IsTuple a its.toArray := p
    have hel : e < s.heap.objs.size := Heap.lt_size he
    have hil : it < s.heap.objs.size := by
      obtain ⟨_, q, _⟩ := hit
      exact Heap.lt_size q
    have hlt : i < its.toArray.size := by
      have := (List.getElem?_eq_some_iff.mp hu).1
      simpa using this
    have D := Draws.tuple (prog := X.prog) (w := X.w) (A := X.A.in1) (I.ok.hd hc) it a hea its.toArray
    have hef : e ∉ [it, a] := by
      intro hm
      rcases List.mem_cons.mp hm with z | z
      · exact hne z
      · exact hee (List.mem_singleton.mp z).symm
    refine wpAny_pyNext_enum_itemD D he ⟨hit, hT⟩ hlt hne hef fun x' h' tk hP ho hit' hT' hsz hk => ?_
    have ex : x' = u := by
      have h1 : its.toArray[i]? = some u := by simpa using hu
      rw [show its.toArray[i]? = some x' from hP] at h1
      exact Option.some.inj h1
    subst ex
    refine ⟨_, rfl, wpAny_letOwnedTupleGo_enum (s := { s with heap := h', toks := tk + 1 }) ho fun h'' he' sb => ?_⟩
    have hT2 : h''.get? s.heap.objs.size = some { cls := .type "tuple", data := .seq #[.int i tk, x'] } :=
      (sb.2 _ (Nat.ne_of_gt hel)).trans hT'
    have new : ObjOk X.prog X.w (upd H s.heap.objs.size (.tup [.int (i : Nat), x])) h'' s.heap.objs.size (.tup [.int (i : Nat), x]) :=
      ⟨show 2 ≤ sizeLine by decide, [.int i tk, x'], .cons ⟨_, rfl⟩ (.cons ru .nil), _, hT2, rfl, _, rfl⟩
    have I1 : Inv X pins σ (upd H s.heap.objs.size (.tup [.int (i : Nat), x])) { s with heap := h'', toks := tk + 1 } := by
      refine I.turnedNew (ch := [e, it]) (fun b ob hb q => ?_) hf (Nat.le_refl _) new
      have hbe : b ≠ e := fun z => hb (by rw [z]; exact List.mem_cons_self)
      have hbi : b ≠ it := fun z => hb (by rw [z]; exact List.mem_cons_of_mem _ List.mem_cons_self)
      exact (sb.2 b hbe).trans (hk b ob hbe hbi q)
    refine ⟨.ref s.heap.objs.size, _, I1, rfl, ⟨_, x, rfl, I.hok.fresh (Nat.le_refl _), rfl, fun ys hy => ?_⟩, ⟨⟨x', ?_⟩, ?_, hne⟩, fun b hb => ?_⟩
    · rw [I.tuple_inj hy hq]
      exact hx
    · rw [show ((i + 1 : Nat) : Int) = (i : Int) + 1 by omega]
      exact he'
    · exact hit'.1.at fun o q => (sb.2 it (Ne.symm hne)).trans q
    · have hb' : b < s.heap.objs.size := by
        rcases List.mem_cons.mp hb with z | z
        · rw [z]
          exact hel
        · rw [List.mem_singleton.mp z]
          exact hil
      rw [upd_ne (Nat.ne_of_lt hb')]
      exact (hf b hb).1
  done := by
    intro X hP hw hK hc i pins s σ H E I hf st hg
    subst hP hw hK
    obtain ⟨⟨old, he⟩, hit, hne⟩ := st
    obtain ⟨xs, hq, hx⟩ := hg
    obtain ⟨its, rv, p, hz⟩ := I.tuple hq
    obtain ⟨f0, f1, f2, f3, f4, f5⟩ := hf it (List.mem_cons_of_mem _ List.mem_cons_self)
    have hl := rv.length
    have hT : s.heap.IsTuple a its.toArray := p
    have hT0 : s.TypeIs (.ref e) "enumerate" := ⟨_, he, rfl⟩
    unfold pyNext
    refine wpAny_bind (wpAny_attempt (wpAny_callSpecial?_slot (name := Str.ofString "__next__") hT0 F.slot_enumerate_next
      (wpAny_call_entry F.slot_enumerate_next hT0 F.entry_enumerate_next ?_ (F.args_enumerate_next_1 _))))
    show wpAny _ _ (field (.ref e) 2 >>= _) _ _ s
    refine wpAny_bind (wpAny_field he rfl (x := .ref it) rfl ?_)
    refine wpAny_bind (wpAny_nextOf_tuple_end (A := X.A.in1) (I.ok.hd hc) hit hT ?_ fun h' x he' hx' => ?_)
    · simp
      omega
    · obtain ⟨o, ho, hcl⟩ := hx'
      refine wpAny_bind (wpAny_isInstance (T := "StopIteration") (b := true) ⟨o, ho, hcl⟩ isSubtype_stop ?_)
      exact wpAny_pure ⟨rfl, I.turned (t' := s.toks) (fun b o hb q => he' b o hb q) f0 f1 f3 f4 f5⟩
  self := fun A i s Q E st h => let ⟨⟨_, he⟩, _⟩ := st; wpAny_pyIter_enum he h
def iEnumT (K : PySem.W.Frag) (ta : TA) : TI := fun σ H R => ta σ H fun vs H1 => ∃ a xs, vs = [.ref a] ∧ SqT K H1 a xs ∧ R (IteT K a) H1
set_option maxHeartbeats 4000000 in
theorem meets_enumT (t : Addr) (items : Array Value) :
    Meets (Builtin.«enumerate.__new__» ⟨[.type "enumerate", .ref t], []⟩) (fun _ R s => s.heap.IsTuple t items ∧
      R (.ok (.ret (.ref (s.heap.push { cls := .type "tuple_iterator", data := .fields #[.ref t, .int 0 0] }).objs.size)))
        { s with heap := (s.heap.push { cls := .type "tuple_iterator", data := .fields #[.ref t, .int 0 0] }).push { cls := .type "enumerate", data := .fields #[.none, .bool false, .ref s.heap.objs.size, rawInt 0, .none, .none] } }) :=
  .of_wp fun prog w A R s h => by
    obtain ⟨hp, g, d, tk, os⟩ := s
    obtain ⟨h1, h⟩ := h
    have hsub := sub_enumerate
    have B := begins_tuple t items
    have q1 : ∀ {A' : Around} {E : Value → Shared → Prop} {Q : Value → Shared → Prop},
        Q (.ref hp.objs.size) ⟨hp.push { cls := .type "tuple_iterator", data := .fields #[.ref t, .int 0 0] }, g, d, tk, os⟩ → wpAny (model prog w) A' (pyIter (.ref t)) Q E ⟨hp, g, d, tk, os⟩ :=
      fun q => B.iter prog w _ _ ⟨hp, g, d, tk, os⟩ _ h1 q
    wp_walk using q1
    refine wpAny_stack_any fun st => wpAny_pure ?_
    split
    · rename_i c _ _ _ _ _
      cases (c == Value.type "enumerate")
      · wp_walk using q1
        exact ⟨_, rfl, h⟩
      · wp_walk using q1
        exact ⟨_, rfl, h⟩
    · wp_walk using q1
      exact ⟨_, rfl, h⟩
theorem call_enumT {prog : Program} {w : World} {A : Around} {E : Value → Shared → Prop} {s : Shared} {t : Addr} {items : Array Value} {Q : Value → Shared → Prop} (hT : s.heap.IsTuple t items)
    (h : ∀ h', IsEnum h' (s.heap.objs.size + 1) s.heap.objs.size 0 .none → h'.IsTupleIter s.heap.objs.size t 0 → h'.objs.size = s.heap.objs.size + 2 →
      (∀ b o, s.heap.get? b = some o → h'.get? b = some o) → Q (.ref (s.heap.objs.size + 1)) { s with heap := h' }) :
    wpAny (model prog w) A (call (.type "enumerate") [.ref t]) Q E s := by
  refine callType_new F.called_enumerate (by decide) (F.typeCall_enumerate_1 _) (F.newCall_enumerate_1 _) (fun obj => F.args_object_init_2 obj _) F.entry_enumerate_new
    (meets_enumT t items) ⟨hT, ?_⟩
  have hz : (s.heap.push { cls := .type "tuple_iterator", data := .fields #[.ref t, .int 0 0] }).objs.size = s.heap.objs.size + 1 := Heap.size_push ..
  show _ ∧ _
  rw [hz]
  have he : IsEnum ((s.heap.push { cls := .type "tuple_iterator", data := .fields #[.ref t, .int 0 0] }).push
      { cls := .type "enumerate", data := .fields #[.none, .bool false, .ref s.heap.objs.size, rawInt 0, .none, .none] }) (s.heap.objs.size + 1) s.heap.objs.size 0 .none := by
    have q := Heap.get?_push_size (s.heap.push { cls := .type "tuple_iterator", data := .fields #[.ref t, .int 0 0] })
      (o := { cls := .type "enumerate", data := .fields #[.none, .bool false, .ref s.heap.objs.size, rawInt 0, .none, .none] }) rfl
    rw [hz] at q
    exact q
  refine ⟨⟨_, he, rfl⟩, h _ he ⟨{ cls := .type "tuple_iterator", data := .fields #[.ref t, .int 0 0] }, Heap.get?_push_of_some _ (Heap.get?_push_size _ rfl), rfl, rfl⟩ (by rw [Heap.size_push, hz]) fun b o x => ?_⟩
  exact Heap.get?_push_of_some _ (Heap.get?_push_of_some _ x)
theorem pi_enumT {X : Cx} {e : Expr} {ta : TA} {p pos tpos : Pos} {elts : List Expr} {kk : Nat} (hg : Gl X "enumerate") (hm : X.mg "enumerate" = none)
    (ha : PA X [e] ta) (hs : starEach [e] X.env = [(false, eval e X.env)] := by rfl) :
    PI X (.Tuple elts kk tpos) (.Call (.Name "enumerate" p) [e] [] pos) (iEnumT X.K ta) := by
  refine ⟨fun pins s σ H R I h => ?_⟩
  refine Call_ (ld_blt I hg hm boot_enumerate (PyProof.Rows.callWith_type1
    (thn (ha.run pos pins s σ H _ I h) fun us s1 ⟨vs, H1, I1, r1, q1⟩ => ?_) hs rfl))
  obtain ⟨a, xs, ex, hq, q⟩ := q1
  subst ex
  rw [Vals.ref1 r1]
  obtain ⟨its, rv, p', hz⟩ := I1.tuple hq
  have hT : s1.heap.IsTuple a its.toArray := p'
  have hal : a < s1.heap.objs.size := by
    obtain ⟨o, ho, _⟩ := id hT
    exact Heap.lt_size ho
  refine call_enumT hT fun h' he hit hsz hk => wpAny_pyIter_enum he ?_
  have I2 : Inv X pins σ H1 { s1 with heap := h' } := I1.kept (t' := s1.toks) hk
  refine ⟨s1.heap.objs.size + 1, [s1.heap.objs.size + 1, s1.heap.objs.size], _, _, H1, rfl, I2,
    turn_enumT a (s1.heap.objs.size + 1) s1.heap.objs.size (Nat.ne_of_lt hal) (Nat.ne_of_lt (Nat.lt_succ_of_lt hal)), ⟨⟨.none, he⟩, hit, Nat.succ_ne_self _⟩, fun b hb => ?_, q⟩
  have hle : s1.heap.objs.size ≤ b := by
    rcases List.mem_cons.mp hb with z | z
    · rw [z]
      exact Nat.le_add_right _ _
    · rw [List.mem_singleton.mp z]
      exact Nat.le_refl _
  exact I1.fpOk hle (I1.hok.fresh hle)
end KR
/-! list(zip(t, u)) of two tuples -/
namespace KR
open PySem PySem.Spec PySem.W PyProof.Rows L2 RZ

section
variable {prog : Program} {w : World} {A : Around} {E : Value → Shared → Prop} {s : Shared}
theorem zipH_item {z TI TO T i1 i2 l1 l2 : Addr} {f : Bool} {oT : Obj} {k1 k2 : Nat} {xs ys : Array Value} {x y : Value} {Q : Option Value → Shared → Prop}
    (D : ZipApart z TI TO i1 i2 l1 l2) (hz : IsZipHeld s.heap z TI TO T f) (hT : s.heap.get? T = some oT) (hTI : IsPair s.heap TI (.ref i1) (.ref i2))
    (h1 : s.heap.IsTupleIter i1 l1 k1) (h2 : s.heap.IsTupleIter i2 l2 k2) (hl1 : s.heap.IsTuple l1 xs) (hl2 : s.heap.IsTuple l2 ys) (hx : xs[k1]? = some x) (hy : ys[k2]? = some y)
    (hQ : ∀ h', IsZipHeld h' z TI TO T true → h'.IsTupleIter i1 l1 (k1 + 1) → h'.IsTupleIter i2 l2 (k2 + 1) → IsPair h' s.heap.objs.size x y → h'.objs.size = s.heap.objs.size + 1 →
      (∀ c o, c ≠ z → c ≠ i1 → c ≠ i2 → s.heap.get? c = some o → h'.get? c = some o) → Q (some (.ref s.heap.objs.size)) { s with heap := h' }) :
    wpAny (model prog w) A (pyNext (.ref z)) Q E s := by
  have hTy : s.TypeIs (.ref z) "zip" := ⟨_, hz, rfl⟩
  unfold pyNext
  refine wpAny_bind (wpAny_attempt (wpAny_callSpecial?_slot (name := Str.ofString "__next__") hTy F.slot_zip_next
    (wpAny_call_entry F.slot_zip_next hTy F.entry_zip_next ?_ (F.args_zip_next_1 _))))
  show wpAny _ _ (field (.ref z) 2 >>= _) _ _ s
  refine wpAny_bind (wpAny_field hz rfl (x := .bool false) rfl ?_)
  show wpAny _ _ (field (.ref z) 3 >>= _) _ _ s
  refine wpAny_bind (wpAny_field hz rfl (x := .ref TI) rfl ?_)
  refine wpAny_bind (wpAny_seqItems hTI rfl ?_)
  show wpAny _ _ (Builtin.SmallTypes.ownedTupleIsFree (.ref z) >>= _) _ _ s
  refine wpAny_bind (wpAny_tupleHeld_zip hz hT fun g1 zz1 sb1 => ?_)
  simp only [Bool.false_eq_true, if_false]
  refine wpAny_bind ?_
  rw [← Array.forIn_toList]
  simp only [List.forIn_cons, List.forIn_nil]
  refine wpAny_bind (wpAny_bind (wpAny_holding ?_))
  show wpAny _ _ (Builtin.SmallTypes.nextOf (.ref i1) >>= _) _ _ { s with heap := g1 }
  refine wpAny_bind (wpAny_nextOf_tuple_item (s := { s with heap := g1 }) (h1.extBut sb1.extBut D.i1z) (hl1.extBut sb1.extBut D.l1z) hx fun g2 it2 sb2 => wpAny_pure ?_)
  refine wpAny_pure ?_
  refine wpAny_bind (wpAny_bind (wpAny_holding ?_))
  show wpAny _ _ (Builtin.SmallTypes.nextOf (.ref i2) >>= _) _ _ { s with heap := g2 }
  refine wpAny_bind (wpAny_nextOf_tuple_item (s := { s with heap := g2 }) ((h2.extBut sb1.extBut D.i2z).extBut sb2.extBut D.i12.symm)
    ((hl2.extBut sb1.extBut D.l2z).extBut sb2.extBut D.l2i1) hy fun g3 it3 sb3 => wpAny_pure ?_)
  refine wpAny_pure (wpAny_pure ?_)
  show wpAny _ _ (newTuple [x, y] >>= _) _ _ { s with heap := g3 }
  refine wpAny_bind (wpAny_newTuple ?_)
  have size3 : g3.objs.size = s.heap.objs.size := by rw [sb3.1, sb2.1, sb1.1]
  have zz3 : IsZipHeld g3 z TI TO T true := sb3.extBut _ _ D.i2z.symm (sb2.extBut _ _ D.i1z.symm zz1)
  have kp : ∀ c o, c ≠ z → c ≠ i1 → c ≠ i2 → s.heap.get? c = some o → g3.get? c = some o :=
    fun c o c1 c2 c3 e => sb3.extBut _ _ c3 (sb2.extBut _ _ c2 (sb1.extBut _ _ c1 e))
  have it1 : g3.IsTupleIter i1 l1 (k1 + 1) := it2.extBut sb3.extBut D.i12
  have pr : IsPair (g3.push { cls := .type "tuple", data := .seq #[x, y] }) g3.objs.size x y := Heap.get?_push_size _ rfl
  have sz4 : (g3.push { cls := .type "tuple", data := .seq #[x, y] }).objs.size = g3.objs.size + 1 := Heap.size_push ..
  refine wpAny_pure ⟨_, rfl, wpAny_pure ?_⟩
  show Q (some (.ref g3.objs.size)) _
  rw [size3] at pr sz4 ⊢
  exact hQ _ (Heap.get?_push_of_some _ zz3) (it1.at fun o e => Heap.get?_push_of_some _ e) (it3.at fun o e => Heap.get?_push_of_some _ e) pr sz4
    fun c o c1 c2 c3 e => Heap.get?_push_of_some _ (kp c o c1 c2 c3 e)
theorem zipH_end {z TI TO T i1 i2 l1 l2 : Addr} {f : Bool} {oT : Obj} {k1 : Nat} {xs : Array Value} {Q : Option Value → Shared → Prop} (hh : A.handled = none)
    (D : ZipApart z TI TO i1 i2 l1 l2) (hz : IsZipHeld s.heap z TI TO T f) (hT : s.heap.get? T = some oT) (hTI : IsPair s.heap TI (.ref i1) (.ref i2))
    (h1 : s.heap.IsTupleIter i1 l1 k1) (hl1 : s.heap.IsTuple l1 xs) (hx : xs[k1]? = none)
    (hQ : ∀ h', (∀ c o, c ≠ z → c ≠ i1 → s.heap.get? c = some o → h'.get? c = some o) → Q none { s with heap := h' }) : wpAny (model prog w) A (pyNext (.ref z)) Q E s := by
  have hTy : s.TypeIs (.ref z) "zip" := ⟨_, hz, rfl⟩
  unfold pyNext
  refine wpAny_bind (wpAny_attempt (wpAny_callSpecial?_slot (name := Str.ofString "__next__") hTy F.slot_zip_next
    (wpAny_call_entry F.slot_zip_next hTy F.entry_zip_next ?_ (F.args_zip_next_1 _))))
  show wpAny _ _ (field (.ref z) 2 >>= _) _ _ s
  refine wpAny_bind (wpAny_field hz rfl (x := .bool false) rfl ?_)
  show wpAny _ _ (field (.ref z) 3 >>= _) _ _ s
  refine wpAny_bind (wpAny_field hz rfl (x := .ref TI) rfl ?_)
  refine wpAny_bind (wpAny_seqItems hTI rfl ?_)
  show wpAny _ _ (Builtin.SmallTypes.ownedTupleIsFree (.ref z) >>= _) _ _ s
  refine wpAny_bind (wpAny_tupleHeld_zip hz hT fun g1 zz1 sb1 => ?_)
  simp only [Bool.false_eq_true, if_false]
  refine wpAny_bind ?_
  rw [← Array.forIn_toList]
  simp only [List.forIn_cons, List.forIn_nil]
  refine wpAny_bind (wpAny_bind (wpAny_holding ?_))
  show wpAny _ _ (Builtin.SmallTypes.nextOf (.ref i1) >>= _) _ _ { s with heap := g1 }
  refine wpAny_bind (wpAny_nextOf_tuple_end (s := { s with heap := g1 }) hh (h1.extBut sb1.extBut D.i1z) (hl1.extBut sb1.extBut D.l1z) hx fun g2 e sb2 he => ?_)
  obtain ⟨o, ho, hcl⟩ := he
  refine wpAny_bind (wpAny_isInstance (T := "StopIteration") (b := true) ⟨o, ho, hcl⟩ isSubtype_stop ?_)
  exact wpAny_pure (hQ g2 fun c o c1 c2 q => sb2 _ _ c2 (sb1.extBut _ _ c1 q))
end

section
variable {X : Cx} {pins : List (Addr × Obj)} {σ : L2.St}
/-- where the zip stands -/
def ZState (z TI TO i1 i2 a b S : Addr) (i : Nat) (h : Heap) : Prop :=
  IsPair h TI (.ref i1) (.ref i2) ∧ h.IsTupleIter i1 a i ∧ h.IsTupleIter i2 b i ∧
  ((IsZip h z TI TO .none ∧ ∃ u v, IsPair h TO u v) ∨
    ∃ T f oT, IsZipHeld h z TI TO T f ∧ h.get? T = some oT ∧ T ≠ S ∧ T ≠ z ∧ T ≠ i1 ∧ T ≠ i2 ∧ ∃ o2, h.get? TO = some o2)

theorem zl_loop {z TI TO i1 i2 a b S : Addr} {xs ys : List V} {R : Result → Shared → Prop} {H₀ : Hp} (D : ZipApart z TI TO i1 i2 a b) (hl : xs.length = ys.length) (hln : xs.length < sizeLine)
    (hS : S ∉ [z, TI, TO, i1, i2]) (hc : X.calm = true) (hS0 : H₀ S = none)
    (hR : ∀ (ts : List Addr) (H' : Hp) s', Inv X pins σ H' s' → Same H₀ H' → H' S = some (.lst (ts.map V.ref)) → ts.length = xs.length →
      (∀ (i : Nat) (t : Addr), ts[i]? = some t → H₀ t = none ∧ ∃ x y, xs[i]? = some x ∧ ys[i]? = some y ∧ H' t = some (.tup [x, y])) → R (.ok (.ret .none)) s') :
    ∀ (k i : Nat) (ts : List Addr) (H : Hp) (s : Shared), xs.length - i = k → i ≤ xs.length → ts.length = i → Inv X pins σ H s → Same H₀ H →
      SqT X.K H a xs → SqT X.K H b ys → H S = some (.lst (ts.map V.ref)) → (∀ c ∈ [z, TI, TO, i1, i2], FpOk X pins H c) →
      (∀ (i : Nat) (t : Addr), ts[i]? = some t → H₀ t = none ∧ ∃ x y, xs[i]? = some x ∧ ys[i]? = some y ∧ H t = some (.tup [x, y])) →
      ZState z TI TO i1 i2 a b S i s.heap → codeAny (model X.prog X.w) X.A.in1 (.builtin "list.extend.loop" ⟨[.ref S, .ref z, .none], []⟩) R s := by
  have Sz : S ≠ z := fun e => hS (by rw [e]; simp)
  have STI : S ≠ TI := fun e => hS (by rw [e]; simp)
  have STO : S ≠ TO := fun e => hS (by rw [e]; simp)
  have Si1 : S ≠ i1 := fun e => hS (by rw [e]; simp)
  have Si2 : S ≠ i2 := fun e => hS (by rw [e]; simp)
  intro k
  induction k with
  | zero =>
    intro i ts H s hk hi hts I sm qa qb eS fp tt st
    have e1 : i = xs.length := by omega
    obtain ⟨hTI, h1, h2, hz⟩ := st
    obtain ⟨its, rv, p1, _⟩ := I.tuple qa
    have l1 := rv.length
    have hend : its.toArray[i]? = none := by
      simp
      omega
    refine codeAny_builtin F.entry_extend_loop ?_
    rw [Around.under_plainId F.plain_extend_loop _]
    show wpAny _ _ (pyNext (.ref z) >>= _) _ _ s
    have fin : ∀ h' : Heap, (∀ c o, c ∉ [z, TI, TO, i1, i2] → s.heap.get? c = some o → h'.get? c = some o) → R (.ok (.ret .none)) { s with heap := h' } := by
      intro h' kp
      refine hR ts H _ (I.turnedL (t' := s.toks) (ch := [z, TI, TO, i1, i2]) kp fp) sm eS (by omega) tt
    rcases hz with ⟨hz, u, v, hTO⟩ | ⟨T, f, oT, hz, hT, n1, n2, n3, n4, o2, hO2⟩
    · obtain ⟨its2, rv2, p2, _⟩ := I.tuple qb
      refine wpAny_bind (pyNext_zipT_end (A := X.A.in1.in1) (I.ok.hd hc) D hz hTI hTO h1 h2 (show s.heap.IsTuple a its.toArray from p1) (show s.heap.IsTuple b its2.toArray from p2) (.inl hend) fun h' kp => ?_)
      exact wpAny_pure (fin h' fun c o hcm e => kp c o (fun q => hcm (by simp [q])) (fun q => hcm (by simp [q])) (fun q => hcm (by simp [q])) (fun q => hcm (by simp [q])) e)
    · refine wpAny_bind (zipH_end (A := X.A.in1.in1) (I.ok.hd hc) D hz hT hTI h1 (show s.heap.IsTuple a its.toArray from p1) hend fun h' kp => ?_)
      exact wpAny_pure (fin h' fun c o hcm e => kp c o (fun q => hcm (by simp [q])) (fun q => hcm (by simp [q])) e)
  | succ k ih =>
    intro i ts H s hk hi hts I sm qa qb eS fp tt st
    have hlt : i < xs.length := by omega
    have hlt2 : i < ys.length := by omega
    obtain ⟨hTI, h1, h2, hz⟩ := st
    obtain ⟨its, rv, p1, _⟩ := I.tuple qa
    obtain ⟨its2, rv2, p2, _⟩ := I.tuple qb
    have gx : xs[i]? = some xs[i] := List.getElem?_eq_getElem hlt
    have gy : ys[i]? = some ys[i] := List.getElem?_eq_getElem hlt2
    obtain ⟨u, hu, ru⟩ := rv.get gx
    obtain ⟨u2, hu2, ru2⟩ := rv2.get gy
    have au : its.toArray[i]? = some u := by simpa using hu
    have au2 : its2.toArray[i]? = some u2 := by simpa using hu2
    refine codeAny_builtin F.entry_extend_loop ?_
    rw [Around.under_plainId F.plain_extend_loop _]
    show wpAny _ _ (pyNext (.ref z) >>= _) _ _ s
    have lt : ∀ {c : Addr}, H c ≠ none → c < s.heap.objs.size := fun {c} hne => by
      cases q : H c with
      | none => exact (hne q).elim
      | some o => exact (I.hok c o q).lt
    have old5 : ∀ c ∈ [z, TI, TO, i1, i2], c < s.heap.objs.size → True := fun _ _ _ => trivial
    have new := I.hok.fresh (Nat.le_refl s.heap.objs.size)
    have go : ∀ h' : Heap, (∀ c o, c ∉ [z, TI, TO, i1, i2] → s.heap.get? c = some o → h'.get? c = some o) → IsPair h' s.heap.objs.size u u2 → h'.objs.size = s.heap.objs.size + 1 →
        (∀ c ∈ [z, TI, TO, i1, i2], c < s.heap.objs.size) → ZState z TI TO i1 i2 a b S (i + 1) h' →
        wpAny (model X.prog X.w) X.A.in1.in1 (updateSeq S (·.push (.ref s.heap.objs.size)) >>= fun _ => again (.builtin "list.extend.loop" ⟨[.ref S, .ref z, .none], []⟩))
          (fun fin s' => match fin with | .done f => R (.ok f) s' | .again c' => c'.quiet = true ∧ codeAny (model X.prog X.w) X.A.in1 c' R s') (fun e s' => R (.error e) s') { s with heap := h' } := by
      intro h' kp pr sz old st'
      have ob : ObjOk X.prog X.w (upd H s.heap.objs.size (.tup [xs[i], ys[i]])) h' s.heap.objs.size (.tup [xs[i], ys[i]]) :=
        ⟨show 2 ≤ sizeLine by decide, [u, u2], .cons ru (.cons ru2 .nil), _, pr, rfl, _, rfl⟩
      have I1 : Inv X pins σ (upd H s.heap.objs.size (.tup [xs[i], ys[i]])) { s with heap := h' } := I.turnedNew (t' := s.toks) kp fp (Nat.le_refl _) ob
      have nS : S ≠ s.heap.objs.size := ne_of_none eS new
      have eS1 : (upd H s.heap.objs.size (.tup [xs[i], ys[i]])) S = some (.lst (ts.map V.ref)) := by
        rw [upd_ne nS]
        exact eS
      obtain ⟨hz', its3, n3, ri, e3⟩ := I1.hok S _ eS1
      have l3 := ri.length
      rw [List.length_map] at l3
      have sm1 : Same H (upd H s.heap.objs.size (.tup [xs[i], ys[i]])) := fun c o e => by
        rw [upd_ne (ne_of_none e new)]
        exact e
      refine wpAny_bind (wpAny_updateSeq e3 rfl (wpAny_pure ⟨plainId_quiet F.plain_extend_loop _, ?_⟩) ?_)
      · have I2 : Inv X pins σ (upd (upd H s.heap.objs.size (.tup [xs[i], ys[i]])) S (.lst ((ts ++ [s.heap.objs.size]).map V.ref)))
            { s with heap := h'.update S (Obj.mapSeq (·.push (.ref s.heap.objs.size))) } := by
          have up := Heap.get?_update_self (Obj.mapSeq (·.push (Value.ref s.heap.objs.size))) e3 rfl
          refine I1.write (t' := s.toks) (by rw [eS1]; trivial) (.inl rfl) (fun c o hcS q => ?_) ⟨_, up⟩ ⟨?_, its3 ++ [.ref s.heap.objs.size], n3 + 1, ?_, ?_⟩
          · exact (Heap.get?_update_other _ _ (fun q' : S = c => hcS q'.symm)).trans q
          · rw [List.length_map, List.length_append]
            show ts.length + 1 ≤ sizeLine
            omega
          · rw [List.map_append]
            exact ri.append (.cons rfl .nil)
          · refine up.trans ?_
            simp [Obj.mapSeq]
        have keepS : ∀ c o, c ≠ S → h'.get? c = some o → (h'.update S (Obj.mapSeq (·.push (.ref s.heap.objs.size)))).get? c = some o :=
          fun c o hcS q => (Heap.get?_update_other _ _ (fun q' : S = c => hcS q'.symm)).trans q
        have sm2 : Same H₀ (upd (upd H s.heap.objs.size (.tup [xs[i], ys[i]])) S (.lst ((ts ++ [s.heap.objs.size]).map V.ref))) := fun c o e => by
          rw [upd_ne (fun q => by rw [q, hS0] at e; cases e)]
          exact sm1 c o (sm c o e)
        have seqs : ∀ (c : Addr) (vs : List V), c ≠ S → SqT X.K H c vs → SqT X.K (upd (upd H s.heap.objs.size (.tup [xs[i], ys[i]])) S (.lst ((ts ++ [s.heap.objs.size]).map V.ref))) c vs := by
          intro c vs hcS q
          rcases q with (q | ⟨o, q⟩) | q
          · exact .inl (.inl (by rw [upd_ne hcS]; exact sm1 _ _ q))
          · exact .inl (.inr ⟨o, by rw [upd_ne hcS]; exact sm1 _ _ q⟩)
          · exact .inr q
        have Sa : a ≠ S := fun q => by
          obtain ⟨o, ho, hcl, _⟩ := p1
          have := (I.hok S _ eS)
          obtain ⟨_, _, _, _, e⟩ := this
          rw [← q, ho] at e
          cases e
          exact nomatch (show Value.type "list" = Value.type "tuple" from hcl)
        have Sb : b ≠ S := fun q => by
          obtain ⟨o, ho, hcl, _⟩ := p2
          have := (I.hok S _ eS)
          obtain ⟨_, _, _, _, e⟩ := this
          rw [← q, ho] at e
          cases e
          exact nomatch (show Value.type "list" = Value.type "tuple" from hcl)
        refine ih (i + 1) (ts ++ [s.heap.objs.size]) _ _ (by omega) hlt (by rw [List.length_append, hts]; rfl) I2 sm2 (seqs a xs Sa qa) (seqs b ys Sb qb) upd_same (fun c hcm => ?_) (fun j t hj => ?_) ?_
        · have hcS : c ≠ S := fun q => hS (by rw [← q]; exact hcm)
          have f := fp c hcm
          refine ⟨?_, f.2⟩
          rw [upd_ne hcS, upd_ne (Nat.ne_of_lt (old c hcm))]
          exact f.1
        · by_cases hjl : j < ts.length
          · rw [List.getElem?_append_left hjl] at hj
            obtain ⟨q0, x, y, q1, q2, q3⟩ := tt j t hj
            refine ⟨q0, x, y, q1, q2, ?_⟩
            have htS : t ≠ S := fun q => by rw [q, eS] at q3; cases q3
            rw [upd_ne htS]
            exact sm1 _ _ q3
          · rw [List.getElem?_append_right (by omega)] at hj
            have hj0 : j - ts.length = 0 := by
              apply Classical.byContradiction
              intro q
              rw [List.getElem?_eq_none (by show 1 ≤ _; omega)] at hj
              cases hj
            rw [hj0] at hj
            cases hj
            have ej : j = i := by omega
            subst ej
            refine ⟨sm.free new, _, _, gx, gy, ?_⟩
            rw [upd_ne nS.symm, upd_same]
        · obtain ⟨s1, s2, s3, s4⟩ := st'
          refine ⟨keepS _ _ STI.symm s1, s2.at fun o e => keepS _ o Si1.symm e, s3.at fun o e => keepS _ o Si2.symm e, ?_⟩
          rcases s4 with ⟨s4, v1, v2, s5⟩ | ⟨T, f, oT, s4, s5, s6, s7⟩
          · exact .inl ⟨keepS _ _ Sz.symm s4, v1, v2, keepS _ _ STO.symm s5⟩
          · obtain ⟨m1, m2, m3, o2, m4⟩ := s7
            exact .inr ⟨T, f, oT, keepS _ _ Sz.symm s4, keepS _ _ s6 s5, s6, m1, m2, m3, o2, keepS _ _ STO.symm m4⟩
      · rw [List.size_toArray]
        omega
    have hil1 : i1 < s.heap.objs.size := by
      obtain ⟨_, q, _⟩ := h1
      exact Heap.lt_size q
    have hil2 : i2 < s.heap.objs.size := by
      obtain ⟨_, q, _⟩ := h2
      exact Heap.lt_size q
    have hSl : S < s.heap.objs.size := lt (by rw [eS]; exact fun q => nomatch q)
    rcases hz with ⟨hz, v1, v2, hTO⟩ | ⟨T, f, oT, hz, hT, n1, n2, n3, n4, o2, hO2⟩
    · have all5 : ∀ c ∈ [z, TI, TO, i1, i2], c < s.heap.objs.size := by
        intro c hcm
        simp only [List.mem_cons, List.not_mem_nil, or_false] at hcm
        rcases hcm with q | q | q | q | q
        · rw [q]; exact Heap.lt_size hz
        · rw [q]; exact Heap.lt_size hTI
        · rw [q]; exact Heap.lt_size hTO
        · rw [q]; exact hil1
        · rw [q]; exact hil2
      refine wpAny_bind (pyNext_zipT_item D hz hTI hTO h1 h2 (show s.heap.IsTuple a its.toArray from p1) (show s.heap.IsTuple b its2.toArray from p2) au au2 fun h' a1 a2 a3 a4 a5 a6 kp => ?_)
      refine go h' (fun c o hcm e => kp c o (fun q => hcm (by simp [q])) (fun q => hcm (by simp [q])) (fun q => hcm (by simp [q])) (fun q => hcm (by simp [q])) e) a5 a6 all5 ?_
      exact ⟨kp _ _ D.TIz D.TITO D.TIi1 D.TIi2 hTI, a3, a4, .inr ⟨s.heap.objs.size, false, _, a1, a5, Nat.ne_of_gt hSl, Nat.ne_of_gt (Heap.lt_size hz), Nat.ne_of_gt hil1, Nat.ne_of_gt hil2, _, a2⟩⟩
    · refine wpAny_bind (zipH_item D hz hT hTI h1 h2 (show s.heap.IsTuple a its.toArray from p1) (show s.heap.IsTuple b its2.toArray from p2) au au2 fun h' a1 a3 a4 a5 a6 kp => ?_)
      refine go h' (fun c o hcm e => kp c o (fun q => hcm (by simp [q])) (fun q => hcm (by simp [q])) (fun q => hcm (by simp [q])) e) a5 a6 ?_ ?_
      · intro c hcm
        simp only [List.mem_cons, List.not_mem_nil, or_false] at hcm
        rcases hcm with q | q | q | q | q
        · rw [q]; exact Heap.lt_size hz
        · rw [q]; exact Heap.lt_size hTI
        · rw [q]; exact Heap.lt_size hO2
        · rw [q]; exact hil1
        · rw [q]; exact hil2
      · exact ⟨kp _ _ D.TIz D.TIi1 D.TIi2 hTI, a3, a4, .inr ⟨T, true, oT, a1, kp _ _ n2 n3 n4 hT, n1, n2, n3, n4, o2, kp _ _ D.TOz D.TOi1 D.TOi2 hO2⟩⟩
end

theorem zip_nolen : typeLookup (.type "zip") "__len__" = pure none := by rw [typeLookup_type, builtinLookup_eq_fast]; kernel_rfl
theorem zip_nohint : typeLookup (.type "zip") "__length_hint__" = pure none := by rw [typeLookup_type, builtinLookup_eq_fast]; kernel_rfl

section
variable {X : Cx} {pins : List (Addr × Obj)} {σ : L2.St}
/-- what list(zip(t, u)) gives -/
def Zipped (xs ys : List V) (H : Hp) (Q : VK) : Prop := ∀ (l : Addr) (ts : List Addr) (H' : Hp), H l = none → Same H H' → H' l = some (.lst (ts.map V.ref)) → ts.length = xs.length →
  (∀ (i : Nat) (t : Addr), ts[i]? = some t → H t = none ∧ ∃ x y, xs[i]? = some x ∧ ys[i]? = some y ∧ H' t = some (.tup [x, y])) → Q (.ref l) H'
theorem call_lzip {z TI TO i1 i2 a b : Addr} {xs ys : List V} {H : Hp} {s : Shared} {Q : VK} (D : ZipApart z TI TO i1 i2 a b) (hl : xs.length = ys.length) (hln : xs.length < sizeLine)
    (hc : X.calm = true) (I : Inv X pins σ H s) (qa : SqT X.K H a xs) (qb : SqT X.K H b ys) (fp : ∀ c ∈ [z, TI, TO, i1, i2], FpOk X pins H c)
    (hz : IsZip s.heap z TI TO .none) (hTI : IsPair s.heap TI (.ref i1) (.ref i2)) (hTO : IsPair s.heap TO .none .none)
    (h1 : s.heap.IsTupleIter i1 a 0) (h2 : s.heap.IsTupleIter i2 b 0) (q : Zipped xs ys H Q) :
    wpAny (model X.prog X.w) X.A (call (.type "list") [.ref z]) (EP X pins σ Q) X.xe s := by
  have all5 : ∀ c ∈ [z, TI, TO, i1, i2], c < s.heap.objs.size := by
    intro c hcm
    simp only [List.mem_cons, List.not_mem_nil, or_false] at hcm
    rcases hcm with q | q | q | q | q
    · rw [q]; exact Heap.lt_size hz
    · rw [q]; exact Heap.lt_size hTI
    · rw [q]; exact Heap.lt_size hTO
    · rw [q]; obtain ⟨_, q', _⟩ := h1; exact Heap.lt_size q'
    · rw [q]; obtain ⟨_, q', _⟩ := h2; exact Heap.lt_size q'
  have hSf : s.heap.objs.size ∉ [z, TI, TO, i1, i2] := fun hm => Nat.lt_irrefl _ (all5 _ hm)
  have new := I.hok.fresh (Nat.le_refl s.heap.objs.size)
  refine callType_codes (Q₁ := fun obj s₁ => obj = .ref s.heap.objs.size ∧ s₁ = { s with heap := s.heap.push { cls := .type "list", data := .seq #[] } }) F.called_list (F.typeCall_list_1 _) F.entry_list_init
    (code_list_new _ ⟨rfl, rfl⟩) fun obj s₁ e => ?_
  obtain ⟨rfl, rfl⟩ := e
  have hS : (s.heap.push { cls := .type "list", data := .seq #[] }).get? s.heap.objs.size = some { cls := .type "list", data := .seq #[] } := Heap.get?_push_size _ rfl
  refine ⟨⟨_, hS, rfl⟩, F.args_list_init_2 _ _, ?_⟩
  have kp0 : ∀ c o, s.heap.get? c = some o → (s.heap.push { cls := .type "list", data := .seq #[] }).get? c = some o := fun c o e => Heap.get?_push_of_some _ e
  show wpAny _ _ (do let old ← Builtin.List.listItems (.ref s.heap.objs.size); Builtin.List.listUpdate (.ref s.heap.objs.size) (fun _ => #[]); letGo old.toList.reverse; Builtin.List.listExtendWith (.ref s.heap.objs.size) (.ref z) .none) _ _ _
  refine wpAny_bind ?_
  unfold Builtin.List.listItems
  refine wpAny_bind (wpAny_seqItems hS rfl (wpAny_pure ?_))
  show wpAny _ _ (updateSeq s.heap.objs.size (fun _ => #[]) >>= fun _ => letGo (#[] : Array Value).toList.reverse >>= fun _ => Builtin.List.listExtendWith (.ref s.heap.objs.size) (.ref z) .none) _ _ _
  refine wpAny_bind (wpAny_updateSeq hS rfl ?_)
  have hS2 := Heap.get?_update_self (Obj.mapSeq (fun _ => (#[] : Array Value))) hS rfl
  have kp1 : ∀ c o, s.heap.get? c = some o → ((s.heap.push { cls := .type "list", data := .seq #[] }).update s.heap.objs.size (Obj.mapSeq (fun _ => (#[] : Array Value)))).get? c = some o :=
    fun c o e => (Heap.get?_update_other _ _ (Nat.ne_of_gt (Heap.lt_size e))).trans (kp0 c o e)
  refine wpAny_bind (wpAny_letGo ?_)
  generalize ((s.heap.push { cls := .type "list", data := .seq #[] }).update s.heap.objs.size (Obj.mapSeq (fun _ => (#[] : Array Value)))) = g1 at hS2 kp1 ⊢
  have hTy : ({ s with heap := g1 } : Shared).TypeIs (.ref z) "zip" := ⟨_, kp1 _ _ hz, rfl⟩
  unfold Builtin.List.listExtendWith
  refine wpAny_bind (wpAny_typeOf hTy ?_)
  have n1 : Builtin.List.listSameRef (.ref s.heap.objs.size) (.ref z) = false := by
    simp [Builtin.List.listSameRef, Nat.ne_of_gt (Heap.lt_size hz)]
  have n2 : (Value.type "zip" == Value.type "list") = false := by decide
  have n3 : (Value.type "zip" == Value.type "tuple") = false := by decide
  simp only [n1, n2, n3, Bool.or_false, Bool.false_eq_true, if_false]
  refine wpAny_bind (wpAny_pyIter_zip (kp1 _ _ hz) ?_)
  refine wpAny_bind (wpAny_holding ?_)
  unfold Builtin.List.listLengthHint
  refine wpAny_bind (wpAny_specialOf hTy zip_nolen ?_)
  show wpAny _ _ (specialOf (Value.ref z) (Str.ofString "__length_hint__") >>= _) _ _ _
  refine wpAny_bind (wpAny_specialOf hTy zip_nohint ?_)
  refine wpAny_pure ?_
  show wpAny _ _ (rule "list.extend.makes-room" >>= fun _ => Builtin.List.listTouch (.ref s.heap.objs.size) >>= fun _ =>
    again (.builtin "list.extend.loop" ⟨[.ref s.heap.objs.size, .ref z, .none], []⟩)) _ _ _
  refine wpAny_bind (wpAny_rule ?_)
  refine wpAny_bind ?_
  show wpAny _ _ (updateSeq s.heap.objs.size (·.push .none) >>= fun _ => updateSeq s.heap.objs.size (·.pop)) _ _ _
  refine wpAny_bind (wpAny_updateSeq hS2 rfl ?_)
  have hS3 := Heap.get?_update_self (Obj.mapSeq (·.push Value.none)) hS2 rfl
  refine wpAny_updateSeq (hz := by seq_fits) hS3 rfl ?_
  have hS4 := Heap.get?_update_self (Obj.mapSeq (·.pop)) hS3 rfl
  have kp2 : ∀ c o, s.heap.get? c = some o → ((g1.update s.heap.objs.size (Obj.mapSeq (·.push Value.none))).update s.heap.objs.size (Obj.mapSeq (·.pop))).get? c = some o :=
    fun c o e => (Heap.get?_update_other _ _ (Nat.ne_of_gt (Heap.lt_size e))).trans ((Heap.get?_update_other _ _ (Nat.ne_of_gt (Heap.lt_size e))).trans (kp1 c o e))
  generalize ((g1.update s.heap.objs.size (Obj.mapSeq (·.push Value.none))).update s.heap.objs.size (Obj.mapSeq (·.pop))) = g2 at hS4 kp2 ⊢
  have I2 : Inv X pins σ (upd H s.heap.objs.size (.lst [])) { s with heap := g2 } := by
    refine I.laid (t' := s.toks) kp2 (Nat.le_refl _) ⟨Nat.zero_le _, [], _, .nil, hS4⟩
  have sm : Same H (upd H s.heap.objs.size (.lst [])) := fun c o e => by
    rw [upd_ne (ne_of_none e new)]
    exact e
  have sqt : ∀ (c : Addr) (vs : List V), SqT X.K H c vs → SqT X.K (upd H s.heap.objs.size (.lst [])) c vs := by
    intro c vs q
    rcases q with (q | ⟨o, q⟩) | q
    · exact .inl (.inl (sm _ _ q))
    · exact .inl (.inr ⟨o, sm _ _ q⟩)
    · exact .inr q
  refine wpAny_pure ⟨plainId_quiet F.plain_extend_loop _, zl_loop D hl hln hSf hc new (fun ts H' s' I' sm' eS len tt => ⟨rfl, .ref s.heap.objs.size, H', I', rfl, q _ ts H' new sm' eS len tt⟩)
    xs.length 0 [] _ _ (Nat.sub_zero _) (Nat.zero_le _) rfl I2 sm (sqt a xs qa) (sqt b ys qb) upd_same (fun c hcm => ?_) (fun i t h => by simp at h) ?_⟩
  · have f := fp c hcm
    refine ⟨?_, f.2⟩
    rw [upd_ne (Nat.ne_of_lt (all5 c hcm))]
    exact f.1
  · exact ⟨kp2 _ _ hTI, h1.at fun o e => kp2 _ o e, h2.at fun o e => kp2 _ o e, .inl ⟨kp2 _ _ hz, _, _, kp2 _ _ hTO⟩⟩

/-- list(zip(e, e2)), two tuples of one length -/
theorem pe_lzip {e e2 : Expr} {ta : TA} {p p2 pos pos2 : Pos} (hc : X.calm = true) (hg : Gl X "list") (hm : X.mg "list" = none) (hg2 : Gl X "zip") (hm2 : X.mg "zip" = none) (ha : PA X [e, e2] ta)
    (hs : starEach [e, e2] X.env = (false, eval e X.env) :: starEach [e2] X.env := by rfl) (hpl : (backTo pos2 (starEach [e2] X.env)).any (·.1) = false := by rfl)
    (hs1 : starEach [.Call (.Name "zip" p2) [e, e2] [] pos2] X.env = [(false, eval (.Call (.Name "zip" p2) [e, e2] [] pos2) X.env)] := by rfl) :
    PE X (.Call (.Name "list" p) [.Call (.Name "zip" p2) [e, e2] [] pos2] [] pos)
      (fun σ H Q => ta σ H fun vs H1 => ∃ a b xs ys, vs = [.ref a, .ref b] ∧ SqT X.K H1 a xs ∧ SqT X.K H1 b ys ∧ xs.length = ys.length ∧ xs.length < sizeLine ∧ Zipped xs ys H1 Q) := by
  refine ⟨fun pins s σ H Q I h => ?_⟩
  refine Call_ (ld_blt I hg hm boot_list (PyProof.Rows.callWith_type1 (args_cons (Call_ (ld_blt I hg2 hm2 PyProof.Rows.boot_zip (PyProof.Rows.callWith_type1
    (thn (ha.run pos2 pins s σ H _ I h) fun us s1 ⟨vs, H1, I1, r1, q1⟩ => ?_) hs hpl))) hs1) hs1 rfl))
  obtain ⟨a, b, xs, ys, ex, qa, qb, hl, hln, q⟩ := q1
  subst ex
  cases r1 with
  | cons r rr =>
    cases rr with
    | cons r' rr =>
      cases rr
      cases r
      cases r'
      obtain ⟨its, rv, p1, _⟩ := I1.tuple qa
      obtain ⟨its2, rv2, p2', _⟩ := I1.tuple qb
      obtain ⟨o1, ho1, _⟩ := id p1
      obtain ⟨o2, ho2, _⟩ := id p2'
      refine call_zipT (show s1.heap.IsTuple a its.toArray from p1) (show s1.heap.IsTuple b its2.toArray from p2') fun h' hz hTI hTO h1 h2 hsz hk => ?_
      have I2 : Inv X pins σ H1 { s1 with heap := h' } := I1.kept (t' := s1.toks) hk
      refine args_nil (call_lzip (PySem.W.ktu_apart s1.heap.objs.size a b (Heap.lt_size ho1) (Heap.lt_size ho2)) hl hln hc I2 qa qb (fun c hcm => ?_) hz hTI hTO h1 h2 q)
      have hle : s1.heap.objs.size ≤ c := by
        simp only [List.mem_cons, List.not_mem_nil, or_false] at hcm
        rcases hcm with z | z | z | z | z
        · rw [z]; exact Nat.le_add_right _ _
        · rw [z]; exact Nat.le_add_right _ _
        · rw [z]; exact Nat.le_add_right _ _
        · rw [z]; exact Nat.le_refl _
        · rw [z]; exact Nat.le_add_right _ _
      exact I1.fpOk hle (I1.hok.fresh hle)
end
end KR
/-! setdefault where the keys are tuples -/
namespace KR
open PySem PySem.Spec PyProof.Rows L2
section
variable {X : Cx} {pins : List (Addr × Obj)} {σ : L2.St} {H : Hp} {s : Shared} {a b : Addr} {d : V} {r : Value} {A : Around} {E : Value → Shared → Prop} {kvs : List (List L2.Key × V)} {k : List L2.Key}
theorem d_setdT {Q : Value → Shared → Prop} (hu : A.units + 1 < cLine) (I : Inv X pins σ H s) (e : H a = some (.dT kvs)) (eb : H b = some (.tup (k.map kV))) (rd : RelV d r) (l : kvs.length < sizeLine)
    (h1 : ∀ v, valV kvs k = some v → ∀ w' s', Inv X pins σ H s' → RelV v w' → Q w' s')
    (h2 : valV kvs k = none → ∀ s', Inv X pins σ (upd H a (.dT (putK kvs k d))) s' → Q r s') :
    wpAny (model X.prog X.w) A (call (.builtin "dict.setdefault") [.ref a, .ref b, r]) Q E s := by
  obtain ⟨z, hd, xs, rel, dd⟩ := dt_of I.hok e
  have hz : xs.length ≤ sizeLine := by
    rw [← Paired.length rel]
    exact z
  have vk := rel.val k
  refine call_setdefault_heap (hsz := hz) (tupleKind_room_in1 hu) (key_of I.hok eb) hd dd (fun p hp => ?_) (fun hn h' dd' hs => ?_)
  · rw [hp] at vk
    cases q0 : valV kvs k with
    | none =>
      rw [q0] at vk
      exact (show False from vk).elim
    | some v0 =>
      rw [q0] at vk
      exact h1 v0 q0 _ _ (I.tok _) vk
  · rw [hn] at vk
    cases q0 : valV kvs k with
    | some v0 =>
      rw [q0] at vk
      exact (show False from vk).elim
    | none =>
      have hl : (putK kvs k d).length ≤ sizeLine := by
        have := length_putK kvs k d
        omega
      refine h2 q0 _ ?_
      obtain ⟨q, es, ep, hq, g2, g3, g4, _, g5⟩ := dd'
      refine d_write I (by rw [e]; exact True.intro) hs ⟨q, hq⟩ ⟨hl, hd, _, (rel.put k eb rd).keeps fun c ys ec => ?_, q, es, ep, hq, g2, g3, g4, g5⟩
      rw [upd_ne (ne_of ec e (fun z => nomatch z))]
      exact ec
end
/-- d.setdefault(y, z), keys that are tuples -/
def tDSetT (td ty tx : TE) : TE := fun σ H Q => td σ H fun x H1 => ∃ a, x = .ref a ∧ IsD H1 a ∧ ty σ H1 fun y H2 => tx σ H2 fun z H3 =>
  ∃ (kvs : List (List L2.Key × V)) (k : List L2.Key) (b : Addr), H3 a = some (.dT kvs) ∧ y = .ref b ∧ H3 b = some (.tup (k.map kV)) ∧ kvs.length < sizeLine ∧
  (∀ v, valV kvs k = some v → Q v H3) ∧ (valV kvs k = none → Q z (upd H3 a (.dT (putK kvs k z))))
theorem pe_dsetdT {X : Cx} {o e f : Expr} {td ty tx : TE} {apos cpos : Pos} (hu : X.A.units + 1 < cLine) (ho : PE X o td) (he : PE X e ty) (hf : PE X f tx) (m : M2 X o "setdefault" apos e f cpos) :
    PE X (.Call (.Attribute o "setdefault" apos) [e, f] [] cpos) (tDSetT td ty tx) := by
  refine ⟨fun pins s σ H Q I h => ?_⟩
  refine wpAny_Call_method m.base m.few m.line PySem.F.plainAttrs_dict PySem.F.slot_dict_setdefault PySem.F.type_dict_setdefault
    (thn (ho.run pins s σ H _ I h) fun u s1 ⟨x, H1, I1, rx, a, ex, d, q1⟩ => ?_)
  subst ex
  obtain rfl : u = Value.ref a := rx
  obtain ⟨t1, t2, _⟩ := isD_at I1 d
  refine ⟨t1, t2, ?_⟩
  rw [m.trees]
  refine Calls.callWith_builtin rfl (Calls.evalArgs_plain (Calls.spliced_cons (thn (he.run pins s1 σ H1 _ I1 q1) fun iv s2 ⟨y, H2, I2, ry, q2⟩ =>
    Calls.spliced_cons (thn (hf.run pins s2 σ H2 _ I2 q2) fun fv s3 ⟨z, H3, I3, rz, kvs, k, b, ea, ey, eb, hl, q3, q4⟩ => Calls.spliced_nil ?_))))
  subst ey
  cases (show iv = Value.ref b from ry)
  exact d_setdT hu I3 ea eb rz hl (fun v hv w' s4 I4 rw' => ⟨v, _, I4, rw', q3 v hv⟩) fun hn s4 I4 => ⟨z, _, I4, rz, q4 hn⟩
end KR
/-! short words: a def by its name and promise -/
namespace KR
open PySem PySem.Spec PyProof.Rows L2

/-- the built-ins that the text does not hide -/
structure Bt (mg : Str → Option Value) : Prop where
  len : mg "len" = none
  range : mg "range" = none
  enumerate : mg "enumerate" = none
  zip : mg "zip" = none
  isinstance : mg "isinstance" = none
  int : mg "int" = none
  bool : mg "bool" = none
  tuple : mg "tuple" = none
  list : mg "list" = none
  max : mg "max" = none
  min : mg "min" = none
  repr : mg "repr" = none
  set : mg "set" = none
  sum : mg "sum" = none
  sorted : mg "sorted" = none
def Cst (mg : Str → Option Value) (x : Str) (v : Int) : Prop := ∃ t, mg x = some (.int v t)
def DefAt (K : PySem.W.Frag) (mg : Str → Option Value) (x : Str) (st : Stmt) : Prop := ∃ f fd, Fun K x x st f fd ∧ mg x = some (.ref f)
def Use (P : Program) (w : World) (K : PySem.W.Frag) (mg : Str → Option Value) (base : Heap) (x : Str) (k : Nat) (ps : List Str) (sp : Sp) : Prop :=
  ∃ f fd, FnOk P w K mg base CX0 k f fd ps sp ∧ mg x = some (.ref f) ∧ PySem.W.keepIn K (.ref f) = true ∧ Binds K fd ps []
def UseG (P : Program) (w : World) (K : PySem.W.Frag) (mg : Str → Option Value) (base : Heap) (x : Str) (k : Nat) (ps : List Str) (sp : Sp) : Prop :=
  ∃ f fd, FnG P w K mg base k f fd ps sp ∧ mg x = some (.ref f) ∧ PySem.W.keepIn K (.ref f) = true ∧ Binds K fd ps []

section
variable {P : Program} {w : World} {K : PySem.W.Frag} {mg : Str → Option Value} {base : Heap} {x : Str} {st : Stmt} {k : Nat} {ps : List Str} {sp : Sp}
theorem use_of (D : DefAt K mg x st) (ok : ∀ f fd, Fun K x x st f fd → FnOk P w K mg base CX0 k f fd ps sp)
    (h : ∀ (kV doc pm : Value) (an : Option Addr) (cdv ct : Value) (us : List Value), us.length = ps.length → bindArgs (PySem.W.fnOf x x (defArgs st) (defBody st) (defScope st) .none kV doc pm an cdv ct) ⟨us, []⟩ = pure (ps.zip us)) :
    Use P w K mg base x k ps sp := by
  obtain ⟨f, fd, F, hm⟩ := D
  exact ⟨f, fd, ok f fd F, hm, F.kp, F.binds h⟩
theorem use_ofG (D : DefAt K mg x st) (ok : ∀ f fd, Fun K x x st f fd → FnG P w K mg base k f fd ps sp)
    (h : ∀ (kV doc pm : Value) (an : Option Addr) (cdv ct : Value) (us : List Value), us.length = ps.length → bindArgs (PySem.W.fnOf x x (defArgs st) (defBody st) (defScope st) .none kV doc pm an cdv ct) ⟨us, []⟩ = pure (ps.zip us)) :
    UseG P w K mg base x k ps sp := by
  obtain ⟨f, fd, F, hm⟩ := D
  exact ⟨f, fd, ok f fd F, hm, F.kp, F.binds h⟩
end
section
variable {X : Cx} {x : Str} {j k : Nat} {ps : List Str} {sp : Sp} {e : Expr} {es : List Expr} {t : TA} {p pos : Pos} {v : Int}
theorem pe_use (u : Use X.prog X.w X.K X.mg X.base x j ps sp) (le : j ≤ k) (hr : Room k X.A) (hg : Gl X x) (ha : PA X (e :: es) t)
    (hdb : (x == ("__debug__" : Str)) = false := by decide) (he : starEach (e :: es) X.env = (false, eval e X.env) :: starEach es X.env := by rfl)
    (hpl : (backTo pos (starEach es X.env)).any (·.1) = false := by rfl) : PE X (.Call (.Name x p) (e :: es) [] pos) (tCall sp [] E0 t) := by
  obtain ⟨f, fd, F, hm, kp, b⟩ := u
  exact pe_call F (hr.mono le) hg hm kp b .nil pass0 ha hdb he hpl
theorem pe_useG (u : UseG X.prog X.w X.K X.mg X.base x j ps sp) (gd : X.A.guards = some []) (le : j ≤ k) (hr : Room k X.A) (hg : Gl X x) (ha : PA X (e :: es) t)
    (hdb : (x == ("__debug__" : Str)) = false := by decide) (he : starEach (e :: es) X.env = (false, eval e X.env) :: starEach es X.env := by rfl)
    (hpl : (backTo pos (starEach es X.env)).any (·.1) = false := by rfl) : PE X (.Call (.Name x p) (e :: es) [] pos) (tCall sp [] E0 t) := by
  obtain ⟨f, fd, F, hm, kp, b⟩ := u
  exact pe_callG F gd (hr.mono le) hg hm kp b .nil ha hdb he hpl
theorem pe_cst (hg : Gl X x) (h : Cst X.mg x v) (hd : (x == ("__debug__" : Str)) = false := by decide) : PE X (.Name x pos) (tC (.int v)) := by
  obtain ⟨t, h⟩ := h
  exact pe_glob hg h ⟨t, rfl⟩ hd
end
/-- seqs kept -/
theorem sameT {K : PySem.W.Frag} {H H' : Hp} {a : Addr} {xs : List V} (e : Same H H') (h : SqT K H a xs) : SqT K H' a xs := by
  rcases h with (h | ⟨o, h⟩) | h
  · exact .inl (.inl (e _ _ h))
  · exact .inl (.inr ⟨o, e _ _ h⟩)
  · exact .inr h
theorem same_new {H : Hp} {p : Addr} {o : HO} (h : H p = none) : Same H (upd H p o) := fun b x e => by
  rw [upd_ne (ne_of_none e h)]
  exact e
/-- an object that H does not know was changed -/
theorem same_mut {H H' : Hp} {p : Addr} {o : HO} (e : Same H H') (h : H p = none) : Same H (upd H' p o) := fun a u ha => by
  rw [upd_ne (ne_of_none ha h)]
  exact e a u ha
theorem sqT {K : PySem.W.Frag} {H : Hp} {a : Addr} {xs : List V} (h : H a = some (.tup xs)) : SqT K H a xs := .inl (.inl h)
theorem sqL {K : PySem.W.Frag} {H : Hp} {a : Addr} {xs : List V} (h : H a = some (.lst xs)) : SqL K H a xs := .inl (.inl h)
end KR
/-! loops over enumerate(tuple), over a tuple, over a range, by an invariant -/
namespace KR
open PySem PySem.Spec PyProof.Rows L2
theorem for_enumT {K : PySem.W.Frag} {a : Addr} {xs : List V} {g : TG} {tb : TS} {D : Ends} {σ : L2.St} {H : Hp} (Pv : Nat → L2.St → Hp → Prop) (h0 : Pv 0 σ H)
    (hq : ∀ i σ H, Pv i σ H → SqT K H a xs)
    (hs : ∀ (i : Nat) (x : V) (T : Addr) (σ : L2.St) (H : Hp), xs[i]? = some x → Pv i σ H → H T = none →
      g (.ref T) σ (upd H T (.tup [.int (i : Nat), x])) fun σ2 H2 => tb { D with nx := Pv (i + 1), ct := Pv (i + 1), bk := D.nx } σ2 H2)
    (hd : ∀ σ H, Pv xs.length σ H → D.nx σ H) :
    ∃ W : Nat → Nat → L2.St → Hp → Prop, (∃ m, W 0 m σ H) ∧ ∀ i m σ H, W i m σ H →
      ((IteT K a).stop i H ∧ D.nx σ H) ∨ ((IteT K a).go i H ∧ ∃ N : L2.St → Hp → Prop, (∀ σ' H', N σ' H' → ∃ m', m' < m ∧ W (i + 1) m' σ' H') ∧
        ∀ v H', (IteT K a).yld i H v H' → g v σ H' fun σ2 H2 => tb { D with nx := N, ct := N, bk := D.nx } σ2 H2) := by
  refine ⟨fun i m σ H => m = xs.length - i ∧ i ≤ xs.length ∧ Pv i σ H, ⟨xs.length, rfl, Nat.zero_le _, h0⟩, ?_⟩
  rintro i m σ H ⟨rfl, hi, p⟩
  have q := hq i σ H p
  by_cases hlt : i < xs.length
  · have hx : xs[i]? = some xs[i] := List.getElem?_eq_getElem hlt
    refine .inr ⟨⟨xs, _, q, hx⟩, Pv (i + 1), fun σ' H' p' => ⟨xs.length - (i + 1), by omega, rfl, hlt, p'⟩, fun v H' y => ?_⟩
    obtain ⟨T, x', rfl, hT, rfl, f1⟩ := y
    exact hs i x' T σ H (f1 xs q) p hT
  · have e : i = xs.length := by omega
    subst e
    exact .inl ⟨⟨xs, q, Nat.le_refl _⟩, hd σ H p⟩
theorem for_enumL {K : PySem.W.Frag} {a : Addr} {xs : List V} {g : TG} {tb : TS} {D : Ends} {σ : L2.St} {H : Hp} (Pv : Nat → L2.St → Hp → Prop) (h0 : Pv 0 σ H)
    (hq : ∀ i σ H, Pv i σ H → SqL K H a xs)
    (hs : ∀ (i : Nat) (x : V) (T : Addr) (σ : L2.St) (H : Hp), xs[i]? = some x → Pv i σ H → H T = none →
      g (.ref T) σ (upd H T (.tup [.int (i : Nat), x])) fun σ2 H2 => tb { D with nx := Pv (i + 1), ct := Pv (i + 1), bk := D.nx } σ2 H2)
    (hd : ∀ σ H, Pv xs.length σ H → D.nx σ H) :
    ∃ W : Nat → Nat → L2.St → Hp → Prop, (∃ m, W 0 m σ H) ∧ ∀ i m σ H, W i m σ H →
      ((Ite K a).stop i H ∧ D.nx σ H) ∨ ((Ite K a).go i H ∧ ∃ N : L2.St → Hp → Prop, (∀ σ' H', N σ' H' → ∃ m', m' < m ∧ W (i + 1) m' σ' H') ∧
        ∀ v H', (Ite K a).yld i H v H' → g v σ H' fun σ2 H2 => tb { D with nx := N, ct := N, bk := D.nx } σ2 H2) := by
  refine ⟨fun i m σ H => m = xs.length - i ∧ i ≤ xs.length ∧ Pv i σ H, ⟨xs.length, rfl, Nat.zero_le _, h0⟩, ?_⟩
  rintro i m σ H ⟨rfl, hi, p⟩
  have q := hq i σ H p
  by_cases hlt : i < xs.length
  · have hx : xs[i]? = some xs[i] := List.getElem?_eq_getElem hlt
    refine .inr ⟨⟨xs, _, q, hx⟩, Pv (i + 1), fun σ' H' p' => ⟨xs.length - (i + 1), by omega, rfl, hlt, p'⟩, fun v H' y => ?_⟩
    obtain ⟨T, x', rfl, hT, rfl, f1⟩ := y
    exact hs i x' T σ H (f1 xs q) p hT
  · have e : i = xs.length := by omega
    subst e
    exact .inl ⟨⟨xs, q, Nat.le_refl _⟩, hd σ H p⟩
/-- an item of a mapped list -/
theorem map_at {α β : Type} {f : α → β} {xs : List α} {i : Nat} {y : β} (h : (xs.map f)[i]? = some y) : ∃ x, xs[i]? = some x ∧ y = f x := by
  rw [List.getElem?_map] at h
  cases e : xs[i]? with
  | none =>
    rw [e] at h
    cases h
  | some x =>
    rw [e] at h
    exact ⟨x, rfl, (Option.some.inj h).symm⟩
theorem at_map {α β : Type} {f : α → β} {xs : List α} {i : Nat} {x : α} (h : xs[i]? = some x) : (xs.map f)[i]? = some (f x) := by
  rw [List.getElem?_map, h]
  rfl
/-- a seq's place -/
theorem atI_of {xs : List V} {i : Int} {j : Nat} {v : V} (e : i = (j : Int)) (h : xs[j]? = some v) : atI xs i = some v := at_of e h
end KR
/-! comprehensions of two clauses: a list, then a range -/
namespace KR
open PySem PySem.Spec PyProof.Rows L2
theorem in_range {lo : Int} {n : Nat} {g1 : TG} {tt1 : TT} {te : TE} {vs1 : List Nat} {σ2 : L2.St} {H4 : Hp} {D : Addr} {Nx : Hp → Prop} (Pw : Nat → Hp → Prop) (h0 : Pw 0 H4)
    (hs : ∀ j H, j < n → Pw j H → g1 (.int (lo + (j : Nat))) (wipe σ2 vs1) H fun σ3 H5 => wipe σ3 vs1 = wipe σ2 vs1 ∧ tt1 σ3 H5 fun b H6 =>
      if b = true then te σ3 H6 fun y H7 => ∃ acc, H7 D = some (.lst acc) ∧ acc.length < sizeLine ∧ Pw (j + 1) (upd H7 D (.lst (acc ++ [y]))) else Pw (j + 1) H6)
    (hd : ∀ H, Pw n H → Nx H) :
    ∃ W1 : Nat → Nat → Hp → Prop, (∃ m, W1 0 m H4) ∧ ∀ j k H, W1 j k H →
      ((Itr lo n).stop j H ∧ Nx H) ∨ ((Itr lo n).go j H ∧ ∃ Nx1 : Hp → Prop, (∀ H', Nx1 H' → ∃ k', k' < k ∧ W1 (j + 1) k' H') ∧
        ∀ x H', (Itr lo n).yld j H x H' → g1 x (wipe σ2 vs1) H' fun σ3 H5 => wipe σ3 vs1 = wipe σ2 vs1 ∧ tt1 σ3 H5 fun b H6 =>
          if b = true then te σ3 H6 fun y H7 => ∃ acc, H7 D = some (.lst acc) ∧ acc.length < sizeLine ∧ Nx1 (upd H7 D (.lst (acc ++ [y]))) else Nx1 H6) := by
  refine ⟨fun j k H => k = n - j ∧ j ≤ n ∧ Pw j H, ⟨n, by simp, Nat.zero_le _, h0⟩, ?_⟩
  rintro j k H ⟨rfl, hj, p⟩
  by_cases hlt : j < n
  · refine .inr ⟨hlt, Pw (j + 1), fun H' p' => ⟨n - (j + 1), by omega, rfl, hlt, p'⟩, fun x H' y => ?_⟩
    obtain ⟨e, y⟩ := y
    subst e y
    exact hs j _ hlt p
  · have e : j = n := by omega
    subst e
    exact .inl ⟨Nat.le_refl _, hd H p⟩
theorem lc2_list {K : PySem.W.Frag} {a : Addr} {xs : List V} {g : TG} {tt : TT} {wi1 : TI} {g1 : TG} {tt1 : TT} {te : TE} {vs vs1 : List Nat} {σ : L2.St} {H1 : Hp} {D : Addr} {Qd : Hp → Prop}
    (Pv : Nat → Hp → Prop) (h0 : Pv 0 (upd H1 D (.lst []))) (hl : ∀ i H, i ≤ xs.length → Pv i H → SqL K H a xs)
    (hs : ∀ i x H, xs[i]? = some x → Pv i H → g x (wipe σ vs) H fun σ2 H2 => wipe σ2 vs = wipe σ vs ∧ tt σ2 H2 fun b H3 =>
      if b = true then wi1 σ2 H3 fun J1 H4 => ∃ W1 : Nat → Nat → Hp → Prop, (∃ m, W1 0 m H4) ∧ ∀ j k H, W1 j k H →
        (J1.stop j H ∧ Pv (i + 1) H) ∨ (J1.go j H ∧ ∃ Nx1 : Hp → Prop, (∀ H', Nx1 H' → ∃ k', k' < k ∧ W1 (j + 1) k' H') ∧ ∀ x H', J1.yld j H x H' →
          g1 x (wipe σ2 vs1) H' fun σ3 H5 => wipe σ3 vs1 = wipe σ2 vs1 ∧ tt1 σ3 H5 fun b H6 =>
          if b = true then te σ3 H6 fun y H7 => ∃ acc, H7 D = some (.lst acc) ∧ acc.length < sizeLine ∧ Nx1 (upd H7 D (.lst (acc ++ [y]))) else Nx1 H6)
      else Pv (i + 1) H3) (hd : ∀ H, Pv xs.length H → Qd H) :
    ∃ W : Nat → Nat → Hp → Prop, (∃ m, W 0 m (upd H1 D (.lst []))) ∧ ∀ i m H, W i m H →
      ((Itl K a).stop i H ∧ Qd H) ∨ ((Itl K a).go i H ∧ ∃ Nx : Hp → Prop, (∀ H', Nx H' → ∃ m', m' < m ∧ W (i + 1) m' H') ∧ ∀ x H', (Itl K a).yld i H x H' →
        g x (wipe σ vs) H' fun σ2 H2 => wipe σ2 vs = wipe σ vs ∧ tt σ2 H2 fun b H3 =>
        if b = true then wi1 σ2 H3 fun J1 H4 => ∃ W1 : Nat → Nat → Hp → Prop, (∃ m, W1 0 m H4) ∧ ∀ j k H, W1 j k H →
          (J1.stop j H ∧ Nx H) ∨ (J1.go j H ∧ ∃ Nx1 : Hp → Prop, (∀ H', Nx1 H' → ∃ k', k' < k ∧ W1 (j + 1) k' H') ∧ ∀ x H', J1.yld j H x H' →
            g1 x (wipe σ2 vs1) H' fun σ3 H5 => wipe σ3 vs1 = wipe σ2 vs1 ∧ tt1 σ3 H5 fun b H6 =>
            if b = true then te σ3 H6 fun y H7 => ∃ acc, H7 D = some (.lst acc) ∧ acc.length < sizeLine ∧ Nx1 (upd H7 D (.lst (acc ++ [y]))) else Nx1 H6)
        else Nx H3) := by
  refine ⟨fun i m H => m = xs.length - i ∧ i ≤ xs.length ∧ Pv i H, ⟨xs.length, by simp, Nat.zero_le _, h0⟩, ?_⟩
  rintro i m H ⟨rfl, hi, p⟩
  have q := hl i H hi p
  by_cases hlt : i < xs.length
  · refine .inr ⟨⟨xs, xs[i], q, by simp [hlt]⟩, Pv (i + 1), fun H' p' => ⟨xs.length - (i + 1), by omega, rfl, hlt, p'⟩, fun x H' y => ?_⟩
    obtain ⟨e, y⟩ := y
    subst e
    exact hs i x _ (y xs q) p
  · have e : i = xs.length := by omega
    subst e
    exact .inl ⟨⟨xs, q, Nat.le_refl _⟩, hd H p⟩
end KR
/-! the rules with the written part told, for a comprehension's block -/
namespace KR
open PySem PySem.Spec PyProof.Rows L2
section
variable {X : Cx} {K : PySem.W.Frag} {tg l e e2 o : Expr} {tl te to : TE} {ta t : TA} {es : List Expr} {T id : String} {r : V → List V → Hp → VK → Prop} {name : Str}
theorem k_ixl (hK : X.K = K) : IxR X (rIxL K) := by
  subst hK
  exact ix_list
theorem k_ixt (hK : X.K = K) : IxR X (rIxT K) := by
  subst hK
  exact ix_tup
theorem k_list (hK : X.K = K) (hl : PE X l tl) : PI X tg l (iList K tl) := by
  subst hK
  exact pi_list hl
theorem k_tup (hK : X.K = K) (hl : PE X l tl) : PI X tg l (iTup K tl) := by
  subst hK
  exact pi_tup hl
theorem k_isi (hK : X.K = K) : CallR X (.builtin "isinstance") (rIsi K) := by
  subst hK
  exact call_isi
theorem k_slt (hK : X.K = K) : SlR X (rSlT K) := by
  subst hK
  exact sl_tup
theorem k_sll (hK : X.K = K) : SlR X (rSlL K) := by
  subst hK
  exact sl_list
theorem k_catT (hK : X.K = K) : OpR X (binaryOp .Add) (rCatT K) := by
  subst hK
  exact op_catT
theorem k_in (hK : X.K = K) : OpR X (compareOp .In) (rIn K false) := by
  subst hK
  exact op_in_seq
theorem k_notIn (hK : X.K = K) : OpR X (compareOp .NotIn) (rIn K true) := by
  subst hK
  exact op_notIn_seq
def rLenK (K : PySem.W.Frag) : List V → Hp → VK → Prop := fun xs H Q => ∃ p ys, xs = [.ref p] ∧ (SqL K H p ys ∨ SqT K H p ys) ∧ Q (.int ys.length) H
theorem k_len (hK : X.K = K) : CallR X (.builtin "len") (rLenK K) := by
  subst hK
  exact call_len_seq
def rListK (K : PySem.W.Frag) : List V → Hp → VK → Prop := fun xs H Q => ∃ p ys, xs = [.ref p] ∧ (SqL K H p ys ∨ SqT K H p ys) ∧ ∀ l, H l = none → Q (.ref l) (upd H l (.lst ys))
theorem k_listOf (hK : X.K = K) : CallR X (.type "list") (rListK K) := by
  subst hK
  exact call_list_of
def rTupK (K : PySem.W.Frag) : List V → Hp → VK → Prop := fun xs H Q => ∃ p ys, xs = [.ref p] ∧ ((SqL K H p ys ∧ ∀ l, H l = none → Q (.ref l) (upd H l (.tup ys))) ∨ (SqT K H p ys ∧ Q (.ref p) H))
theorem k_tupOf (hK : X.K = K) : CallR X (.type "tuple") (rTupK K) := by
  subst hK
  exact call_tuple_of
theorem k_eqD (hK : X.K = K) (hu : X.A.units + 64 < cLine) : OpR X (compareOp .Eq) (rEqD K) := by
  subst hK
  exact op_eqD hu
theorem k_neD (hK : X.K = K) (hu : X.A.units + 64 < cLine) : OpR X (compareOp .NotEq) (rNeD K) := by
  subst hK
  exact op_neD hu
theorem k_maxT (hK : X.K = K) (hc : X.calm = true) (hu : X.A.units + 64 < cLine) : CallR X (.builtin "max") (rMaxT K) := by
  subst hK
  exact call_maxT hc hu
theorem k_max (hK : X.K = K) (hc : X.calm = true) : CallR X (.builtin "max") (rMax K) := by
  subst hK
  exact cr_max hc
theorem k_sum (hK : X.K = K) (hc : X.calm = true) : CallR X (.builtin "sum") (rSum K) := by
  subst hK
  exact cr_sum hc
theorem k_repr (hK : X.K = K) (gd : X.A.guards = some []) (hu : X.A.units + 64 < cLine) : CallR X (.builtin "repr") (rRepr K) := by
  subst hK
  exact call_reprD gd hu
theorem k_enumT {p pos tpos : Pos} {elts : List Expr} {kk : Nat} (hK : X.K = K) (hg : Gl X "enumerate") (hm : X.mg "enumerate" = none) (ha : PA X [e] ta)
    (hs : starEach [e] X.env = [(false, eval e X.env)] := by rfl) : PI X (.Tuple elts kk tpos) (.Call (.Name "enumerate" p) [e] [] pos) (iEnumT K ta) := by
  subst hK
  exact pi_enumT hg hm ha hs
theorem k_enum {p pos tpos : Pos} {elts : List Expr} {kk : Nat} (hK : X.K = K) (hg : Gl X "enumerate") (hm : X.mg "enumerate" = none) (ha : PA X [e] ta)
    (hs : starEach [e] X.env = [(false, eval e X.env)] := by rfl) : PI X (.Tuple elts kk tpos) (.Call (.Name "enumerate" p) [e] [] pos) (iEnum K ta) := by
  subst hK
  exact pi_enum hg hm ha hs
theorem k_zip {p pos tpos : Pos} {elts : List Expr} {kk : Nat} (hK : X.K = K) (hg : Gl X "zip") (hm : X.mg "zip" = none) (ha : PA X [e, e2] ta)
    (hs : starEach [e, e2] X.env = (false, eval e X.env) :: starEach [e2] X.env := by rfl) (hpl : (backTo pos (starEach [e2] X.env)).any (·.1) = false := by rfl) :
    PI X (.Tuple elts kk tpos) (.Call (.Name "zip" p) [e, e2] [] pos) (RZ.iZipA K ta) := by
  subst hK
  exact RZ.pi_zipA hg hm ha hs hpl
def tLzip (K : PySem.W.Frag) (ta : TA) : TE := fun σ H Q => ta σ H fun vs H1 => ∃ a b xs ys, vs = [.ref a, .ref b] ∧ SqT K H1 a xs ∧ SqT K H1 b ys ∧ xs.length = ys.length ∧ xs.length < sizeLine ∧ Zipped xs ys H1 Q
theorem k_lzip {p p2 pos pos2 : Pos} (hK : X.K = K) (hc : X.calm = true) (hg : Gl X "list") (hm : X.mg "list" = none) (hg2 : Gl X "zip") (hm2 : X.mg "zip" = none) (ha : PA X [e, e2] ta)
    (hs : starEach [e, e2] X.env = (false, eval e X.env) :: starEach [e2] X.env := by rfl) (hpl : (backTo pos2 (starEach [e2] X.env)).any (·.1) = false := by rfl)
    (hs1 : starEach [.Call (.Name "zip" p2) [e, e2] [] pos2] X.env = [(false, eval (.Call (.Name "zip" p2) [e, e2] [] pos2) X.env)] := by rfl) :
    PE X (.Call (.Name "list" p) [.Call (.Name "zip" p2) [e, e2] [] pos2] [] pos) (tLzip K ta) := by
  subst hK
  exact pe_lzip hc hg hm hg2 hm2 ha hs hpl hs1
theorem k_bm {apos cpos : Pos} (hK : X.K = K) (pa : PlainAttrs T) (slot : Slot T name id) (hty : typeOf (.builtin id) = pure (.type "method_descriptor")) (hm : MtR X id r) (ho : PE X o to) (ha : PA X (e :: es) t)
    (hbase : attributeBase o name X.env (eval o X.env) = eval o X.env := by rfl)
    (hfew : ((backTo cpos (starEach (e :: es) X.env)).all (fun x => !x.1) && (backToKw cpos (keywordEach [] X.env)).all (fun x => x.1.isSome)
      && decide ((e :: es).length + ([] : List Keyword).length + (if ([] : List Keyword).isEmpty then 0 else 1) < 30)) = true := by rfl)
    (hline : (apos.endLine == cpos.line) = true := by rfl) (hs : starEach (e :: es) X.env = (false, eval e X.env) :: starEach es X.env := by rfl)
    (hplain : (backTo cpos (starEach es X.env)).any (·.1) = false := by rfl) : PE X (.Call (.Attribute o name apos) (e :: es) [] cpos) (tBM K T r to t) := by
  subst hK
  exact pe_bm pa slot hty hm ho ha hbase hfew hline hs hplain
theorem k_star {p : Pos} {e : Expr} (hK : X.K = K) (he : PE X e te) (hr : PA X es t) (hs : starEach (.Starred e p :: es) X.env = (true, eval e X.env) :: starEach es X.env := by rfl) : PA X (.Starred e p :: es) (StX.tStar K te t) := by
  subst hK
  exact StX.pa_star he hr hs
theorem k_fld {apos : Pos} {f : Str} (hK : X.K = K) (h : PE X o te) (hx : attributeBase o f X.env (eval o X.env) = eval o X.env) : PE X (.Attribute o f apos) (tFld K te f) := by
  subst hK
  exact pe_fld h hx
end
end KR
/-! methods and instances by their names -/
namespace KR
open PySem PySem.Spec PyProof.Rows L2
def MAt (K : PySem.W.Frag) (C : Addr) (m qual : Str) (st : Stmt) : Prop := ∃ f fd, Fun K m qual st f fd ∧ Meth K C m f
def IAt (K : PySem.W.Frag) (C : Addr) (qual : Str) (st : Stmt) : Prop := ∃ f fd, Fun K "__init__" qual st f fd ∧ Mk K C f
def MUse (P : Program) (w : World) (K : PySem.W.Frag) (mg : Str → Option Value) (base : Heap) (C : Addr) (m : Str) (k : Nat) (ps : List Str) (sp : Sp) : Prop :=
  ∃ f fd, FnOk P w K mg base CX0 k f fd ps sp ∧ Meth K C m f ∧ Binds K fd ps []
def KUse (P : Program) (w : World) (K : PySem.W.Frag) (mg : Str → Option Value) (base : Heap) (C : Addr) (x : Str) (k : Nat) (ps : List Str) (sp : Sp) : Prop :=
  ∃ f fd, FnOk P w K mg base CX0 k f fd ps sp ∧ Mk K C f ∧ mg x = some (.ref C) ∧ Binds K fd ps []
section
variable {P : Program} {w : World} {K : PySem.W.Frag} {mg : Str → Option Value} {base : Heap} {x m qual : Str} {st : Stmt} {k : Nat} {ps : List Str} {sp : Sp} {C : Addr}
theorem muse_of (D : MAt K C m qual st) (ok : ∀ f fd, Fun K m qual st f fd → FnOk P w K mg base CX0 k f fd ps sp)
    (h : ∀ (kV doc pm : Value) (an : Option Addr) (cdv ct : Value) (us : List Value), us.length = ps.length → bindArgs (PySem.W.fnOf m qual (defArgs st) (defBody st) (defScope st) .none kV doc pm an cdv ct) ⟨us, []⟩ = pure (ps.zip us)) :
    MUse P w K mg base C m k ps sp := by
  obtain ⟨f, fd, F, hm⟩ := D
  exact ⟨f, fd, ok f fd F, hm, F.binds h⟩
theorem kuse_of (D : IAt K C qual st) (hm : mg x = some (.ref C)) (ok : ∀ f fd, Fun K "__init__" qual st f fd → FnOk P w K mg base CX0 k f fd ps sp)
    (h : ∀ (kV doc pm : Value) (an : Option Addr) (cdv ct : Value) (us : List Value), us.length = ps.length → bindArgs (PySem.W.fnOf "__init__" qual (defArgs st) (defBody st) (defScope st) .none kV doc pm an cdv ct) ⟨us, []⟩ = pure (ps.zip us)) :
    KUse P w K mg base C x k ps sp := by
  obtain ⟨f, fd, F, mk⟩ := D
  exact ⟨f, fd, ok f fd F, mk, hm, F.binds h⟩
end
section
variable {X : Cx} {x m : Str} {j k : Nat} {ps : List Str} {sp : Sp} {o e : Expr} {es : List Expr} {ta : TE} {t : TA} {p pos apos : Pos} {C : Addr}
theorem pe_mUse {pl : Sem Bool} (he : PE X o ta) (c : Cls X.K C) (u : MUse X.prog X.w X.K X.mg X.base C m j ps sp) (le : j ≤ k) (hr : Room k X.A) (ha : PA X (e :: es) t)
    (hst : starEach (e :: es) X.env = (false, eval e X.env) :: starEach es X.env := by rfl) (hpl : (backTo pos (starEach es X.env)).any (·.1) = false := by rfl)
    (ht : eval (.Call (.Attribute o m apos) (e :: es) [] pos) X.env = (do
      let ov ← eval o X.env
      standAt apos.atName
      let (f, first) ← holding [ov] (getMethod ov m pl)
      callWith pos f first (backTo pos (starEach (e :: es) X.env)) (backToKw pos (keywordEach [] X.env))) := by rfl) :
    PE X (.Call (.Attribute o m apos) (e :: es) [] pos) (tMeth C m sp [] E0 ta t) := by
  obtain ⟨f, fd, F, hm, b⟩ := u
  exact pe_meth he c hm F (hr.mono le) b .nil pass0 ha hst hpl ht
theorem pe_kUse (u : KUse X.prog X.w X.K X.mg X.base C x j ps sp) (le : j + 1 ≤ k) (hr : Room k X.A) (hg : Gl X x) (ha : PA X (e :: es) t)
    (hdb : (x == ("__debug__" : Str)) = false := by decide) (he : starEach (e :: es) X.env = (false, eval e X.env) :: starEach es X.env := by rfl)
    (hpl : (backTo pos (starEach es X.env)).any (·.1) = false := by rfl) : PE X (.Call (.Name x p) (e :: es) [] pos) (tMake C sp [] E0 t) := by
  obtain ⟨f, fd, F, mk, hm, b⟩ := u
  exact pe_make mk F (hr.mono le) hg hm b .nil pass0 ha hdb he hpl
end
theorem ixN_nat {n j : Nat} {i : Int} (e : i = (j : Int)) (h : j < n) : ixN n i = some j := by
  subst e
  unfold ixN
  rw [if_pos (by omega), if_pos (by omega)]
  rfl
end KR
/-! tuples known or not -/
namespace KQ
open PySem PySem.Spec PyProof.Rows L2 KR
theorem rdT {K : PySem.W.Frag} {H : Hp} {a : Addr} {xs : List V} (h : Rd H a (.tup xs)) : SqT K H a xs := .inl h
theorem _root_.L2.Rd.mono {H H' : Hp} {a : Addr} {u : HO} (h : Rd H a u) (s : Same H H') : Rd H' a u := by
  rcases h with h | ⟨o, h⟩
  · exact .inl (s _ _ h)
  · exact .inr ⟨o, s _ _ h⟩
theorem _root_.L2.Rd.ne {H : Hp} {a b : Addr} {xs : List V} {u : HO} (h : Rd H a (.tup xs)) (e : H b = some u) (h1 : ∀ ys, u ≠ .tup ys) (h2 : ∀ o v, u ≠ .frz o v) : a ≠ b := fun z => by
  rw [z] at h
  rcases h with h | ⟨o, h⟩
  · rw [e] at h
    exact h1 _ (Option.some.inj h)
  · rw [e] at h
    exact h2 _ _ (Option.some.inj h)
theorem _root_.L2.Rd.put {H : Hp} {a b : Addr} {u o : HO} (h : Rd H a u) (n : a ≠ b) : Rd (upd H b o) a u := by
  rcases h with h | ⟨p, h⟩
  · exact .inl (by rw [upd_ne n]; exact h)
  · exact .inr ⟨p, by rw [upd_ne n]; exact h⟩
theorem tyRd {K : PySem.W.Frag} {H : Hp} {a : Addr} {xs : List V} (h : Rd H a (.tup xs)) : TyX K H (.ref a) (.type "tuple") := by
  rcases h with h | ⟨o, h⟩
  · exact .base (.tup h)
  · exact .fTuple h
theorem rd_upd {H : Hp} {a b : Addr} {xs : List V} {u o : HO} (h : Rd H a (.tup xs)) (e : H b = some u) (n1 : u ≠ .tup xs) (n2 : ∀ p, u ≠ .frz p (.tup xs)) : Rd (upd H b o) a (.tup xs) := h.put fun z => by
  rcases h with h | ⟨p, h⟩
  · rw [z, e] at h
    exact n1 (Option.some.inj h)
  · rw [z, e] at h
    exact n2 p (Option.some.inj h)
theorem rd_lst {H : Hp} {a b : Addr} {xs ys : List V} {o : HO} (h : Rd H a (.tup xs)) (e : H b = some (.lst ys)) : Rd (upd H b o) a (.tup xs) := rd_upd h e (fun z => by cases z) fun p z => by cases z
theorem rd_none {H : Hp} {a : Addr} {xs : List V} (h : Rd H a (.tup xs)) (n : H a = none) : False := by
  rcases h with h | ⟨p, h⟩ <;> (rw [n] at h; cases h)
theorem rd_new {H : Hp} {a b : Addr} {xs : List V} {o : HO} (h : Rd H a (.tup xs)) (n : H b = none) : Rd (upd H b o) a (.tup xs) := h.put fun z => rd_none h (z ▸ n)
end KQ
/-! data in the heap; what is wrong with a piece -/
namespace KQ
open PySem PySem.Spec PyProof.Rows L2 KR
mutual
/-- data that stands in the heap: tuples known or not, lists as they are -/
def DV (H : Hp) : PyData → V → Prop
  | .none, v => v = .non
  | .bool b, v => v = .bl b
  | .int i, v => v = .int i
  | .str x, v => v = .str x
  | .list ds, v => ∃ a xs, v = .ref a ∧ H a = some (.lst xs) ∧ DVs H ds xs
  | .tuple ds, v => ∃ a xs, v = .ref a ∧ Rd H a (.tup xs) ∧ DVs H ds xs
  | _, _ => False
def DVs (H : Hp) : List PyData → List V → Prop
  | [], xs => xs = []
  | d :: ds, xs => ∃ v vs, xs = v :: vs ∧ DV H d v ∧ DVs H ds vs
end
mutual
theorem DV.mono {H H' : Hp} (s : Same H H') : ∀ {d : PyData} {v : V}, DV H d v → DV H' d v
  | .none, _, h => by simpa [DV] using h
  | .bool b, _, h => by simpa [DV] using h
  | .int i, _, h => by simpa [DV] using h
  | .str x, _, h => by simpa [DV] using h
  | .list ds, _, h => by
    simp only [DV] at h ⊢
    obtain ⟨a, xs, e, ea, hs⟩ := h
    exact ⟨a, xs, e, s _ _ ea, DVs.mono s hs⟩
  | .tuple ds, _, h => by
    simp only [DV] at h ⊢
    obtain ⟨a, xs, e, ea, hs⟩ := h
    exact ⟨a, xs, e, ea.mono s, DVs.mono s hs⟩
  | .dict _, _, h => by simp [DV] at h
theorem DVs.mono {H H' : Hp} (s : Same H H') : ∀ {ds : List PyData} {xs : List V}, DVs H ds xs → DVs H' ds xs
  | [], _, h => by simpa [DVs] using h
  | d :: ds, _, h => by
    simp only [DVs] at h ⊢
    obtain ⟨v, vs, e, hv, hs⟩ := h
    exact ⟨v, vs, e, DV.mono s hv, DVs.mono s hs⟩
end
mutual
theorem DV.dp {K : PySem.W.Frag} {H : Hp} : ∀ {d : PyData} {v : V}, DV H d v → Dp K H v d
  | .none, _, h => by
    simp only [DV] at h
    subst h
    exact .non
  | .bool b, _, h => by
    simp only [DV] at h
    subst h
    exact .bl b
  | .int i, _, h => by
    simp only [DV] at h
    subst h
    exact .int i
  | .str x, _, h => by
    simp only [DV] at h
    subst h
    exact .str x
  | .list ds, _, h => by
    simp only [DV] at h
    obtain ⟨a, xs, rfl, ea, hs⟩ := h
    exact .lst (sqL ea) (DVs.dp hs)
  | .tuple ds, _, h => by
    simp only [DV] at h
    obtain ⟨a, xs, rfl, ea, hs⟩ := h
    exact .tup (rdT ea) (DVs.dp hs)
  | .dict _, _, h => by simp [DV] at h
theorem DVs.dp {K : PySem.W.Frag} {H : Hp} : ∀ {ds : List PyData} {xs : List V}, DVs H ds xs → DpAll K H xs ds
  | [], _, h => by
    simp only [DVs] at h
    subst h
    exact .nil
  | d :: ds, _, h => by
    simp only [DVs] at h
    obtain ⟨v, vs, rfl, hv, hs⟩ := h
    exact .cons (DV.dp hv) (DVs.dp hs)
end
theorem DV.tup {H : Hp} {ds : List PyData} {v : V} (h : DV H (.tuple ds) v) : ∃ a xs, v = .ref a ∧ Rd H a (.tup xs) ∧ DVs H ds xs := by simpa only [DV] using h
theorem DV.lst {H : Hp} {ds : List PyData} {v : V} (h : DV H (.list ds) v) : ∃ a xs, v = .ref a ∧ H a = some (.lst xs) ∧ DVs H ds xs := by simpa only [DV] using h
theorem DV.of_tup {H : Hp} {ds : List PyData} {a : Addr} {xs : List V} (e : Rd H a (.tup xs)) (h : DVs H ds xs) : DV H (.tuple ds) (.ref a) := by
  simp only [DV]
  exact ⟨a, xs, rfl, e, h⟩
theorem DV.of_lst {H : Hp} {ds : List PyData} {a : Addr} {xs : List V} (e : H a = some (.lst xs)) (h : DVs H ds xs) : DV H (.list ds) (.ref a) := by
  simp only [DV]
  exact ⟨a, xs, rfl, e, h⟩
theorem DV.of_int (H : Hp) (i : Int) : DV H (.int i) (.int i) := by simp only [DV]
theorem DV.of_str (H : Hp) (x : Str) : DV H (.str x) (.str x) := by simp only [DV]
theorem DV.of_bool (H : Hp) (b : Bool) : DV H (.bool b) (.bl b) := by simp only [DV]
theorem DV.of_none (H : Hp) : DV H .none .non := by simp only [DV]
theorem DVs.nil (H : Hp) : DVs H [] [] := by simp only [DVs]
theorem DVs.cons {H : Hp} {d : PyData} {ds : List PyData} {v : V} {vs : List V} (h : DV H d v) (k : DVs H ds vs) : DVs H (d :: ds) (v :: vs) := by
  simp only [DVs]
  exact ⟨v, vs, rfl, h, k⟩
theorem DVs.out {H : Hp} {d : PyData} {ds : List PyData} {xs : List V} (h : DVs H (d :: ds) xs) : ∃ v vs, xs = v :: vs ∧ DV H d v ∧ DVs H ds vs := by simpa only [DVs] using h
theorem DVs.end' {H : Hp} {xs : List V} (h : DVs H [] xs) : xs = [] := by simpa only [DVs] using h
theorem DVs.len {H : Hp} : ∀ {ds : List PyData} {xs : List V}, DVs H ds xs → xs.length = ds.length
  | [], _, h => by rw [h.end']; rfl
  | d :: ds, _, h => by
    obtain ⟨v, vs, rfl, _, k⟩ := h.out
    rw [List.length_cons, List.length_cons, k.len]
theorem DVs.at {H : Hp} : ∀ {ds : List PyData} {xs : List V} {i : Nat} {v : V}, DVs H ds xs → xs[i]? = some v → ∃ d, ds[i]? = some d ∧ DV H d v
  | [], _, i, v, h, e => by rw [h.end'] at e; cases e
  | d :: ds, _, i, v, h, e => by
    obtain ⟨u, vs, rfl, hu, k⟩ := h.out
    cases i with
    | zero =>
      cases e
      exact ⟨d, rfl, hu⟩
    | succ i => exact k.at e
theorem DVs.back {H : Hp} : ∀ {ds : List PyData} {xs : List V} {i : Nat} {d : PyData}, DVs H ds xs → ds[i]? = some d → ∃ v, xs[i]? = some v ∧ DV H d v
  | [], _, i, d, _, e => by cases e
  | c :: ds, _, i, d, h, e => by
    obtain ⟨u, vs, rfl, hu, k⟩ := h.out
    cases i with
    | zero =>
      cases e
      exact ⟨u, rfl, hu⟩
    | succ i => exact k.back e
theorem DVs.app {H : Hp} : ∀ {ds es : List PyData} {xs ys : List V}, DVs H ds xs → DVs H es ys → DVs H (ds ++ es) (xs ++ ys)
  | [], es, _, ys, h, k => by rw [h.end']; exact k
  | d :: ds, es, _, ys, h, k => by
    obtain ⟨u, vs, rfl, hu, g⟩ := h.out
    exact .cons hu (g.app k)
theorem DVs.take {H : Hp} : ∀ {ds : List PyData} {xs : List V} (n : Nat), DVs H ds xs → DVs H (ds.take n) (xs.take n)
  | _, _, 0, _ => DVs.nil H
  | [], _, n + 1, h => by rw [h.end']; exact DVs.nil H
  | d :: ds, _, n + 1, h => by
    obtain ⟨u, vs, rfl, hu, g⟩ := h.out
    exact .cons hu (g.take n)
theorem DVs.drop {H : Hp} : ∀ {ds : List PyData} {xs : List V} (n : Nat), DVs H ds xs → DVs H (ds.drop n) (xs.drop n)
  | _, _, 0, h => h
  | [], _, n + 1, h => by rw [h.end']; exact DVs.nil H
  | d :: ds, _, n + 1, h => by
    obtain ⟨u, vs, rfl, hu, g⟩ := h.out
    exact g.drop n
/-! isinstance, asked of data -/
def clsB (C : String) : PyData → Bool
  | .none => false
  | .bool _ => C == "int" || C == "bool"
  | .int _ => C == "int"
  | .str _ => C == "str"
  | .list _ => C == "list"
  | .tuple _ => C == "tuple"
  | .dict _ => C == "dict"
theorem dv_ty {K : PySem.W.Frag} {H : Hp} {d : PyData} {v : V} (h : DV H d v) {C : String} (hC : C = "int" ∨ C = "bool" ∨ C = "str" ∨ C = "tuple") : ∃ t, TyX K H v t ∧ PySem.W.kitOne K t (.type C) = some (clsB C d) := by
  cases d with
  | none =>
    simp only [DV] at h
    subst h
    refine ⟨_, .base .non, ?_⟩
    rcases hC with rfl | rfl | rfl | rfl
    · exact kit_ty (show kitB "NoneType" "int" = some false by decide +kernel)
    · exact kit_ty (show kitB "NoneType" "bool" = some false by decide +kernel)
    · exact kit_ty (show kitB "NoneType" "str" = some false by decide +kernel)
    · exact kit_ty (show kitB "NoneType" "tuple" = some false by decide +kernel)
  | bool b =>
    simp only [DV] at h
    subst h
    refine ⟨_, .base (.bl b), ?_⟩
    rcases hC with rfl | rfl | rfl | rfl
    · exact kit_ty (show kitB "bool" "int" = some true by decide +kernel)
    · exact kit_ty (show kitB "bool" "bool" = some true by decide +kernel)
    · exact kit_ty (show kitB "bool" "str" = some false by decide +kernel)
    · exact kit_ty (show kitB "bool" "tuple" = some false by decide +kernel)
  | int i =>
    simp only [DV] at h
    subst h
    refine ⟨_, .base (.int i), ?_⟩
    rcases hC with rfl | rfl | rfl | rfl
    · exact kit_ty (show kitB "int" "int" = some true by decide +kernel)
    · exact kit_ty (show kitB "int" "bool" = some false by decide +kernel)
    · exact kit_ty (show kitB "int" "str" = some false by decide +kernel)
    · exact kit_ty (show kitB "int" "tuple" = some false by decide +kernel)
  | str x =>
    simp only [DV] at h
    subst h
    refine ⟨_, .base (.str x), ?_⟩
    rcases hC with rfl | rfl | rfl | rfl
    · exact kit_ty (show kitB "str" "int" = some false by decide +kernel)
    · exact kit_ty (show kitB "str" "bool" = some false by decide +kernel)
    · exact kit_ty (show kitB "str" "str" = some true by decide +kernel)
    · exact kit_ty (show kitB "str" "tuple" = some false by decide +kernel)
  | list ds =>
    obtain ⟨a, xs, rfl, e, _⟩ := h.lst
    refine ⟨_, .base (.lst e), ?_⟩
    rcases hC with rfl | rfl | rfl | rfl
    · exact kit_ty (show kitB "list" "int" = some false by decide +kernel)
    · exact kit_ty (show kitB "list" "bool" = some false by decide +kernel)
    · exact kit_ty (show kitB "list" "str" = some false by decide +kernel)
    · exact kit_ty (show kitB "list" "tuple" = some false by decide +kernel)
  | tuple ds =>
    obtain ⟨a, xs, rfl, e, _⟩ := h.tup
    refine ⟨_, tyRd e, ?_⟩
    rcases hC with rfl | rfl | rfl | rfl
    · exact kit_ty (show kitB "tuple" "int" = some false by decide +kernel)
    · exact kit_ty (show kitB "tuple" "bool" = some false by decide +kernel)
    · exact kit_ty (show kitB "tuple" "str" = some false by decide +kernel)
    · exact kit_ty (show kitB "tuple" "tuple" = some true by decide +kernel)
  | dict k => simp [DV] at h
end KQ
/-! the first broken rule of a piece, told of data -/
namespace KQ
open PySem PySem.Spec PyProof.Rows L2 KR
abbrev En := Int × Int
def sortB : PyData → Bool
  | .str x => decide (x = "both") || decide (x = "either")
  | _ => false
/-- the end that data is, if it is one -/
def endOf (doors knots : Int) : PyData → Option En
  | .tuple [.int k, .int p] => if (k = -1 ∧ 0 ≤ p ∧ p < doors) ∨ (0 ≤ k ∧ k < knots ∧ 0 ≤ p ∧ p ≤ 2) then some (k, p) else none
  | _ => none
/-- the ends met, with these behind them; none where one is no end or met before -/
def collectE (doors knots : Int) : List En → List PyData → Option (List En)
  | seen, [] => some seen
  | seen, d :: r =>
    match endOf doors knots d with
    | none => none
    | some x => if x ∈ seen then none else collectE doors knots (seen ++ [x]) r
def lineOf (doors knots : Int) (seen : List En) : PyData → Option (List En)
  | .tuple ds => if ds.length = 2 then collectE doors knots seen ds else none
  | _ => none
/-- the place of the first wrong line, or the ends met -/
def linesOf (doors knots : Int) : List En → Nat → List PyData → Sum Nat (List En)
  | seen, _, [] => .inr seen
  | seen, i, d :: r =>
    match lineOf doors knots seen d with
    | none => .inl i
    | some es => linesOf doors knots es (i + 1) r
def badKnot : Nat → List PyData → Option Nat
  | _, [] => none
  | i, d :: r => if sortB d = true then badKnot (i + 1) r else some i
/-- what is said of data that has the form -/
def faultIn (n : Int) (ks ls : List PyData) : Option (Str × Option Nat) :=
  match badKnot 0 ks with
  | some i => some ("knots", some i)
  | none =>
    match linesOf n ks.length [] 0 ls with
    | .inl i => some ("lines", some i)
    | .inr _ => if 2 * (ls.length : Int) = n + 3 * (ks.length : Int) then none else some ("ends", none)
def formD : PyData → Bool
  | .tuple [.int n, .tuple ks, .tuple ls] => decide (0 ≤ n ∧ n ≤ 40 ∧ ks.length ≤ 200 ∧ ls.length ≤ 320)
  | _ => false
def faultD : PyData → Option (Str × Option Nat)
  | .tuple [.int n, .tuple ks, .tuple ls] => if 0 ≤ n ∧ n ≤ 40 ∧ ks.length ≤ 200 ∧ ls.length ≤ 320 then faultIn n ks ls else some ("form", none)
  | _ => some ("form", none)
theorem collectE_len {doors knots : Int} : ∀ (ds : List PyData) (seen es : List En), collectE doors knots seen ds = some es → es.length = seen.length + ds.length
  | [], seen, es, h => by cases h; rfl
  | d :: r, seen, es, h => by
    unfold collectE at h
    split at h
    · cases h
    · split at h
      · cases h
      · have := collectE_len r _ _ h
        rw [this, List.length_append]
        show seen.length + 1 + r.length = seen.length + (r.length + 1)
        omega
theorem lineOf_len {doors knots : Int} {seen es : List En} {d : PyData} (h : lineOf doors knots seen d = some es) : es.length = seen.length + 2 := by
  unfold lineOf at h
  split at h
  · split at h
    · rename_i c
      rw [collectE_len _ _ _ h, c]
    · cases h
  · cases h
theorem linesOf_len {doors knots : Int} : ∀ (ls : List PyData) (seen : List En) (i : Nat) (es : List En), linesOf doors knots seen i ls = .inr es → es.length = seen.length + 2 * ls.length
  | [], seen, i, es, h => by cases h; rfl
  | d :: r, seen, i, es, h => by
    unfold linesOf at h
    split at h
    · cases h
    · rename_i e2 he
      rw [linesOf_len r _ _ _ h, lineOf_len he, List.length_cons]
      omega
end KQ
/-! what a piece is, as data -/
namespace KQ
open PySem PySem.Spec PyProof.Rows L2 KR
def endD (e : En) : PyData := .tuple [.int e.1, .int e.2]
def lineD (l : En × En) : PyData := .tuple [endD l.1, endD l.2]
theorem endOf_data {n k : Int} {d : PyData} {x : En} (h : endOf n k d = some x) : d = endD x := by
  unfold endOf at h
  split at h
  · split at h
    · cases h
      rfl
    · cases h
  · cases h
theorem collectE_two {n k : Int} {seen es : List En} {ds : List PyData} (l : ds.length = 2) (h : collectE n k seen ds = some es) : ∃ x y, ds = [endD x, endD y] ∧ x ≠ y := by
  match ds, l with
  | [a, b], _ =>
    unfold collectE at h
    split at h
    · cases h
    · rename_i x hx
      split at h
      · cases h
      · unfold collectE at h
        split at h
        · cases h
        · rename_i y hy
          split at h
          · cases h
          · rename_i ny
            refine ⟨x, y, by rw [endOf_data hx, endOf_data hy], fun e => ny ?_⟩
            rw [e]
            exact List.mem_append_right _ List.mem_cons_self
theorem linesOf_data {n k : Int} : ∀ (ls : List PyData) (seen : List En) (i : Nat) (es : List En), linesOf n k seen i ls = .inr es → ∃ zs : List (En × En), ls = zs.map lineD ∧ ∀ z ∈ zs, z.1 ≠ z.2
  | [], _, _, _, _ => ⟨[], rfl, fun z h => by cases h⟩
  | d :: r, seen, i, es, h => by
    unfold linesOf at h
    split at h
    · cases h
    · rename_i e2 he
      obtain ⟨zs, e, ne⟩ := linesOf_data r _ _ _ h
      unfold lineOf at he
      split at he
      · split at he
        · rename_i l2
          obtain ⟨x, y, rfl, xy⟩ := collectE_two l2 he
          refine ⟨(x, y) :: zs, by rw [e]; rfl, fun z hz => ?_⟩
          rcases List.mem_cons.mp hz with rfl | hz
          · exact xy
          · exact ne z hz
        · cases he
      · cases he
theorem badKnot_data : ∀ (ks : List PyData) (i : Nat), badKnot i ks = none → ∃ xs : List Str, ks = xs.map PyData.str ∧ ∀ x ∈ xs, x = "both" ∨ x = "either"
  | [], _, _ => ⟨[], rfl, fun x h => by cases h⟩
  | d :: r, i, h => by
    unfold badKnot at h
    split at h
    · rename_i c
      obtain ⟨xs, e, g⟩ := badKnot_data r _ h
      cases d with
      | str x =>
        refine ⟨x :: xs, by rw [e]; rfl, fun y hy => ?_⟩
        rcases List.mem_cons.mp hy with rfl | hy
        · have c : (decide (y = "both") || decide (y = "either")) = true := c
          simpa using c
        · exact g y hy
      | _ => cases c
    · cases h
/-- a piece, as data -/
theorem piece_data {d : PyData} (h : faultD d = none) : ∃ (n : Int) (xs : List Str) (zs : List (En × En)), d = .tuple [.int n, .tuple (xs.map PyData.str), .tuple (zs.map lineD)] ∧ (∀ x ∈ xs, x = "both" ∨ x = "either") ∧ (∀ z ∈ zs, z.1 ≠ z.2) ∧ xs.length ≤ 200 ∧ zs.length ≤ 320 ∧ 0 ≤ n ∧ n ≤ 40 := by
  unfold faultD at h
  split at h
  · rename_i n ks ls
    split at h
    · rename_i c
      unfold faultIn at h
      split at h
      · cases h
      · rename_i hk
        split at h
        · cases h
        · rename_i es hl
          obtain ⟨xs, rfl, gx⟩ := badKnot_data _ _ hk
          obtain ⟨zs, rfl, gz⟩ := linesOf_data _ _ _ _ hl
          rw [List.length_map, List.length_map] at c
          exact ⟨n, xs, zs, rfl, gx, gz, c.2.2.1, c.2.2.2, c.1, c.2.1⟩
    · cases h
  · cases h
end KQ
namespace KQ
open PySem PySem.Spec PyProof.Rows L2 KR
def topS (i : Nat) : Stmt := PySem.Challenge.pw_fittingdoors_k07_pieces_checked.main.body.getD i (.Pass ⟨0, 0, 0, 0⟩)
section
variable {P : Program} {w : World} {K : PySem.W.Frag} {mg : Str → Option Value} {base : Heap}
abbrev s_is_integer : Stmt := topS 4
theorem sc_is_integer : FnScope ["value"] ["value"] (defScope s_is_integer) := ⟨rfl, rfl, rfl, by decide +kernel, rfl, by decide +kernel, by decide +kernel⟩
def spIsInteger : Sp := fun vs H Q _ => ∃ i : Int, vs = [.int i] ∧ Q (.bl true) H
theorem ok_is_integer (D : DefAt K mg "is_integer" s_is_integer) (T : Bt mg) : Use P w K mg base "is_integer" 1 ["value"] spIsInteger := by
  refine use_of D (fun f fd F => F.ok sc_is_integer (fun vs H Q E h => ?_) (fun cdv A outer s H vs Q E hr h => ?_)) (fun _ _ _ _ _ _ us hl => match us, hl with | [_], _ => rfl)
  · obtain ⟨i, rfl, _⟩ := h
    rfl
  · obtain ⟨i, rfl, q⟩ := h
    refine ⟨_, (pss_one (ps_ret (pe_and (pe_callB (k_isi (K := K) rfl) (by rfl) T.isinstance (by decide +kernel) (pa_cons (pv 0) (pa_cons (pe_bltn (v := .ty "int") (by rfl) T.int (by decide +kernel) rfl) pa_nil))) (pe_one (pe_not (pe_callB (k_isi (K := K) rfl) (by rfl) T.isinstance (by decide +kernel) (pa_cons (pv 0) (pa_cons (pe_bltn (v := .ty "bool") (by rfl) T.bool (by decide +kernel) rfl) pa_nil)))))))), ?_⟩
    refine ⟨_, rfl, _, _, _, _, true, rfl, .ty _, .base (.int i), kit_ty (by decide +kernel), true, rfl, iteT ?_⟩
    exact ⟨_, rfl, _, _, _, _, false, rfl, .ty _, .base (.int i), kit_ty (by decide +kernel), _, rfl, q⟩
abbrev s_is_integer_within : Stmt := topS 5
theorem sc_is_integer_within : FnScope ["value", "least", "most"] ["value", "least", "most"] (defScope s_is_integer_within) := ⟨rfl, rfl, rfl, by decide +kernel, rfl, by decide +kernel, by decide +kernel⟩
def spIntW : Sp := fun vs H Q _ => ∃ i lo hi : Int, vs = [.int i, .int lo, .int hi] ∧ Q (.bl (decide (lo ≤ i ∧ i ≤ hi))) H
theorem ok_is_integer_within (D : DefAt K mg "is_integer_within" s_is_integer_within) (T : Bt mg) (u_is_integer : Use P w K mg base "is_integer" 1 ["value"] spIsInteger) :
    Use P w K mg base "is_integer_within" 2 ["value", "least", "most"] spIntW := by
  refine use_of D (fun f fd F => F.ok sc_is_integer_within (fun vs H Q E h => ?_) (fun cdv A outer s H vs Q E hr h => ?_)) (fun _ _ _ _ _ _ us hl => match us, hl with | [_, _, _], _ => rfl)
  · obtain ⟨i, lo, hi, rfl, _⟩ := h
    rfl
  · obtain ⟨i, lo, hi, rfl, q⟩ := h
    refine ⟨_, (pss_one (ps_ret (pe_and (pe_use u_is_integer (by decide) hr (by rfl) (pa_cons (pv 0) pa_nil)) (pe_one (pe_chain op_le op_le (pv 1) (pv 0) (pv 2)))))), ?_⟩
    refine ⟨_, rfl, i, rfl, true, rfl, iteT ?_⟩
    refine ⟨_, rfl, _, rfl, lo, i, rfl, rfl, _, rfl, ?_⟩
    by_cases h1 : lo ≤ i
    · rw [decide_eq_true h1]
      refine iteT ⟨_, rfl, i, hi, rfl, rfl, ?_⟩
      have e : decide (lo ≤ i ∧ i ≤ hi) = decide (i ≤ hi) := by simp [h1]
      rw [e] at q
      exact q
    · rw [decide_eq_false h1]
      refine iteF ?_
      have e : decide (lo ≤ i ∧ i ≤ hi) = false := by simp [h1]
      rw [e] at q
      exact q
abbrev s_is_tuple_within : Stmt := topS 6
theorem sc_is_tuple_within : FnScope ["value", "least", "most"] ["value", "least", "most"] (defScope s_is_tuple_within) := ⟨rfl, rfl, rfl, by decide +kernel, rfl, by decide +kernel, by decide +kernel⟩
def spTupW (K : PySem.W.Frag) : Sp := fun vs H Q _ => ∃ (a : Addr) (xs : List V) (lo hi : Int), vs = [.ref a, .int lo, .int hi] ∧ SqT K H a xs ∧ TyX K H (.ref a) (.type "tuple") ∧ Q (.bl (decide (lo ≤ xs.length ∧ (xs.length : Int) ≤ hi))) H
theorem ok_is_tuple_within (D : DefAt K mg "is_tuple_within" s_is_tuple_within) (T : Bt mg) :
    Use P w K mg base "is_tuple_within" 1 ["value", "least", "most"] (spTupW K) := by
  refine use_of D (fun f fd F => F.ok sc_is_tuple_within (fun vs H Q E h => ?_) (fun cdv A outer s H vs Q E hr h => ?_)) (fun _ _ _ _ _ _ us hl => match us, hl with | [_, _, _], _ => rfl)
  · obtain ⟨a, xs, lo, hi, rfl, _⟩ := h
    rfl
  · obtain ⟨a, xs, lo, hi, rfl, hs, ht, q⟩ := h
    refine ⟨_, (pss_one (ps_ret (pe_and (pe_callB (k_isi (K := K) rfl) (by rfl) T.isinstance (by decide +kernel) (pa_cons (pv 0) (pa_cons (pe_bltn (v := .ty "tuple") (by rfl) T.tuple (by decide +kernel) rfl) pa_nil))) (pe_one (pe_chain op_le op_le (pv 1) (pe_callB (k_len (K := K) rfl) (by rfl) T.len PySem.boot_len (pa_cons (pv 0) pa_nil)) (pv 2)))))), ?_⟩
    refine ⟨_, rfl, _, _, _, _, true, rfl, .ty _, ht, kit_ty (by decide +kernel), true, rfl, iteT ?_⟩
    refine ⟨_, rfl, _, rfl, a, xs, rfl, .inr hs, lo, _, rfl, rfl, _, rfl, ?_⟩
    by_cases h1 : lo ≤ (xs.length : Int)
    · rw [decide_eq_true h1]
      refine iteT ⟨_, rfl, _, hi, rfl, rfl, ?_⟩
      have e : decide (lo ≤ (xs.length : Int) ∧ (xs.length : Int) ≤ hi) = decide ((xs.length : Int) ≤ hi) := by simp [h1]
      rw [e] at q
      exact q
    · rw [decide_eq_false h1]
      refine iteF ?_
      have e : decide (lo ≤ (xs.length : Int) ∧ (xs.length : Int) ≤ hi) = false := by simp [h1]
      rw [e] at q
      exact q
end
end KQ
/-! partings: the mathematics -/
namespace KM
/-- blocks numbered as they are first met, m of them ahead -/
def Rg : Int → List Int → Prop
  | _, [] => True
  | m, x :: r => 0 ≤ x ∧ x ≤ m ∧ Rg (if x = m then m + 1 else m) r
/-- how many blocks, m of them ahead -/
def bc : Int → List Int → Int
  | m, [] => m
  | m, x :: r => bc (if x = m then m + 1 else m) r
structure Par (p : List Int) : Prop where
  ne : p ≠ []
  le : p.length ≤ 60
  rg : Rg 0 p
theorem bc_app : ∀ (m : Int) (xs ys : List Int), bc m (xs ++ ys) = bc (bc m xs) ys
  | _, [], _ => rfl
  | m, x :: xs, ys => bc_app (if x = m then m + 1 else m) xs ys
theorem rg_app : ∀ (m : Int) (xs ys : List Int), Rg m (xs ++ ys) ↔ Rg m xs ∧ Rg (bc m xs) ys
  | _, [], _ => ⟨fun h => ⟨trivial, h⟩, fun h => h.2⟩
  | m, x :: xs, ys => by
    show (0 ≤ x ∧ x ≤ m ∧ Rg _ (xs ++ ys)) ↔ (0 ≤ x ∧ x ≤ m ∧ Rg _ xs) ∧ _
    rw [rg_app]
    exact ⟨fun ⟨a, b, c, d⟩ => ⟨⟨a, b, c⟩, d⟩, fun ⟨⟨a, b, c⟩, d⟩ => ⟨a, b, c, d⟩⟩
theorem bc_ge : ∀ (m : Int) (xs : List Int), m ≤ bc m xs
  | _, [] => Int.le_refl _
  | m, x :: xs => by
    have h := bc_ge (if x = m then m + 1 else m) xs
    show m ≤ bc (if x = m then m + 1 else m) xs
    split at h <;> split <;> first | omega | contradiction
theorem bc_le : ∀ (m : Int) (xs : List Int), bc m xs ≤ m + xs.length
  | m, [] => by
    show m ≤ m + ((0 : Nat) : Int)
    omega
  | m, x :: xs => by
    have h := bc_le (if x = m then m + 1 else m) xs
    show bc (if x = m then m + 1 else m) xs ≤ m + ((xs.length + 1 : Nat) : Int)
    split at h <;> split <;> first | omega | contradiction
theorem rg_at {p : List Int} {i : Nat} {x : Int} (h : Rg 0 p) (hx : p[i]? = some x) : 0 ≤ x ∧ x ≤ bc 0 (p.take i) := by
  obtain ⟨hi, e⟩ := List.getElem?_eq_some_iff.mp hx
  have e2 : p = p.take i ++ (x :: p.drop (i + 1)) := by
    rw [← e, List.getElem_cons_drop, List.take_append_drop]
  rw [e2, rg_app] at h
  have h2 : 0 ≤ x ∧ x ≤ bc 0 (p.take i) ∧ Rg _ (p.drop (i + 1)) := h.2
  exact ⟨h2.1, h2.2.1⟩
theorem bc_take {p : List Int} {i : Nat} {x : Int} (hx : p[i]? = some x) : bc 0 (p.take (i + 1)) = if x = bc 0 (p.take i) then bc 0 (p.take i) + 1 else bc 0 (p.take i) := by
  rw [List.take_add_one, hx, bc_app]
  rfl
/-- all values lie below the number of blocks, each number below it is one -/
theorem rg_mem : ∀ (m : Int) (p : List Int), 0 ≤ m → Rg m p → (∀ x ∈ p, 0 ≤ x ∧ x < bc m p) ∧ ∀ y, m ≤ y → y < bc m p → y ∈ p
  | m, [], hm, _ => ⟨fun x hx => (nomatch hx), fun y h1 h2 => by
    have h2' : y < m := h2
    omega⟩
  | m, x :: r, hm, h => by
    obtain ⟨h0, h1, h2⟩ := h
    have hm2 : 0 ≤ (if x = m then m + 1 else m) := by split <;> omega
    obtain ⟨ih1, ih2⟩ := rg_mem (if x = m then m + 1 else m) r hm2 h2
    have e : bc m (x :: r) = bc (if x = m then m + 1 else m) r := rfl
    have g := bc_ge (if x = m then m + 1 else m) r
    rw [e]
    refine ⟨fun y hy => ?_, fun y h3 h4 => ?_⟩
    · rcases List.mem_cons.mp hy with q | q
      · subst q
        refine ⟨h0, ?_⟩
        split at g <;> split <;> first | omega | contradiction
      · exact ih1 y q
    · by_cases hy : x = y
      · rw [hy]
        exact List.mem_cons_self
      · refine List.mem_cons_of_mem _ (ih2 y ?_ h4)
        split <;> omega
theorem par_max {p : List Int} (h : Par p) {m : Int} (hm : m ∈ p) (hle : ∀ y ∈ p, y ≤ m) : m + 1 = bc 0 p := by
  obtain ⟨h1, h2⟩ := rg_mem 0 p (Int.le_refl _) h.rg
  have a := (h1 m hm).2
  have b0 := (h1 m hm).1
  by_cases e : m + 1 = bc 0 p
  · exact e
  · have := hle (bc 0 p - 1) (h2 _ (by omega) (by omega))
    omega
/-- two partings with the same kernel are one -/
theorem rg_unique : ∀ (n : Nat) (p q : List Int), p.length = n → q.length = n → Rg 0 p → Rg 0 q →
    (∀ (i j : Nat) (x y u v : Int), p[i]? = some x → p[j]? = some y → q[i]? = some u → q[j]? = some v → (x = y ↔ u = v)) → p = q ∧ bc 0 p = bc 0 q
  | 0, p, q, hp, hq, _, _, _ => by
    rw [List.eq_nil_of_length_eq_zero hp, List.eq_nil_of_length_eq_zero hq]
    exact ⟨rfl, rfl⟩
  | n + 1, p, q, hp, hq, rp, rq, h => by
    obtain ⟨p', x, rfl⟩ : ∃ p' x, p = p' ++ [x] := ⟨p.dropLast, p.getLast (by intro e; rw [e] at hp; cases hp), (List.dropLast_concat_getLast _).symm⟩
    obtain ⟨q', u, rfl⟩ : ∃ q' u, q = q' ++ [u] := ⟨q.dropLast, q.getLast (by intro e; rw [e] at hq; cases hq), (List.dropLast_concat_getLast _).symm⟩
    have lp : p'.length = n := by simpa using hp
    have lq : q'.length = n := by simpa using hq
    rw [rg_app] at rp rq
    have gp : ∀ {i : Nat} {z : Int}, p'[i]? = some z → (p' ++ [x])[i]? = some z := fun {i z} e => by
      have := (List.getElem?_eq_some_iff.mp e).1
      rw [List.getElem?_append_left this]
      exact e
    have gq : ∀ {i : Nat} {z : Int}, q'[i]? = some z → (q' ++ [u])[i]? = some z := fun {i z} e => by
      have := (List.getElem?_eq_some_iff.mp e).1
      rw [List.getElem?_append_left this]
      exact e
    obtain ⟨e1, e2⟩ := rg_unique n p' q' lp lq rp.1 rq.1 fun i j a b c d h1 h2 h3 h4 => h i j a b c d (gp h1) (gp h2) (gq h3) (gq h4)
    subst e1
    have lastp : (p' ++ [x])[n]? = some x := by
      rw [List.getElem?_append_right (by omega), lp]
      simp
    have lastq : (p' ++ [u])[n]? = some u := by
      rw [List.getElem?_append_right (by omega), lp]
      simp
    obtain ⟨x0, x1, _⟩ := rp.2
    obtain ⟨u0, u1, _⟩ := rq.2
    obtain ⟨m1, m2⟩ := rg_mem 0 p' (Int.le_refl _) rp.1
    have exu : x = u := by
      by_cases hx : x < bc 0 p'
      · obtain ⟨i, hi, ei⟩ := List.getElem_of_mem (m2 x x0 hx)
        have e3 : p'[i]? = some x := by rw [List.getElem?_eq_getElem hi, ei]
        exact ((h i n x x x u (gp e3) lastp (gq e3) lastq).mp rfl)
      · by_cases hu : u < bc 0 p'
        · obtain ⟨i, hi, ei⟩ := List.getElem_of_mem (m2 u u0 hu)
          have e3 : p'[i]? = some u := by rw [List.getElem?_eq_getElem hi, ei]
          exact ((h i n u x u u (gp e3) lastp (gq e3) lastq).mpr rfl).symm
        · omega
    subst exu
    exact ⟨rfl, rfl⟩

/-! ### numbering -/
variable {α : Type} [DecidableEq α]
def ins (ks : List α) (x : α) : List α := if x ∈ ks then ks else ks ++ [x]
def firsts (xs : List α) : List α := xs.foldl ins []
def num (xs : List α) : List Int := xs.map fun x => (((firsts xs).idxOf x : Nat) : Int)
theorem firsts_snoc (xs : List α) (x : α) : firsts (xs ++ [x]) = ins (firsts xs) x := by
  unfold firsts
  rw [List.foldl_append]
  rfl
theorem ins_nodup {ks : List α} (h : ks.Nodup) (x : α) : (ins ks x).Nodup := by
  unfold ins
  split
  · exact h
  · rename_i hx
    rw [List.nodup_append]
    refine ⟨h, by simp, fun a ha b hb => ?_⟩
    rw [List.mem_singleton.mp hb]
    intro e
    exact hx (e ▸ ha)
theorem mem_ins {ks : List α} {x y : α} : y ∈ ins ks x ↔ y ∈ ks ∨ y = x := by
  unfold ins
  split
  · rename_i hx
    exact ⟨Or.inl, fun h => h.elim id fun e => e ▸ hx⟩
  · rw [List.mem_append, List.mem_singleton]
theorem firsts_rec {P : List α → Prop} (h0 : P []) (hs : ∀ xs x, P xs → P (xs ++ [x])) : ∀ xs, P xs := by
  intro xs
  have : ∀ n (xs : List α), xs.length = n → P xs := by
    intro n
    induction n with
    | zero =>
      intro xs h
      rw [List.eq_nil_of_length_eq_zero h]
      exact h0
    | succ n ih =>
      intro xs h
      have hne : xs ≠ [] := by
        intro e
        rw [e] at h
        cases h
      rw [← List.dropLast_concat_getLast hne]
      exact hs _ _ (ih _ (by rw [List.length_dropLast, h]; rfl))
  exact this _ xs rfl
theorem firsts_nodup (xs : List α) : (firsts xs).Nodup := by
  refine firsts_rec (P := fun xs => (firsts xs).Nodup) (by exact List.nodup_nil) (fun xs x h => ?_) xs
  rw [firsts_snoc]
  exact ins_nodup h x
theorem mem_firsts {y : α} (xs : List α) : y ∈ firsts xs ↔ y ∈ xs := by
  refine firsts_rec (P := fun xs => y ∈ firsts xs ↔ y ∈ xs) (by exact Iff.rfl) (fun xs x h => ?_) xs
  rw [firsts_snoc, mem_ins, h, List.mem_append, List.mem_singleton]
theorem idx_ins {ks : List α} {x y : α} (hy : y ∈ ks) : (ins ks x).idxOf y = ks.idxOf y := by
  unfold ins
  split
  · rfl
  · rw [List.idxOf_append, if_pos hy]
theorem num_snoc (xs : List α) (x : α) : num (xs ++ [x]) = num xs ++ [if x ∈ firsts xs then (((firsts xs).idxOf x : Nat) : Int) else ((firsts xs).length : Int)] := by
  unfold num
  rw [List.map_append, firsts_snoc]
  congr 1
  · refine List.map_congr_left fun y hy => ?_
    rw [idx_ins ((mem_firsts xs).mpr hy)]
  · show [_] = [_]
    congr 1
    split
    · rename_i h
      show (((ins (firsts xs) x).idxOf x : Nat) : Int) = _
      rw [idx_ins h]
    · rename_i h
      show (((ins (firsts xs) x).idxOf x : Nat) : Int) = _
      unfold ins
      rw [if_neg h, List.idxOf_append, if_neg h]
      simp
theorem firsts_len (xs : List α) : ((firsts xs).length : Int) = bc 0 (num xs) ∧ Rg 0 (num xs) := by
  refine firsts_rec (P := fun xs => ((firsts xs).length : Int) = bc 0 (num xs) ∧ Rg 0 (num xs)) ⟨rfl, trivial⟩ (fun xs x h => ?_) xs
  obtain ⟨h1, h2⟩ := h
  rw [num_snoc, firsts_snoc, bc_app, rg_app, ← h1]
  unfold ins
  by_cases hx : x ∈ firsts xs
  · rw [if_pos hx, if_pos hx]
    have hl := List.idxOf_lt_length_of_mem hx
    refine ⟨?_, h2, ?_⟩
    · show _ = if _ then _ else _
      rw [if_neg (by omega)]
    · exact ⟨by omega, by omega, trivial⟩
  · rw [if_neg hx, if_neg hx]
    refine ⟨?_, h2, ?_⟩
    · show _ = if _ then _ else _
      rw [if_pos rfl, List.length_append]
      show ((_ + 1 : Nat) : Int) = _
      show _ = bc _ []
      show _ = (_ : Int) + 1
      omega
    · exact ⟨by omega, by omega, trivial⟩
theorem num_rg (xs : List α) : Rg 0 (num xs) := (firsts_len xs).2
theorem num_len (xs : List α) : (num xs).length = xs.length := by
  unfold num
  rw [List.length_map]
theorem num_get {xs : List α} {i : Nat} {x : α} (h : xs[i]? = some x) : (num xs)[i]? = some (((firsts xs).idxOf x : Nat) : Int) := by
  unfold num
  rw [List.getElem?_map, h]
  rfl
theorem num_ker {xs : List α} {i j : Nat} {x y : α} {u v : Int} (hi : xs[i]? = some x) (hj : xs[j]? = some y) (ui : (num xs)[i]? = some u) (vj : (num xs)[j]? = some v) : u = v ↔ x = y := by
  rw [num_get hi] at ui
  rw [num_get hj] at vj
  cases ui
  cases vj
  constructor
  · intro e
    have e' : (firsts xs).idxOf x = (firsts xs).idxOf y := by omega
    have hx := (mem_firsts xs).mpr (List.mem_of_getElem? hi)
    have hy := (mem_firsts xs).mpr (List.mem_of_getElem? hj)
    have a := List.getElem_idxOf (List.idxOf_lt_length_of_mem hx)
    have b := List.getElem_idxOf (List.idxOf_lt_length_of_mem hy)
    rw [← a, ← b]
    congr 1
  · intro e
    rw [e]
theorem num_par {xs : List α} (h : xs ≠ []) (hl : xs.length ≤ 60) : Par (num xs) :=
  ⟨fun e => h (List.eq_nil_of_length_eq_zero (by rw [← num_len xs, e]; rfl)), by rw [num_len]; exact hl, num_rg xs⟩
/-- a parting is told by its kernel -/
theorem num_is {xs : List α} {q : List Int} (hl : q.length = xs.length) (hq : Rg 0 q)
    (h : ∀ (i j : Nat) (x y : α) (u v : Int), xs[i]? = some x → xs[j]? = some y → q[i]? = some u → q[j]? = some v → (x = y ↔ u = v)) : num xs = q := by
  refine (rg_unique xs.length (num xs) q (num_len xs) hl (num_rg xs) hq fun i j a b u v h1 h2 h3 h4 => ?_).1
  have li := (List.getElem?_eq_some_iff.mp h1).1
  have lj := (List.getElem?_eq_some_iff.mp h2).1
  rw [num_len] at li lj
  have gi : xs[i]? = some xs[i] := List.getElem?_eq_getElem li
  have gj : xs[j]? = some xs[j] := List.getElem?_eq_getElem lj
  rw [num_ker gi gj h1 h2]
  exact h i j _ _ u v gi gj h3 h4
end KM
namespace KQ
open PySem PySem.Spec PyProof.Rows L2 KR KM
section
variable {P : Program} {w : World} {K : PySem.W.Frag} {mg : Str → Option Value} {base : Heap}
/-- a tuple of whole numbers stands at a -/
def TI (H : Hp) (a : Addr) (p : List Int) : Prop := Rd H a (.tup (p.map V.int))
theorem TI.mono {H H' : Hp} {a : Addr} {p : List Int} (h : TI H a p) (e : Same H H') : TI H' a p := Rd.mono h e
theorem TI.ty {H : Hp} {a : Addr} {p : List Int} (h : TI H a p) : TyX K H (.ref a) (.type "tuple") := tyRd h
theorem TI.seq {H : Hp} {a : Addr} {p : List Int} (h : TI H a p) : SqT K H a (p.map V.int) := .inl h
def spFwb : Sp := fun vs H Q _ => ∃ a p, vs = [.ref a] ∧ TI H a p ∧ Par p ∧ ∀ H', Same H H' → Q .non H'
def spIsPar : Sp := fun vs H Q _ => ∃ a p, vs = [.ref a] ∧ TI H a p ∧ Par p ∧ ∀ H', Same H H' → Q (.bl true) H'
theorem par_le {p : List Int} (h : Par p) : decide ((1 : Int) ≤ ((p.map V.int).length : Int) ∧ ((p.map V.int).length : Int) ≤ 60) = true := by
  refine decide_eq_true ?_
  rw [List.length_map]
  have h1 := h.le
  have h2 : p.length ≠ 0 := fun e => h.ne (List.eq_nil_of_length_eq_zero e)
  omega
def spNeed : Sp := fun vs H Q _ => ∃ a p, vs = [.ref a] ∧ TI H a p ∧ Par p ∧ ∀ H', Same H H' → Q (.ref a) H'
def spNeedOf : Sp := fun vs H Q _ => ∃ a p, vs = [.ref a, .int (p.length : Int)] ∧ TI H a p ∧ Par p ∧ ∀ H', Same H H' → Q (.ref a) H'
def spTwo : Sp := fun vs H Q _ => ∃ a b p r, vs = [.ref a, .ref b] ∧ TI H a p ∧ TI H b r ∧ Par p ∧ Par r ∧ p.length = r.length ∧ ∀ H', Same H H' → Q .non H'
def spCount : Sp := fun vs H Q _ => ∃ a p, vs = [.ref a] ∧ TI H a p ∧ Par p ∧ Q (.int (bc 0 p)) H
def spSize : Sp := fun vs H Q _ => ∃ a p, vs = [.ref a] ∧ TI H a p ∧ Par p ∧ ∀ H', Same H H' → Q (.int (bc 0 p)) H'
end
end KQ
namespace KQ
open PySem PySem.Spec PyProof.Rows L2 KR KM
/-! ### a dict of the first ones' places -/
section
variable {α κ : Type} [DecidableEq α] [DecidableEq κ]
def dg (f : α → κ) (ks : List α) : List (κ × V) := ks.zipIdx.map fun p => (f p.1, V.int ((p.2 : Nat) : Int))
theorem dg_len (f : α → κ) (ks : List α) : (dg f ks).length = ks.length := by
  unfold dg
  rw [List.length_map, List.length_zipIdx]
theorem dg_snoc (f : α → κ) (ks : List α) (x : α) : dg f (ks ++ [x]) = dg f ks ++ [(f x, V.int ((ks.length : Nat) : Int))] := by
  unfold dg
  rw [List.zipIdx_append, List.map_append]
  simp
theorem dg_any {f : α → κ} (hf : ∀ a b, f a = f b → a = b) (ks : List α) (x : α) : ((dg f ks).any fun kv => decide (kv.1 = f x)) = decide (x ∈ ks) := by
  refine firsts_rec (P := fun ks => ((dg f ks).any fun kv => decide (kv.1 = f x)) = decide (x ∈ ks)) (by simp [dg]) (fun ks y h => ?_) ks
  rw [dg_snoc, List.any_append, h]
  simp only [List.any_cons, List.any_nil, Bool.or_false, List.mem_append, List.mem_singleton]
  by_cases e : x = y
  · subst e
    simp
  · have e2 : f y ≠ f x := fun q => e (hf _ _ q).symm
    simp [e, e2]
theorem dg_val {f : α → κ} (hf : ∀ a b, f a = f b → a = b) (ks : List α) (x : α) (h : ks.Nodup) :
    valV (dg f ks) (f x) = if x ∈ ks then some (V.int ((ks.idxOf x : Nat) : Int)) else none := by
  refine firsts_rec (P := fun ks => ks.Nodup → valV (dg f ks) (f x) = if x ∈ ks then some (V.int ((ks.idxOf x : Nat) : Int)) else none) (fun _ => rfl) (fun ks y ih hn => ?_) ks h
  rw [List.nodup_append] at hn
  have ih := ih hn.1
  have hy : y ∉ ks := fun hm => hn.2.2 y hm y (List.mem_singleton.mpr rfl) rfl
  unfold valV at ih ⊢
  rw [dg_snoc, List.find?_append, Option.map_or, ih]
  by_cases hx : x ∈ ks
  · rw [if_pos hx, if_pos (List.mem_append_left _ hx), List.idxOf_append, if_pos hx]
    rfl
  · rw [if_neg hx]
    by_cases e : x = y
    · subst e
      rw [if_pos (List.mem_append_right _ (List.mem_singleton.mpr rfl)), List.idxOf_append, if_neg hx]
      simp
    · have e2 : f y ≠ f x := fun q => e (hf _ _ q).symm
      rw [if_neg (by simp [hx, e])]
      simp [e2]
theorem dg_put {f : α → κ} (hf : ∀ a b, f a = f b → a = b) (ks : List α) (x : α) (hx : x ∉ ks) : putK (dg f ks) (f x) (V.int ((ks.length : Nat) : Int)) = dg f (ks ++ [x]) := by
  unfold putK
  rw [if_neg (by rw [dg_any hf]; simp [hx]), dg_snoc]
end
def kI (x : Int) : L2.Key := Sum.inl x
theorem kI_inj : ∀ a b, kI a = kI b → a = b := fun _ _ e => Sum.inl.inj e
def kP (x : Int × Int) : List L2.Key := [Sum.inl x.1, Sum.inl x.2]
theorem kP_inj : ∀ a b, kP a = kP b → a = b := fun a b e => by
  unfold kP at e
  simp only [List.cons.injEq, Sum.inl.injEq, and_true] at e
  exact Prod.ext e.1 e.2
theorem take_snoc {α : Type} {xs : List α} {i : Nat} {x : α} (h : xs[i]? = some x) : xs.take (i + 1) = xs.take i ++ [x] := by
  rw [List.take_add_one, h]
  rfl
theorem small_of {n : Nat} (h : n ≤ 100000) : n < sizeLine := Nat.lt_of_le_of_lt h (by decide)
/-- one more: what comes, where the key is there, where it isn't -/
theorem num_old {α : Type} [DecidableEq α] {xs : List α} {x : α} (h : x ∈ firsts xs) : num (xs ++ [x]) = num xs ++ [(((firsts xs).idxOf x : Nat) : Int)] ∧ firsts (xs ++ [x]) = firsts xs := by
  rw [num_snoc, firsts_snoc, if_pos h]
  exact ⟨rfl, if_pos h⟩
theorem num_new {α : Type} [DecidableEq α] {xs : List α} {x : α} (h : x ∉ firsts xs) : num (xs ++ [x]) = num xs ++ [((firsts xs).length : Int)] ∧ firsts (xs ++ [x]) = firsts xs ++ [x] := by
  rw [num_snoc, firsts_snoc, if_neg h]
  exact ⟨rfl, if_neg h⟩
theorem firsts_le {α : Type} [DecidableEq α] (xs : List α) : (firsts xs).length ≤ xs.length := by
  refine firsts_rec (P := fun xs => (firsts xs).length ≤ xs.length) (Nat.le_refl _) (fun xs x h => ?_) xs
  rw [firsts_snoc]
  unfold ins
  split
  · rw [List.length_append]
    omega
  · rw [List.length_append, List.length_append]
    show _ + 1 ≤ _ + 1
    omega
section
variable {P : Program} {w : World} {K : PySem.W.Frag} {mg : Str → Option Value} {base : Heap}
/-- numbered of whole numbers: a tuple (b = true), a list -/
def spNumT : Sp := fun vs H Q _ => ∃ a xs, vs = [.ref a] ∧ TI H a xs ∧ xs.length ≤ 1000 ∧ ∀ H' p, Same H H' → TI H' p (num xs) → Q (.ref p) H'
def spNumL : Sp := fun vs H Q _ => ∃ (a : Addr) (xs : List Int), vs = [.ref a] ∧ H a = some (.lst (xs.map V.int)) ∧ xs.length ≤ 1000 ∧ ∀ H' p, Same H H' → TI H' p (num xs) → Q (.ref p) H'
/-- of pairs -/
def PairsAt (H : Hp) (ts : List Addr) (xs : List (Int × Int)) : Prop := ts.length = xs.length ∧ ∀ (i : Nat) (t : Addr), ts[i]? = some t → ∃ x, xs[i]? = some x ∧ H t = some (.tup [.int x.1, .int x.2])
def spNumP : Sp := fun vs H Q _ => ∃ (a : Addr) (ts : List Addr) (xs : List (Int × Int)), vs = [.ref a] ∧ H a = some (.lst (ts.map V.ref)) ∧ PairsAt H ts xs ∧ xs.length ≤ 1000 ∧ ∀ H' p, Same H H' → TI H' p (num xs) → Q (.ref p) H'
end
end KQ
namespace KQ
open PySem PySem.Spec PyProof.Rows L2 KR KM
section
variable {P : Program} {w : World} {K : PySem.W.Frag} {mg : Str → Option Value} {base : Heap}
def spPof : Sp := fun vs H Q _ => ∃ a xs, vs = [.ref a] ∧ TI H a xs ∧ xs ≠ [] ∧ xs.length ≤ 60 ∧ ∀ H' p, Same H H' → TI H' p (num xs) → Q (.ref p) H'
/-- unlike doors below many -/
structure Drs (ds : List Int) (many : Int) : Prop where
  ne : ds ≠ []
  le : ds.length ≤ 60
  nd : ds.Nodup
  at_ : ∀ d ∈ ds, 0 ≤ d ∧ d < many
def spDrs : Sp := fun vs H Q _ => ∃ a ds many, vs = [.ref a, .int many] ∧ TI H a ds ∧ Drs ds many ∧ ∀ H', Same H H' → Q .non H'
end
end KQ
namespace KM
/-! doors by block; all partings -/
def doorsOf (p : List Int) (b : Int) : List Int := (p.zipIdx.filter fun q => decide (q.1 = b)).map fun q => ((q.2 : Nat) : Int)
theorem doorsOf_snoc (p : List Int) (x b : Int) : doorsOf (p ++ [x]) b = doorsOf p b ++ (if x = b then [((p.length : Nat) : Int)] else []) := by
  unfold doorsOf
  rw [List.zipIdx_append, List.filter_append, List.map_append]
  by_cases h : x = b
  · simp [h]
  · simp [h]
theorem doorsOf_len (p : List Int) (b : Int) : (doorsOf p b).length ≤ p.length := by
  unfold doorsOf
  rw [List.length_map]
  refine Nat.le_trans (List.length_filter_le _ _) ?_
  rw [List.length_zipIdx]
  exact Nat.le_refl _
theorem doorsOf_small (p : List Int) (b : Int) : ∀ x ∈ doorsOf p b, 0 ≤ x ∧ x < p.length := by
  intro x hx
  unfold doorsOf at hx
  obtain ⟨q, hq, rfl⟩ := List.mem_map.mp hx
  have h1 := (List.mem_filter.mp hq).1
  have h2 := List.mem_zipIdx h1
  omega
/-- a row and one door more, into each block and a new one -/
def ext (row : List Int) : List (List Int) := (List.range (bc 0 row + 1).toNat).map fun b => row ++ [((b : Nat) : Int)]
def allP : Nat → List (List Int)
  | 0 => [[0]]
  | n + 1 => (allP n).flatMap ext
theorem allP_ok : ∀ (n : Nat), ∀ r ∈ allP n, Rg 0 r ∧ r.length = n + 1
  | 0, r, h => by
    rw [List.mem_singleton.mp h]
    exact ⟨⟨Int.le_refl _, Int.le_refl _, trivial⟩, rfl⟩
  | n + 1, r, h => by
    obtain ⟨q, hq, hr⟩ := List.mem_flatMap.mp h
    obtain ⟨b, hb, rfl⟩ := List.mem_map.mp hr
    obtain ⟨h1, h2⟩ := allP_ok n q hq
    have hb := List.mem_range.mp hb
    have := bc_ge 0 q
    refine ⟨?_, by rw [List.length_append, h2]; rfl⟩
    rw [rg_app]
    exact ⟨h1, by omega, by omega, trivial⟩
theorem allP_count : ∀ n : Fin 8, (allP n.val).length ≤ 4140 := by decide +kernel
theorem ext_len (row : List Int) : (ext row).length = (bc 0 row + 1).toNat := by
  unfold ext
  rw [List.length_map, List.length_range]
theorem flat_take {α β : Type} (f : α → List β) {xs : List α} {i : Nat} {x : α} (h : xs[i]? = some x) : (xs.take (i + 1)).flatMap f = (xs.take i).flatMap f ++ f x := by
  rw [List.take_add_one, h]
  simp
theorem flat_le {α β : Type} (f : α → List β) {xs : List α} {i : Nat} {x : α} (h : xs[i]? = some x) : ((xs.take i).flatMap f).length + (f x).length ≤ (xs.flatMap f).length := by
  have e : xs = xs.take (i + 1) ++ xs.drop (i + 1) := (List.take_append_drop _ _).symm
  have e2 : (xs.flatMap f).length = ((xs.take (i + 1)).flatMap f).length + ((xs.drop (i + 1)).flatMap f).length := by
    conv => lhs; rw [e]
    rw [List.flatMap_append, List.length_append]
  rw [e2, flat_take f h, List.length_append]
  omega
theorem ext_take {row : List Int} {j : Nat} (hj : j < (bc 0 row + 1).toNat) : (ext row).take (j + 1) = (ext row).take j ++ [row ++ [((j : Nat) : Int)]] := by
  have h : (ext row)[j]? = some (row ++ [((j : Nat) : Int)]) := by
    unfold ext
    rw [List.getElem?_map, List.getElem?_range hj]
    rfl
  rw [List.take_add_one, h]
  rfl
end KM
namespace KQ
open PySem PySem.Spec PyProof.Rows L2 KR KM StX
section
variable {P : Program} {w : World} {K : PySem.W.Frag} {mg : Str → Option Value} {base : Heap}
/-- a list of tuples of whole numbers; a tuple of such -/
def LT (H : Hp) (a : Addr) (xss : List (List Int)) : Prop := ∃ ts : List Addr, H a = some (.lst (ts.map V.ref)) ∧ ts.length = xss.length ∧ ∀ (i : Nat) (t : Addr), ts[i]? = some t → ∃ xs, xss[i]? = some xs ∧ TI H t xs
def TT (H : Hp) (a : Addr) (xss : List (List Int)) : Prop := ∃ ts : List Addr, H a = some (.tup (ts.map V.ref)) ∧ ts.length = xss.length ∧ ∀ (i : Nat) (t : Addr), ts[i]? = some t → ∃ xs, xss[i]? = some xs ∧ TI H t xs
theorem TT.mono {H H' : Hp} {a : Addr} {xss : List (List Int)} (h : TT H a xss) (e : Same H H') : TT H' a xss := by
  obtain ⟨ts, h1, h2, h3⟩ := h
  exact ⟨ts, e _ _ h1, h2, fun i t ht => let ⟨xs, q1, q2⟩ := h3 i t ht; ⟨xs, q1, q2.mono e⟩⟩
theorem LT.mono {H H' : Hp} {a : Addr} {xss : List (List Int)} (h : LT H a xss) (e : Same H H') : LT H' a xss := by
  obtain ⟨ts, h1, h2, h3⟩ := h
  exact ⟨ts, e _ _ h1, h2, fun i t ht => let ⟨xs, q1, q2⟩ := h3 i t ht; ⟨xs, q1, q2.mono e⟩⟩
def pick (p ds : List Int) : List Int := ds.map fun d => p.getD d.toNat 0
theorem get_of {p : List Int} {d : Int} (h0 : 0 ≤ d) (h1 : d < p.length) : p[d.toNat]? = some (p.getD d.toNat 0) := by
  have h : d.toNat < p.length := by omega
  rw [List.getElem?_eq_getElem h, List.getD_eq_getElem?_getD, List.getElem?_eq_getElem h]
  rfl
def spSome : Sp := fun vs H Q _ => ∃ a b p ds, vs = [.ref a, .ref b] ∧ TI H a p ∧ TI H b ds ∧ Par p ∧ Drs ds p.length ∧ ∀ H' r, Same H H' → TI H' r (num (pick p ds)) → Q (.ref r) H'
/-- the rows: a list of lists -/
def Rows (H : Hp) (a : Addr) (p : List Int) (many : Nat) : Prop := ∃ rs : List Addr, H a = some (.lst (rs.map V.ref)) ∧ rs.length = many ∧ rs.Nodup ∧ ∀ (b : Nat) (t : Addr), rs[b]? = some t → H t = some (.lst ((doorsOf p b).map V.int))
def spRows : Sp := fun vs H Q _ => ∃ a p, vs = [.ref a] ∧ TI H a p ∧ Par p ∧ ∀ H' l, Same H H' → Rows H' l p (bc 0 p).toNat → Q (.ref l) H'
end
end KQ
namespace KQ
open PySem PySem.Spec PyProof.Rows L2 KR KM StX
section
variable {P : Program} {w : World} {K : PySem.W.Frag} {mg : Str → Option Value} {base : Heap}
def blockList (p : List Int) : List (List Int) := (List.range (bc 0 p).toNat).map fun b => doorsOf p ((b : Nat) : Int)
theorem blockList_at {p : List Int} {b : Nat} (h : b < (bc 0 p).toNat) : (blockList p)[b]? = some (doorsOf p b) := by
  unfold blockList
  rw [List.getElem?_map, List.getElem?_range h]
  rfl
def spBlocks : Sp := fun vs H Q _ => ∃ a p, vs = [.ref a] ∧ TI H a p ∧ Par p ∧ ∀ H' r, Same H H' → TT H' r (blockList p) → Q (.ref r) H'
def besideP (p r : List Int) : List Int := p ++ r.map fun b => bc 0 p + b
def spBeside : Sp := fun vs H Q _ => ∃ a b p r, vs = [.ref a, .ref b] ∧ TI H a p ∧ TI H b r ∧ Par p ∧ Par r ∧ p.length + r.length ≤ 60 ∧ ∀ H' t, Same H H' → TI H' t (besideP p r) → Q (.ref t) H'
/-- two doors in one block of the one are in one block of the other -/
def Finer (p r : List Int) : Prop := ∀ (i j : Nat) (x y z : Int), p[i]? = some x → p[j]? = some x → r[i]? = some y → r[j]? = some z → y = z
def spLies : Sp := fun vs H Q _ => ∃ a b p r, vs = [.ref a, .ref b] ∧ TI H a p ∧ TI H b r ∧ p.length = r.length ∧ p.length ≤ 60 ∧ ∀ H' c, Same H H' → (c = true ↔ Finer p r) → Q (.bl c) H'
/-- what the dict knows: each block of the one so far with that of the other at its first door -/
def Known (p r : List Int) (i : Nat) (kvs : List (L2.Key × V)) : Prop := kvs.length ≤ i ∧ ∀ x : Int, (∀ v, valV kvs (kI x) = some v → ∃ (j : Nat) (y : Int), j < i ∧ p[j]? = some x ∧ r[j]? = some y ∧ v = .int y) ∧
  (valV kvs (kI x) = none → ∀ j, j < i → p[j]? ≠ some x)
theorem valV_put {κ : Type} [DecidableEq κ] (kvs : List (κ × V)) (k k' : κ) (v : V) (h : valV kvs k = none) : valV (putK kvs k v) k' = if k' = k then some v else valV kvs k' := by
  have hn : (kvs.any fun kv => decide (kv.1 = k)) = false := by
    unfold valV at h
    rw [Option.map_eq_none_iff, List.find?_eq_none] at h
    rw [List.any_eq_false]
    exact h
  unfold putK
  rw [if_neg (by rw [hn]; exact Bool.false_ne_true)]
  unfold valV
  rw [List.find?_append, Option.map_or]
  by_cases e : k' = k
  · subst e
    rw [if_pos rfl]
    unfold valV at h
    rw [h]
    simp
  · rw [if_neg e]
    have e2 : ¬ k = k' := fun q => e q.symm
    simp [e2]
theorem putK_len {κ : Type} [DecidableEq κ] (kvs : List (κ × V)) (k : κ) (v : V) : (putK kvs k v).length ≤ kvs.length + 1 := length_putK kvs k v
end
end KQ
namespace KQ
open PySem PySem.Spec PyProof.Rows L2 KR KM StX
section
variable {P : Program} {w : World} {K : PySem.W.Frag} {mg : Str → Option Value} {base : Heap}
def spFiner : Sp := fun vs H Q _ => ∃ a b p r, vs = [.ref a, .ref b] ∧ TI H a p ∧ TI H b r ∧ Par p ∧ Par r ∧ p.length = r.length ∧ ∀ H' c, Same H H' → (c = true ↔ Finer p r) → Q (.bl c) H'
def spBelow : Sp := fun vs H Q _ => ∃ a b p r, vs = [.ref a, .ref b] ∧ TI H a p ∧ TI H b r ∧ Par p ∧ Par r ∧ p.length = r.length ∧ ∀ H' t, Same H H' → TI H' t (num (p.zip r)) → Q (.ref t) H'
theorem zipped_pairs {p r : List Int} {H H' : Hp} {ts : List Addr} (hl : p.length = r.length) (tl : ts.length = (p.map V.int).length)
    (tt : ∀ (i : Nat) (t : Addr), ts[i]? = some t → H t = none ∧ ∃ x y, (p.map V.int)[i]? = some x ∧ (r.map V.int)[i]? = some y ∧ H' t = some (.tup [x, y])) : PairsAt H' ts (p.zip r) := by
  refine ⟨?_, fun i t ht => ?_⟩
  · rw [tl, List.length_map, List.length_zip]
    omega
  · obtain ⟨_, x, y, h1, h2, h3⟩ := tt i t ht
    obtain ⟨x', hx, rfl⟩ := map_at h1
    obtain ⟨y', hy, rfl⟩ := map_at h2
    refine ⟨(x', y'), ?_, h3⟩
    rw [List.getElem?_zip_eq_some]
    exact ⟨hx, hy⟩
def spPofD : Sp := fun vs H Q _ => ∃ n : Nat, vs = [.int ((n + 1 : Nat) : Int)] ∧ n < 8 ∧ ∀ H' t, Same H H' → TT H' t (allP n) → Q (.ref t) H'
end
end KQ
namespace KM
/-! ### clumps: roots -/
def up (hs : List Nat) (x : Nat) : Nat := hs.getD x x
def Dn (hs : List Nat) : Prop := ∀ x, up hs x ≤ x
def rt (hs : List Nat) : Nat → Nat → Nat
  | 0, x => x
  | f + 1, x => if up hs x = x then x else rt hs f (up hs x)
/-- more fuel changes nothing -/
theorem rt_more {hs : List Nat} (h : Dn hs) : ∀ (f x k : Nat), x ≤ f → rt hs (f + k) x = rt hs f x := by
  intro f
  induction f with
  | zero =>
    intro x k hx
    have e0 : x = 0 := by omega
    subst e0
    have e : up hs 0 = 0 := by have := h 0; omega
    cases k with
    | zero => rfl
    | succ k =>
      show rt hs (0 + (k + 1)) 0 = 0
      rw [Nat.zero_add]
      show (if up hs 0 = 0 then 0 else _) = 0
      rw [if_pos e]
  | succ f ih =>
    intro x k hx
    rw [show f + 1 + k = (f + k) + 1 by omega]
    show (if up hs x = x then x else rt hs (f + k) (up hs x)) = (if up hs x = x then x else rt hs f (up hs x))
    have hx0 := h x
    by_cases e : up hs x = x
    · rw [if_pos e, if_pos e]
    · rw [if_neg e, if_neg e, ih _ k (by omega)]
def root (hs : List Nat) (x : Nat) : Nat := rt hs x x
theorem root_fuel {hs : List Nat} (h : Dn hs) {f x : Nat} (hx : x ≤ f) : rt hs f x = root hs x := by
  have := rt_more h x x (f - x) (Nat.le_refl _)
  rw [show x + (f - x) = f by omega] at this
  exact this
theorem root_at {hs : List Nat} (h : Dn hs) (x : Nat) : root hs x = if up hs x = x then x else root hs (up hs x) := by
  have hx0 := h x
  cases x with
  | zero =>
    rw [if_pos (by omega)]
    rfl
  | succ x =>
    show (if up hs (x + 1) = x + 1 then x + 1 else rt hs x (up hs (x + 1))) = _
    by_cases e : up hs (x + 1) = x + 1
    · rw [if_pos e, if_pos e]
    · rw [if_neg e, if_neg e, root_fuel h (by omega)]
theorem root_self {hs : List Nat} (h : Dn hs) {x : Nat} (e : up hs x = x) : root hs x = x := by
  rw [root_at h, if_pos e]
theorem root_up {hs : List Nat} (h : Dn hs) (x : Nat) : root hs (up hs x) = root hs x := by
  rw [root_at h x]
  by_cases e : up hs x = x
  · rw [if_pos e, e, root_self h e]
  · rw [if_neg e]
theorem root_le {hs : List Nat} (h : Dn hs) : ∀ (n x : Nat), x ≤ n → root hs x ≤ x ∧ up hs (root hs x) = root hs x
  | 0, x, hx => by
    have e0 : x = 0 := by omega
    subst e0
    have e : up hs 0 = 0 := by have := h 0; omega
    rw [root_self h e]
    exact ⟨Nat.le_refl _, e⟩
  | n + 1, x, hx => by
    have hx0 := h x
    by_cases e : up hs x = x
    · rw [root_self h e]
      exact ⟨Nat.le_refl _, e⟩
    · have ih := root_le h n (up hs x) (by omega)
      rw [root_up h] at ih
      exact ⟨by omega, ih.2⟩
theorem up_root {hs : List Nat} (h : Dn hs) (x : Nat) : up hs (root hs x) = root hs x := (root_le h x x (Nat.le_refl _)).2
theorem root_le' {hs : List Nat} (h : Dn hs) (x : Nat) : root hs x ≤ x := (root_le h x x (Nat.le_refl _)).1
theorem up_set {hs : List Nat} {x v y : Nat} (hx : x < hs.length) : up (hs.set x v) y = if y = x then v else up hs y := by
  unfold up
  rw [List.getD_eq_getElem?_getD, List.getElem?_set, List.getD_eq_getElem?_getD]
  by_cases e : x = y
  · subst e
    simp [hx]
  · have e2 : ¬ y = x := fun q => e q.symm
    simp [e, e2]
theorem dn_set {hs : List Nat} (h : Dn hs) {x v : Nat} (hx : x < hs.length) (hv : v ≤ x) : Dn (hs.set x v) := fun y => by
  rw [up_set hx]
  split
  · omega
  · exact h y
/-- a shorter way: the roots stay -/
theorem root_halve {hs : List Nat} (h : Dn hs) {x : Nat} (hx : x < hs.length) : ∀ (n y : Nat), y ≤ n → root (hs.set x (up hs (up hs x))) y = root hs y := by
  have hv : up hs (up hs x) ≤ x := Nat.le_trans (h _) (h x)
  have h2 := dn_set h hx hv
  intro n
  induction n with
  | zero =>
    intro y hy
    have e0 : y = 0 := by omega
    subst e0
    have a := root_le' h 0
    have b := root_le' h2 0
    omega
  | succ n ih =>
    intro y hy
    rw [root_at h2, up_set hx]
    by_cases e : y = x
    · subst e
      rw [if_pos rfl]
      by_cases e2 : up hs (up hs y) = y
      · have e3 : up hs y = y := by
          have := h (up hs y)
          have := h y
          omega
        rw [if_pos e2, root_self h e3]
      · have lt : up hs (up hs y) < y := by
          have := h (up hs y)
          have := h y
          omega
        rw [if_neg e2, ih _ (by omega), root_up h, root_up h]
    · rw [if_neg e]
      have hy0 := h y
      by_cases e2 : up hs y = y
      · rw [if_pos e2, root_self h e2]
      · rw [if_neg e2, ih _ (by omega), root_up h]
/-- two roots made one -/
theorem root_unite {hs : List Nat} (h : Dn hs) {a b : Nat} (hb : b < hs.length) (ea : up hs a = a) (eb : up hs b = b) (lt : a < b) : ∀ (n y : Nat), y ≤ n → root (hs.set b a) y = if root hs y = b then a else root hs y := by
  have h2 := dn_set h hb (Nat.le_of_lt lt)
  intro n
  induction n with
  | zero =>
    intro y hy
    have e0 : y = 0 := by omega
    subst e0
    have p := root_le' h 0
    have q := root_le' h2 0
    rw [if_neg (by omega)]
    omega
  | succ n ih =>
    intro y hy
    rw [root_at h2, up_set hb]
    by_cases e : y = b
    · subst e
      rw [if_pos rfl, if_neg (by omega), ih _ (by omega), root_self h ea, root_self h eb, if_neg (by omega), if_pos rfl]
    · rw [if_neg e]
      have hy0 := h y
      by_cases e2 : up hs y = y
      · rw [if_pos e2, root_self h e2, if_neg e]
      · rw [if_neg e2, ih _ (by omega), root_up h]
/-! ### what is glued together -/
def J (R : Nat → Nat → Prop) (a b x y : Nat) : Prop := R x y ∨ (R x a ∧ R b y) ∨ (R x b ∧ R a y)
def glue (ts : List (Nat × Nat)) : Nat → Nat → Prop := ts.foldl (fun R t => J R t.1 t.2) Eq
theorem glue_snoc (ts : List (Nat × Nat)) (t : Nat × Nat) : glue (ts ++ [t]) = J (glue ts) t.1 t.2 := by
  unfold glue
  rw [List.foldl_append]
  rfl
structure Eqv (R : Nat → Nat → Prop) : Prop where
  refl : ∀ x, R x x
  symm : ∀ x y, R x y → R y x
  trans : ∀ x y z, R x y → R y z → R x z
theorem J_eqv {R : Nat → Nat → Prop} (h : Eqv R) (a b : Nat) : Eqv (J R a b) := by
  refine ⟨fun x => .inl (h.refl x), fun x y q => ?_, fun x y z q1 q2 => ?_⟩
  · rcases q with q | ⟨q, r⟩ | ⟨q, r⟩
    · exact .inl (h.symm _ _ q)
    · exact .inr (.inr ⟨h.symm _ _ r, h.symm _ _ q⟩)
    · exact .inr (.inl ⟨h.symm _ _ r, h.symm _ _ q⟩)
  · have t := h.trans
    have s := h.symm
    rcases q1 with q1 | ⟨q1, r1⟩ | ⟨q1, r1⟩ <;> rcases q2 with q2 | ⟨q2, r2⟩ | ⟨q2, r2⟩
    · exact .inl (t _ _ _ q1 q2)
    · exact .inr (.inl ⟨t _ _ _ q1 q2, r2⟩)
    · exact .inr (.inr ⟨t _ _ _ q1 q2, r2⟩)
    · exact .inr (.inl ⟨q1, t _ _ _ r1 q2⟩)
    · exact .inr (.inl ⟨q1, r2⟩)
    · exact .inl (t _ _ _ q1 r2)
    · exact .inr (.inr ⟨q1, t _ _ _ r1 q2⟩)
    · exact .inl (t _ _ _ q1 r2)
    · exact .inr (.inr ⟨q1, r2⟩)
theorem glue_eqv (ts : List (Nat × Nat)) : Eqv (glue ts) := by
  refine firsts_rec' (P := fun ts => Eqv (glue ts)) ⟨fun _ => rfl, fun _ _ h => Eq.symm h, fun _ _ _ h1 h2 => Eq.trans h1 h2⟩ (fun ts t h => ?_) ts
  rw [glue_snoc]
  exact J_eqv h _ _
where
  firsts_rec' {α : Type} {P : List α → Prop} (h0 : P []) (hs : ∀ xs x, P xs → P (xs ++ [x])) : ∀ xs, P xs := by
    intro xs
    have : ∀ n (xs : List α), xs.length = n → P xs := by
      intro n
      induction n with
      | zero =>
        intro xs h
        rw [List.eq_nil_of_length_eq_zero h]
        exact h0
      | succ n ih =>
        intro xs h
        have hne : xs ≠ [] := by
          intro e
          rw [e] at h
          cases h
        rw [← List.dropLast_concat_getLast hne]
        exact hs _ _ (ih _ (by rw [List.length_dropLast, h]; rfl))
    exact this _ xs rfl
/-- the roots behind a tie -/
theorem tie_roots {hs hs' : List Nat} {R : Nat → Nat → Prop} {a b : Nat} (e : Eqv R) (h : ∀ x y, root hs x = root hs y ↔ R x y)
    (h' : ∀ y, root hs' y = if root hs y = max (root hs a) (root hs b) then min (root hs a) (root hs b) else root hs y) (x y : Nat) : root hs' x = root hs' y ↔ J R a b x y := by
  unfold J
  rw [h' x, h' y, ← h x y, ← h x a, ← h b y, ← h x b, ← h a y]
  generalize root hs x = rx
  generalize root hs y = ry
  generalize root hs a = ra
  generalize root hs b = rb
  rcases Nat.lt_trichotomy ra rb with g | g | g
  · rw [Nat.max_eq_right (by omega), Nat.min_eq_left (by omega)]
    split <;> split <;> omega
  · subst g
    rw [Nat.max_self, Nat.min_self]
    split <;> split <;> omega
  · rw [Nat.max_eq_left (by omega), Nat.min_eq_right (by omega)]
    split <;> split <;> omega
/-- labels behind a tie -/
theorem tie_labels {L L' : Nat → Int} {R : Nat → Nat → Prop} {a b : Nat} {S : Nat → Prop} (h : ∀ x y, S x → S y → (L x = L y ↔ R x y)) (sa : S a) (sb : S b)
    (h' : ∀ y, S y → L' y = if L y = L b then L a else L y) (x y : Nat) (sx : S x) (sy : S y) : L' x = L' y ↔ J R a b x y := by
  unfold J
  rw [h' x sx, h' y sy, ← h x y sx sy, ← h x a sx sa, ← h b y sb sy, ← h x b sx sb, ← h a y sa sy]
  generalize L x = rx
  generalize L y = ry
  generalize L a = ra
  generalize L b = rb
  split <;> split <;> omega
theorem up_range (n x : Nat) : up (List.range n) x = x := by
  unfold up
  rw [List.getD_eq_getElem?_getD]
  by_cases h : x < n
  · rw [List.getElem?_range h]
    rfl
  · rw [List.getElem?_eq_none (by rw [List.length_range]; omega)]
    rfl
theorem dn_range (n : Nat) : Dn (List.range n) := fun x => by
  rw [up_range]
  exact Nat.le_refl _
theorem root_range (n x : Nat) : root (List.range n) x = x := root_self (dn_range n) (up_range n x)
end KM
namespace KQ
open PySem PySem.Spec PyProof.Rows L2 KR KM StX
section
variable {P : Program} {w : World} {K : PySem.W.Frag} {mg : Str → Option Value} {base : Heap}
/-! ### clumps -/
def cf (l : Addr) (m : Int) : List (Str × V) := putF "many" (.int m) (putF "heads" (.ref l) [])
theorem hm_ne : ¬ (("heads" : Str) = "many") := by decide +kernel
theorem cf_heads (l : Addr) (m : Int) : (cf l m).lookup ("heads" : Str) = some (.ref l) := by
  unfold cf
  rw [lookup_putF, if_neg hm_ne, lookup_putF, if_pos rfl]
theorem cf_many (l : Addr) (m : Int) : (cf l m).lookup ("many" : Str) = some (.int m) := by
  unfold cf
  rw [lookup_putF, if_pos rfl]
theorem cf_no (l : Addr) (m : Int) {x : Str} (h1 : ¬ x = "many") (h2 : ¬ x = "heads") : (cf l m).lookup x = none := by
  unfold cf
  rw [lookup_putF, if_neg h1, lookup_putF, if_neg h2]
  rfl
theorem cf_eq (l : Addr) (m : Int) : cf l m = ([("heads", V.ref l), ("many", V.int m)] : List (Str × V)) := by
  show (if ("heads" : Str) = "many" then [(("heads" : Str), V.int m)] else (("heads" : Str), V.ref l) :: putF "many" (V.int m) []) = _
  rw [if_neg hm_ne]
  rfl
theorem cf_put (l : Addr) (m m' : Int) : putF "many" (.int m') (cf l m) = cf l m' := by
  rw [cf_eq, cf_eq]
  show (if ("heads" : Str) = "many" then _ else (("heads" : Str), V.ref l) :: (if ("many" : Str) = "many" then [(("many" : Str), V.int m')] else _)) = _
  rw [if_neg hm_ne, if_pos rfl]
def hv (hs : List Nat) : List V := hs.map fun n => V.int ((n : Nat) : Int)
/-- clumps stand at o, their heads in the list at l -/
def CAt (C : Addr) (H : Hp) (o l : Addr) (hs : List Nat) (m : Int) : Prop := (∃ dx, H o = some (.ins C dx (cf l m))) ∧ H l = some (.lst (hv hs))
def But (l : Addr) (H H' : Hp) : Prop := ∀ b u, H b = some u → b ≠ l → H' b = some u
theorem hv_at {hs : List Nat} {x : Nat} (h : x < hs.length) : (hv hs)[x]? = some (.int ((up hs x : Nat) : Int)) := by
  unfold hv up
  rw [List.getElem?_map, List.getElem?_eq_getElem h, List.getD_eq_getElem?_getD, List.getElem?_eq_getElem h]
  rfl
theorem hv_set (hs : List Nat) (x v : Nat) : (hv hs).set x (.int ((v : Nat) : Int)) = hv (hs.set x v) := by
  unfold hv
  rw [List.map_set]
theorem hv_len (hs : List Nat) : (hv hs).length = hs.length := List.length_map ..
theorem rgV_hv (n : Nat) : rgV 0 ((n : Nat) : Int) = hv (List.range n) := by
  unfold rgV hv
  rw [show (((n : Nat) : Int) - 0).toNat = n by omega]
  refine List.map_congr_left fun x _ => ?_
  show V.int (0 + _) = _
  rw [Int.zero_add]
def spInit (C : Addr) : Sp := fun vs H Q _ => ∃ (o dx : Addr) (n : Nat), vs = [.ref o, .int ((n : Nat) : Int)] ∧ H o = some (.ins C dx []) ∧ n ≤ 1000 ∧
  ∀ H' l, CAt C H' o l (List.range n) n → H l = none → But o H H' → Q .non H'
def spHead (C : Addr) : Sp := fun vs H Q _ => ∃ (o l : Addr) (hs : List Nat) (m : Int) (x : Nat), vs = [.ref o, .int ((x : Nat) : Int)] ∧ CAt C H o l hs m ∧ Dn hs ∧ x < hs.length ∧
  ∀ H' hs', CAt C H' o l hs' m → Dn hs' → hs'.length = hs.length → (∀ y, root hs' y = root hs y) → But l H H' → Q (.int ((root hs x : Nat) : Int)) H'
def spUnite (C : Addr) : Sp := fun vs H Q _ => ∃ (o l : Addr) (hs : List Nat) (m : Int) (a b : Nat), vs = [.ref o, .int ((a : Nat) : Int), .int ((b : Nat) : Int)] ∧ CAt C H o l hs m ∧ Dn hs ∧ a < hs.length ∧ b < hs.length ∧
  ∀ H' hs', CAt C H' o l hs' (if root hs a = root hs b then m else m - 1) → Dn hs' → hs'.length = hs.length →
    (∀ y, root hs' y = if root hs y = max (root hs a) (root hs b) then min (root hs a) (root hs b) else root hs y) → (∀ c u, H c = some u → c ≠ l → c ≠ o → H' c = some u) → Q (.bl (!decide (root hs a = root hs b))) H'
end
end KQ
namespace KQ
open PySem PySem.Spec PyProof.Rows L2 KR KM StX
section
variable {P : Program} {w : World} {K : PySem.W.Frag} {mg : Str → Option Value} {base : Heap}
def tiesOf (p r : List Int) : List (Nat × Nat) := (p.zip r).map fun q => (q.1.toNat, (bc 0 p + q.2).toNat)
theorem ties_at {p r : List Int} {i : Nat} {x y : Int} (hx : p[i]? = some x) (hy : r[i]? = some y) : (tiesOf p r)[i]? = some (x.toNat, (bc 0 p + y).toNat) := by
  unfold tiesOf
  refine at_map (x := (x, y)) ?_
  rw [List.getElem?_zip_eq_some]
  exact ⟨hx, hy⟩
theorem ties_len {p r : List Int} (h : p.length = r.length) : (tiesOf p r).length = p.length := by
  unfold tiesOf
  rw [List.length_map, List.length_zip]
  omega
def spAbove : Sp := fun vs H Q _ => ∃ a b p r, vs = [.ref a, .ref b] ∧ TI H a p ∧ TI H b r ∧ Par p ∧ Par r ∧ p.length = r.length ∧
  ∀ H' t (L : Nat → Int), Same H H' → (∀ x y, L x = L y ↔ glue (tiesOf p r) x y) → TI H' t (num (p.map fun b => L b.toNat)) → Q (.ref t) H'
end
end KQ
namespace KQ
open PySem PySem.Spec PyProof.Rows L2 KR KM StX
section
variable {P : Program} {w : World} {K : PySem.W.Frag} {mg : Str → Option Value} {base : Heap}
theorem nb {i : Int} {b : Nat} (h0 : 0 ≤ i) (h : i < 2 ^ b) : i.natAbs < 2 ^ b := by
  have : ((i.natAbs : Nat) : Int) < ((2 ^ b : Nat) : Int) := by
    rw [Int.natAbs_of_nonneg h0]
    push_cast
    exact h
  omega
theorem fm {i j : Int} (h : 0 < j) : 0 ≤ i.fmod j ∧ i.fmod j < j := ⟨Int.fmod_nonneg_of_pos _ h, Int.fmod_lt_of_pos _ h⟩
abbrev s__law_mixed : Stmt := topS 22
theorem sc__law_mixed : FnScope ["cell", "n", "blend"] ["cell", "n"] (defScope s__law_mixed) := ⟨rfl, rfl, rfl, by decide +kernel, rfl, by decide +kernel, by decide +kernel⟩
def spMixed : Sp := fun vs H Q _ => ∃ c n, vs = [.int c, .int n] ∧ 0 ≤ c ∧ c < 2 ^ 40 ∧ 0 ≤ n ∧ n < 2 ^ 24 ∧ ∀ r, 0 ≤ r → r < 2 ^ 31 → Q (.int r) H
theorem ok_mixed (D : DefAt K mg "_law_mixed" s__law_mixed) (T : Bt mg) : Use P w K mg base "_law_mixed" 1 ["cell", "n"] spMixed := by
  refine use_of D (fun f fd F => F.ok sc__law_mixed (fun vs H Q E h => ?_) (fun cdv A outer s H vs Q E hr h => ?_)) (fun _ _ _ _ _ _ us hl => match us, hl with | [_, _], _ => rfl)
  · obtain ⟨c, n, rfl, _⟩ := h
    rfl
  · obtain ⟨c, n, rfl, c0, c1, n0, n1, q⟩ := h
    refine ⟨_, (pss_cons (ps_set (i := 2) sc__law_mixed.nd rfl (Or.inl rfl) (pe_op op_add (pe_op op_add (pe_op op_modN (pe_callTy call_int1 (by rfl) T.int (by decide +kernel) (pa_cons (pe_op op_mulW (pe_op op_mulW (pv 0) (pe_op op_add pe_int (pe_op op_mulW pe_int (pv 1)))) pe_int) pa_nil)) pe_int) (pe_op op_mulW (pe_op op_mulW pe_int (pv 1)) (pv 1))) (pe_op op_mulW pe_int (pv 1))))
      (pss_one (ps_ret (pe_op op_fdivW (pe_op op_modN (pe_callTy call_int1 (by rfl) T.int (by decide +kernel) (pa_cons (pe_op op_mulW (pv 2) pe_int) pa_nil)) pe_int) pe_int)))), ?_⟩
    have e2 : (2 : Int) ^ 24 = 16777216 := by decide
    have hn : n.natAbs < 2 ^ 24 := nb n0 n1
    have hc : c.natAbs < 2 ^ 40 := nb c0 c1
    have h1 : (2 * n).natAbs < 2 ^ (2 + 24) := wide_lt (by decide) hn
    have h2 : (1 + 2 * n).natAbs < 2 ^ 27 := nb (by omega) (by omega)
    have h3 : (c * (1 + 2 * n)).natAbs < 2 ^ (40 + 27) := wide_lt hc h2
    have h4 : (7919 * n).natAbs < 2 ^ (13 + 24) := wide_lt (by decide) hn
    have h5 : (7919 * n * n).natAbs < 2 ^ (37 + 24) := wide_lt h4 hn
    have h6 : (104729 * n).natAbs < 2 ^ (17 + 24) := wide_lt (by decide) hn
    have f1 := fm (i := c * (1 + 2 * n) * 48271) (j := 2147483647) (by decide)
    generalize hX : (c * (1 + 2 * n) * 48271).fmod 2147483647 = X at f1
    have e3 : (2 : Nat) ^ (37 + 24) = 2305843009213693952 := by decide
    have e4 : (2 : Nat) ^ (17 + 24) = 2199023255552 := by decide
    have e5 : (2 : Nat) ^ 70 = 1180591620717411303424 := by decide
    have h7 : (X + 7919 * n * n + 104729 * n).natAbs < 2 ^ 70 := by
      generalize 7919 * n * n = u at *
      generalize 104729 * n = v at *
      omega
    generalize hY : X + 7919 * n * n + 104729 * n = Y at h7
    have f2 := fm (i := Y * 69621) (j := 2147483629) (by decide)
    generalize hZ : (Y * 69621).fmod 2147483629 = Z at f2
    subst hZ hY hX
    refine ⟨_, rfl, _, rfl, 2, n, rfl, rfl, wide_mul (by decide : (2 : Int).natAbs < 2 ^ 2) hn (by decide) (by decide) (by decide), 1, 2 * n, rfl, rfl, c, 1 + 2 * n, rfl, rfl, wide_mul hc h2 (by decide) (by decide) (by decide), ?_⟩
    refine ⟨c * (1 + 2 * n), 48271, rfl, rfl, wide_mul h3 (by decide : (48271 : Int).natAbs < 2 ^ 16) (by decide) (by decide) (by decide), .inl ⟨_, rfl, ?_⟩⟩
    refine ⟨_, 2147483647, rfl, rfl, (show (2147483647 : Int) ≠ 0 by decide), ?_⟩
    refine ⟨_, rfl, 7919, n, rfl, rfl, wide_mul (by decide : (7919 : Int).natAbs < 2 ^ 13) hn (by decide) (by decide) (by decide), _, rfl, 7919 * n, n, rfl, rfl, wide_mul h4 hn (by decide) (by decide) (by decide), ?_⟩
    refine ⟨_, _, rfl, rfl, _, rfl, 104729, n, rfl, rfl, wide_mul (by decide : (104729 : Int).natAbs < 2 ^ 17) hn (by decide) (by decide) (by decide), _, _, rfl, rfl, ?_⟩
    refine ⟨_, rfl, _, 69621, rfl, rfl, wide_mul h7 (by decide : (69621 : Int).natAbs < 2 ^ 17) (by decide) (by decide) (by decide), .inl ⟨_, rfl, ?_⟩⟩
    refine ⟨_, 2147483629, rfl, rfl, (show (2147483629 : Int) ≠ 0 by decide), _, 7, rfl, rfl, wide_div (by decide) (by decide : (7 : Int).natAbs < 2 ^ 3) (by decide) (by decide), ?_⟩
    exact q _ (by omega) (by omega)
theorem depth0 : ∀ (ns : List Int), PyData.depthAll (ns.map .int) = 0
  | [] => rfl
  | n :: r => by simp only [List.map, PyData.depthAll, PyData.depth, depth0 r]; rfl
theorem lay0 : ∀ (ns : List Int), PyData.canLayAll0 (ns.map .int) = true
  | [] => rfl
  | n :: r => by simp only [List.map, PyData.canLayAll0, PyData.canLay0, lay0 r, Bool.and_self]
theorem shaped_ints (ns : List Int) : SeqAt.shaped (.list (ns.map .int)) = true := by
  unfold SeqAt.shaped
  simp only [PyData.canLay0, lay0, PyData.depth, depth0]
  rfl
theorem eqv_nil (ns : List Int) : (!PyData.eqv (.list (ns.map .int)) (.list [])) = !ns.isEmpty := by
  cases ns <;> rfl
abbrev s__law_draw : Stmt := topS 24
theorem sc__law_draw : FnScope ["m", "limit", "n", "lot", "here", "cell"] ["m", "limit"] (defScope s__law_draw) := ⟨rfl, rfl, rfl, by decide +kernel, rfl, by decide +kernel, by decide +kernel⟩
/-- the state of the draws: the dict, its lists, at most b draws so far -/
structure MS (H : Hp) (m c g : Addr) (b : Int) : Prop where
  ex : ∃ (cs gs : List Int) (n : Int), H m = some (.dK [(.inr "cells", .ref c), (.inr "great", .ref g), (.inr "spot", .int n)]) ∧ H c = some (.lst (cs.map V.int)) ∧ H g = some (.lst (gs.map V.int)) ∧
    cs.length = 64 ∧ (∀ x ∈ cs, 0 ≤ x ∧ x < 2147483647) ∧ c ≠ g ∧ gs.length ≤ 63 ∧ 0 ≤ n ∧ n ≤ b
/-- all but m and g stays -/
def Kept (H H' : Hp) (m g : Addr) : Prop := ∀ a u, H a = some u → a ≠ m → a ≠ g → H' a = some u
def spDraw : Sp := fun vs H Q _ => ∃ m c g b limit, vs = [.ref m, .int limit] ∧ MS H m c g b ∧ b ≤ 1000000 ∧ 1 ≤ limit ∧ limit ≤ 2 ^ 30 ∧ ∀ H' d, Kept H H' m g → MS H' m c g (b + 1) → 0 ≤ d → d < limit → Q (.int d) H'
theorem ok_draw (D : DefAt K mg "_law_draw" s__law_draw) (T : Bt mg) (u__law_mixed : Use P w K mg base "_law_mixed" 1 ["cell", "n"] spMixed) : Use P w K mg base "_law_draw" 2 ["m", "limit"] spDraw := by
  refine use_of D (fun f fd F => F.ok sc__law_draw (fun vs H Q E h => ?_) (fun cdv A outer s H vs Q E hr h => ?_)) (fun _ _ _ _ _ _ us hl => match us, hl with | [_, _], _ => rfl)
  · obtain ⟨m, c, g, b, limit, rfl, _⟩ := h
    rfl
  · obtain ⟨m, c, g, b, limit, rfl, ⟨cs, gs, n, hm, hc, hg, lc, rc, cg, lg, n0, n1⟩, b1, l1, l2, q⟩ := h
    refine ⟨_, (pss_cons (ps_set (i := 2) sc__law_draw.nd rfl (Or.inl rfl) (pe_dget (hu_of hr) (pv 0) pe_str (fun _ _ => rfl)))
      (pss_cons (ps_dput (hu_of hr) (pv 0) pe_str (pe_op op_add (pv 2) pe_int) rfl)
      (pss_cons (ps_if (pt_cmpR (k_neD (K := K) rfl hr.units) (pe_dget (hu_of hr) (pv 0) pe_str (fun _ _ => rfl)) (pe_lst pa_nil) (nomark _)) (pss_cons (ps_set (i := 3) sc__law_draw.nd rfl (Or.inl rfl) (pe_dget (hu_of hr) (pv 0) pe_str (fun _ _ => rfl)))
      (pss_cons (ps_set (i := 4) sc__law_draw.nd rfl (Or.inl rfl) (pe_op op_modN (pe_callTy call_int1 (by rfl) T.int (by decide +kernel) (pa_cons (pv 2) pa_nil)) (pe_callB (k_len (K := K) rfl) (by rfl) T.len PySem.boot_len (pa_cons (pv 3) pa_nil))))
      (pss_cons (ps_set (i := 5) sc__law_draw.nd rfl (Or.inl rfl) (pe_ix (k_ixl (K := K) rfl) (pv 3) (pv 4) (fun _ _ => rfl)))
      (pss_one (ps_if (pt_cmpR op_gt (pv 5) pe_int (nomark _)) (pss_cons (ps_asg (pe_op op_fdivW (pv 5) (pv 1)) (pg_sub (pv 3) (pv 4) set_list))
      (pss_one (ps_ret (pe_op op_modN (pe_callTy call_int1 (by rfl) T.int (by decide +kernel) (pa_cons (pv 5) pa_nil)) (pv 1))))) pss_nil))))) pss_nil)
      (pss_cons (ps_set (i := 3) sc__law_draw.nd rfl (Or.inl rfl) (pe_dget (hu_of hr) (pv 0) pe_str (fun _ _ => rfl)))
      (pss_one (ps_ret (pe_op op_modN (pe_callTy call_int1 (by rfl) T.int (by decide +kernel) (pa_cons (pe_use u__law_mixed (by decide) hr (by rfl) (pa_cons (pe_use u__law_mixed (by decide) hr (by rfl) (pa_cons (pe_op op_add (pe_ix (k_ixl (K := K) rfl) (pv 3) (pe_op op_modN (pe_callTy call_int1 (by rfl) T.int (by decide +kernel) (pa_cons (pv 2) pa_nil)) pe_int) (fun _ _ => rfl)) (pe_op op_mulW pe_int (pe_op op_fdivW (pv 2) pe_int))) (pa_cons (pv 2) pa_nil))) (pa_cons (pe_op op_add (pv 2) pe_int) pa_nil))) pa_nil)) (pv 1)))))))), ?_⟩
    have mc : m ≠ c := fun e => by rw [e, hc] at hm; cases hm
    have mg' : m ≠ g := fun e => by rw [e, hg] at hm; cases hm
    have e2 : (2 : Int) ^ 30 = 1073741824 := by decide
    refine ⟨_, rfl, m, _, rfl, .k (k := .inr "spot") hm, ?_⟩
    refine ⟨_, rfl, _, _, rfl, rfl, _, rfl, m, _, rfl, .k (k := .inr "spot") hm (small_of (Nat.le_of_ble_eq_true rfl)), ?_⟩
    rw [show putK [((.inr "cells" : L2.Key), V.ref c), (.inr "great", .ref g), (.inr "spot", .int n)] (.inr "spot") (V.int (n + 1)) = [(.inr "cells", .ref c), (.inr "great", .ref g), (.inr "spot", .int (n + 1))] from rfl]
    generalize hH1 : upd H m (.dK [((.inr "cells" : L2.Key), V.ref c), (.inr "great", .ref g), (.inr "spot", .int (n + 1))]) = H1
    have hm1 : H1 m = some (.dK [((.inr "cells" : L2.Key), V.ref c), (.inr "great", .ref g), (.inr "spot", .int (n + 1))]) := by rw [← hH1, upd_same]
    have hc1 : H1 c = some (.lst (cs.map V.int)) := by rw [← hH1, upd_ne mc.symm]; exact hc
    have hg1 : H1 g = some (.lst (gs.map V.int)) := by rw [← hH1, upd_ne mg'.symm]; exact hg
    have k1 : Kept H H1 m g := fun a u ha na _ => by rw [← hH1, upd_ne na]; exact ha
    refine ⟨_, rfl, m, _, rfl, .k (k := .inr "great") hm1, Nat.zero_le _, fun p np => ?_⟩
    have npg : p ≠ g := fun e => by rw [e, hg1] at np; cases np
    have npm : p ≠ m := fun e => by rw [e, hm1] at np; cases np
    have npc : p ≠ c := fun e => by rw [e, hc1] at np; cases np
    have hm2 : (upd H1 p (.lst [])) m = some (.dK [((.inr "cells" : L2.Key), V.ref c), (.inr "great", .ref g), (.inr "spot", .int (n + 1))]) := by rw [upd_ne npm.symm]; exact hm1
    have hc2 : (upd H1 p (.lst [])) c = some (.lst (cs.map V.int)) := by rw [upd_ne npc.symm]; exact hc1
    have hg2 : (upd H1 p (.lst [])) g = some (.lst (gs.map V.int)) := by rw [upd_ne npg.symm]; exact hg1
    have k2 : Kept H (upd H1 p (.lst [])) m g := fun a u ha na nb => by rw [upd_ne (ne_of_none (k1 a u ha na nb) np)]; exact k1 a u ha na nb
    refine ⟨.list (gs.map PyData.int), .list [], .lst (sqL hg2) (dpAll_ints gs), .lst (sqL (xs := []) upd_same) .nil, shaped_ints gs, rfl, _, rfl, ?_⟩
    rw [eqv_nil]
    generalize hH2 : upd H1 p (.lst []) = H2 at *
    have fin : ∀ H3, (∀ a u, H2 a = some u → a ≠ g → H3 a = some u) → (∃ gs' : List Int, H3 g = some (.lst (gs'.map V.int)) ∧ gs'.length = gs.length) → Kept H H3 m g ∧ MS H3 m c g (b + 1) := by
      intro H3 h3 ⟨gs', hg3, lg3⟩
      exact ⟨fun a u ha na nb => h3 a u (k2 a u ha na nb) nb, ⟨cs, gs', n + 1, h3 _ _ hm2 mg', h3 _ _ hc2 cg, hg3, lc, rc, cg, by omega, by omega, by omega⟩⟩
    have fin2 := fin H2 (fun a u ha _ => ha) ⟨gs, hg2, rfl⟩
    have f64 := fm (i := n) (j := 64) (by decide)
    have hat : ∃ x, cs[(n.fmod 64).toNat]? = some x ∧ 0 ≤ x ∧ x < 2147483647 := by
      have hl : (n.fmod 64).toNat < cs.length := by omega
      exact ⟨_, List.getElem?_eq_getElem hl, rc _ (List.getElem_mem hl)⟩
    obtain ⟨x, hx, x0, x1⟩ := hat
    have hd : 0 ≤ n / 64 ∧ n / 64 ≤ n := ⟨by omega, by omega⟩
    have e24 : (2 : Int) ^ 24 = 16777216 := by decide
    have e40 : (2 : Int) ^ 40 = 1099511627776 := by decide
    have e31 : (2 : Int) ^ 31 = 2147483648 := by decide
    cases gs with
    | nil =>
      refine ⟨_, rfl, m, _, rfl, .k (k := .inr "cells") hm2, ?_⟩
      refine ⟨_, rfl, _, rfl, .inl ⟨n, rfl, n, 64, rfl, rfl, (show (64 : Int) ≠ 0 by decide), c, _, n.fmod 64, V.int x, rfl, rfl, sqL hc2, atI_of (j := (n.fmod 64).toNat) (by omega) (at_map hx), ?_⟩⟩
      refine ⟨_, rfl, n, 64, rfl, rfl, wide_div (by decide) (by decide : (64 : Int).natAbs < 2 ^ 7) (by decide) (by decide), 31, n / 64, rfl, rfl, wide_mul (by decide : (31 : Int).natAbs < 2 ^ 5) (nb (b := 24) (by omega) (by omega)) (by decide) (by decide) (by decide), x, 31 * (n / 64), rfl, rfl, _, rfl, ?_⟩
      refine ⟨x + 31 * (n / 64), n, rfl, by omega, by omega, by omega, by omega, fun r r0 r1 => ⟨_, rfl, n, 7, rfl, rfl, r, n + 7, rfl, r0, by omega, by omega, by omega, fun r2 r3 r4 => .inl ⟨r2, rfl, _, rfl, r2, limit, rfl, rfl, (show limit ≠ 0 by omega), ?_⟩⟩⟩
      exact q _ _ fin2.1 fin2.2 (fm (by omega)).1 (fm (by omega)).2
    | cons g0 gr =>
      have fG := fm (i := n) (j := (((g0 :: gr).length : Nat) : Int)) (by rw [List.length_cons]; omega)
      have hat2 : ∃ y, (g0 :: gr)[(n.fmod ((g0 :: gr).length : Nat)).toNat]? = some y := ⟨_, List.getElem?_eq_getElem (by omega)⟩
      obtain ⟨y, hy⟩ := hat2
      refine ⟨_, rfl, m, _, rfl, .k (k := .inr "great") hm2, ?_⟩
      refine ⟨_, rfl, .inl ⟨n, rfl, _, rfl, g, _, rfl, .inl (sqL hg2), n, _, rfl, rfl, ?_, ?_⟩⟩
      · rw [List.length_map, List.length_cons]
        omega
      rw [List.length_map]
      refine ⟨_, rfl, _, rfl, g, _, _, V.int y, rfl, rfl, sqL hg2, atI_of (j := (n.fmod ((g0 :: gr).length : Nat)).toNat) (by omega) (at_map hy), ?_⟩
      refine ⟨_, rfl, y, 0, rfl, rfl, _, rfl, ?_⟩
      by_cases hpos : 0 < y
      · rw [decide_eq_true hpos]
        refine ⟨_, rfl, _, rfl, y, limit, rfl, rfl, wide_div (by omega) (nb (b := 31) (by omega) (by omega)) (by decide) (by decide), _, rfl, _, rfl, g, _, _, (n.fmod ((g0 :: gr).length : Nat)).toNat, rfl, rfl, hg2, ?_, ?_⟩
        · unfold ixN
          rw [List.length_map, if_pos fG.1, if_pos fG.2]
        refine ⟨_, rfl, .inl ⟨y, rfl, _, rfl, y, limit, rfl, rfl, (show limit ≠ 0 by omega), ?_⟩⟩
        have fin3 := fin (upd H2 g (.lst (((g0 :: gr).map V.int).set (n.fmod ((g0 :: gr).length : Nat)).toNat (V.int (y / limit))))) (fun a u ha na => by rw [upd_ne na]; exact ha)
          ⟨(g0 :: gr).set (n.fmod ((g0 :: gr).length : Nat)).toNat (y / limit), by rw [upd_same, List.map_set], by rw [List.length_set]⟩
        exact q _ _ fin3.1 fin3.2 (fm (by omega)).1 (fm (by omega)).2
      · rw [decide_eq_false hpos]
        refine ⟨_, rfl, m, _, rfl, .k (k := .inr "cells") hm2, ?_⟩
        refine ⟨_, rfl, _, rfl, .inl ⟨n, rfl, n, 64, rfl, rfl, (show (64 : Int) ≠ 0 by decide), c, _, n.fmod 64, V.int x, rfl, rfl, sqL hc2, atI_of (j := (n.fmod 64).toNat) (by omega) (at_map hx), ?_⟩⟩
        refine ⟨_, rfl, n, 64, rfl, rfl, wide_div (by decide) (by decide : (64 : Int).natAbs < 2 ^ 7) (by decide) (by decide), 31, n / 64, rfl, rfl, wide_mul (by decide : (31 : Int).natAbs < 2 ^ 5) (nb (b := 24) (by omega) (by omega)) (by decide) (by decide) (by decide), x, 31 * (n / 64), rfl, rfl, _, rfl, ?_⟩
        refine ⟨x + 31 * (n / 64), n, rfl, by omega, by omega, by omega, by omega, fun r r0 r1 => ⟨_, rfl, n, 7, rfl, rfl, r, n + 7, rfl, r0, by omega, by omega, by omega, fun r2 r3 r4 => .inl ⟨r2, rfl, _, rfl, r2, limit, rfl, rfl, (show limit ≠ 0 by omega), ?_⟩⟩⟩
        exact q _ _ fin2.1 fin2.2 (fm (by omega)).1 (fm (by omega)).2
end
end KQ
namespace KQ
open PySem PySem.Spec PyProof.Rows L2 KR KM StX
section
variable {P : Program} {w : World} {K : PySem.W.Frag} {mg : Str → Option Value} {base : Heap}
theorem sameSL {K : PySem.W.Frag} {H H' : Hp} {a : Addr} {xs : List V} (e : Same H H') (h : SqL K H a xs) : SqL K H' a xs := by
  rcases h with (h | ⟨o, h⟩) | h
  · exact .inl (.inl (e _ _ h))
  · exact .inl (.inr ⟨o, e _ _ h⟩)
  · exact .inr h
def Cells (cs : List Int) : Prop := cs.length = 64 ∧ ∀ x ∈ cs, 0 ≤ x ∧ x < 2147483647
theorem Cells.set {cs : List Int} (h : Cells cs) (j : Nat) {v : Int} (h0 : 0 ≤ v) (h1 : v < 2147483647) : Cells (cs.set j v) := by
  refine ⟨by rw [List.length_set]; exact h.1, fun x hx => ?_⟩
  rcases List.mem_or_eq_of_mem_set hx with hx | rfl
  · exact h.2 x hx
  · exact ⟨h0, h1⟩
theorem Cells.at_ {cs : List Int} (h : Cells cs) {j : Nat} (hj : j < 64) : ∃ x, cs[j]? = some x ∧ 0 ≤ x ∧ x < 2147483647 :=
  ⟨_, List.getElem?_eq_getElem (by rw [h.1]; exact hj), h.2 _ (List.getElem_mem _)⟩
theorem ixN_of {n : Nat} {i : Int} (h0 : 0 ≤ i) (h1 : i < (n : Int)) : ixN n i = some i.toNat := by
  unfold ixN
  rw [if_pos h0, if_pos h1]
abbrev s__law_folded : Stmt := topS 23
theorem sc__law_folded : FnScope ["script", "found", "n", "cell"] ["script"] (defScope s__law_folded) := ⟨rfl, rfl, rfl, by decide +kernel, rfl, by decide +kernel, by decide +kernel⟩
def spFolded (K : PySem.W.Frag) : Sp := fun vs H Q _ => ∃ (a : Addr) (ns : List Int), vs = [.ref a] ∧ SqL K H a (ns.map V.int) ∧ ns.length ≤ 63 ∧
  ∀ H' l cs, Same H H' → H l = none → H' l = some (.lst (List.map V.int cs)) → Cells cs → Q (.ref l) H'
theorem ok_folded (D : DefAt K mg "_law_folded" s__law_folded) (T : Bt mg) : Use P w K mg base "_law_folded" 1 ["script"] (spFolded K) := by
  refine use_of D (fun f fd F => F.ok sc__law_folded (fun vs H Q E h => ?_) (fun cdv A outer s H vs Q E hr h => ?_)) (fun _ _ _ _ _ _ us hl => match us, hl with | [_], _ => rfl)
  · obtain ⟨a, ns, rfl, _⟩ := h
    rfl
  · obtain ⟨a, ns, rfl, hs, hl, q⟩ := h
    refine ⟨_, (pss_cons (ps_setLc (i := 1) (own := [("n", 2)]) rfl sc__law_folded.nd rfl rfl (sw_true rfl rfl rfl (by decide +kernel)) (pi_range1 (by rfl) T.range (pa_cons pe_int pa_nil)) (blkOk_by (N := ["script", "found", "n", "cell"]) (sc := defScope s__law_folded) (by decide +kernel)) (fun _ _ _ _ _ => (pg_name (i := 2) sc__law_folded.nd rfl (Or.inl rfl))) (fun _ _ _ _ _ => pts_nil) (fun _ _ _ _ _ => (pe_op op_add pe_int (pv 2))))
      (pss_cons (ps_for PassesOwn.never rfl (k_enum (K := K) rfl (by rfl) T.enumerate (pa_cons (pv 0) pa_nil)) (pg_tup rfl (pgs_cons (pg_name (i := 2) sc__law_folded.nd rfl (Or.inl rfl)) (pgs_cons (pg_name (i := 3) sc__law_folded.nd rfl (Or.inl rfl)) pgs_nil)))
      (pss_one (ps_asg (pe_op op_modN (pe_callTy call_int1 (by rfl) T.int (by decide +kernel) (pa_cons (pe_op op_add (pe_op op_mulW (pe_ix (k_ixl (K := K) rfl) (pv 1) (pe_op op_modN (pe_callTy call_int1 (by rfl) T.int (by decide +kernel) (pa_cons (pv 2) pa_nil)) pe_int) (fun _ _ => rfl)) pe_int) (pv 3)) pa_nil)) pe_int) (pg_sub (pv 1) (pe_op op_modN (pe_callTy call_int1 (by rfl) T.int (by decide +kernel) (pa_cons (pv 2) pa_nil)) pe_int) set_list))))
      (pss_cons (ps_for PassesOwn.never rfl (pi_range2 (by rfl) T.range (pa_cons pe_int (pa_cons pe_int pa_nil))) (pg_name (i := 2) sc__law_folded.nd rfl (Or.inl rfl))
      (pss_one (ps_asg (pe_op op_modN (pe_callTy call_int1 (by rfl) T.int (by decide +kernel) (pa_cons (pe_op op_add (pe_ix (k_ixl (K := K) rfl) (pv 1) (pv 2) (fun _ _ => rfl)) (pe_op op_mulW (pe_ix (k_ixl (K := K) rfl) (pv 1) (pe_op op_sub (pv 2) pe_int) (fun _ _ => rfl)) pe_int)) pa_nil)) pe_int) (pg_sub (pv 1) (pv 2) set_list))))
      (pss_one (ps_ret (pv 1)))))), ?_⟩
    refine ⟨_, rfl, by decide, by decide, fun L nL => ?_⟩
    refine lc_range (fun i H1 => Same H H1 ∧ H1 L = some (.lst (((List.range i).map fun k => (17 + (k : Nat) : Int)).map V.int))) ⟨same_new nL, upd_same⟩ ?_ ?_
    · rintro i H1 hi ⟨sm, eL⟩
      refine ⟨rfl, _, rfl, _, _, rfl, rfl, _, eL, ?_, same_mut sm nL, ?_⟩
      · rw [List.length_map, List.length_map, List.length_range]
        exact small_of (by omega)
      · rw [upd_same, List.range_succ, List.map_append, List.map_append, Int.zero_add]
        rfl
    · rintro H1 ⟨sm, eL⟩
      refine ⟨_, rfl, a, _, rfl, sameSL sm hs, for_enumL (K := K) (a := a) (xs := ns.map V.int)
        (fun i σ H2 => ∃ y2 y3, σ = [some (.ref a), some (.ref L), y2, y3] ∧ Same H H2 ∧ ∃ cs, H2 L = some (.lst (List.map V.int cs)) ∧ Cells cs)
        ⟨none, none, rfl, sm, _, eL, ?_⟩ (fun i σ H2 ⟨_, _, _, sm, _⟩ => sameSL sm hs) ?_ ?_⟩
      · refine ⟨by rw [List.length_map, List.length_range]; rfl, fun x hx => ?_⟩
        obtain ⟨k, hk, rfl⟩ := List.mem_map.mp hx
        have := List.mem_range.mp hk
        have e : ((64 : Int)).toNat = 64 := rfl
        omega
      · rintro i v T1 σ H2 hi ⟨y2, y3, rfl, sm, cs, eL, ok⟩ hT
        obtain ⟨x, hx, rfl⟩ := map_at hi
        have nTL : T1 ≠ L := fun e => by rw [e, eL] at hT; cases hT
        have eL2 : (upd H2 T1 (.tup [.int (i : Nat), .int x])) L = some (.lst (cs.map V.int)) := by rw [upd_ne nTL.symm]; exact eL
        have f64 := fm (i := ((i : Nat) : Int)) (j := 64) (by decide)
        obtain ⟨y, hy, y0, y1⟩ := ok.at_ (j := (((i : Nat) : Int).fmod 64).toNat) (by omega)
        refine ⟨T1, _, rfl, .inl (.inl upd_same), rfl, _, _, rfl, _, [], rfl, rfl, ?_⟩
        refine ⟨_, rfl, _, rfl, .inl ⟨_, rfl, _, 64, rfl, rfl, (show (64 : Int) ≠ 0 by decide), L, _, _, V.int y, rfl, rfl, sqL eL2, atI_of (j := (((i : Nat) : Int).fmod 64).toNat) (by omega) (at_map hy), ?_⟩⟩
        refine ⟨y, 48271, rfl, rfl, wide_mul (nb (b := 31) y0 (by omega)) (by decide : (48271 : Int).natAbs < 2 ^ 16) (by decide) (by decide) (by decide), _, rfl, y * 48271, x, rfl, rfl, .inl ⟨_, rfl, ?_⟩⟩
        refine ⟨_, 2147483647, rfl, rfl, (show (2147483647 : Int) ≠ 0 by decide), _, rfl, _, rfl, .inl ⟨_, rfl, _, 64, rfl, rfl, (show (64 : Int) ≠ 0 by decide), L, _, _, (((i : Nat) : Int).fmod 64).toNat, rfl, rfl, eL2, ?_, ?_⟩⟩
        · rw [List.length_map, ok.1]
          exact ixN_of f64.1 f64.2
        have fz := fm (i := y * 48271 + x) (j := 2147483647) (by decide)
        refine ⟨some (.int (i : Nat)), some (.int x), rfl, same_mut (same_new hT |> sm.trans) nL, cs.set (((i : Nat) : Int).fmod 64).toNat _, ?_, ok.set _ fz.1 fz.2⟩
        rw [upd_same, List.map_set]
      · rintro σ H2 ⟨y2, y3, rfl, sm, cs, eL, ok⟩
        refine ⟨1, 64, rfl, by decide, for_range (lo := 1) (n := ((64 : Int) - 1).toNat)
          (fun i σ H3 => ∃ y2, σ = [some (.ref a), some (.ref L), y2, y3] ∧ Same H H3 ∧ ∃ cs, H3 L = some (.lst (List.map V.int cs)) ∧ Cells cs)
          ⟨y2, rfl, sm, cs, eL, ok⟩ ?_ ?_⟩
        · rintro i σ H3 hi ⟨y2, rfl, sm, cs, eL, ok⟩
          have hi63 : i < 63 := hi
          obtain ⟨x, hx, x0, x1⟩ := ok.at_ (j := i + 1) (by omega)
          obtain ⟨y, hy, y0, y1⟩ := ok.at_ (j := i) (by omega)
          refine ⟨_, rfl, _, rfl, L, _, 1 + (i : Nat), V.int x, rfl, rfl, sqL eL, atI_of (j := i + 1) (by omega) (at_map hx), ?_⟩
          refine ⟨_, rfl, _, rfl, _, _, rfl, rfl, L, _, 1 + (i : Nat) - 1, V.int y, rfl, rfl, sqL eL, atI_of (j := i) (by omega) (at_map hy), ?_⟩
          refine ⟨y, 16807, rfl, rfl, wide_mul (nb (b := 31) y0 (by omega)) (by decide : (16807 : Int).natAbs < 2 ^ 15) (by decide) (by decide) (by decide), x, y * 16807, rfl, rfl, .inl ⟨_, rfl, ?_⟩⟩
          refine ⟨_, 2147483647, rfl, rfl, (show (2147483647 : Int) ≠ 0 by decide), _, rfl, _, rfl, L, _, 1 + (i : Nat), i + 1, rfl, rfl, eL, ?_, ?_⟩
          · rw [List.length_map, ok.1]
            exact ixN_nat (by omega) (by omega)
          have fz := fm (i := x + y * 16807) (j := 2147483647) (by decide)
          refine ⟨_, rfl, same_mut sm nL, cs.set (i + 1) _, ?_, ok.set _ fz.1 fz.2⟩
          rw [upd_same, List.map_set]
        · rintro σ H3 ⟨y2, rfl, sm, cs, eL, ok⟩
          exact ⟨_, rfl, q _ _ _ sm nL eL ok⟩
abbrev s__law_begun : Stmt := topS 25
theorem sc__law_begun : FnScope ["script", "m", "cell"] ["script"] (defScope s__law_begun) := ⟨rfl, rfl, rfl, by decide +kernel, rfl, by decide +kernel, by decide +kernel⟩
def spBegun (K : PySem.W.Frag) : Sp := fun vs H Q _ => ∃ (a : Addr) (ns : List Int), vs = [.ref a] ∧ SqL K H a (ns.map V.int) ∧ ns.length ≤ 63 ∧
  ∀ H' m c g, MS H' m c g 0 → Q (.ref m) H'
theorem ok_begun (D : DefAt K mg "_law_begun" s__law_begun) (T : Bt mg) (u__law_folded : Use P w K mg base "_law_folded" 1 ["script"] (spFolded K)) : Use P w K mg base "_law_begun" 2 ["script"] (spBegun K) := by
  refine use_of D (fun f fd F => F.ok sc__law_begun (fun vs H Q E h => ?_) (fun cdv A outer s H vs Q E hr h => ?_)) (fun _ _ _ _ _ _ us hl => match us, hl with | [_], _ => rfl)
  · obtain ⟨a, ns, rfl, _⟩ := h
    rfl
  · obtain ⟨a, ns, rfl, hs, hl, q⟩ := h
    refine ⟨_, (pss_cons (ps_set (i := 1) sc__law_begun.nd rfl (Or.inl rfl) (pe_disp (pps_cons pe_str (pe_use u__law_folded (by decide) hr (by rfl) (pa_cons (pv 0) pa_nil)) (pps_cons pe_str (pe_lst pa_nil) (pps_cons pe_str pe_int pps_nil))) (by rfl) (by rfl) (fun z => by cases z) (by decide)))
      (pss_cons (ps_dput (hu_of hr) (pv 1) pe_str (pe_lc (own := [("cell", 2)]) rfl sc__law_begun.nd (k_list (K := K) rfl (pv 0)) (blkOk_by (N := ["script", "m", "cell"]) (sc := defScope s__law_begun) (by decide +kernel)) (fun _ _ _ _ _ => (pg_name (i := 2) sc__law_begun.nd rfl (Or.inl rfl))) (fun _ _ _ _ _ => pts_nil) (fun _ _ _ _ _ => (pe_ifExp (pt_cmpR op_ge (pv 2) (pe_op op_pow pe_int pe_int) (nomark _)) (pv 2) pe_int))) rfl)
      (pss_one (ps_ret (pv 1))))), ?_⟩
    refine fun m nm => ⟨_, rfl, a, ns, rfl, sameSL (same_new nm) hs, hl, fun H1 c cs s1 nc hc ok => ⟨Nat.zero_le _, fun g ng => ?_⟩⟩
    have mc : m ≠ c := fun e => by rw [← e, upd_same] at nc; cases nc
    have hm1 : H1 m = some (.dK []) := s1 _ _ upd_same
    have mg1 : m ≠ g := fun e => by rw [e, ng] at hm1; cases hm1
    have cg : c ≠ g := fun e => by rw [e, ng] at hc; cases hc
    refine ⟨by rw [upd_ne mg1]; exact hm1, [(.inr "cells", .ref c), (.inr "great", .ref g), (.inr "spot", .int 0)], rfl, Nat.le_of_ble_eq_true rfl, ?_⟩
    rw [show mergeK [] [((.inr "cells" : L2.Key), V.ref c), (.inr "great", .ref g), (.inr "spot", .int 0)] = [(.inr "cells", .ref c), (.inr "great", .ref g), (.inr "spot", .int 0)] from rfl]
    generalize hH2 : upd (upd H1 g (.lst [])) m (.dK [((.inr "cells" : L2.Key), V.ref c), (.inr "great", .ref g), (.inr "spot", .int 0)]) = H2
    have hm2 : H2 m = some (.dK [((.inr "cells" : L2.Key), V.ref c), (.inr "great", .ref g), (.inr "spot", .int 0)]) := by rw [← hH2, upd_same]
    have hc2 : H2 c = some (.lst (cs.map V.int)) := by rw [← hH2, upd_ne mc.symm, upd_ne cg]; exact hc
    have hs2 : SqL K H2 a (ns.map V.int) := by
      refine sameSL (fun b u hb => ?_) hs
      have h1 : H1 b = some u := (Same.trans (same_new nm) s1) b u hb
      rw [← hH2, upd_ne (ne_of_none hb nm), upd_ne (ne_of_none h1 ng)]
      exact h1
    refine ⟨_, rfl, a, rfl, ⟨_, hs2⟩, fun L nL => ?_⟩
    have Lm : L ≠ m := fun e => by rw [e, hm2] at nL; cases nL
    have Lc : L ≠ c := fun e => by rw [e, hc2] at nL; cases nL
    refine lc_list (K := K) (a := a) (xs := ns.map V.int) (fun i H3 => Same H2 H3 ∧ ∃ gs : List Int, H3 L = some (.lst (gs.map V.int)) ∧ gs.length = i) ⟨same_new nL, [], upd_same, rfl⟩
      (fun i H3 _ ⟨sm, _⟩ => sameSL sm hs2) ?_ ?_
    · rintro i v H3 hi ⟨sm, gs, eL, lg⟩
      obtain ⟨x, hx, rfl⟩ := map_at hi
      have hi63 : i < ns.length := (List.getElem?_eq_some_iff.mp hx).1
      have put : ∀ y : Int, ∃ acc, H3 L = some (.lst acc) ∧ acc.length < sizeLine ∧ (Same H2 (upd H3 L (.lst (acc ++ [V.int y]))) ∧ ∃ gs : List Int, upd H3 L (.lst (acc ++ [V.int y])) L = some (.lst (gs.map V.int)) ∧ gs.length = i + 1) := fun y =>
        ⟨_, eL, by rw [List.length_map]; exact small_of (by omega), same_mut sm nL, gs ++ [y], by rw [upd_same, List.map_append]; rfl, by rw [List.length_append, lg]; rfl⟩
      refine ⟨rfl, _, rfl, 10, 18, rfl, rfl, ⟨by decide, by decide, by decide⟩, x, _, rfl, rfl, _, rfl, ?_⟩
      by_cases hx2 : (10 : Int) ^ (18 : Int).toNat ≤ x
      · rw [decide_eq_true hx2]
        exact ⟨_, rfl, put x⟩
      · rw [decide_eq_false hx2]
        exact put 0
    · rintro H3 ⟨sm, gs, eL, lg⟩
      rw [List.length_map] at lg
      have hm3 := sm _ _ hm2
      refine ⟨_, rfl, m, _, rfl, .k (k := .inr "great") hm3 (small_of (Nat.le_of_ble_eq_true rfl)), ?_⟩
      rw [show putK [((.inr "cells" : L2.Key), V.ref c), (.inr "great", .ref g), (.inr "spot", .int 0)] (.inr "great") (V.ref L) = [(.inr "cells", .ref c), (.inr "great", .ref L), (.inr "spot", .int 0)] from rfl]
      refine ⟨_, rfl, q _ m c L ⟨cs, gs, 0, upd_same, ?_, ?_, ok.1, ok.2, Lc.symm, by omega, Int.le_refl _, Int.le_refl _⟩⟩
      · rw [upd_ne mc.symm]
        exact sm _ _ hc2
      · rw [upd_ne Lm]
        exact eL
end
end KQ
namespace KQ
open PySem PySem.Spec PyProof.Rows L2 KR KM StX
/-! ### data that repr shows in short -/
structure Nc (k W : Nat) (d : PyData) : Prop where
  sh : d.showable = true
  nd : d.hasDict = false
  dp : d.depth ≤ k
  lf : d.leavesShort 13 = true
  wt : d.weight ≤ W
structure NcA (k W : Nat) (ds : List PyData) : Prop where
  sh : PyData.showableAll ds = true
  nd : PyData.hasDictAll ds = false
  dp : PyData.depthAll ds ≤ k
  lf : PyData.leavesShortAll 13 ds = true
  wt : PyData.weightAll ds ≤ W
theorem Nc.le {k W k' W' : Nat} {d : PyData} (h : Nc k W d) (h1 : k ≤ k') (h2 : W ≤ W') : Nc k' W' d := ⟨h.sh, h.nd, Nat.le_trans h.dp h1, h.lf, Nat.le_trans h.wt h2⟩
theorem NcA.le {k W k' W' : Nat} {d : List PyData} (h : NcA k W d) (h1 : k ≤ k') (h2 : W ≤ W') : NcA k' W' d := ⟨h.sh, h.nd, Nat.le_trans h.dp h1, h.lf, Nat.le_trans h.wt h2⟩
theorem nc_nat : ∀ i : Fin 1024, Nc 0 10 (.int ((i.val : Nat) : Int)) := fun i => by
  have e : ((i.val : Int)).natAbs = i.val := rfl
  have hlog : i.val.log2 < 10 := by
    by_cases h0 : i.val = 0
    · rw [h0]
      decide
    · exact (Nat.log2_lt h0).2 (by have := i.isLt; omega)
  refine ⟨?_, rfl, Nat.le_refl _, ?_, ?_⟩
  · simp only [PyData.showable, e]
    exact decide_eq_true (by omega)
  · simp only [PyData.leavesShort]
    exact decide_eq_true (PyData.shown_int_le (by have := i.isLt; rw [e]; omega))
  · simp only [PyData.weight, e]
    split <;> omega
theorem nc_int {i : Int} (h0 : 0 ≤ i) (h1 : i < 1024) : Nc 0 10 (.int i) := by
  have h := nc_nat ⟨i.toNat, by omega⟩
  have e : ((i.toNat : Nat) : Int) = i := by omega
  rw [show (((⟨i.toNat, by omega⟩ : Fin 1024).val : Nat) : Int) = i from e] at h
  exact h
theorem nc_bool (b : Bool) : Nc 0 0 (.bool b) := ⟨rfl, rfl, Nat.le_refl _, rfl, Nat.le_refl _⟩
theorem nc_nil (k : Nat) : NcA k 0 [] := ⟨rfl, rfl, Nat.zero_le _, rfl, Nat.le_refl _⟩
theorem nc_cons {k W1 W2 : Nat} {d : PyData} {ds : List PyData} (h : Nc k W1 d) (hs : NcA k W2 ds) : NcA k (W1 + 1 + W2) (d :: ds) := by
  refine ⟨?_, ?_, ?_, ?_, ?_⟩
  · simp only [PyData.showableAll, h.sh, hs.sh]; rfl
  · simp only [PyData.hasDictAll, h.nd, hs.nd]; rfl
  · have a := h.dp
    have b := hs.dp
    simp only [PyData.depthAll]
    exact Nat.max_le.mpr ⟨a, b⟩
  · simp only [PyData.leavesShortAll, h.lf, hs.lf]; rfl
  · have a := h.wt
    have b := hs.wt
    simp only [PyData.weightAll]
    omega
theorem nc_all {k W : Nat} : ∀ {ds : List PyData}, (∀ d ∈ ds, Nc k W d) → NcA k ((W + 1) * ds.length) ds
  | [], _ => (nc_nil k).le (Nat.le_refl _) (Nat.zero_le _)
  | d :: ds, h => by
    refine (nc_cons (h d List.mem_cons_self) (nc_all fun x hx => h x (List.mem_cons_of_mem _ hx))).le (Nat.le_refl _) ?_
    rw [List.length_cons, Nat.mul_add]
    omega
theorem nc_tup {k W : Nat} {ds : List PyData} (h : NcA k W ds) : Nc (k + 1) W (.tuple ds) := by
  refine ⟨by simp only [PyData.showable, h.sh], by simp only [PyData.hasDict, h.nd], ?_, by simp only [PyData.leavesShort, h.lf], by simp only [PyData.weight]; exact h.wt⟩
  have := h.dp
  simp only [PyData.depth]
  omega
theorem nc_lst {k W : Nat} {ds : List PyData} (h : NcA k W ds) : Nc (k + 1) W (.list ds) := by
  refine ⟨by simp only [PyData.showable, h.sh], by simp only [PyData.hasDict, h.nd], ?_, by simp only [PyData.leavesShort, h.lf], by simp only [PyData.weight]; exact h.wt⟩
  have := h.dp
  simp only [PyData.depth]
  omega
theorem nc_ints {p : List Int} (h : ∀ x ∈ p, 0 ≤ x ∧ x < 1024) : NcA 0 (11 * p.length) (p.map PyData.int) := by
  have := nc_all (k := 0) (W := 10) (ds := p.map PyData.int) (fun d hd => by
    obtain ⟨x, hx, rfl⟩ := List.mem_map.mp hd
    exact nc_int (h x hx).1 (h x hx).2)
  rw [List.length_map] at this
  exact this
section
variable {P : Program} {w : World} {K : PySem.W.Frag} {mg : Str → Option Value} {base : Heap}
theorem dp_ti {H : Hp} {a : Addr} {p : List Int} (h : TI H a p) : Dp K H (.ref a) (.tuple (p.map PyData.int)) := .tup (h.seq) (dpAll_ints p)
abbrev s__law_like : Stmt := topS 26
theorem sc__law_like : FnScope ["got", "due"] ["got", "due"] (defScope s__law_like) := ⟨rfl, rfl, rfl, by decide +kernel, rfl, by decide +kernel, by decide +kernel⟩
def spLike (K : PySem.W.Frag) : Sp := fun vs H Q _ => ∃ x y d, vs = [x, y] ∧ Dp K H x d ∧ Dp K H y d ∧ isDisplay d = true ∧ Nc 20 (2 ^ 20) d ∧ Q (.bl true) H
theorem ok_like (D : DefAt K mg "_law_like" s__law_like) (T : Bt mg) : UseG P w K mg base "_law_like" 1 ["got", "due"] (spLike K) := by
  refine use_ofG D (fun f fd F => Fun.okG F sc__law_like (fun vs H Q E h => ?_) (fun cdv A outer s H vs Q E gd hr h => ?_)) (fun _ _ _ _ _ _ us hl => match us, hl with | [_, _], _ => rfl)
  · obtain ⟨x, y, d, rfl, _⟩ := h
    rfl
  · obtain ⟨x, y, d, rfl, hx, hy, dis, nc, q⟩ := h
    refine ⟨_, (pss_one (ps_ret (pe_cmpR op_eq (pe_callB (k_repr (K := K) rfl gd hr.units) (by rfl) T.repr (by decide +kernel) (pa_cons (pv 0) pa_nil)) (pe_callB (k_repr (K := K) rfl gd hr.units) (by rfl) T.repr (by decide +kernel) (pa_cons (pv 1) pa_nil)) (nomark _)))), ?_⟩
    have hl := PyData.shown_fits (B := 13) (by decide) (by decide) nc.lf nc.wt
    have dp : d.depth ≤ 30 := Nat.le_trans nc.dp (by decide)
    refine ⟨_, rfl, x, d, rfl, hx, dis, nc.sh, nc.nd, dp, hl, _, rfl, y, d, rfl, hy, dis, nc.sh, nc.nd, dp, hl, ?_⟩
    refine ⟨rfl, ?_⟩
    rw [decide_eq_true rfl]
    exact q
theorem Kept.trans {H H1 H2 : Hp} {m g : Addr} (h : Kept H H1 m g) (h2 : Kept H1 H2 m g) : Kept H H2 m g := fun a u ha na nb => h2 a u (h a u ha na nb) na nb
theorem Kept.of {H H' : Hp} {m g : Addr} (h : Same H H') : Kept H H' m g := fun a u ha _ _ => h a u ha
theorem MS.mono {H H' : Hp} {m c g : Addr} {b : Int} (h : MS H m c g b) (s : Same H H') : MS H' m c g b := by
  obtain ⟨cs, gs, n, h1, h2, h3, r⟩ := h
  exact ⟨cs, gs, n, s _ _ h1, s _ _ h2, s _ _ h3, r⟩
theorem MS.le {H : Hp} {m c g : Addr} {b b' : Int} (h : MS H m c g b) (l : b ≤ b') : MS H m c g b' := by
  obtain ⟨cs, gs, n, h1, h2, h3, h4, h5, h6, h7, h8, h9⟩ := h
  exact ⟨cs, gs, n, h1, h2, h3, h4, h5, h6, h7, h8, by omega⟩
/-- the state stays where another object is changed -/
theorem MS.put {H : Hp} {m c g : Addr} {b : Int} (h : MS H m c g b) {a : Addr} {o : HO} (n1 : a ≠ m) (n2 : a ≠ c) (n3 : a ≠ g) : MS (L2.upd H a o) m c g b := by
  obtain ⟨cs, gs, n, h1, h2, h3, r⟩ := h
  exact ⟨cs, gs, n, by rw [upd_ne n1.symm]; exact h1, by rw [upd_ne n2.symm]; exact h2, by rw [upd_ne n3.symm]; exact h3, r⟩
theorem MS.ne {H : Hp} {m c g : Addr} {b : Int} (h : MS H m c g b) {a : Addr} (n : H a = none) : a ≠ m ∧ a ≠ c ∧ a ≠ g := by
  obtain ⟨cs, gs, k, h1, h2, h3, r⟩ := h
  exact ⟨ne_of_none h1 n |>.symm, ne_of_none h2 n |>.symm, ne_of_none h3 n |>.symm⟩
theorem kept_mut {H H' : Hp} {m g p : Addr} {o : HO} (e : Kept H H' m g) (h : H p = none) : Kept H (L2.upd H' p o) m g := fun a u ha na nb => by
  rw [upd_ne (ne_of_none ha h)]
  exact e a u ha na nb
theorem Kept.ti {H H' : Hp} {m c g a : Addr} {b : Int} {p : List Int} (h : Kept H H' m g) (s : MS H m c g b) (t : TI H a p) : TI H' a p := by
  obtain ⟨cs, gs, k, h1, h2, h3, r⟩ := s
  have t : Rd H a (.tup (p.map V.int)) := t
  have n1 : a ≠ m := t.ne h1 (fun _ z => by cases z) (fun _ _ z => by cases z)
  have n2 : a ≠ g := t.ne h3 (fun _ z => by cases z) (fun _ _ z => by cases z)
  rcases t with t | ⟨o, t⟩
  · exact .inl (h _ _ t n1 n2)
  · exact .inr ⟨o, h _ _ t n1 n2⟩
theorem erase_perm {α : Type} : ∀ {ls : List α} {k : Nat} {x : α}, ls[k]? = some x → ([x] ++ ls.eraseIdx k).Perm ls
  | [], k, x, h => by simp at h
  | a :: r, 0, x, h => by
    obtain rfl : a = x := Option.some.inj h
    exact List.Perm.refl _
  | a :: r, k + 1, x, h => by
    have h' : r[k]? = some x := h
    exact (List.Perm.swap a x _).trans (List.Perm.cons a (erase_perm h'))
theorem erase_map {α β : Type} (f : α → β) : ∀ (ls : List α) (k : Nat), (ls.map f).eraseIdx k = (ls.eraseIdx k).map f
  | [], k => by simp
  | a :: r, 0 => rfl
  | a :: r, k + 1 => by
    show f a :: (r.map f).eraseIdx k = f a :: (r.eraseIdx k).map f
    rw [erase_map f r k]
abbrev s__law_order : Stmt := topS 29
theorem sc__law_order : FnScope ["m", "many", "left", "turn"] ["m", "many"] (defScope s__law_order) := ⟨rfl, rfl, rfl, by decide +kernel, rfl, by decide +kernel, by decide +kernel⟩
def spOrder : Sp := fun vs H Q _ => ∃ m c g b many, vs = [.ref m, .int many] ∧ MS H m c g b ∧ b ≤ 100000 ∧ 1 ≤ many ∧ many ≤ 64 ∧
  ∀ H' l (ds : List Int), Kept H H' m g → MS H' m c g (b + many) → H' l = some (.lst (ds.map V.int)) → H l = none → ds.length = many.toNat → ds.Nodup → (∀ d ∈ ds, 0 ≤ d ∧ d < many) → Q (.ref l) H'
theorem ok_order (D : DefAt K mg "_law_order" s__law_order) (T : Bt mg) (u__law_draw : Use P w K mg base "_law_draw" 2 ["m", "limit"] spDraw) : Use P w K mg base "_law_order" 3 ["m", "many"] spOrder := by
  refine use_of D (fun f fd F => F.ok sc__law_order (fun vs H Q E h => ?_) (fun cdv A outer s H vs Q E hr h => ?_)) (fun _ _ _ _ _ _ us hl => match us, hl with | [_, _], _ => rfl)
  · obtain ⟨m, c, g, b, many, rfl, _⟩ := h
    rfl
  · obtain ⟨m, c, g, b, many, rfl, ms, hb, m1, m2, q⟩ := h
    refine ⟨_, (pss_cons (ps_set (i := 2) sc__law_order.nd rfl (Or.inr rfl) (pe_listRg rfl (by rfl) T.list (prg_1 (by rfl) T.range (pv 1))))
      (pss_one (ps_ret (pe_lc (own := [("turn", 3)]) rfl sc__law_order.nd (pi_range1 (by rfl) T.range (pa_cons (pv 1) pa_nil)) (blkOk_by (N := ["m", "many", "left", "turn"]) (sc := defScope s__law_order) (by decide +kernel)) (fun _ _ _ _ _ => (pg_name (i := 3) sc__law_order.nd rfl (Or.inl rfl))) (fun _ _ _ _ _ => pts_nil) (fun _ _ _ _ _ => (k_bm (K := K) rfl PySem.F.plainAttrs_list PySem.F.slot_list_pop PySem.F.type_list_pop mt_popAt (pv 2) (pa_cons (pe_use u__law_draw (by decide) hr (by rfl) (pa_cons (pv 0) (pa_cons (pe_callB (k_len (K := K) rfl) (by rfl) T.len PySem.boot_len (pa_cons (pv 2) pa_nil)) pa_nil))) pa_nil))))))), ?_⟩
    obtain ⟨mn, rfl⟩ : ∃ n : Nat, many = (n : Int) := ⟨many.toNat, by omega⟩
    refine ⟨_, rfl, _, rfl, RgOk.of_le (by omega) (by omega) (by omega) (by omega), fun l nl => ?_⟩
    rw [rgV_hv]
    refine ⟨_, rfl, _, rfl, by omega, by omega, fun L nL => ?_⟩
    have lL : l ≠ L := fun e => by rw [← e, upd_same] at nL; cases nL
    have nL0 : H L = none := (same_new nl).free nL
    have ms1 : MS (upd (upd H l (.lst (hv (List.range mn)))) L (.lst [])) m c g b := (ms.mono (same_new nl)).mono (same_new nL)
    refine lc_range (fun i H1 => Kept H H1 m g ∧ MS H1 m c g (b + (i : Nat)) ∧ ∃ os ls : List Nat, H1 l = some (.lst (hv ls)) ∧ H1 L = some (.lst (hv os)) ∧ os.length = i ∧ (os ++ ls).Perm (List.range mn))
      ⟨kept_mut (Kept.of (same_new nl)) nL0, by simpa using ms1, [], List.range mn, by rw [upd_ne lL, upd_same], by rw [upd_same]; rfl, rfl, List.Perm.refl _⟩ ?_ ?_
    · rintro i H1 hi ⟨kp, ms2, os, ls, el, eL, ol, pm⟩
      have hlen : ls.length = mn - i := by
        have := pm.length_eq
        rw [List.length_append, ol, List.length_range] at this
        omega
      have himn : i < mn := by omega
      refine ⟨rfl, _, rfl, .inl ⟨rfl, _, .inl (.inl el)⟩, _, rfl, _, rfl, l, _, rfl, .inl (sqL el), m, c, g, _, _, rfl, ms2, by omega, ?_, ?_, fun H2 d k2 ms3 d0 d1 => ?_⟩
      · unfold hv
        rw [List.length_map]
        omega
      · unfold hv
        rw [List.length_map]
        omega
      have hvl : (hv ls).length = ls.length := by unfold hv; rw [List.length_map]
      rw [hvl] at d1
      obtain ⟨x, hx⟩ : ∃ x, ls[d.toNat]? = some x := ⟨_, List.getElem?_eq_getElem (by omega)⟩
      have lm : l ≠ m ∧ l ≠ g := by
        have := ms.ne nl
        exact ⟨this.1, this.2.2⟩
      have Lm : L ≠ m ∧ L ≠ g := by
        have := ms.ne nL0
        exact ⟨this.1, this.2.2⟩
      have el2 := k2 l _ el lm.1 lm.2
      have eL2 := k2 L _ eL Lm.1 Lm.2
      refine ⟨l, hv ls, d, d.toNat, .int ((x : Nat) : Int), rfl, rfl, el2, by omega, by omega, ?_, at_map hx, ?_⟩
      · have := (ixN_seq (ixN_of (n := ls.length) d0 d1)).1
        rw [hvl]
        exact this
      refine ⟨_, by rw [upd_ne lL.symm]; exact eL2, ?_, ?_⟩
      · unfold hv
        rw [List.length_map]
        exact small_of (by omega)
      refine ⟨kept_mut (kept_mut (kp.trans k2) nl) nL0, ?_, os ++ [x], ls.eraseIdx d.toNat, ?_, ?_, ?_, ?_⟩
      · have := ms3
        have n1 := ms.ne nl
        have n2 := ms.ne nL0
        rw [show b + ((i + 1 : Nat) : Int) = b + (i : Nat) + 1 by omega]
        exact (ms3.put n1.1 n1.2.1 n1.2.2).put n2.1 n2.2.1 n2.2.2
      · rw [upd_ne lL, upd_same]
        unfold hv
        rw [erase_map]
      · rw [upd_same]
        unfold hv
        rw [List.map_append]
        rfl
      · rw [List.length_append, ol]
        rfl
      · rw [List.append_assoc]
        exact (List.Perm.append_left os (erase_perm hx)).trans pm
    · rintro H1 ⟨kp, ms2, os, ls, el, eL, ol, pm⟩
      have l0 : ls = [] := by
        have := pm.length_eq
        rw [List.length_append, ol, List.length_range] at this
        exact List.length_eq_zero_iff.mp (by omega)
      subst l0
      rw [List.append_nil] at pm
      rw [show ((((mn : Nat) : Int)).toNat : Nat) = mn by omega] at ms2
      refine q H1 L (os.map fun x => ((x : Nat) : Int)) kp ms2 ?_ nL0 ?_ ?_ ?_
      · rw [eL, List.map_map]
        rfl
      · rw [List.length_map, ol]
      · exact List.pairwise_map.mpr ((pm.nodup_iff.mpr List.nodup_range).imp fun h e => h (by omega))
      · intro d hd
        obtain ⟨x, hx, rfl⟩ := List.mem_map.mp hd
        have := List.mem_range.mp (pm.mem_iff.mp hx)
        omega
end
end KQ
namespace KQ
open PySem PySem.Spec PyProof.Rows L2 KR KM StX
theorem dg_new {α κ : Type} [DecidableEq α] [DecidableEq κ] {f : α → κ} (hf : ∀ a b, f a = f b → a = b) {ks : List α} {x : α} (h : ks.Nodup) (hx : x ∉ ks) : valV (dg f (ks ++ [x])) (f x) = some (V.int ((ks.length : Nat) : Int)) := by
  have hn : (ks ++ [x]).Nodup := by
    rw [List.nodup_append]
    refine ⟨h, by simp, fun a ha b hb e => ?_⟩
    rw [List.mem_singleton.mp hb] at e
    exact hx (e ▸ ha)
  rw [dg_val hf _ _ hn, if_pos (by simp), List.idxOf_append, if_neg hx]
  simp
section
variable {P : Program} {w : World} {K : PySem.W.Frag} {mg : Str → Option Value} {base : Heap}
abbrev s__law_numbered : Stmt := topS 30
theorem sc__law_numbered : FnScope ["labels", "spots", "found", "label"] ["labels"] (defScope s__law_numbered) := ⟨rfl, rfl, rfl, by decide +kernel, rfl, by decide +kernel, by decide +kernel⟩
theorem ok_lnumL (D : DefAt K mg "_law_numbered" s__law_numbered) (T : Bt mg) : Use P w K mg base "_law_numbered" 1 ["labels"] spNumL := by
  refine use_of D (fun f fd F => F.ok sc__law_numbered (fun vs H Q E h => ?_) (fun cdv A outer s H vs Q E hr h => ?_)) (fun _ _ _ _ _ _ us hl => match us, hl with | [_], _ => rfl)
  · obtain ⟨a, p, rfl, _⟩ := h
    rfl
  · obtain ⟨a, xs, rfl, hp, hl, q⟩ := h
    refine ⟨_, (pss_cons (ps_par (i := 1) (j := 2) rfl sc__law_numbered.nd rfl rfl (by decide) rfl rfl (pa_cons pe_dnewK (pa_cons (pe_lst pa_nil) pa_nil)) (by rfl))
      (pss_cons (ps_for PassesOwn.never rfl (k_list (K := K) rfl (pv 0)) (pg_name (i := 3) sc__law_numbered.nd rfl (Or.inl rfl))
      (pss_cons (ps_if (pt_cmp (pc_dnotin (hu_of hr) (pv 3) (pv 1))) (pss_one (ps_dput (hu_of hr) (pv 1) (pv 3) (pe_callB call_lenD (by rfl) T.len PySem.boot_len (pa_cons (pv 1) pa_nil)) rfl)) pss_nil)
      (pss_one (ps_expr (k_bm (K := K) rfl PySem.F.plainAttrs_list PySem.F.slot_list_append PySem.F.type_list_append mt_append (pv 2) (pa_cons (pe_dget (hu_of hr) (pv 1) (pv 3) (fun _ _ => rfl)) pa_nil))))))
      (pss_one (ps_ret (pe_callTy (k_tupOf (K := K) rfl) (by rfl) T.tuple (by decide +kernel) (pa_cons (pv 2) pa_nil)))))), ?_⟩
    refine fun d nd => ⟨Nat.zero_le _, fun L nL => ?_⟩
    have s0 : Same H (upd H d (.dK [])) := same_new nd
    have s1 : Same H (upd (upd H d (.dK [])) L (.lst [])) := s0.trans (same_new nL)
    have nL0 : H L = none := s0.free nL
    have ndL : d ≠ L := fun e => by rw [e, upd_same] at nL; cases nL
    refine ⟨_, _, rfl, ?_⟩
    refine ⟨_, rfl, a, rfl, ⟨_, sqL (s1 _ _ hp)⟩, for_list (K := K) (a := a) (xs := xs.map V.int)
      (fun i σ H1 => ∃ y3, σ = [some (.ref a), some (.ref d), some (.ref L), y3] ∧ Same H H1 ∧ H1 d = some (.dK (dg kI (firsts (xs.take i)))) ∧ H1 L = some (.lst ((num (xs.take i)).map V.int)))
      ⟨none, rfl, s1, ?_, ?_⟩ (fun i σ H1 _ ⟨_, _, sm, _⟩ => sqL (sm _ _ hp)) ?_ ?_⟩
    · rw [upd_ne ndL, upd_same]
      rfl
    · rw [upd_same]
      rfl
    · rintro i v σ H1 hi ⟨y3, rfl, sm, ed, eL⟩
      obtain ⟨x, hx, rfl⟩ := map_at hi
      have small : ((num (xs.take i)).map V.int).length < sizeLine := by
        rw [List.length_map, num_len, List.length_take]
        exact small_of (by omega)
      have small2 : (dg kI (firsts (xs.take i))).length < sizeLine := by
        rw [dg_len]
        have := firsts_le (xs.take i)
        rw [List.length_take] at this
        exact small_of (by omega)
      by_cases hm : x ∈ firsts (xs.take i)
      · obtain ⟨e1, e2⟩ := num_old hm
        have gv : DGet H1 d (V.int x) (some (V.int (((firsts (xs.take i)).idxOf x : Nat) : Int))) := by
          have := DGet.k (k := kI x) ed
          rw [dg_val kI_inj _ _ (firsts_nodup _), if_pos hm] at this
          exact this
        refine ⟨_, rfl, _, rfl, d, _, rfl, gv, _, rfl, _, rfl, .inl ⟨rfl, _, .inl (.inl eL)⟩, _, rfl, _, rfl, d, _, rfl, gv, L, _, _, rfl, rfl, eL, small, some (.int x), rfl, same_mut sm nL0, ?_, ?_⟩
        · rw [upd_ne ndL, take_snoc hx, e2]
          exact ed
        · rw [upd_same, take_snoc hx, e1, List.map_append]
          rfl
      · obtain ⟨e1, e2⟩ := num_new hm
        have gv : DGet H1 d (V.int x) none := by
          have := DGet.k (k := kI x) ed
          rw [dg_val kI_inj _ _ (firsts_nodup _), if_neg hm] at this
          exact this
        have ed2 : (upd H1 d (.dK (putK (dg kI (firsts (xs.take i))) (kI x) (.int (((firsts (xs.take i)).length : Nat) : Int))))) d = some (.dK (dg kI (firsts (xs.take i) ++ [x]))) := by
          rw [upd_same, dg_put kI_inj _ _ hm]
        have gv2 : DGet (upd H1 d (.dK (putK (dg kI (firsts (xs.take i))) (kI x) (.int (((firsts (xs.take i)).length : Nat) : Int))))) d (V.int x) (some (V.int (((firsts (xs.take i)).length : Nat) : Int))) := by
          have := DGet.k (k := kI x) ed2
          rw [dg_new kI_inj (firsts_nodup _) hm] at this
          exact this
        have eL2 : (upd H1 d (.dK (putK (dg kI (firsts (xs.take i))) (kI x) (.int (((firsts (xs.take i)).length : Nat) : Int))))) L = some (.lst ((num (xs.take i)).map V.int)) := by
          rw [upd_ne ndL.symm]
          exact eL
        refine ⟨_, rfl, _, rfl, d, _, rfl, gv, _, rfl, _, rfl, d, _, rfl, ed, ?_⟩
        rw [dg_len]
        refine ⟨_, rfl, _, rfl, d, _, rfl, DPut.k (k := kI x) ed small2, ?_⟩
        refine ⟨_, rfl, .inl ⟨rfl, _, .inl (.inl eL2)⟩, _, rfl, _, rfl, d, _, rfl, gv2, L, _, _, rfl, rfl, eL2, small, some (.int x), rfl, same_mut (same_mut sm nd) nL0, ?_, ?_⟩
        · rw [upd_ne ndL, ed2, take_snoc hx, e2]
        · rw [upd_same, take_snoc hx, e1, List.map_append]
          rfl
    · rintro σ H1 ⟨y3, rfl, sm, ed, eL⟩
      refine ⟨_, rfl, L, _, rfl, .inl ⟨.inl (.inl eL), fun l hl => ?_⟩⟩
      refine q _ l (sm.trans (same_new hl)) ?_
      refine Or.inl ?_
      show upd H1 l _ l = _
      rw [upd_same, List.length_map, List.take_length]
theorem ok_lnumP (D : DefAt K mg "_law_numbered" s__law_numbered) (T : Bt mg) : Use P w K mg base "_law_numbered" 1 ["labels"] spNumP := by
  refine use_of D (fun f fd F => F.ok sc__law_numbered (fun vs H Q E h => ?_) (fun cdv A outer s H vs Q E hr h => ?_)) (fun _ _ _ _ _ _ us hl => match us, hl with | [_], _ => rfl)
  · obtain ⟨a, ts, xs, rfl, _⟩ := h
    rfl
  · obtain ⟨a, ts, xs, rfl, hp, pa, hl, q⟩ := h
    refine ⟨_, (pss_cons (ps_par (i := 1) (j := 2) rfl sc__law_numbered.nd rfl rfl (by decide) rfl rfl (pa_cons pe_dnewT (pa_cons (pe_lst pa_nil) pa_nil)) (by rfl))
      (pss_cons (ps_for PassesOwn.never rfl (k_list (K := K) rfl (pv 0)) (pg_name (i := 3) sc__law_numbered.nd rfl (Or.inl rfl))
      (pss_cons (ps_if (pt_cmp (pc_dnotin (hu_of hr) (pv 3) (pv 1))) (pss_one (ps_dput (hu_of hr) (pv 1) (pv 3) (pe_callB call_len_dT (by rfl) T.len PySem.boot_len (pa_cons (pv 1) pa_nil)) rfl)) pss_nil)
      (pss_one (ps_expr (k_bm (K := K) rfl PySem.F.plainAttrs_list PySem.F.slot_list_append PySem.F.type_list_append mt_append (pv 2) (pa_cons (pe_dget (hu_of hr) (pv 1) (pv 3) (fun _ _ => rfl)) pa_nil))))))
      (pss_one (ps_ret (pe_callTy (k_tupOf (K := K) rfl) (by rfl) T.tuple (by decide +kernel) (pa_cons (pv 2) pa_nil)))))), ?_⟩
    refine fun d nd => ⟨Nat.zero_le _, fun L nL => ?_⟩
    have s0 : Same H (upd H d (.dT [])) := same_new nd
    have s1 : Same H (upd (upd H d (.dT [])) L (.lst [])) := s0.trans (same_new nL)
    have nL0 : H L = none := s0.free nL
    have ndL : d ≠ L := fun e => by rw [e, upd_same] at nL; cases nL
    refine ⟨_, _, rfl, ?_⟩
    refine ⟨_, rfl, a, rfl, ⟨_, sqL (s1 _ _ hp)⟩, for_list (K := K) (a := a) (xs := ts.map V.ref)
      (fun i σ H1 => ∃ y3, σ = [some (.ref a), some (.ref d), some (.ref L), y3] ∧ Same H H1 ∧ H1 d = some (.dT (dg kP (firsts (xs.take i)))) ∧ H1 L = some (.lst ((num (xs.take i)).map V.int)))
      ⟨none, rfl, s1, ?_, ?_⟩ (fun i σ H1 _ ⟨_, _, sm, _⟩ => sqL (sm _ _ hp)) ?_ ?_⟩
    · rw [upd_ne ndL, upd_same]
      rfl
    · rw [upd_same]
      rfl
    · rintro i v σ H1 hi ⟨y3, rfl, sm, ed, eL⟩
      obtain ⟨t, ht, rfl⟩ := map_at hi
      obtain ⟨x, hx, et0⟩ := pa.2 i t ht
      have et : H1 t = some (.tup ((kP x).map kV)) := sm _ _ et0
      have etd : ∀ o : HO, (upd H1 d o) t = some (.tup ((kP x).map kV)) := fun o => by rw [upd_ne (fun e => by rw [e, nd] at et0; cases et0)]; exact et
      have small : ((num (xs.take i)).map V.int).length < sizeLine := by
        rw [List.length_map, num_len, List.length_take]
        exact small_of (by omega)
      have small2 : (dg kP (firsts (xs.take i))).length < sizeLine := by
        rw [dg_len]
        have := firsts_le (xs.take i)
        rw [List.length_take] at this
        exact small_of (by omega)
      by_cases hm : x ∈ firsts (xs.take i)
      · obtain ⟨e1, e2⟩ := num_old hm
        have gv : DGet H1 d (V.ref t) (some (V.int ((@List.idxOf (Int × Int) instBEqOfDecidableEq x (firsts (xs.take i)) : Nat) : Int))) := by
          have := DGet.t (k := kP x) ed et
          rw [dg_val kP_inj _ _ (firsts_nodup _), if_pos hm] at this
          exact this
        refine ⟨_, rfl, _, rfl, d, _, rfl, gv, _, rfl, _, rfl, .inl ⟨rfl, _, .inl (.inl eL)⟩, _, rfl, _, rfl, d, _, rfl, gv, L, _, _, rfl, rfl, eL, small, some (.ref t), rfl, same_mut sm nL0, ?_, ?_⟩
        · rw [upd_ne ndL, take_snoc hx, e2]
          exact ed
        · rw [upd_same, take_snoc hx, e1, List.map_append]
          rfl
      · obtain ⟨e1, e2⟩ := num_new hm
        have gv : DGet H1 d (V.ref t) none := by
          have := DGet.t (k := kP x) ed et
          rw [dg_val kP_inj _ _ (firsts_nodup _), if_neg hm] at this
          exact this
        have ed2 : (upd H1 d (.dT (putK (dg kP (firsts (xs.take i))) (kP x) (.int (((firsts (xs.take i)).length : Nat) : Int))))) d = some (.dT (dg kP (firsts (xs.take i) ++ [x]))) := by
          rw [upd_same, dg_put kP_inj _ _ hm]
        have gv2 : DGet (upd H1 d (.dT (putK (dg kP (firsts (xs.take i))) (kP x) (.int (((firsts (xs.take i)).length : Nat) : Int))))) d (V.ref t) (some (V.int (((firsts (xs.take i)).length : Nat) : Int))) := by
          have := DGet.t (k := kP x) ed2 (etd _)
          rw [dg_new kP_inj (firsts_nodup _) hm] at this
          exact this
        have eL2 : (upd H1 d (.dT (putK (dg kP (firsts (xs.take i))) (kP x) (.int (((firsts (xs.take i)).length : Nat) : Int))))) L = some (.lst ((num (xs.take i)).map V.int)) := by
          rw [upd_ne ndL.symm]
          exact eL
        refine ⟨_, rfl, _, rfl, d, _, rfl, gv, _, rfl, _, rfl, d, _, rfl, ed, ?_⟩
        rw [dg_len]
        refine ⟨_, rfl, _, rfl, d, _, rfl, DPut.t (k := kP x) ed et small2, ?_⟩
        refine ⟨_, rfl, .inl ⟨rfl, _, .inl (.inl eL2)⟩, _, rfl, _, rfl, d, _, rfl, gv2, L, _, _, rfl, rfl, eL2, small, some (.ref t), rfl, same_mut (same_mut sm nd) nL0, ?_, ?_⟩
        · rw [upd_ne ndL, ed2, take_snoc hx, e2]
        · rw [upd_same, take_snoc hx, e1, List.map_append]
          rfl
    · rintro σ H1 ⟨y3, rfl, sm, ed, eL⟩
      refine ⟨_, rfl, L, _, rfl, .inl ⟨.inl (.inl eL), fun l hl => ?_⟩⟩
      refine q _ l (sm.trans (same_new hl)) ?_
      refine Or.inl ?_
      show upd H1 l _ l = _
      rw [upd_same, List.length_map, pa.1, List.take_length]
end
end KQ
namespace KQ
open PySem PySem.Spec PyProof.Rows L2 KR KM StX
section
variable {P : Program} {w : World} {K : PySem.W.Frag} {mg : Str → Option Value} {base : Heap}
theorem Kept.free {H H1 : Hp} {m g L : Addr} (h : Kept H H1 m g) (n : H1 L = none) (n1 : L ≠ m) (n2 : L ≠ g) : H L = none := by
  cases e : H L with
  | none => rfl
  | some u =>
    rw [h L u e n1 n2] at n
    cases n
def spAny : Sp := fun vs H Q _ => ∃ m c g b many, vs = [.ref m, .int many] ∧ MS H m c g b ∧ b ≤ 100000 ∧ 1 ≤ many ∧ many ≤ 60 ∧
  ∀ H' t p, Kept H H' m g → MS H' m c g (b + 1 + many) → TI H' t p → Par p → p.length = many.toNat → Q (.ref t) H'
def spCoarser : Sp := fun vs H Q _ => ∃ m c g b a p, vs = [.ref m, .ref a] ∧ MS H m c g b ∧ b ≤ 100000 ∧ TI H a p ∧ Par p ∧
  ∀ H' t r, Kept H H' m g → MS H' m c g (b + 61) → TI H' t r → Par r → r.length = p.length → Q (.ref t) H'
def Gd (p r : List Int) (s t : Nat) : Prop := p[s]? = p[t]? → r[s]? = r[t]?
theorem finer_gd {p r : List Int} (hl : p.length = r.length) : Finer p r ↔ ∀ t, t < p.length → ∀ s, s < t → Gd p r s t := by
  constructor
  · intro h t ht s hs e
    have hp := List.getElem?_eq_getElem ht
    have hr : r[t]? = some _ := List.getElem?_eq_getElem (by omega)
    have hr2 : r[s]? = some _ := List.getElem?_eq_getElem (by omega)
    rw [hp] at e
    rw [hr, hr2, h s t _ _ _ e hp hr2 hr]
  · intro h i j x y z hi hj yi zj
    have li := (List.getElem?_eq_some_iff.mp hi).1
    have lj := (List.getElem?_eq_some_iff.mp hj).1
    rcases Nat.lt_trichotomy i j with c | c | c
    · have := h j lj i c (by rw [hi, hj])
      rw [yi, zj] at this
      exact Option.some.inj this
    · subst c
      rw [yi] at zj
      exact Option.some.inj zj
    · have := h i li j c (by rw [hi, hj])
      rw [yi, zj] at this
      exact (Option.some.inj this).symm
def spLFiner : Sp := fun vs H Q _ => ∃ a b p r, vs = [.ref a, .ref b] ∧ TI H a p ∧ TI H b r ∧ p.length ≤ 60 ∧ p.length = r.length ∧ ∀ H' c, Same H H' → (c = true ↔ Finer p r) → Q (.bl c) H'
end
end KQ
namespace KQ
open PySem PySem.Spec PyProof.Rows L2 KR KM StX
section
variable {P : Program} {w : World} {K : PySem.W.Frag} {mg : Str → Option Value} {base : Heap}
/-- tuples of whole numbers, in their order -/
def Its (H : Hp) (ts : List Addr) (xss : List (List Int)) : Prop := ts.length = xss.length ∧ ∀ (i : Nat) (t : Addr), ts[i]? = some t → ∃ xs, xss[i]? = some xs ∧ TI H t xs
theorem Its.mono {H H' : Hp} {ts : List Addr} {xss : List (List Int)} (h : Its H ts xss) (s : Same H H') : Its H' ts xss := ⟨h.1, fun i t ht => let ⟨xs, a, b⟩ := h.2 i t ht; ⟨xs, a, b.mono s⟩⟩
theorem Its.put {H : Hp} {ts : List Addr} {xss : List (List Int)} {L : Addr} {xs : List V} {o : HO} (h : Its H ts xss) (e : H L = some (.lst xs)) : Its (upd H L o) ts xss := ⟨h.1, fun i t ht => by
  obtain ⟨ys, a, b⟩ := h.2 i t ht
  refine ⟨ys, a, ?_⟩
  exact rd_lst (show TI _ _ _ from b) e⟩
theorem Its.app {H : Hp} {ts us : List Addr} {xss yss : List (List Int)} (h : Its H ts xss) (g : Its H us yss) : Its H (ts ++ us) (xss ++ yss) := by
  refine ⟨by rw [List.length_append, List.length_append, h.1, g.1], fun i t ht => ?_⟩
  by_cases hi : i < ts.length
  · rw [List.getElem?_append_left hi] at ht
    obtain ⟨xs, a, b⟩ := h.2 i t ht
    exact ⟨xs, by rw [List.getElem?_append_left (by rw [← h.1]; exact hi)]; exact a, b⟩
  · rw [List.getElem?_append_right (by omega)] at ht
    obtain ⟨xs, a, b⟩ := g.2 _ t ht
    refine ⟨xs, ?_, b⟩
    rw [List.getElem?_append_right (by rw [← h.1]; omega), ← h.1]
    exact a
theorem Its.nil {H : Hp} : Its H [] [] := ⟨rfl, fun i t ht => by simp at ht⟩
theorem Its.one {H : Hp} {t : Addr} {xs : List Int} (h : TI H t xs) : Its H [t] [xs] := ⟨rfl, fun i u hu => by
  match i, hu with
  | 0, hu =>
    obtain rfl : t = u := Option.some.inj hu
    exact ⟨xs, rfl, h⟩
  | i + 1, hu => simp at hu⟩
theorem Its.lt {H : Hp} {l : Addr} {ts : List Addr} {xss : List (List Int)} (h : Its H ts xss) (e : H l = some (.lst (ts.map V.ref))) : LT H l xss := ⟨ts, e, h.1, h.2⟩
def spLParts : Sp := fun vs H Q _ => ∃ n : Nat, vs = [.int ((n + 1 : Nat) : Int)] ∧ n < 8 ∧ ∀ H' l, Same H H' → LT H' l (allP n) → Q (.ref l) H'
end
end KQ
namespace KQ
open PySem PySem.Spec PyProof.Rows L2 KR KM StX
section
variable {P : Program} {w : World} {K : PySem.W.Frag} {mg : Str → Option Value} {base : Heap}
def LabOf (L : List Int) (x : Nat) : Int := L.getD x 0
def spHung : Sp := fun vs H Q _ => ∃ a b p r, vs = [.ref a, .ref b] ∧ TI H a p ∧ TI H b r ∧ Par p ∧ Par r ∧ p.length = r.length ∧
  ∀ H' t l cl (ls : List Int), Same H H' → H' t = some (.tup [.ref l, cl]) → H' l = some (.lst (ls.map V.int)) → ls.length = (bc 0 p + bc 0 r).toNat →
    (∀ x y, x < ls.length → y < ls.length → (LabOf ls x = LabOf ls y ↔ glue (tiesOf p r) x y)) → Q (.ref t) H'
end
end KQ
namespace KQ
open PySem PySem.Spec PyProof.Rows L2 KR KM
/-- lists of one kernel number alike -/
theorem num_congr {α β : Type} [DecidableEq α] [DecidableEq β] {xs : List α} {ys : List β} (hl : ys.length = xs.length)
    (h : ∀ (i j : Nat) (x y : α) (u v : β), xs[i]? = some x → xs[j]? = some y → ys[i]? = some u → ys[j]? = some v → (x = y ↔ u = v)) : num xs = num ys := by
  refine num_is (by rw [num_len, hl]) (num_rg ys) fun i j x y u v hi hj ui vj => ?_
  have li := (List.getElem?_eq_some_iff.mp hi).1
  have lj := (List.getElem?_eq_some_iff.mp hj).1
  have yi : ys[i]? = some _ := List.getElem?_eq_getElem (by omega)
  have yj : ys[j]? = some _ := List.getElem?_eq_getElem (by omega)
  rw [num_ker yi yj ui vj]
  exact h i j x y _ _ hi hj yi yj
/-- ties and glue -/
theorem glue_mem {t : Nat × Nat} : ∀ {ts : List (Nat × Nat)}, t ∈ ts → glue ts t.1 t.2 := by
  intro ts
  have : ∀ n (ts : List (Nat × Nat)), ts.length = n → t ∈ ts → glue ts t.1 t.2 := by
    intro n
    induction n with
    | zero => intro ts hl ht; rw [List.eq_nil_of_length_eq_zero hl] at ht; cases ht
    | succ n ih =>
      intro ts hl ht
      have hne : ts ≠ [] := fun e => by rw [e] at hl; cases hl
      rw [← List.dropLast_concat_getLast hne] at ht ⊢
      rw [glue_snoc]
      rcases List.mem_append.mp ht with ht | ht
      · exact .inl (ih _ (by rw [List.length_dropLast, hl]; rfl) ht)
      · rw [List.mem_singleton.mp ht]
        exact .inr (.inl ⟨(glue_eqv _).refl _, (glue_eqv _).refl _⟩)
  exact this _ ts rfl
theorem glue_map {φ : Nat → Nat} : ∀ (ts : List (Nat × Nat)) (R R' : Nat → Nat → Prop), (∀ x y, R' (φ x) (φ y) ↔ R x y) →
    ∀ x y, (ts.map fun t => (φ t.2, φ t.1)).foldl (fun R t => J R t.1 t.2) R' (φ x) (φ y) ↔ ts.foldl (fun R t => J R t.1 t.2) R x y
  | [], R, R', h, x, y => h x y
  | t :: ts, R, R', h, x, y => by
    refine glue_map ts (J R t.1 t.2) (J R' (φ t.2) (φ t.1)) (fun a b => ?_) x y
    unfold J
    rw [h, h, h, h, h]
    constructor
    · rintro (q | q | q)
      · exact .inl q
      · exact .inr (.inr q)
      · exact .inr (.inl q)
    · rintro (q | q | q)
      · exact .inl q
      · exact .inr (.inr q)
      · exact .inr (.inl q)
theorem zip_swap : ∀ (p r : List Int), r.zip p = (p.zip r).map fun q => (q.2, q.1)
  | [], [] => rfl
  | [], _ :: _ => rfl
  | _ :: _, [] => rfl
  | a :: p, b :: r => by
    rw [List.zip_cons_cons, List.zip_cons_cons, List.map_cons, zip_swap p r]
section
variable {p r : List Int}
theorem zip_at {i : Nat} {x y : Int} (hx : p[i]? = some x) (hy : r[i]? = some y) : (p.zip r)[i]? = some (x, y) := by
  rw [List.getElem?_zip_eq_some]
  exact ⟨hx, hy⟩
theorem tie_at {i : Nat} {x y : Int} (hx : p[i]? = some x) (hy : r[i]? = some y) : glue (tiesOf p r) x.toNat (bc 0 p + y).toNat :=
  glue_mem (t := (x.toNat, (bc 0 p + y).toNat)) (List.mem_of_getElem? (ties_at hx hy))
/-- the blocks of the one and of the other, named the other way about -/
def flip (P R x : Nat) : Nat := if x < P then R + x else if x < P + R then x - P else x
theorem flip_inj {P R x y : Nat} : flip P R x = flip P R y ↔ x = y := by
  unfold flip
  split <;> split <;> (try split) <;> (try split) <;> omega
theorem glue_flip (hp : Rg 0 p) (hr : Rg 0 r) (x y : Nat) :
    glue (tiesOf r p) (flip (bc 0 p).toNat (bc 0 r).toNat x) (flip (bc 0 p).toNat (bc 0 r).toNat y) ↔ glue (tiesOf p r) x y := by
  have e : tiesOf r p = (tiesOf p r).map fun t => (flip (bc 0 p).toNat (bc 0 r).toNat t.2, flip (bc 0 p).toNat (bc 0 r).toNat t.1) := by
    unfold tiesOf
    rw [List.map_map, zip_swap p r, List.map_map]
    refine List.map_congr_left fun q hq => ?_
    have h1 := (rg_mem 0 p (Int.le_refl _) hp).1 q.1 (List.of_mem_zip hq).1
    have h2 := (rg_mem 0 r (Int.le_refl _) hr).1 q.2 (List.of_mem_zip hq).2
    have e1 : flip (bc 0 p).toNat (bc 0 r).toNat (bc 0 p + q.2).toNat = q.2.toNat := by
      unfold flip
      rw [if_neg (by omega), if_pos (by omega)]
      omega
    have e2 : flip (bc 0 p).toNat (bc 0 r).toNat q.1.toNat = (bc 0 r + q.1).toNat := by
      unfold flip
      rw [if_pos (by omega)]
      omega
    show (q.2.toNat, (bc 0 r + q.1).toNat) = (_, _)
    rw [e1, e2]
  rw [e]
  exact glue_map (tiesOf p r) Eq Eq (fun _ _ => flip_inj) x y
/-- above of the one and the other, either way -/
theorem above_flip (hp : Rg 0 p) (hr : Rg 0 r) (hl : p.length = r.length) {L L' : Nat → Int} (h : ∀ x y, L x = L y ↔ glue (tiesOf p r) x y) (h' : ∀ x y, L' x = L' y ↔ glue (tiesOf r p) x y) :
    num (r.map fun b => L' b.toNat) = num (p.map fun b => L b.toNat) := by
  refine num_congr (by rw [List.length_map, List.length_map, hl]) fun i j x y u v hx hy hu hv => ?_
  obtain ⟨x, hx', rfl⟩ := map_at hx
  obtain ⟨y, hy', rfl⟩ := map_at hy
  obtain ⟨u, hu', rfl⟩ := map_at hu
  obtain ⟨v, hv', rfl⟩ := map_at hv
  rw [h, h']
  have a1 := (rg_mem 0 r (Int.le_refl _) hr).1 x (List.mem_of_getElem? hx')
  have a2 := (rg_mem 0 r (Int.le_refl _) hr).1 y (List.mem_of_getElem? hy')
  have f : ∀ z : Int, 0 ≤ z → z < bc 0 r → flip (bc 0 p).toNat (bc 0 r).toNat (bc 0 p + z).toNat = z.toNat := by
    intro z z0 z1
    have := bc_ge 0 p
    unfold flip
    rw [if_neg (by omega), if_pos (by omega)]
    omega
  rw [← f x a1.1 a1.2, ← f y a2.1 a2.2, glue_flip hp hr]
  have E := glue_eqv (tiesOf p r)
  have t1 := tie_at hu' hx'
  have t2 := tie_at hv' hy'
  constructor
  · intro q
    exact E.trans _ _ _ t1 (E.trans _ _ _ q (E.symm _ _ t2))
  · intro q
    exact E.trans _ _ _ (E.symm _ _ t1) (E.trans _ _ _ q t2)
/-- above by labels -/
theorem above_labels (hp : Rg 0 p) {L : Nat → Int} {ls : List Int} (hlen : bc 0 p ≤ ls.length) (h : ∀ x y, L x = L y ↔ glue (tiesOf p r) x y)
    (hg : ∀ x y, x < ls.length → y < ls.length → (LabOf ls x = LabOf ls y ↔ glue (tiesOf p r) x y)) : num (p.map fun b => LabOf ls b.toNat) = num (p.map fun b => L b.toNat) := by
  refine num_congr (by rw [List.length_map, List.length_map]) fun i j x y u v hx hy hu hv => ?_
  obtain ⟨x, hx', rfl⟩ := map_at hx
  obtain ⟨y, hy', rfl⟩ := map_at hy
  obtain ⟨u, hu', rfl⟩ := map_at hu
  obtain ⟨v, hv', rfl⟩ := map_at hv
  rw [hx'] at hu'
  rw [hy'] at hv'
  obtain rfl := Option.some.inj hu'
  obtain rfl := Option.some.inj hv'
  have a1 := (rg_mem 0 p (Int.le_refl _) hp).1 x (List.mem_of_getElem? hx')
  have a2 := (rg_mem 0 p (Int.le_refl _) hp).1 y (List.mem_of_getElem? hy')
  rw [hg x.toNat y.toNat (by omega) (by omega), h]
theorem num_at {α : Type} [DecidableEq α] {xs : List α} {i j : Nat} {x y : α} {u v : Int} (hi : xs[i]? = some x) (hj : xs[j]? = some y) (ui : (num xs)[i]? = some u) (vj : (num xs)[j]? = some v) (e : x = y) : u = v :=
  (num_ker hi hj ui vj).mpr e
theorem at_some {α : Type} {xs : List α} {i : Nat} (h : i < xs.length) : ∃ x, xs[i]? = some x := ⟨_, List.getElem?_eq_getElem h⟩
theorem finer_above1 {L : Nat → Int} : Finer p (num (p.map fun b => L b.toNat)) := by
  intro i j x y z hi hj yi zj
  exact num_at (at_map (f := fun b : Int => L b.toNat) hi) (at_map hj) yi zj rfl
theorem finer_above2 (hl : p.length = r.length) {L : Nat → Int} (h : ∀ x y, L x = L y ↔ glue (tiesOf p r) x y) : Finer r (num (p.map fun b => L b.toNat)) := by
  intro i j x y z hi hj yi zj
  have li := (List.getElem?_eq_some_iff.mp hi).1
  have lj := (List.getElem?_eq_some_iff.mp hj).1
  obtain ⟨u, hu⟩ := at_some (xs := p) (i := i) (by omega)
  obtain ⟨v, hv⟩ := at_some (xs := p) (i := j) (by omega)
  refine num_at (at_map (f := fun b : Int => L b.toNat) hu) (at_map hv) yi zj ((h _ _).mpr ?_)
  have E := glue_eqv (tiesOf p r)
  exact E.trans _ _ _ (tie_at hu hi) (E.symm _ _ (tie_at hv hj))
theorem finer_below1 (hl : p.length = r.length) : Finer (num (p.zip r)) p := by
  intro i j x y z hi hj yi zj
  have li := (List.getElem?_eq_some_iff.mp yi).1
  have lj := (List.getElem?_eq_some_iff.mp zj).1
  obtain ⟨u, hu⟩ := at_some (xs := r) (i := i) (by omega)
  obtain ⟨v, hv⟩ := at_some (xs := r) (i := j) (by omega)
  have := (num_ker (zip_at yi hu) (zip_at zj hv) hi hj).mp rfl
  exact (Prod.mk.inj this).1
theorem finer_below2 (hl : p.length = r.length) : Finer (num (p.zip r)) r := by
  intro i j x y z hi hj yi zj
  have li := (List.getElem?_eq_some_iff.mp yi).1
  have lj := (List.getElem?_eq_some_iff.mp zj).1
  obtain ⟨u, hu⟩ := at_some (xs := p) (i := i) (by omega)
  obtain ⟨v, hv⟩ := at_some (xs := p) (i := j) (by omega)
  have := (num_ker (zip_at hu yi) (zip_at hv zj) hi hj).mp rfl
  exact (Prod.mk.inj this).2
end
/-- codes of blocks -/
def Code (b v : Int) : Prop := ∃ d s : Int, 0 ≤ d ∧ (s = 1 ∨ s = -1) ∧ v = (d * 61 + b) * s
theorem code_inj {b b' v : Int} (h : Code b v) (h' : Code b' v) (b0 : 0 ≤ b) (b1 : b < 61) (c0 : 0 ≤ b') (c1 : b' < 61) : b = b' := by
  obtain ⟨d, s, d0, hs, e⟩ := h
  obtain ⟨d', s', d0', hs', e'⟩ := h'
  rcases hs with rfl | rfl <;> rcases hs' with rfl | rfl <;> omega
theorem num_codes {p xs : List Int} (hp : Rg 0 p) (p60 : p.length ≤ 60) (hl : xs.length = p.length) (h : ∀ (i : Nat) (x v : Int), p[i]? = some x → xs[i]? = some v → Code x v)
    (hf : ∀ (i j : Nat) (x u v : Int), p[i]? = some x → p[j]? = some x → xs[i]? = some u → xs[j]? = some v → u = v) : num xs = p := by
  refine num_is hl.symm hp fun i j x y u v hx hy hu hv => ⟨fun e => ?_, fun e => ?_⟩
  · have a1 := (rg_mem 0 p (Int.le_refl _) hp).1 u (List.mem_of_getElem? hu)
    have a2 := (rg_mem 0 p (Int.le_refl _) hp).1 v (List.mem_of_getElem? hv)
    have g := bc_le 0 p
    subst e
    exact code_inj (h i u x hu hx) (h j v x hv hy) a1.1 (by omega) a2.1 (by omega)
  · subst e
    exact hf i j u x y hu hv hx hy
end KQ
namespace KQ
open PySem PySem.Spec PyProof.Rows L2 KR KM StX
theorem dp_its {K : PySem.W.Frag} {H : Hp} : ∀ {ts : List Addr} {xss : List (List Int)}, Its H ts xss → DpAll K H (ts.map V.ref) (xss.map fun xs => PyData.tuple (xs.map PyData.int))
  | [], [], _ => .nil
  | [], _ :: _, h => by cases h.1
  | _ :: _, [], h => by cases h.1
  | t :: ts, xs :: xss, h => by
    obtain ⟨ys, e, ht⟩ := h.2 0 t rfl
    obtain rfl : xs = ys := Option.some.inj e
    exact .cons (dp_ti ht) (dp_its ⟨Nat.succ.inj h.1, fun i u hu => h.2 (i + 1) u hu⟩)
theorem ti_new {H : Hp} {a : Addr} {p : List Int} : TI (upd H a (.tup (p.map V.int))) a p := .inl upd_same
theorem dp_tt {K : PySem.W.Frag} {H : Hp} {a : Addr} {xss : List (List Int)} (h : KQ.TT H a xss) : Dp K H (.ref a) (.tuple (xss.map fun xs => PyData.tuple (xs.map PyData.int))) := by
  obtain ⟨ts, e, h1, h2⟩ := h
  exact .tup (sqT e) (dp_its ⟨h1, h2⟩)
theorem nc_ti {p : List Int} (h : ∀ x ∈ p, 0 ≤ x ∧ x < 1024) (hl : p.length ≤ 60) : Nc 1 660 (.tuple (p.map PyData.int)) := (nc_tup (nc_ints h)).le (Nat.le_refl _) (by omega)
theorem nc_tt {xss : List (List Int)} (n : Nat) (h : ∀ xs ∈ xss, (∀ x ∈ xs, 0 ≤ x ∧ x < 1024) ∧ xs.length ≤ n) : Nc 2 ((11 * n + 1) * xss.length) (.tuple (xss.map fun xs => PyData.tuple (xs.map PyData.int))) := by
  have := nc_all (k := 1) (W := 11 * n) (ds := xss.map fun xs => PyData.tuple (xs.map PyData.int)) (fun d hd => by
    obtain ⟨xs, hx, rfl⟩ := List.mem_map.mp hd
    exact (nc_tup (nc_ints (h xs hx).1)).le (Nat.le_refl _) (Nat.mul_le_mul (Nat.le_refl _) (h xs hx).2))
  rw [List.length_map] at this
  exact nc_tup this
theorem par_small {p : List Int} (h : Rg 0 p) (hl : p.length ≤ 60) : ∀ x ∈ p, 0 ≤ x ∧ x < 1024 := fun x hx => by
  have := (rg_mem 0 p (Int.le_refl _) h).1 x hx
  have := bc_le 0 p
  omega
end KQ
namespace KM
/-! ### heads that lead to roots, in any order -/
structure Wood (hs : List Nat) (ρ d : Nat → Nat) : Prop where
  root : ∀ x, up hs (ρ x) = ρ x
  self : ∀ x, up hs x = x → ρ x = x
  step : ∀ x, ρ (up hs x) = ρ x
  down : ∀ x, up hs x ≠ x → d (up hs x) < d x
  lt : ∀ x, x < hs.length → up hs x < hs.length
  rlt : ∀ x, x < hs.length → ρ x < hs.length
theorem wood_range (n : Nat) : Wood (List.range n) id (fun _ => 0) :=
  ⟨fun x => up_range n x, fun _ _ => rfl, fun x => up_range n x, fun x h => absurd (up_range n x) h, fun x h => by rw [up_range]; exact h, fun _ h => h⟩
theorem wood_unite {hs : List Nat} {ρ d : Nat → Nat} (w : Wood hs ρ d) {a b : Nat} (ha : a < hs.length) (hb : b < hs.length) (ea : up hs a = a) (eb : up hs b = b) (ne : a ≠ b) :
    Wood (hs.set b a) (fun y => if ρ y = b then a else ρ y) (fun y => d y + if ρ y = b then d a + 1 else 0) := by
  have ra := w.self a ea
  have rb := w.self b eb
  refine ⟨fun x => ?_, fun x => ?_, fun x => ?_, fun x => ?_, fun x hx => ?_, fun x hx => ?_⟩
  · show up (hs.set b a) (if ρ x = b then a else ρ x) = if ρ x = b then a else ρ x
    rw [up_set hb]
    by_cases e : ρ x = b
    · rw [if_pos e, if_neg ne, ea]
    · rw [if_neg e, if_neg e, w.root]
  · rw [up_set hb]
    show _ → (if ρ x = b then a else ρ x) = x
    by_cases e : x = b
    · rw [if_pos e]
      intro z
      exact absurd (z.trans e) ne
    · rw [if_neg e]
      intro z
      rw [w.self x z, if_neg e]
  · show (if ρ (up (hs.set b a) x) = b then a else ρ (up (hs.set b a) x)) = if ρ x = b then a else ρ x
    rw [up_set hb]
    by_cases e : x = b
    · subst e
      rw [if_pos rfl, ra, if_neg ne, rb, if_pos rfl]
    · rw [if_neg e, w.step]
  · show _ → d (up (hs.set b a) x) + (if ρ (up (hs.set b a) x) = b then d a + 1 else 0) < d x + (if ρ x = b then d a + 1 else 0)
    rw [up_set hb]
    by_cases e : x = b
    · subst e
      rw [if_pos rfl, ra, if_neg ne, rb, if_pos rfl]
      intro _
      omega
    · rw [if_neg e, w.step]
      intro z
      have := w.down x z
      omega
  · rw [List.length_set] at hx ⊢
    rw [up_set hb]
    split
    · exact ha
    · exact w.lt x hx
  · rw [List.length_set] at hx ⊢
    show (if ρ x = b then a else ρ x) < hs.length
    split
    · exact ha
    · exact w.rlt x hx
theorem wood_tie {ρ : Nat → Nat} {R : Nat → Nat → Prop} {a b : Nat} (h : ∀ x y, ρ x = ρ y ↔ R x y) (x y : Nat) :
    ((if ρ x = ρ b then ρ a else ρ x) = if ρ y = ρ b then ρ a else ρ y) ↔ J R a b x y := by
  unfold J
  rw [← h x y, ← h x a, ← h b y, ← h x b, ← h a y]
  generalize ρ x = rx
  generalize ρ y = ry
  generalize ρ a = ra
  generalize ρ b = rb
  split <;> split <;> omega
end KM
namespace KQ
open PySem PySem.Spec PyProof.Rows L2 KR KM StX
section
variable {P : Program} {w : World} {K : PySem.W.Frag} {mg : Str → Option Value} {base : Heap}
/-- no door closes a ring with doors ahead of it -/
def RingAt (p r : List Int) (i : Nat) : Prop := ∃ x y, p[i]? = some x ∧ r[i]? = some y ∧ glue ((tiesOf p r).take i) x.toNat (bc 0 p + y).toNat
def NoRing (p r : List Int) : Prop := ∀ i, ¬ RingAt p r i
theorem ring_lt {p r : List Int} {i : Nat} (h : RingAt p r i) : i < p.length := by
  obtain ⟨x, y, hx, _⟩ := h
  exact (List.getElem?_eq_some_iff.mp hx).1
def spNoRing : Sp := fun vs H Q _ => ∃ a b p r, vs = [.ref a, .ref b] ∧ TI H a p ∧ TI H b r ∧ Par p ∧ Par r ∧ p.length = r.length ∧
  ∀ H' c, Same H H' → (c = true ↔ NoRing p r) → Q (.bl c) H'
def Tree (p r : List Int) : Prop := bc 0 p + bc 0 r = p.length + 1 ∧ NoRing p r
def spMeets : Sp := fun vs H Q _ => ∃ a b p r, vs = [.ref a, .ref b] ∧ TI H a p ∧ TI H b r ∧ Par p ∧ Par r ∧ p.length = r.length ∧ ∀ H' c, Same H H' → (c = true ↔ Tree p r) → Q (.bl c) H'
end
end KQ
namespace KM
/-- how many unlike items -/
def dcount (xs : List Int) : Nat := (firsts xs).length
theorem sub_len {α : Type} [DecidableEq α] : ∀ {xs ys : List α}, xs.Nodup → (∀ x ∈ xs, x ∈ ys) → xs.length ≤ ys.length
  | [], _, _, _ => Nat.zero_le _
  | x :: xs, ys, h, s => by
    have hx := s x List.mem_cons_self
    rw [List.nodup_cons] at h
    have e := List.length_erase_of_mem hx
    have l := List.length_pos_of_mem hx
    have := sub_len (xs := xs) (ys := ys.erase x) h.2 fun y hy => (List.mem_erase_of_ne (fun q : y = x => h.1 (by rw [← q]; exact hy))).mpr (s y (List.mem_cons_of_mem _ hy))
    rw [List.length_cons]
    omega
theorem same_len {α : Type} [DecidableEq α] {xs ys : List α} (h : xs.Nodup) (g : ys.Nodup) (e : ∀ x, x ∈ xs ↔ x ∈ ys) : xs.length = ys.length :=
  Nat.le_antisymm (sub_len h fun x hx => (e x).mp hx) (sub_len g fun x hx => (e x).mpr hx)
/-- one of two unlike items put for the other -/
theorem dcount_merge {xs : List Int} {u v : Int} (hu : u ∈ xs) (hv : v ∈ xs) (n : u ≠ v) : dcount (xs.map fun z => if z = v then u else z) + 1 = dcount xs := by
  unfold dcount
  have hv' : v ∈ firsts xs := (mem_firsts xs).mpr hv
  have l := List.length_pos_of_mem hv'
  have e := List.length_erase_of_mem hv'
  have := same_len (firsts_nodup (xs.map fun z => if z = v then u else z)) ((firsts_nodup xs).erase v) (fun x => by
    rw [mem_firsts, (firsts_nodup xs).mem_erase_iff, mem_firsts, List.mem_map]
    constructor
    · rintro ⟨z, hz, rfl⟩
      by_cases q : z = v
      · rw [if_pos q]
        exact ⟨n, hu⟩
      · rw [if_neg q]
        exact ⟨q, hz⟩
    · rintro ⟨q, hx⟩
      exact ⟨x, hx, by rw [if_neg q]⟩)
  omega
theorem dcount_range (n : Nat) : dcount ((List.range n).map fun k => ((k : Nat) : Int)) = n := by
  unfold dcount
  have nd : ((List.range n).map fun k => ((k : Nat) : Int)).Nodup := List.pairwise_map.mpr (List.nodup_range.imp fun h e => h (by omega))
  rw [same_len (firsts_nodup _) nd fun x => mem_firsts _, List.length_map, List.length_range]
/-- lists of the same items -/
theorem dcount_same {xs ys : List Int} (h : ∀ x, x ∈ xs ↔ x ∈ ys) : dcount xs = dcount ys :=
  same_len (firsts_nodup _) (firsts_nodup _) fun x => by rw [mem_firsts, mem_firsts, h]
theorem dcount_num (xs : List Int) : ((dcount xs : Nat) : Int) = bc 0 (num xs) := (firsts_len xs).1
end KM
namespace KQ
open PySem PySem.Spec PyProof.Rows L2 KR KM StX
section
variable {P : Program} {w : World} {K : PySem.W.Frag} {mg : Str → Option Value} {base : Heap}
/-- what the door says that closes the first ring, with the doors ahead of i -/
def ClosedBy (p r : List Int) (i : Nat) (cl : V) : Prop := (cl = .non ∧ ∀ j, j < i → ¬ RingAt p r j) ∨ ∃ n : Nat, cl = .int ((n : Nat) : Int) ∧ n < i ∧ RingAt p r n ∧ ∀ j, j < n → ¬ RingAt p r j
theorem closed_next {p r : List Int} {i : Nat} {cl : V} (h : ClosedBy p r i cl) (n : ¬ RingAt p r i) : ClosedBy p r (i + 1) cl := by
  rcases h with ⟨e, h⟩ | ⟨k, e, hk, h1, h2⟩
  · refine .inl ⟨e, fun j hj => ?_⟩
    by_cases q : j = i
    · rw [q]
      exact n
    · exact h j (by omega)
  · exact .inr ⟨k, e, by omega, h1, h2⟩
def spHung2 : Sp := fun vs H Q _ => ∃ a b p r, vs = [.ref a, .ref b] ∧ TI H a p ∧ TI H b r ∧ Par p ∧ Par r ∧ p.length = r.length ∧
  ∀ H' t l cl (ls : List Int), Same H H' → H' t = some (.tup [.ref l, cl]) → H' l = some (.lst (ls.map V.int)) → ls.length = (bc 0 p + bc 0 r).toNat →
    (∀ x y, x < ls.length → y < ls.length → (LabOf ls x = LabOf ls y ↔ glue (tiesOf p r) x y)) → ClosedBy p r p.length cl → (cl = .non → dcount ls + p.length = ls.length) → (∀ x ∈ ls, 0 ≤ x ∧ x < ls.length) → Q (.ref t) H'
end
end KQ
namespace KQ
open PySem PySem.Spec PyProof.Rows L2 KR KM StX
/-- labels of blocks of the one (the first sh) and of those put on so far, i doors of the order ds being done -/
structure Met (p ds ls : List Int) (sh i q : Nat) : Prop where
  len : ls.length = sh + q
  c1 : ∀ j d x, j < i → ds[j]? = some d → p[d.toNat]? = some x → ∃ k, k < q ∧ ls[sh + k]? = ls[x.toNat]?
  c2 : ∀ b b', b < sh → b' < sh → b ≠ b' → ls[b]? = ls[b']? → ∃ k, k < q ∧ ls[sh + k]? = ls[b]?
/-- an order of all doors -/
structure Ord (ds : List Int) (n : Nat) : Prop where
  len : ds.length = n
  nd : ds.Nodup
  at_ : ∀ d ∈ ds, 0 ≤ d ∧ d < n
theorem Ord.all {ds : List Int} {n : Nat} (h : Ord ds n) {d : Int} (d0 : 0 ≤ d) (d1 : d < n) : d ∈ ds := by
  apply Classical.byContradiction
  intro hn
  have nd : (d :: ds).Nodup := List.nodup_cons.mpr ⟨hn, h.nd⟩
  have := sub_len (ys := (List.range n).map fun k => ((k : Nat) : Int)) nd fun x hx => by
    have hb : 0 ≤ x ∧ x < n := by
      rcases List.mem_cons.mp hx with rfl | hx
      · exact ⟨d0, d1⟩
      · exact h.at_ x hx
    exact List.mem_map.mpr ⟨x.toNat, List.mem_range.mpr (by omega), by omega⟩
  rw [List.length_cons, h.len, List.length_map, List.length_range] at this
  omega
theorem met_some {p ds ls : List Int} {sh i q : Nat} (par : Par p) (hsh : (sh : Int) = bc 0 p) (o : Ord ds p.length) (M : Met p ds ls sh i q) {d x own : Int} (hd : ds[i]? = some d) (hx : p[d.toNat]? = some x)
    (ho : ls[x.toNat]? = some own) (hq : ∀ k, k < q → ls[sh + k]? = some own) : dcount ls + (i + 1) ≤ p.length + 1 := by
  have him := (List.getElem?_eq_some_iff.mp hd).1
  rw [o.len] at him
  have own_in : own ∈ firsts ls := (mem_firsts ls).mpr (List.mem_of_getElem? ho)
  have e1 := List.length_erase_of_mem own_in
  have l1 := List.length_pos_of_mem own_in
  have := sub_len (xs := (firsts ls).erase own) (ys := (ds.drop (i + 1)).map fun d => ls.getD (p.getD d.toNat 0).toNat 0) ((firsts_nodup ls).erase own) fun z hz => by
    obtain ⟨zn, hz⟩ := ((firsts_nodup ls).mem_erase_iff).mp hz
    obtain ⟨b, hb⟩ := List.mem_iff_getElem?.mp ((mem_firsts ls).mp hz)
    have hbl := (List.getElem?_eq_some_iff.mp hb).1
    rw [M.len] at hbl
    have hbs : b < sh := by
      apply Classical.byContradiction
      intro hn
      have := hq (b - sh) (by omega)
      rw [show sh + (b - sh) = b by omega, hb] at this
      exact zn (Option.some.inj this)
    have hbp := (rg_mem 0 p (Int.le_refl _) par.rg).2 ((b : Nat) : Int) (by omega) (by omega)
    obtain ⟨j, hj⟩ := List.mem_iff_getElem?.mp hbp
    have hjl := (List.getElem?_eq_some_iff.mp hj).1
    obtain ⟨t, ht⟩ := List.mem_iff_getElem?.mp (o.all (d := ((j : Nat) : Int)) (by omega) (by omega))
    have htp : p[(((j : Nat) : Int)).toNat]? = some ((b : Nat) : Int) := by rw [Int.toNat_natCast]; exact hj
    have hti : i < t := by
      rcases Nat.lt_trichotomy t i with c | c | c
      · obtain ⟨k, hk, e⟩ := M.c1 t _ _ c ht htp
        rw [hq k hk, Int.toNat_natCast, hb] at e
        exact absurd (Option.some.inj e).symm zn
      · subst c
        rw [hd] at ht
        obtain rfl := Option.some.inj ht
        rw [hx] at htp
        obtain rfl := Option.some.inj htp
        rw [Int.toNat_natCast, hb] at ho
        exact absurd (Option.some.inj ho) zn
      · exact c
    refine List.mem_map.mpr ⟨((j : Nat) : Int), List.mem_iff_getElem?.mpr ⟨t - (i + 1), ?_⟩, ?_⟩
    · rw [List.getElem?_drop, show i + 1 + (t - (i + 1)) = t by omega]
      exact ht
    · rw [List.getD_eq_getElem?_getD, List.getD_eq_getElem?_getD, htp]
      show (ls[(((b : Nat) : Int)).toNat]?).getD 0 = z
      rw [Int.toNat_natCast, hb]
      rfl
  rw [List.length_map, List.length_drop, o.len] at this
  unfold dcount
  omega
theorem met_new {p ds ls : List Int} {sh i q : Nat} (hsh : ∀ x ∈ p, 0 ≤ x ∧ x < (sh : Int)) (M : Met p ds ls sh i q) {d x own : Int} (hd : ds[i]? = some d) (hx : p[d.toNat]? = some x)
    (ho : ls[x.toNat]? = some own) : Met p ds (ls ++ [own]) sh (i + 1) (q + 1) := by
  have low : ∀ k, k < sh + q → (ls ++ [own])[k]? = ls[k]? := fun k hk => List.getElem?_append_left (by rw [M.len]; exact hk)
  have top : (ls ++ [own])[sh + q]? = some own := by
    rw [List.getElem?_append_right (by rw [M.len]; exact Nat.le_refl _), M.len, Nat.sub_self]
    rfl
  refine ⟨by rw [List.length_append, M.len]; rfl, fun j e y hj he hy => ?_, fun b b' hb hb' n e => ?_⟩
  · have hys := hsh y (List.mem_of_getElem? hy)
    rw [low y.toNat (by omega)]
    by_cases c : j = i
    · subst c
      rw [hd] at he
      obtain rfl := Option.some.inj he
      rw [hx] at hy
      obtain rfl := Option.some.inj hy
      exact ⟨q, by omega, by rw [top, ho]⟩
    · obtain ⟨k, hk, e⟩ := M.c1 j e y (by omega) he hy
      exact ⟨k, by omega, by rw [low _ (by omega)]; exact e⟩
  · rw [low _ (by omega), low _ (by omega)] at e
    obtain ⟨k, hk, e⟩ := M.c2 b b' hb hb' n e
    exact ⟨k, by omega, by rw [low _ (by omega), low _ (by omega)]; exact e⟩
theorem met_glue {p ds ls : List Int} {sh i q : Nat} (hsh : ∀ x ∈ p, 0 ≤ x ∧ x < (sh : Int)) (M : Met p ds ls sh i q) {d x own two : Int} {k : Nat} (hd : ds[i]? = some d) (hx : p[d.toNat]? = some x)
    (ho : ls[x.toNat]? = some own) (hk : k < q) (ht : ls[sh + k]? = some two) (n : own ≠ two) : Met p ds (ls.map fun z => if z = two then own else z) sh (i + 1) q := by
  have mp : ∀ a, (ls.map fun z => if z = two then own else z)[a]? = (ls[a]?).map fun z => if z = two then own else z := fun a => List.getElem?_map
  have keep : ∀ a b : Nat, ls[a]? = ls[b]? → (ls.map fun z => if z = two then own else z)[a]? = (ls.map fun z => if z = two then own else z)[b]? := fun a b e => by rw [mp, mp, e]
  have tw : ∀ a : Nat, ls[a]? = some own ∨ ls[a]? = some two → (ls.map fun z => if z = two then own else z)[a]? = some own := fun a e => by
    rw [mp]
    rcases e with e | e
    · rw [e]
      show some (if own = two then own else own) = _
      rw [if_neg n]
    · rw [e]
      show some (if two = two then own else two) = _
      rw [if_pos rfl]
  refine ⟨by rw [List.length_map, M.len], fun j e y hj he hy => ?_, fun b b' hb hb' nb e => ?_⟩
  · by_cases c : j = i
    · subst c
      rw [hd] at he
      obtain rfl := Option.some.inj he
      rw [hx] at hy
      obtain rfl := Option.some.inj hy
      exact ⟨k, hk, by rw [tw _ (.inr ht), tw _ (.inl ho)]⟩
    · obtain ⟨k2, hk2, e⟩ := M.c1 j e y (by omega) he hy
      exact ⟨k2, hk2, keep _ _ e⟩
  · by_cases c : ls[b]? = ls[b']?
    · obtain ⟨k2, hk2, e2⟩ := M.c2 b b' hb hb' nb c
      exact ⟨k2, hk2, keep _ _ e2⟩
    · obtain ⟨u, hu⟩ := at_some (xs := ls) (i := b) (by rw [M.len]; omega)
      obtain ⟨v, hv⟩ := at_some (xs := ls) (i := b') (by rw [M.len]; omega)
      rw [mp, mp, hu, hv] at e
      have e : (if u = two then own else u) = (if v = two then own else v) := Option.some.inj e
      refine ⟨k, hk, ?_⟩
      rw [tw _ (.inr ht)]
      by_cases c1 : u = two
      · rw [tw b (.inr (by rw [hu, c1]))]
      · rw [if_neg c1] at e
        by_cases c2 : v = two
        · rw [if_pos c2] at e
          rw [tw b (.inl (by rw [hu, e]))]
        · rw [if_neg c2] at e
          exact absurd (by rw [hu, hv, e]) c
end KQ
namespace KQ
open PySem PySem.Spec PyProof.Rows L2 KR KM StX
theorem ints_of {vs : List V} (h : ∀ j, j < vs.length → ∃ v, vs[j]? = some (.int v)) : ∃ rs : List Int, vs = rs.map V.int := by
  induction vs with
  | nil => exact ⟨[], rfl⟩
  | cons v vs ih =>
    obtain ⟨x, hx⟩ := h 0 (by rw [List.length_cons]; omega)
    obtain rfl : v = .int x := Option.some.inj hx
    obtain ⟨rs, rfl⟩ := ih fun j hj => h (j + 1) (by rw [List.length_cons]; omega)
    exact ⟨x :: rs, rfl⟩
theorem ifs_fact {b : Bool} {t u : TS} {D : Ends} {σ : L2.St} {H : Hp} (Fact : Hp → Prop) (h1 : b = true → ∀ D : Ends, (∀ H', Fact H' → D.nx σ H') → t D σ H) (h2 : b = false → ∀ D : Ends, (∀ H', Fact H' → D.nx σ H') → u D σ H)
    (k : ∀ H', Fact H' → D.nx σ H') : if b = true then t D σ H else u D σ H := by
  cases b
  · exact h2 rfl D k
  · exact h1 rfl D k
section
variable {P : Program} {w : World} {K : PySem.W.Frag} {mg : Str → Option Value} {base : Heap}
abbrev s__law_of : Stmt := topS 27
theorem sc__law_of : FnScope ["m", "some"] ["m", "some"] (defScope s__law_of) := ⟨rfl, rfl, rfl, by decide +kernel, rfl, by decide +kernel, by decide +kernel⟩
def spOf : Sp := fun vs H Q _ => ∃ m c g b l xs, vs = [.ref m, .ref l] ∧ MS H m c g b ∧ b ≤ 1000000 ∧ H l = some (.lst (xs.map V.int)) ∧ l ≠ g ∧ xs ≠ [] ∧ xs.length ≤ 1000000 ∧
  ∀ H' x, Kept H H' m g → MS H' m c g (b + 1) → x ∈ xs → Q (.int x) H'
theorem ok_of (D : DefAt K mg "_law_of" s__law_of) (T : Bt mg) (u__law_draw : Use P w K mg base "_law_draw" 2 ["m", "limit"] spDraw) : Use P w K mg base "_law_of" 3 ["m", "some"] spOf := by
  refine use_of D (fun f fd F => F.ok sc__law_of (fun vs H Q E h => ?_) (fun cdv A outer s H vs Q E hr h => ?_)) (fun _ _ _ _ _ _ us hl => match us, hl with | [_, _], _ => rfl)
  · obtain ⟨m, c, g, b, l, xs, rfl, _⟩ := h
    rfl
  · obtain ⟨m, c, g, b, l, xs, rfl, ms, hb, el, lg, ne, hle, q⟩ := h
    refine ⟨_, (pss_one (ps_ret (pe_ix (k_ixl (K := K) rfl) (pv 1) (pe_use u__law_draw (by decide) hr (by rfl) (pa_cons (pv 0) (pa_cons (pe_callB (k_len (K := K) rfl) (by rfl) T.len PySem.boot_len (pa_cons (pv 1) pa_nil)) pa_nil))) (fun _ _ => rfl)))), ?_⟩
    have lm : l ≠ m := by
      obtain ⟨cs, gs, k, h1, h2, h3, r⟩ := ms
      intro e
      rw [e, h1] at el
      cases el
    have pos := List.length_pos_iff.mpr ne
    refine ⟨_, rfl, _, rfl, _, rfl, l, _, rfl, .inl (sqL el), m, c, g, b, _, rfl, ms, hb, ?_, ?_, fun H1 d k1 ms1 d0 d1 => ?_⟩
    · rw [List.length_map]
      omega
    · rw [List.length_map]
      omega
    rw [List.length_map] at d1
    obtain ⟨x, hx⟩ := at_some (xs := xs) (i := d.toNat) (by omega)
    exact ⟨l, _, d, .int x, rfl, rfl, sqL (k1 _ _ el lm lg), atI_of (j := d.toNat) (by omega) (at_map hx), q H1 x k1 ms1 (List.mem_of_getElem? hx)⟩
def spMetL : Sp := fun vs H Q _ => ∃ m c g b a p, vs = [.ref m, .ref a] ∧ MS H m c g b ∧ b ≤ 100000 ∧ TI H a p ∧ Par p ∧
  ∀ H' t r, Kept H H' m g → MS H' m c g (b + 120) → TI H' t r → Par r → r.length = p.length → Q (.ref t) H'
end
end KQ
namespace KQ
open PySem PySem.Spec PyProof.Rows L2 KR KM StX
theorem ifs_fact2 {b : Bool} {t u : TS} {D : Ends} {σ : L2.St} {H : Hp} (Fact : L2.St → Hp → Prop) (h1 : b = true → ∀ D : Ends, (∀ σ' H', Fact σ' H' → D.nx σ' H') → t D σ H) (h2 : b = false → ∀ D : Ends, (∀ σ' H', Fact σ' H' → D.nx σ' H') → u D σ H)
    (k : ∀ σ' H', Fact σ' H' → D.nx σ' H') : if b = true then t D σ H else u D σ H := by
  cases b
  · exact h2 rfl D k
  · exact h1 rfl D k
section
variable {P : Program} {w : World} {K : PySem.W.Frag} {mg : Str → Option Value} {base : Heap}
def spSecond : Sp := fun vs H Q _ => ∃ m c g b a p, vs = [.ref m, .ref a] ∧ MS H m c g b ∧ b ≤ 90000 ∧ TI H a p ∧ Par p ∧
  ∀ H' t r, Kept H H' m g → MS H' m c g (b + 130) → TI H' t r → Par r → r.length = p.length → Q (.ref t) H'
/-- the second one as it is being made -/
def Sec (m c g a : Addr) (b kd : Int) (n : Nat) (H : Hp) (B : Int) (σ : L2.St) (H' : Hp) : Prop := ∃ (l : Addr) (xs : List Int) (y5 y6 : Option V),
  σ = [some (.ref m), some (.ref a), some (.int kd), some (.int ((n : Nat) : Int)), some (.ref l), y5, y6, none] ∧ Kept H H' m g ∧ MS H' m c g (b + B) ∧ H' l = some (.lst (xs.map V.int)) ∧ xs.length = n ∧ H l = none
end
end KQ
/-! len(set(xs)) of whole numbers -/
namespace KR
open PySem PySem.Spec PyProof.Rows L2 KM
section
variable {X : Cx}
def tLenSetI (K : PySem.W.Frag) (ta : TE) : TE := fun σ H Q => ta σ H fun x H1 => ∃ (l : Addr) (xs : List Int), x = .ref l ∧ SqT K H1 l (xs.map V.int) ∧ xs.length ≤ 1000 ∧ Q (.int ((dcount xs : Nat) : Int)) H1
theorem pe_lenSetI {a : Expr} {ta : TE} {p p2 q pos : Pos} (hc : X.calm = true) (hg : Gl X "len") (hm : X.mg "len" = none) (hg2 : Gl X "set") (hm2 : X.mg "set" = none) (ha : PE X a ta)
    (na : starEach [a] X.env = (false, eval a X.env) :: starEach [] X.env := by rfl) : PE X (.Call (.Name "len" p) [.Call (.Name "set" p2) [a] [] q] [] pos) (tLenSetI X.K ta) := by
  refine ⟨fun pins s σ H Q I h => ?_⟩
  refine Call_ (ld_blt I hg hm boot_len ?_)
  refine PyProof.Rows.callWith_builtin1 (PyProof.Rows.args_cons ?_ rfl) rfl rfl
  refine Call_ (ld_blt I hg2 hm2 boot_set ?_)
  refine PyProof.Rows.callWith_type1 (PyProof.Rows.args_cons (thn (ha.run pins s σ H _ I h) fun v s1 ⟨x, H1, I1, r1, q1⟩ => PyProof.Rows.args_nil ?_) na) na rfl
  obtain ⟨l, xs, rfl, hq, hle, q1⟩ := q1
  cases r1
  obtain ⟨its, r, pl, hz⟩ := I1.tuple hq
  refine call_set_tupI xs (I1.ok.hd hc) pl (by simpa using r.ints) ?_ fun h' tk c R hcl hk => ?_
  · exact Nat.lt_of_le_of_lt (Nat.succ_le_succ hle) (by decide)
  refine PyProof.Rows.args_nil ?_
  obtain ⟨o, es, ep, t, ho, hex, hd, hg1, hnd, hS, hlt, hf, hn, _⟩ := R
  have I2 : Inv X pins σ H1 { s1 with heap := h', toks := tk } := I1.kept hk
  have ec : es.size = dcount xs := by
    have := same_len hnd (firsts_nodup xs) fun k => by rw [← hS k, mem_firsts, decide_eq_true_iff]
    rw [List.length_map, Array.length_toList] at this
    exact this
  refine call_len_set ho hex hd hf (by omega) ⟨.int ((dcount xs : Nat) : Int), H1, I2.tok _, ⟨_, by rw [ec]⟩, q1⟩
theorem met_nodup (val : Nat → Int) : ∀ i, (firstMet val i).Nodup
  | 0 => List.nodup_nil
  | i + 1 => by
    rw [firstMet_succ]
    unfold step_dedup
    split
    · exact met_nodup val i
    · rename_i h
      have hn : val i ∉ firstMet val i := fun hm => h (List.any_eq_true.mpr ⟨val i, hm, beq_self_eq_true _⟩)
      first
      | exact List.nodup_cons.mpr ⟨hn, met_nodup val i⟩
      | (rw [List.nodup_append]
         refine ⟨met_nodup val i, by simp, fun a ha b hb e => ?_⟩
         rw [List.mem_singleton.mp hb] at e
         exact hn (e ▸ ha))
theorem met_count (xs : List Int) : (firstMet (fun i => xs.getD i 0) xs.length).length = dcount xs := by
  refine same_len (met_nodup _ _) (firsts_nodup xs) fun k => ?_
  rw [mem_firsts]
  have h := firstMet_any (fun i => xs.getD i 0) xs.length k
  rw [show (List.range xs.length).map (fun i => xs.getD i 0) = xs from by
    refine List.ext_getElem? fun i => ?_
    by_cases hi : i < xs.length
    · rw [at_map (List.getElem?_range hi), List.getD_eq_getElem?_getD, List.getElem?_eq_getElem hi]
      rfl
    · rw [List.getElem?_eq_none (by rw [List.length_map, List.length_range]; omega), List.getElem?_eq_none (by omega)]] at h
  have e : ∀ ys : List Int, ys.any (· == k) = true ↔ k ∈ ys := fun ys => by
    rw [List.any_eq_true]
    exact ⟨fun ⟨a, ha, q⟩ => (eq_of_beq q) ▸ ha, fun hk => ⟨k, hk, beq_self_eq_true _⟩⟩
  rw [← e, h, e]
def tLenSetL (K : PySem.W.Frag) (ta : TE) : TE := fun σ H Q => ta σ H fun x H1 => ∃ (l : Addr) (xs : List Int), x = .ref l ∧ SqL K H1 l (xs.map V.int) ∧ xs.length ≤ 1000 ∧ Q (.int ((dcount xs : Nat) : Int)) H1
theorem pe_lenSetL {a : Expr} {ta : TE} {p p2 q pos : Pos} (hc : X.calm = true) (hg : Gl X "len") (hm : X.mg "len" = none) (hg2 : Gl X "set") (hm2 : X.mg "set" = none) (ha : PE X a ta)
    (na : starEach [a] X.env = (false, eval a X.env) :: starEach [] X.env := by rfl) : PE X (.Call (.Name "len" p) [.Call (.Name "set" p2) [a] [] q] [] pos) (tLenSetL X.K ta) := by
  refine ⟨fun pins s σ H Q I h => ?_⟩
  refine Call_ (ld_blt I hg hm boot_len ?_)
  refine PyProof.Rows.callWith_builtin1 (PyProof.Rows.args_cons ?_ rfl) rfl rfl
  refine Call_ (ld_blt I hg2 hm2 boot_set ?_)
  refine PyProof.Rows.callWith_type1 (PyProof.Rows.args_cons (thn (ha.run pins s σ H _ I h) fun v s1 ⟨x, H1, I1, r1, q1⟩ => PyProof.Rows.args_nil ?_) na) na rfl
  obtain ⟨l, xs, rfl, hq, hle, q1⟩ := q1
  cases r1
  obtain ⟨its, r, pl, hz⟩ := I1.list hq
  have hlen : its.toArray.size = xs.length := by
    rw [List.size_toArray, ← r.length, List.length_map]
  refine PySem.call_set_list (I1.ok.hd hc) pl.isList (by simpa using r.ints) (by rw [hlen]; exact Nat.lt_of_le_of_lt (Nat.succ_le_succ hle) (by decide)) fun h' tk R hk => ?_
  refine PyProof.Rows.args_nil ?_
  rw [hlen, met_count] at R
  obtain ⟨o, es, ep, t, ho, hex, hd, _, _, hlt, hf, hn⟩ := R
  have I2 : Inv X pins σ H1 { s1 with heap := h', toks := tk } := I1.kept fun b o e => hk b o (Heap.lt_size e) e
  have hdl : dcount xs ≤ xs.length := KQ.firsts_le xs
  refine call_len_set ho hex hd hf (by rw [hn]; omega) ⟨.int ((dcount xs : Nat) : Int), H1, I2.tok _, ⟨_, by rw [hn]⟩, q1⟩
end
end KR
namespace KQ
open PySem PySem.Spec PyProof.Rows L2 KR KM StX
section
variable {P : Program} {w : World} {K : PySem.W.Frag} {mg : Str → Option Value} {base : Heap}
theorem dcount_nodup (xs : List Int) : dcount xs = xs.length ↔ xs.Nodup := by
  constructor
  · intro h
    refine firsts_rec (P := fun xs => dcount xs = xs.length → xs.Nodup) (fun _ => List.nodup_nil) (fun xs x ih h => ?_) xs h
    have l := firsts_le xs
    unfold dcount at h ih
    rw [firsts_snoc] at h
    unfold ins at h
    rw [List.length_append] at h
    have l1 : [x].length = 1 := rfl
    split at h
    · omega
    · rename_i hx
      rw [List.length_append] at h
      rw [List.nodup_append]
      refine ⟨ih (by omega), by simp, fun a ha b hb e => ?_⟩
      rw [List.mem_singleton.mp hb] at e
      exact hx ((mem_firsts xs).mpr (e ▸ ha))
  · intro h
    exact same_len (firsts_nodup xs) h fun x => mem_firsts xs
def spLikeT (K : PySem.W.Frag) : Sp := fun vs H Q _ => ∃ (a : Addr) (xs : List Int), vs = [.ref a] ∧ SqT K H a (xs.map V.int) ∧ xs.length ≤ 1000 ∧ ∀ c, (c = true ↔ ¬ xs.Nodup) → Q (.bl c) H
def spLikeL (K : PySem.W.Frag) : Sp := fun vs H Q _ => ∃ (a : Addr) (xs : List Int), vs = [.ref a] ∧ SqL K H a (xs.map V.int) ∧ xs.length ≤ 1000 ∧ ∀ c, (c = true ↔ ¬ xs.Nodup) → Q (.bl c) H
end
end KQ
namespace KQ
open PySem PySem.Spec PyProof.Rows L2 KR KM StX
section
variable {P : Program} {w : World} {K : PySem.W.Frag} {mg : Str → Option Value} {base : Heap}
/-- the doors from the first one of ps back to where the dict says none -/
def Back (kvs : List (L2.Key × V)) : List Int → Prop
  | [] => False
  | [d] => valV kvs (kI d) = some .non
  | d :: e :: r => valV kvs (kI d) = some (.int e) ∧ Back kvs (e :: r)
def headV : List Int → V
  | [] => .non
  | d :: _ => .int d
def spBack : Sp := fun vs H Q _ => ∃ (a : Addr) (kvs : List (L2.Key × V)) (d : Int) (r : List Int), vs = [.ref a, .int d] ∧ Rd H a (.dK kvs) ∧ Back kvs (d :: r) ∧ r.length ≤ 1000 ∧
  ∀ H' l, Same H H' → H l = none → H' l = some (.lst ((d :: r).map V.int)) → Q (.ref l) H'
end
end KQ
namespace KQ
open PySem PySem.Spec PyProof.Rows L2 KR KM
/-! ### every second one -/
def ev {α : Type} : List α → List α
  | [] => []
  | [a] => [a]
  | a :: _ :: r => a :: ev r
theorem ev_cons {α : Type} (a : α) (r : List α) : ev (a :: r) = a :: ev r.tail := by
  cases r <;> rfl
theorem ev_at {α : Type} : ∀ (f : List α) (i : Nat), (ev f)[i]? = f[2 * i]?
  | [], i => by simp [ev]
  | [a], 0 => rfl
  | [a], i + 1 => by
    show ([a] : List α)[i + 1]? = [a][2 * (i + 1)]?
    rw [List.getElem?_eq_none (by simp), List.getElem?_eq_none (by simp; omega)]
  | a :: b :: r, 0 => rfl
  | a :: b :: r, i + 1 => by
    show (ev r)[i]? = _
    rw [ev_at r i, show 2 * (i + 1) = 2 * i + 1 + 1 by omega]
    rfl
theorem ev_map {α β : Type} (f : α → β) : ∀ xs : List α, ev (xs.map f) = (ev xs).map f
  | [] => rfl
  | [a] => rfl
  | a :: b :: r => by
    show f a :: ev (r.map f) = f a :: (ev r).map f
    rw [ev_map f r]
theorem ev_len {α : Type} : ∀ xs : List α, (ev xs).length ≤ xs.length
  | [] => Nat.le_refl _
  | [a] => Nat.le_refl _
  | a :: b :: r => by
    have := ev_len r
    show (ev r).length + 1 ≤ r.length + 1 + 1
    omega
/-- by twos alike -/
def Twos (f : List Int) : Prop := ev f = ev f.tail
theorem twos_at (f : List Int) : Twos f ↔ ∀ i, f[2 * i]? = f[2 * i + 1]? := by
  unfold Twos
  constructor
  · intro h i
    have := congrArg (fun l : List Int => l[i]?) h
    simp only [ev_at, List.getElem?_tail] at this
    exact this
  · intro h
    refine List.ext_getElem? fun i => ?_
    rw [ev_at, ev_at, List.getElem?_tail]
    exact h i
theorem twos_count : ∀ (f : List Int), f.length % 2 = 0 → Twos f → ∀ x, f.count x = 2 * (ev f).count x
  | [], _, _, x => rfl
  | [a], h, _, x => by simp at h
  | a :: b :: r, h, t, x => by
    have t' : (a :: ev r : List Int) = ev (b :: r) := t
    rw [ev_cons] at t'
    obtain ⟨rfl, t2⟩ := List.cons.inj t'
    have hl : r.length % 2 = 0 := by
      rw [List.length_cons, List.length_cons] at h
      omega
    have ih := twos_count r hl t2 x
    show (a :: a :: r).count x = 2 * (a :: ev r).count x
    rw [List.count_cons, List.count_cons, List.count_cons, ih]
    split <;> omega
theorem nodup_count : ∀ l : List Int, l.Nodup ↔ ∀ x ∈ l, l.count x = 1
  | [] => by simp
  | a :: l => by
    rw [List.nodup_cons, nodup_count l]
    constructor
    · rintro ⟨h1, h2⟩ x hx
      rw [List.count_cons]
      by_cases e : a = x
      · subst e
        rw [List.count_eq_zero_of_not_mem h1]
        simp
      · rcases List.mem_cons.mp hx with q | q
        · exact absurd q.symm e
        · rw [h2 x q]
          simp [e]
    · intro h
      have h1 : a ∉ l := fun hm => by
        have := h a List.mem_cons_self
        rw [List.count_cons] at this
        have p := List.count_pos_iff.mpr hm
        simp at this
        omega
      refine ⟨h1, fun x hx => ?_⟩
      have := h x (List.mem_cons_of_mem _ hx)
      rw [List.count_cons] at this
      have e : a ≠ x := fun e => h1 (e ▸ hx)
      simpa [e] using this
theorem twos_nodup {f : List Int} (hl : f.length % 2 = 0) (t : Twos f) : (∀ x ∈ f, f.count x = 2) ↔ (ev f).Nodup := by
  rw [nodup_count]
  have hm : ∀ x, x ∈ f ↔ x ∈ ev f := fun x => by
    rw [← List.count_pos_iff, ← List.count_pos_iff, twos_count f hl t x]
    omega
  constructor
  · intro h x hx
    have := h x ((hm x).mpr hx)
    rw [twos_count f hl t x] at this
    omega
  · intro h x hx
    rw [twos_count f hl t x, h x ((hm x).mp hx)]
/-! ### rings -/
def bk (p : List Int) (d : Int) : Int := p.getD d.toNat (-1)
def rot (ds : List Int) : List Int := ds.tail ++ ds.take 1
theorem rot_at {ds : List Int} (ne : ds ≠ []) (j : Nat) : (rot ds)[j]? = if j + 1 < ds.length then ds[j + 1]? else if j + 1 = ds.length then ds[0]? else none := by
  cases ds with
  | nil => exact absurd rfl ne
  | cons d t =>
    show (t ++ [d])[j]? = if j + 1 < t.length + 1 then (d :: t)[j + 1]? else if j + 1 = t.length + 1 then (d :: t)[0]? else none
    rw [List.getElem?_append]
    by_cases h : j < t.length
    · rw [if_pos h, if_pos (by omega), List.getElem?_cons_succ]
    · rw [if_neg h, if_neg (by omega)]
      by_cases e : j = t.length
      · subst e
        rw [Nat.sub_self, if_pos rfl]
        rfl
      · rw [if_neg (by omega), List.getElem?_eq_none (by simp; omega)]
theorem rot_count (ds : List Int) (f : Int → Int) (x : Int) : ((rot ds).map f).count x = (ds.map f).count x := by
  cases ds with
  | nil => rfl
  | cons d t =>
    show ((t ++ [d]).map f).count x = (f d :: t.map f).count x
    rw [List.map_append, List.count_append, List.count_cons]
    show _ + [f d].count x = _
    rw [List.count_cons]
    simp
theorem rot_len (ds : List Int) : (rot ds).length = ds.length := by
  cases ds with
  | nil => rfl
  | cons d t => simp [rot]
/-- rings as the program looks at them -/
structure IsRing (p r ds : List Int) : Prop where
  ne : ds ≠ []
  even : ds.length % 2 = 0
  rng : ∀ d ∈ ds, 0 ≤ d ∧ d < p.length
  nodup : ds.Nodup
  low : (ev (ds.map (bk p))).Nodup
  high : (ev ((rot ds).map (bk r))).Nodup
  lows : Twos (ds.map (bk p))
  highs : Twos ((rot ds).map (bk r))
/-- the next one's place -/
def nx (ds : List Int) (n : Nat) : Nat := if n + 1 < ds.length then n + 1 else 0
/-- .. and as the law does -/
structure RingR (p r ds : List Int) : Prop where
  len : 2 ≤ ds.length
  even : ds.length % 2 = 0
  rng : ∀ d ∈ ds, 0 ≤ d ∧ d < p.length
  nodup : ds.Nodup
  step : ∀ n x y, ds[n]? = some x → ds[nx ds n]? = some y → bk (if n % 2 = 0 then p else r) x = bk (if n % 2 = 0 then p else r) y
  low : ∀ d ∈ ds, (ds.map (bk p)).count (bk p d) = 2
  high : ∀ d ∈ ds, (ds.map (bk r)).count (bk r d) = 2
theorem map_all {ds : List Int} {f : Int → Int} (P : Int → Prop) : (∀ x ∈ ds.map f, P x) ↔ ∀ d ∈ ds, P (f d) :=
  ⟨fun h d hd => h _ (List.mem_map_of_mem hd), fun h x hx => by
    obtain ⟨d, hd, rfl⟩ := List.mem_map.mp hx
    exact h d hd⟩
theorem ring_iff {p r ds : List Int} : IsRing p r ds ↔ RingR p r ds := by
  have twos : ds ≠ [] → ds.length % 2 = 0 → (Twos (ds.map (bk p)) ∧ Twos ((rot ds).map (bk r)) ↔ ∀ n x y, ds[n]? = some x → ds[nx ds n]? = some y → bk (if n % 2 = 0 then p else r) x = bk (if n % 2 = 0 then p else r) y) := by
    intro ne ev2
    rw [twos_at, twos_at]
    have hpos := List.length_pos_iff.mpr ne
    constructor
    · rintro ⟨h1, h2⟩ n x y hx hy
      have ln := (List.getElem?_eq_some_iff.mp hx).1
      unfold nx at hy
      by_cases e : n % 2 = 0
      · rw [if_pos e]
        rw [if_pos (by omega)] at hy
        have := h1 (n / 2)
        rw [show 2 * (n / 2) = n by omega, at_map hx, at_map hy] at this
        exact Option.some.inj this
      · rw [if_neg e]
        have := h2 (n / 2)
        have ea : (rot ds)[2 * (n / 2)]? = some x := by
          rw [rot_at ne, show 2 * (n / 2) + 1 = n by omega, if_pos ln, hx]
        have eb : (rot ds)[2 * (n / 2) + 1]? = some y := by
          rw [rot_at ne, show 2 * (n / 2) + 1 + 1 = n + 1 by omega]
          by_cases e2 : n + 1 < ds.length
          · rw [if_pos e2] at hy ⊢
            exact hy
          · rw [if_neg e2] at hy ⊢
            rw [if_pos (by omega)]
            exact hy
        rw [at_map ea, at_map eb] at this
        exact Option.some.inj this
    · intro h
      refine ⟨fun i => ?_, fun i => ?_⟩
      · by_cases hi : 2 * i < ds.length
        · obtain ⟨x, hx⟩ := at_some (xs := ds) hi
          obtain ⟨y, hy⟩ := at_some (xs := ds) (i := 2 * i + 1) (by omega)
          rw [at_map hx, at_map hy]
          have := h (2 * i) x y hx (by unfold nx; rw [if_pos (by omega)]; exact hy)
          rw [if_pos (by omega)] at this
          rw [this]
        · rw [List.getElem?_eq_none (by rw [List.length_map]; omega), List.getElem?_eq_none (by rw [List.length_map]; omega)]
      · by_cases hi : 2 * i < ds.length
        · obtain ⟨x, hx⟩ := at_some (xs := ds) (i := 2 * i + 1) (by omega)
          have ea : (rot ds)[2 * i]? = some x := by
            rw [rot_at ne, if_pos (by omega), hx]
          obtain ⟨y, hy⟩ := at_some (xs := rot ds) (i := 2 * i + 1) (by rw [rot_len]; omega)
          have hy' := hy
          rw [rot_at ne] at hy'
          have hn : ds[nx ds (2 * i + 1)]? = some y := by
            unfold nx
            by_cases e2 : 2 * i + 1 + 1 < ds.length
            · rw [if_pos e2] at hy' ⊢
              exact hy'
            · rw [if_neg e2] at hy' ⊢
              rw [if_pos (by omega)] at hy'
              exact hy'
          have := h (2 * i + 1) x y hx hn
          rw [if_neg (by omega)] at this
          rw [at_map ea, at_map hy, this]
        · rw [List.getElem?_eq_none (by rw [List.length_map, rot_len]; omega), List.getElem?_eq_none (by rw [List.length_map, rot_len]; omega)]
  have counts : ∀ x, ((rot ds).map (bk r)).count x = (ds.map (bk r)).count x := rot_count ds (bk r)
  have rmem : ∀ x, x ∈ (rot ds).map (bk r) ↔ x ∈ ds.map (bk r) := fun x => by
    rw [← List.count_pos_iff, ← List.count_pos_iff, counts]
  have rl : ds.length % 2 = 0 → ((rot ds).map (bk r)).length % 2 = 0 := fun h => by
    rw [List.length_map, rot_len]
    exact h
  constructor
  · rintro ⟨ne, e, rng, nd, l, h, ls, hs⟩
    have hpos := List.length_pos_iff.mpr ne
    refine ⟨by omega, e, rng, nd, (twos ne e).mp ⟨ls, hs⟩, ?_, ?_⟩
    · exact (map_all fun x => (ds.map (bk p)).count x = 2).mp ((twos_nodup (by rw [List.length_map]; exact e) ls).mpr l)
    · have := (twos_nodup (rl e) hs).mpr h
      refine (map_all fun x => (ds.map (bk r)).count x = 2).mp fun x hx => ?_
      rw [← counts]
      exact this x ((rmem x).mpr hx)
  · rintro ⟨ln, e, rng, nd, st, l, h⟩
    have ne : ds ≠ [] := fun e => by
      rw [e] at ln
      simp at ln
    obtain ⟨ls, hs⟩ := (twos ne e).mpr st
    refine ⟨ne, e, rng, nd, (twos_nodup (by rw [List.length_map]; exact e) ls).mp ((map_all fun x => (ds.map (bk p)).count x = 2).mpr l), (twos_nodup (rl e) hs).mp fun x hx => ?_, ls, hs⟩
    rw [counts]
    exact (map_all fun x => (ds.map (bk r)).count x = 2).mpr h x ((rmem x).mp hx)
end KQ
namespace KQ
open PySem PySem.Spec PyProof.Rows L2 KR KM
/-! ### doors found ahead of one another -/
structure Ent where
  d : Int
  s : Int
  par : Int
  q : Nat
def kvsOf (st : Int) (E : List Ent) : List (L2.Key × V) := (kI st, V.non) :: E.map fun e => (kI e.d, V.int e.par)
def Qu (B : List Int) (st : Int) (E : List Ent) : List (Int × Int) := B.map (fun b => (b, st)) ++ E.map fun e => (1 - e.s, e.d)
def prt (p r : List Int) (s : Int) : List Int := if s = 0 then p else r
structure Bfs (p r B : List Int) (st : Int) (N : Nat) (E : List Ent) : Prop where
  keys : (st :: E.map Ent.d).Nodup
  rng : ∀ e ∈ E, 0 ≤ e.d ∧ e.d < N
  par : ∀ k e, E[k]? = some e → e.q < B.length + k ∧ (Qu B st E)[e.q]? = some (e.s, e.par) ∧ bk (prt p r e.s) e.d = bk (prt p r e.s) e.par
  apart : ∀ e ∈ E, ∀ j w x, j < e.q → (Qu B st E)[j]? = some (w, x) → bk (prt p r w) e.d ≠ bk (prt p r w) x
/-- all doors up to n in the block of what stands at j in the row are found -/
def FullTo (p r B : List Int) (st : Int) (E : List Ent) (j n : Nat) : Prop := ∀ w x, (Qu B st E)[j]? = some (w, x) → ∀ d : Int, 0 ≤ d → d < n → bk (prt p r w) d = bk (prt p r w) x → d ∈ st :: E.map Ent.d
theorem qu_len (B : List Int) (st : Int) (E : List Ent) : (Qu B st E).length = B.length + E.length := by
  unfold Qu
  rw [List.length_append, List.length_map, List.length_map]
theorem qu_snoc (B : List Int) (st : Int) (E : List Ent) (e : Ent) : Qu B st (E ++ [e]) = Qu B st E ++ [(1 - e.s, e.d)] := by
  unfold Qu
  rw [List.map_append, ← List.append_assoc]
  rfl
theorem qu_keep {B : List Int} {st : Int} {E : List Ent} {j : Nat} (e : Ent) (h : j < (Qu B st E).length) : (Qu B st (E ++ [e]))[j]? = (Qu B st E)[j]? := by
  rw [qu_snoc, List.getElem?_append_left h]
theorem full_keep {p r B : List Int} {st : Int} {E : List Ent} {j n : Nat} (e : Ent) (h : j < (Qu B st E).length) (f : FullTo p r B st E j n) : FullTo p r B st (E ++ [e]) j n := by
  intro w x hq d d0 d1 hb
  rw [qu_keep e h] at hq
  have := f w x hq d d0 d1 hb
  rw [List.map_append, ← List.cons_append]
  exact List.mem_append_left _ this
theorem bfs_add {p r B : List Int} {st : Int} {N : Nat} {E : List Ent} (h : Bfs p r B st N E) {a : Nat} {w x d : Int} (full : ∀ j, j < a → FullTo p r B st E j N)
    (hq : (Qu B st E)[a]? = some (w, x)) (d0 : 0 ≤ d) (d1 : d < N) (nd : d ∉ st :: E.map Ent.d) (hb : bk (prt p r w) d = bk (prt p r w) x) : Bfs p r B st N (E ++ [⟨d, w, x, a⟩]) := by
  have ha := (List.getElem?_eq_some_iff.mp hq).1
  have hal := ha
  rw [qu_len] at hal
  refine ⟨?_, fun e he => ?_, fun k e hk => ?_, fun e he j w' x' hj hq' => ?_⟩
  · rw [List.map_append, ← List.cons_append, List.nodup_append]
    exact ⟨h.keys, by simp, fun u hu v hv e => nd (by rw [List.map_cons, List.map_nil, List.mem_singleton] at hv; exact (e.trans hv : u = d) ▸ hu)⟩
  · rcases List.mem_append.mp he with he | he
    · exact h.rng e he
    · rw [List.mem_singleton.mp he]
      exact ⟨d0, d1⟩
  · by_cases hkl : k < E.length
    · rw [List.getElem?_append_left hkl] at hk
      obtain ⟨h1, h2, h3⟩ := h.par k e hk
      refine ⟨h1, ?_, h3⟩
      rw [qu_keep _ (List.getElem?_eq_some_iff.mp h2).1]
      exact h2
    · have hk2 := (List.getElem?_eq_some_iff.mp hk).1
      rw [List.length_append, List.length_singleton] at hk2
      have : k = E.length := by omega
      subst this
      rw [List.getElem?_append_right (Nat.le_refl _), Nat.sub_self] at hk
      obtain rfl := Option.some.inj hk
      exact ⟨hal, by rw [qu_keep _ ha]; exact hq, hb⟩
  · rcases List.mem_append.mp he with he | he
    · obtain ⟨k, hk⟩ := List.mem_iff_getElem?.mp he
      have := (h.par k e hk).1
      have hk2 := (List.getElem?_eq_some_iff.mp hk).1
      have hjl : j < (Qu B st E).length := by
        rw [qu_len]
        omega
      rw [qu_keep _ hjl] at hq'
      exact h.apart e he j w' x' hj hq'
    · rw [List.mem_singleton.mp he] at hj ⊢
      have hj' : j < a := hj
      rw [qu_keep _ (by omega)] at hq'
      exact fun e => nd (full j hj' w' x' hq' d d0 d1 e)
theorem full_next {p r B : List Int} {st : Int} {E : List Ent} {a n : Nat} (f : FullTo p r B st E a n) (hn : ∀ w x, (Qu B st E)[a]? = some (w, x) → bk (prt p r w) (n : Int) = bk (prt p r w) x → ((n : Nat) : Int) ∈ st :: E.map Ent.d) :
    FullTo p r B st E a (n + 1) := by
  intro w x hq d d0 d1 hb
  by_cases e : d = n
  · subst e
    exact hn w x hq hb
  · exact f w x hq d d0 (by omega) hb
theorem bfs_len {p r B : List Int} {st : Int} {N : Nat} {E : List Ent} (h : Bfs p r B st N E) : E.length ≤ N := by
  have := sub_len (xs := E.map Ent.d) (ys := (List.range N).map fun n => ((n : Nat) : Int)) (List.nodup_cons.mp h.keys).2 fun x hx => by
    obtain ⟨e, he, rfl⟩ := List.mem_map.mp hx
    obtain ⟨h0, h1⟩ := h.rng e he
    exact List.mem_map.mpr ⟨e.d.toNat, List.mem_range.mpr (by omega), by omega⟩
  rw [List.length_map, List.length_map, List.length_range] at this
  exact this
/-- the row's places, from the first one on, each found by the one before it -/
inductive Path (b : Nat) (E : List Ent) : List Nat → Prop
  | base {j : Nat} : j < b → Path b E [j]
  | step {k : Nat} {e : Ent} {ks : List Nat} : E[k]? = some e → Path b E ks → ks.getLast? = some e.q → Path b E (ks ++ [b + k])
theorem path_ex {p r B : List Int} {st : Int} {N : Nat} {E : List Ent} (h : Bfs p r B st N E) : ∀ n j : Nat, j < n → j < (Qu B st E).length → ∃ ks, Path B.length E ks ∧ ks.getLast? = some j := by
  intro n
  induction n with
  | zero => exact fun j hj => absurd hj (Nat.not_lt_zero _)
  | succ n ih =>
    intro j hj hl
    by_cases hb : j < B.length
    · exact ⟨[j], .base hb, rfl⟩
    · rw [qu_len] at hl
      obtain ⟨e, he⟩ := at_some (xs := E) (i := j - B.length) (by omega)
      obtain ⟨h1, h2, _⟩ := h.par _ e he
      obtain ⟨ks, hks, hlast⟩ := ih e.q (by omega) (List.getElem?_eq_some_iff.mp h2).1
      refine ⟨ks ++ [B.length + (j - B.length)], .step he hks hlast, ?_⟩
      rw [List.getLast?_concat]
      congr 1
      omega
def dr (B : List Int) (st : Int) (E : List Ent) (j : Nat) : Int := ((Qu B st E)[j]?.getD (0, 0)).2
def fl (B : List Int) (st : Int) (E : List Ent) (j : Nat) : Int := ((Qu B st E)[j]?.getD (0, 0)).1
section
variable {p r B : List Int} {st : Int} {N : Nat} {E : List Ent}
theorem qu_at {j : Nat} {w x : Int} (h : (Qu B st E)[j]? = some (w, x)) : dr B st E j = x ∧ fl B st E j = w := by
  unfold dr fl
  rw [h]
  exact ⟨rfl, rfl⟩
theorem qu_ent {k : Nat} {e : Ent} (h : E[k]? = some e) : (Qu B st E)[B.length + k]? = some (1 - e.s, e.d) := by
  unfold Qu
  rw [List.getElem?_append_right (by rw [List.length_map]; omega), List.length_map, Nat.add_sub_cancel_left, at_map (f := fun e : Ent => (1 - e.s, e.d)) h]
theorem qu_base {j : Nat} (h : j < B.length) : ∃ b, B[j]? = some b ∧ (Qu B st E)[j]? = some (b, st) := by
  obtain ⟨b, hb⟩ := at_some h
  refine ⟨b, hb, ?_⟩
  unfold Qu
  rw [List.getElem?_append_left (by rw [List.length_map]; exact h), at_map (f := fun b : Int => (b, st)) hb]
theorem path_ne {b : Nat} {ks : List Nat} (h : Path b E ks) : ks ≠ [] := by
  cases h with
  | base => simp
  | step => simp
theorem last_at {α : Type} {ks : List α} {x : α} (h : ks.getLast? = some x) : ks ≠ [] ∧ ks[ks.length - 1]? = some x := by
  rw [List.getLast?_eq_getElem?] at h
  refine ⟨fun e => by rw [e] at h; simp at h, h⟩
/-- what holds of two that stand one behind the other -/
structure Next (p r B : List Int) (st : Int) (E : List Ent) (ks : List Nat) (i x y : Nat) : Prop where
  lt : x < y
  turn : fl B st E y = 1 - fl B st E x
  blk : bk (prt p r (fl B st E x)) (dr B st E y) = bk (prt p r (fl B st E x)) (dr B st E x)
  far : ∀ j z, j < i → ks[j]? = some z → bk (prt p r (fl B st E z)) (dr B st E y) ≠ bk (prt p r (fl B st E z)) (dr B st E z)
theorem path_next (h : Bfs p r B st N E) : ∀ {ks : List Nat}, Path B.length E ks → (∀ (i j x y : Nat), i < j → ks[i]? = some x → ks[j]? = some y → x < y) ∧ (∀ x ∈ ks, x < (Qu B st E).length) ∧ ∀ i x y, ks[i]? = some x → ks[i + 1]? = some y → Next p r B st E ks i x y := by
  intro ks hp
  induction hp with
  | base hj =>
    refine ⟨fun i j x y hij hi hj' => ?_, fun x hx => ?_, fun i x y hi hi1 => ?_⟩
    · have := (List.getElem?_eq_some_iff.mp hj').1
      rw [List.length_singleton] at this
      omega
    · rw [List.mem_singleton.mp hx, qu_len]
      omega
    · have := (List.getElem?_eq_some_iff.mp hi1).1
      rw [List.length_singleton] at this
      omega
  | @step k e ks he hks hlast ih =>
    obtain ⟨up, bd, nxt⟩ := ih
    obtain ⟨ne, hl⟩ := last_at hlast
    have hpos := List.length_pos_iff.mpr ne
    obtain ⟨h1, h2, h3⟩ := h.par k e he
    have hk := (List.getElem?_eq_some_iff.mp he).1
    obtain ⟨q1, q2⟩ := qu_at h2
    obtain ⟨q3, q4⟩ := qu_at (qu_ent (B := B) (st := st) he)
    have old : ∀ i x, (ks ++ [B.length + k])[i]? = some x → (i < ks.length ∧ ks[i]? = some x) ∨ (i = ks.length ∧ x = B.length + k) := by
      intro i x hi
      by_cases hil : i < ks.length
      · rw [List.getElem?_append_left hil] at hi
        exact .inl ⟨hil, hi⟩
      · have := (List.getElem?_eq_some_iff.mp hi).1
        rw [List.length_append, List.length_singleton] at this
        have e2 : i = ks.length := by omega
        subst e2
        rw [List.getElem?_append_right (Nat.le_refl _), Nat.sub_self] at hi
        exact .inr ⟨rfl, (Option.some.inj hi).symm⟩
    have lt_last : ∀ i x, ks[i]? = some x → x ≤ e.q := fun i x hi => by
      have := (List.getElem?_eq_some_iff.mp hi).1
      by_cases e2 : i = ks.length - 1
      · rw [e2, hl] at hi
        obtain rfl := Option.some.inj hi
        exact Nat.le_refl _
      · exact Nat.le_of_lt (up i (ks.length - 1) x e.q (by omega) hi hl)
    refine ⟨fun i j x y hij hi hj => ?_, fun x hx => ?_, fun i x y hi hi1 => ?_⟩
    · rcases old j y hj with ⟨jl, hj⟩ | ⟨rfl, rfl⟩
      · rcases old i x hi with ⟨il, hi⟩ | ⟨rfl, rfl⟩
        · exact up i j x y hij hi hj
        · omega
      · rcases old i x hi with ⟨il, hi⟩ | ⟨rfl, rfl⟩
        · have := lt_last i x hi
          omega
        · omega
    · rcases List.mem_append.mp hx with hx | hx
      · exact bd x hx
      · rw [List.mem_singleton.mp hx, qu_len]
        omega
    · rcases old (i + 1) y hi1 with ⟨jl, hj⟩ | ⟨e2, rfl⟩
      · rcases old i x hi with ⟨il, hi'⟩ | ⟨rfl, rfl⟩
        · obtain ⟨a, b, c, d⟩ := nxt i x y hi' hj
          exact ⟨a, b, c, fun j z hji hz => by
            rcases old j z hz with ⟨zl, hz⟩ | ⟨rfl, rfl⟩
            · exact d j z hji hz
            · omega⟩
        · omega
      · rcases old i x hi with ⟨il, hi'⟩ | ⟨rfl, rfl⟩
        · have ei : i = ks.length - 1 := by omega
          rw [ei, hl] at hi'
          obtain rfl := Option.some.inj hi'
          refine ⟨h1, ?_, ?_, fun j z hji hz => ?_⟩
          · rw [q4, q2]
          · rw [q2, q3, q1]
            exact h3
          · rcases old j z hz with ⟨zl, hz⟩ | ⟨rfl, rfl⟩
            · have zlt : z < e.q := up j (ks.length - 1) z e.q (by omega) hz hl
              rw [q3]
              have hzl : z < (Qu B st E).length := bd z (List.mem_of_getElem? hz)
              obtain ⟨⟨w', x'⟩, hz2⟩ := at_some hzl
              obtain ⟨r1, r2⟩ := qu_at hz2
              rw [r1, r2]
              exact h.apart e (List.mem_of_getElem? he) z w' x' zlt hz2
            · omega
        · omega
theorem val_start : valV (kvsOf st E) (kI st) = some .non := by
  unfold kvsOf valV
  simp
theorem val_ent (h : (st :: E.map Ent.d).Nodup) {k : Nat} {e : Ent} (he : E[k]? = some e) : valV (kvsOf st E) (kI e.d) = some (.int e.par) := by
  have hm := List.mem_of_getElem? he
  unfold kvsOf valV
  have hs : st ≠ e.d := fun q => (List.nodup_cons.mp h).1 (q ▸ List.mem_map_of_mem hm)
  have hn := (List.nodup_cons.mp h).2
  have go : ∀ E : List Ent, (E.map Ent.d).Nodup → e ∈ E → ((E.map fun e => (kI e.d, V.int e.par)).find? fun kv => decide (kv.1 = kI e.d)) = some (kI e.d, V.int e.par) := by
    intro E
    induction E with
    | nil => exact fun _ hm => absurd hm (by simp)
    | cons f E ih =>
      intro hn hm
      rw [List.map_cons, List.nodup_cons] at hn
      rw [List.map_cons, List.find?_cons]
      rcases List.mem_cons.mp hm with q | q
      · subst q
        simp
      · have hne : f.d ≠ e.d := fun z => hn.1 (z ▸ List.mem_map_of_mem q)
        have : decide ((kI f.d, V.int f.par).1 = kI e.d) = false := decide_eq_false fun z => hne (kI_inj _ _ z)
        rw [this]
        exact ih hn.2 q
  rw [List.find?_cons]
  have : decide ((kI st, V.non).1 = kI e.d) = false := decide_eq_false fun z => hs (kI_inj _ _ z)
  rw [this]
  rw [go E hn hm]
  rfl
theorem path_back (h : Bfs p r B st N E) {ks : List Nat} (hp : Path B.length E ks) : Back (kvsOf st E) (ks.map (dr B st E)).reverse := by
  induction hp with
  | base hj =>
    obtain ⟨b, _, hq⟩ := qu_base (st := st) (E := E) hj
    show valV (kvsOf st E) (kI (dr B st E _)) = some .non
    rw [(qu_at hq).1]
    exact val_start
  | @step k e ks he hks hlast ih =>
    obtain ⟨ne, hl⟩ := last_at hlast
    obtain ⟨h1, h2, h3⟩ := h.par k e he
    rw [List.map_append, List.reverse_append]
    show Back (kvsOf st E) (dr B st E (B.length + k) :: (ks.map (dr B st E)).reverse)
    have hc : (ks.map (dr B st E)).reverse = e.par :: (ks.map (dr B st E)).reverse.tail := by
      have : (ks.map (dr B st E)).reverse.head? = some e.par := by
        rw [List.head?_reverse, List.getLast?_map, hlast]
        show some (dr B st E e.q) = _
        rw [(qu_at h2).1]
      cases hh : (ks.map (dr B st E)).reverse with
      | nil => rw [hh] at this; cases this
      | cons a t =>
        rw [hh] at this
        obtain rfl := Option.some.inj this
        rfl
    rw [hc] at ih ⊢
    rw [(qu_at (qu_ent he)).1]
    exact ⟨val_ent h.keys he, ih⟩
end
end KQ
namespace KQ
open PySem PySem.Spec PyProof.Rows L2 KR KM
theorem glue_fold {S : Nat → Prop} : ∀ (ts : List (Nat × Nat)) (R : Nat → Nat → Prop), (∀ x y, R x y → (S x ↔ S y)) → (∀ t ∈ ts, S t.1 ↔ S t.2) → ∀ x y, ts.foldl (fun R t => J R t.1 t.2) R x y → (S x ↔ S y)
  | [], R, h, _, x, y, q => h x y q
  | t :: ts, R, h, ht, x, y, q => by
    refine glue_fold ts (J R t.1 t.2) (fun a b hab => ?_) (fun u hu => ht u (List.mem_cons_of_mem _ hu)) x y q
    have t0 := ht t List.mem_cons_self
    rcases hab with q | ⟨q1, q2⟩ | ⟨q1, q2⟩
    · exact h _ _ q
    · exact (h _ _ q1).trans (t0.trans (h _ _ q2))
    · exact (h _ _ q1).trans (t0.symm.trans (h _ _ q2))
theorem glue_keep {S : Nat → Prop} {ts : List (Nat × Nat)} (h : ∀ t ∈ ts, S t.1 ↔ S t.2) {x y : Nat} (g : glue ts x y) : S x ↔ S y :=
  glue_fold ts Eq (fun _ _ e => by rw [e]) h x y g
section
variable {p r : List Int} {st : Int} {N : Nat} {E : List Ent}
theorem bk_at {p : List Int} {d : Int} {x : Int} (h : p[d.toNat]? = some x) : bk p d = x := by
  unfold bk
  rw [List.getD_eq_getElem?_getD, h]
  rfl
theorem bk_some {p : List Int} {d : Int} (d0 : 0 ≤ d) (d1 : d < p.length) : p[d.toNat]? = some (bk p d) := by
  obtain ⟨x, hx⟩ := at_some (xs := p) (i := d.toNat) (by omega)
  rw [hx, bk_at hx]
theorem bk_rng (par : Par p) {d : Int} (d0 : 0 ≤ d) (d1 : d < p.length) : 0 ≤ bk p d ∧ bk p d < bc 0 p :=
  (rg_mem 0 p (Int.le_refl _) par.rg).1 _ (List.mem_of_getElem? (bk_some d0 d1))
theorem mem_keys {d : Int} : d ∈ st :: E.map Ent.d ↔ d = st ∨ ∃ e ∈ E, e.d = d := by
  rw [List.mem_cons, List.mem_map]
/-- where nothing found has the first door's block of the other one, it closes no ring -/
theorem no_ring_at (par : Par p) (parr : Par r) (hl : p.length = r.length) (s0 : 0 ≤ st) (s1 : st < p.length) (hN : (N : Int) = st) (h : Bfs p r [0] st N E) (full : ∀ j, j < (Qu [0] st E).length → FullTo p r [0] st E j N)
    (no : ∀ e ∈ E, bk r e.d ≠ bk r st) : ¬ RingAt p r st.toNat := by
  rintro ⟨x, y, hx, hy, hg⟩
  have ex := bk_at hx
  have ey := bk_at hy
  have px := bk_rng par s0 s1
  have py := bk_rng parr s0 (by omega)
  have g := glue_keep (S := fun u => (∃ d, d ∈ st :: E.map Ent.d ∧ u = (bk p d).toNat) ∨ ∃ e ∈ E, u = (bc 0 p + bk r e.d).toNat) ?_ hg
  · rcases g.mp (.inl ⟨st, List.mem_cons_self, by rw [ex]⟩) with ⟨d, hd, ed⟩ | ⟨e, he, eq⟩
    · have dr : 0 ≤ d ∧ d < p.length := by
        rcases mem_keys.mp hd with rfl | ⟨e, he, rfl⟩
        · exact ⟨s0, s1⟩
        · have := h.rng e he
          omega
      have := bk_rng par dr.1 dr.2
      omega
    · have := h.rng e he
      have := bk_rng parr (d := e.d) (by omega) (by omega)
      exact no e he (by omega)
  intro t ht
  obtain ⟨i, hi⟩ := List.mem_iff_getElem?.mp ht
  have il := (List.getElem?_eq_some_iff.mp hi).1
  rw [List.length_take, ties_len hl] at il
  rw [List.getElem?_take_of_lt (by omega)] at hi
  obtain ⟨u, hu⟩ := at_some (xs := p) (i := i) (by omega)
  obtain ⟨v, hv⟩ := at_some (xs := r) (i := i) (by omega)
  rw [ties_at hu hv] at hi
  obtain rfl := Option.some.inj hi
  have bu : bk p (i : Int) = u := bk_at (by rw [Int.toNat_natCast]; exact hu)
  have bv : bk r (i : Int) = v := bk_at (by rw [Int.toNat_natCast]; exact hv)
  have ru := bk_rng par (d := (i : Int)) (by omega) (by omega)
  have rv := bk_rng parr (d := (i : Int)) (by omega) (by omega)
  rw [bu] at ru
  rw [bv] at rv
  have iN : (i : Int) < N := by omega
  have all : ∀ (j : Nat) (w x : Int), (Qu [0] st E)[j]? = some (w, x) → bk (prt p r w) (i : Int) = bk (prt p r w) x → (i : Int) ∈ st :: E.map Ent.d := fun j w x hq hb =>
    full j (List.getElem?_eq_some_iff.mp hq).1 w x hq i (by omega) iN hb
  have ne_st : (i : Int) ≠ st := by omega
  have ent : (i : Int) ∈ st :: E.map Ent.d → ∃ e ∈ E, e.d = (i : Int) := fun hm => (mem_keys.mp hm).resolve_left ne_st
  have viaE : ∀ (k : Nat) (e : Ent), E[k]? = some e → ∀ w, w = 0 ∨ w = 1 → bk (prt p r w) (i : Int) = bk (prt p r w) e.d → e.s = 0 ∨ e.s = 1 → (i : Int) ∈ st :: E.map Ent.d := by
    intro k e he w hw hb hs
    obtain ⟨_, h2, h3⟩ := h.par k e he
    by_cases e1 : w = e.s
    · subst e1
      exact all _ _ _ h2 (hb.trans h3)
    · have e2 : w = 1 - e.s := by omega
      subst e2
      exact all _ _ _ (qu_ent he) hb
  have sides : ∀ (n k : Nat) (e : Ent), k < n → E[k]? = some e → e.s = 0 ∨ e.s = 1 := by
    intro n
    induction n with
    | zero => exact fun k e hk => absurd hk (Nat.not_lt_zero _)
    | succ n ih =>
      intro k e hk he
      obtain ⟨h1, h2, _⟩ := h.par k e he
      by_cases e0 : e.q < ([0] : List Int).length
      · obtain ⟨b, hb, hq⟩ := qu_base (st := st) (E := E) e0
        rw [hq] at h2
        have : b = e.s := (Prod.mk.inj (Option.some.inj h2)).1
        have q0 : e.q = 0 := by simpa using e0
        rw [q0] at hb
        exact .inl (this ▸ (Option.some.inj hb).symm)
      · have hql : e.q < (Qu [0] st E).length := (List.getElem?_eq_some_iff.mp h2).1
        rw [qu_len] at hql
        obtain ⟨e', he'⟩ := at_some (xs := E) (i := e.q - 1) (by simp at hql e0; omega)
        have := qu_ent (B := [0]) (st := st) he'
        rw [show ([0] : List Int).length + (e.q - 1) = e.q by simp at e0 ⊢; omega, h2] at this
        have hs : e.s = 1 - e'.s := (Prod.mk.inj (Option.some.inj this)).1
        have := ih (e.q - 1) e' (by simp at h1 e0; omega) he'
        omega
  show ((∃ d, d ∈ st :: E.map Ent.d ∧ u.toNat = (bk p d).toNat) ∨ ∃ e ∈ E, u.toNat = (bc 0 p + bk r e.d).toNat) ↔ ((∃ d, d ∈ st :: E.map Ent.d ∧ (bc 0 p + v).toNat = (bk p d).toNat) ∨ ∃ e ∈ E, (bc 0 p + v).toNat = (bc 0 p + bk r e.d).toNat)
  have drng : ∀ d, d ∈ st :: E.map Ent.d → 0 ≤ d ∧ d < p.length := fun d hd => by
    rcases mem_keys.mp hd with rfl | ⟨e, he, rfl⟩
    · exact ⟨s0, s1⟩
    · have := h.rng e he
      omega
  constructor
  · rintro (⟨d, hd, ed⟩ | ⟨e, he, eq⟩)
    · have := drng d hd
      have := bk_rng par this.1 this.2
      have eb : bk p (i : Int) = bk p d := by omega
      have im : (i : Int) ∈ st :: E.map Ent.d := by
        rcases mem_keys.mp hd with rfl | ⟨e, he, rfl⟩
        · refine all 0 0 d (by rfl) ?_
          exact eb
        · obtain ⟨k, hk⟩ := List.mem_iff_getElem?.mp he
          exact viaE k e hk 0 (.inl rfl) eb (sides (k + 1) k e (Nat.lt_succ_self _) hk)
      obtain ⟨e, he, ed⟩ := ent im
      exact .inr ⟨e, he, by rw [ed, bv]⟩
    · have := h.rng e he
      have := bk_rng parr (d := e.d) (by omega) (by omega)
      omega
  · rintro (⟨d, hd, ed⟩ | ⟨e, he, eq⟩)
    · have := drng d hd
      have := bk_rng par this.1 this.2
      omega
    · have := h.rng e he
      have := bk_rng parr (d := e.d) (by omega) (by omega)
      have eb : bk r (i : Int) = bk r e.d := by omega
      obtain ⟨k, hk⟩ := List.mem_iff_getElem?.mp he
      have im := viaE k e hk 1 (.inr rfl) eb (sides (k + 1) k e (Nat.lt_succ_self _) hk)
      exact .inl ⟨i, im, by rw [bu]⟩
theorem side01 (h : Bfs p r [0] st N E) : ∀ (n k : Nat) (e : Ent), k < n → E[k]? = some e → e.s = 0 ∨ e.s = 1 := by
  intro n
  induction n with
  | zero => exact fun k e hk => absurd hk (Nat.not_lt_zero _)
  | succ n ih =>
    intro k e hk he
    obtain ⟨h1, h2, _⟩ := h.par k e he
    by_cases e0 : e.q < ([0] : List Int).length
    · obtain ⟨b, hb, hq⟩ := qu_base (st := st) (E := E) e0
      rw [hq] at h2
      have : b = e.s := (Prod.mk.inj (Option.some.inj h2)).1
      have q0 : e.q = 0 := by simpa using e0
      rw [q0] at hb
      exact .inl (this ▸ (Option.some.inj hb).symm)
    · have hql : e.q < (Qu [0] st E).length := (List.getElem?_eq_some_iff.mp h2).1
      rw [qu_len] at hql
      obtain ⟨e', he'⟩ := at_some (xs := E) (i := e.q - 1) (by simp at hql e0; omega)
      have := qu_ent (B := [0]) (st := st) he'
      rw [show ([0] : List Int).length + (e.q - 1) = e.q by simp at e0 ⊢; omega, h2] at this
      have hs : e.s = 1 - e'.s := (Prod.mk.inj (Option.some.inj this)).1
      have := ih (e.q - 1) e' (by simp at h1 e0; omega) he'
      omega
/-- what is found hangs together with the first door's block -/
theorem found_glue (hl : p.length = r.length) (s0 : 0 ≤ st) (s1 : st < p.length) (hN : (N : Int) = st) (h : Bfs p r [0] st N E) : ∀ (n k : Nat) (e : Ent), k < n → E[k]? = some e → glue ((tiesOf p r).take N) (bk p st).toNat (bk p e.d).toNat := by
  have tie : ∀ d : Int, 0 ≤ d → d < N → glue ((tiesOf p r).take N) (bk p d).toNat (bc 0 p + bk r d).toNat := fun d d0 d1 => by
    refine glue_mem (t := ((bk p d).toNat, (bc 0 p + bk r d).toNat)) (List.mem_of_getElem? (i := d.toNat) ?_)
    rw [List.getElem?_take_of_lt (by omega)]
    exact ties_at (bk_some d0 (by omega)) (bk_some d0 (by omega))
  have G := glue_eqv ((tiesOf p r).take N)
  intro n
  induction n with
  | zero => exact fun k e hk => absurd hk (Nat.not_lt_zero _)
  | succ n ih =>
    intro k e hk he
    obtain ⟨h1, h2, h3⟩ := h.par k e he
    have er := h.rng e (List.mem_of_getElem? he)
    have pr : e.par = st ∧ e.s = 0 ∨ ∃ e', E[e.q - 1]? = some e' ∧ e.q - 1 < n ∧ e.par = e'.d := by
      by_cases e0 : e.q < ([0] : List Int).length
      · obtain ⟨b, hb, hq⟩ := qu_base (st := st) (E := E) e0
        rw [hq] at h2
        have q0 : e.q = 0 := by simpa using e0
        rw [q0] at hb
        have q1 : b = 0 := (Option.some.inj hb).symm
        exact .inl ⟨(Prod.mk.inj (Option.some.inj h2)).2.symm, (Prod.mk.inj (Option.some.inj h2)).1 ▸ q1⟩
      · have hql : e.q < (Qu [0] st E).length := (List.getElem?_eq_some_iff.mp h2).1
        rw [qu_len] at hql
        obtain ⟨e', he'⟩ := at_some (xs := E) (i := e.q - 1) (by simp at hql e0; omega)
        have := qu_ent (B := [0]) (st := st) he'
        rw [show ([0] : List Int).length + (e.q - 1) = e.q by simp at e0 ⊢; omega, h2] at this
        exact .inr ⟨e', he', by simp at h1 e0; omega, (Prod.mk.inj (Option.some.inj this)).2⟩
    rcases pr with ⟨e1, e2⟩ | ⟨e', he', hn, e1⟩
    · rw [e1, e2] at h3
      have h3' : bk p e.d = bk p st := h3
      rw [h3']
      exact G.refl _
    · have g := ih _ e' hn he'
      have er' := h.rng e' (List.mem_of_getElem? he')
      rw [e1] at h3
      rcases side01 h (k + 1) k e (Nat.lt_succ_self _) he with e2 | e2
      · rw [e2] at h3
        have h3' : bk p e.d = bk p e'.d := h3
        rw [h3']
        exact g
      · rw [e2] at h3
        have h3' : bk r e.d = bk r e'.d := h3
        refine G.trans _ _ _ g (G.trans _ _ _ (tie e'.d er'.1 er'.2) ?_)
        rw [← h3']
        exact G.symm _ _ (tie e.d er.1 er.2)
theorem ring_at (hl : p.length = r.length) (s0 : 0 ≤ st) (s1 : st < p.length) (hN : (N : Int) = st) (h : Bfs p r [0] st N E) {e : Ent} (he : e ∈ E) (hb : bk r e.d = bk r st) : RingAt p r st.toNat := by
  obtain ⟨k, hk⟩ := List.mem_iff_getElem?.mp he
  have er := h.rng e he
  refine ⟨bk p st, bk r st, bk_some s0 s1, bk_some s0 (by omega), ?_⟩
  have g := found_glue hl s0 s1 hN h (k + 1) k e (Nat.lt_succ_self _) hk
  have G := glue_eqv ((tiesOf p r).take N)
  rw [show st.toNat = N by omega]
  refine G.trans _ _ _ g ?_
  rw [← hb]
  refine glue_mem (t := ((bk p e.d).toNat, (bc 0 p + bk r e.d).toNat)) (List.mem_of_getElem? (i := e.d.toNat) ?_)
  rw [List.getElem?_take_of_lt (by omega)]
  exact ties_at (bk_some er.1 (by omega)) (bk_some er.1 (by omega))
/-- the way to the first one found with the first door's block of the other one is a ring -/
theorem ring_of (hl : p.length = r.length) (s0 : 0 ≤ st) (s1 : st < p.length) (hN : (N : Int) = st) (h : Bfs p r [0] st N E) {k : Nat} {e : Ent} (he : E[k]? = some e) (hb : bk r e.d = bk r st)
    (first : ∀ k' e', k' < k → E[k']? = some e' → bk r e'.d ≠ bk r st) {ks : List Nat} (hp : Path 1 E ks) (hlast : ks.getLast? = some (1 + k)) :
    IsRing p r (ks.map (dr [0] st E)) ∧ (ks.map (dr [0] st E))[0]? = some st ∧ ∀ d ∈ ks.map (dr [0] st E), d ≤ st := by
  obtain ⟨up, bd, nxt⟩ := path_next (B := [0]) h hp
  obtain ⟨ne, hl1⟩ := last_at hlast
  have hpos := List.length_pos_iff.mpr ne
  have z0 : ∀ j : Nat, j < 1 → j = 0 := fun j hj => by omega
  have q0 : (Qu [0] st E)[0]? = some (0, st) := rfl
  -- the first place
  have h0 : ks[0]? = some 0 := by
    clear hlast hl1 first
    induction hp with
    | base hj => rw [z0 _ hj]; rfl
    | @step k e ks he hks hl2 ih =>
      obtain ⟨ne2, _⟩ := last_at hl2
      obtain ⟨a, b, c⟩ := path_next (B := [0]) h hks
      rw [List.getElem?_append_left (List.length_pos_iff.mpr ne2)]
      exact ih a b c ne2 (List.length_pos_iff.mpr ne2)
  have flag : ∀ (i x : Nat), ks[i]? = some x → fl [0] st E x = ((i % 2 : Nat) : Int) := by
    intro i
    induction i with
    | zero =>
      intro x hx
      rw [h0] at hx
      obtain rfl := Option.some.inj hx
      rfl
    | succ i ih =>
      intro y hy
      obtain ⟨x, hx⟩ := at_some (xs := ks) (i := i) (by have := (List.getElem?_eq_some_iff.mp hy).1; omega)
      have := ih x hx
      rw [(nxt i x y hx hy).turn, this]
      omega
  have place : ∀ (i x : Nat), ks[i]? = some x → (x = 0 ∧ dr [0] st E x = st) ∨ ∃ k' e', x = 1 + k' ∧ E[k']? = some e' ∧ dr [0] st E x = e'.d ∧ k' ≤ k ∧ (i + 1 < ks.length → k' < k) := by
    intro i x hx
    by_cases e0 : x = 0
    · exact .inl ⟨e0, by rw [e0]; rfl⟩
    · have hxl := bd x (List.mem_of_getElem? hx)
      rw [qu_len] at hxl
      obtain ⟨e', he'⟩ := at_some (xs := E) (i := x - 1) (by simp at hxl; omega)
      have hq := qu_ent (B := [0]) (st := st) he'
      rw [show ([0] : List Int).length + (x - 1) = x by simp; omega] at hq
      have ilt := (List.getElem?_eq_some_iff.mp hx).1
      have : x ≤ 1 + k ∧ (i + 1 < ks.length → x < 1 + k) := by
        by_cases e2 : i = ks.length - 1
        · rw [e2, hl1] at hx
          have := Option.some.inj hx
          omega
        · have := up i (ks.length - 1) x (1 + k) (by omega) hx hl1
          omega
      exact .inr ⟨x - 1, e', by omega, he', (qu_at hq).1, by omega, by omega⟩
  have qk := qu_ent (B := [0]) (st := st) he
  have dk : dr [0] st E (1 + k) = e.d := (qu_at (j := 1 + k) qk).1
  -- its number of doors is even
  have even : ks.length % 2 = 0 := by
    apply Classical.byContradiction
    intro ho
    have l2 : 2 ≤ ks.length - 1 := by
      have : ks.length ≠ 1 := fun e1 => by
        rw [e1] at hl1
        rw [show (1 - 1 : Nat) = 0 from rfl, h0] at hl1
        have := Option.some.inj hl1
        omega
      omega
    obtain ⟨x, hx⟩ := at_some (xs := ks) (i := ks.length - 2) (by omega)
    have hn := (nxt (ks.length - 2) x (1 + k) hx (by rw [show ks.length - 2 + 1 = ks.length - 1 by omega]; exact hl1)).blk
    have fx := flag _ x hx
    rw [show ((ks.length - 2) % 2) = 1 by omega] at fx
    rw [fx, dk] at hn
    have hn' : bk r e.d = bk r (dr [0] st E x) := hn
    rcases place _ x hx with ⟨rfl, _⟩ | ⟨k', e', rfl, he', d', _, lt⟩
    · have : fl [0] st E 0 = 0 := rfl
      omega
    · rw [d'] at hn'
      exact first k' e' (lt (by omega)) he' (hn'.symm.trans hb)
  have drr : ∀ d ∈ ks.map (dr [0] st E), 0 ≤ d ∧ d ≤ st := by
    intro d hd
    obtain ⟨x, hx, rfl⟩ := List.mem_map.mp hd
    obtain ⟨i, hi⟩ := List.mem_iff_getElem?.mp hx
    rcases place i x hi with ⟨_, e1⟩ | ⟨k', e', _, he', e1, _⟩
    · rw [e1]
      omega
    · rw [e1]
      have := h.rng e' (List.mem_of_getElem? he')
      omega
  have low : ∀ (i x y : Nat), i % 2 = 0 → ks[i]? = some x → ks[i + 1]? = some y → bk p (dr [0] st E y) = bk p (dr [0] st E x) := fun i x y hi hx hy => by
    have := (nxt i x y hx hy).blk
    rw [flag i x hx, hi] at this
    exact this
  have high : ∀ (i x y : Nat), i % 2 = 1 → ks[i]? = some x → ks[i + 1]? = some y → bk r (dr [0] st E y) = bk r (dr [0] st E x) := fun i x y hi hx hy => by
    have := (nxt i x y hx hy).blk
    rw [flag i x hx, hi] at this
    exact this
  have mapd : ∀ {i x : Nat}, ks[i]? = some x → (ks.map (dr [0] st E))[i]? = some (dr [0] st E x) := fun hx => at_map hx
  have ml : (ks.map (dr [0] st E)).length = ks.length := List.length_map ..
  have mne : ks.map (dr [0] st E) ≠ [] := by
    intro e1
    rw [e1] at ml
    simp at ml
    omega
  have pw : ∀ {l : List Int}, (∀ (i j : Nat) (u v : Int), i < j → l[i]? = some u → l[j]? = some v → u ≠ v) → l.Nodup := by
    intro l hh
    refine List.pairwise_iff_getElem.mpr fun i j hi hj hij => ?_
    exact hh i j _ _ hij (List.getElem?_eq_getElem hi) (List.getElem?_eq_getElem hj)
  refine ⟨⟨mne, by rw [ml]; exact even, fun d hd => ?_, ?_, ?_, ?_, ?_, ?_⟩, ?_, fun d hd => (drr d hd).2⟩
  · have := drr d hd
    omega
  · refine pw fun i j u v hij hu hv => ?_
    obtain ⟨x, hx, rfl⟩ := map_at hu
    obtain ⟨y, hy, rfl⟩ := map_at hv
    have lt := up i j x y hij hx hy
    intro e1
    have mem : ∀ (z x' : Nat), ks[x']? = some z → (st :: E.map Ent.d)[z]? = some (dr [0] st E z) := by
      intro z x' hz
      rcases place x' z hz with ⟨rfl, e2⟩ | ⟨k', e', rfl, he', e2, _⟩
      · rfl
      · rw [Nat.add_comm, List.getElem?_cons_succ, Nat.add_comm, e2]
        exact at_map (f := Ent.d) he'
    have h1 := mem x i hx
    have h2 := mem y j hy
    have l1 := (List.getElem?_eq_some_iff.mp h1)
    have l2 := (List.getElem?_eq_some_iff.mp h2)
    have := List.pairwise_iff_getElem.mp h.keys x y l1.1 l2.1 lt
    rw [l1.2, l2.2] at this
    exact this e1
  · refine pw fun i j u v hij hu hv => ?_
    rw [ev_at, List.map_map] at hu hv
    obtain ⟨x, hx, rfl⟩ := map_at hu
    obtain ⟨y, hy, rfl⟩ := map_at hv
    have jl := (List.getElem?_eq_some_iff.mp hy).1
    obtain ⟨z, hz⟩ := at_some (xs := ks) (i := 2 * j + 1) (by omega)
    have n1 := nxt (2 * j) y z hy hz
    have b1 := low (2 * j) y z (by omega) hy hz
    have f1 := n1.far (2 * i) x (by omega) hx
    rw [flag _ x hx, show 2 * i % 2 = 0 by omega] at f1
    have f1' : bk p (dr [0] st E z) ≠ bk p (dr [0] st E x) := f1
    exact fun e1 => f1' (b1.trans (Eq.symm e1))
  · refine pw fun i j u v hij hu hv => ?_
    rw [ev_at] at hu hv
    obtain ⟨x, hx, rfl⟩ := map_at hu
    obtain ⟨y, hy, rfl⟩ := map_at hv
    have jl := (List.getElem?_eq_some_iff.mp hy).1
    rw [rot_len, ml] at jl
    rw [rot_at mne, ml, if_pos (by omega)] at hx hy
    obtain ⟨x, hx', rfl⟩ := map_at hx
    obtain ⟨y, hy', rfl⟩ := map_at hy
    clear hx hy
    have hx := hx'
    have hy := hy'
    clear hx' hy'
    by_cases e1 : 2 * j + 1 + 1 < ks.length
    · obtain ⟨z, hz⟩ := at_some e1
      have n1 := nxt (2 * j + 1) y z hy hz
      have b1 := high (2 * j + 1) y z (by omega) hy hz
      have f1 := n1.far (2 * i + 1) x (by omega) hx
      rw [flag _ x hx, show (2 * i + 1) % 2 = 1 by omega] at f1
      have f1' : bk r (dr [0] st E z) ≠ bk r (dr [0] st E x) := f1
      exact fun e1 => f1' (b1.trans (Eq.symm e1))
    · have : 2 * j + 1 = ks.length - 1 := by omega
      rw [this, hl1] at hy
      obtain rfl := Option.some.inj hy
      rw [dk, hb]
      rcases place _ x hx with ⟨rfl, _⟩ | ⟨k', e', rfl, he', d', _, lt⟩
      · have := flag _ 0 hx
        rw [show (2 * i + 1) % 2 = 1 by omega] at this
        have : fl [0] st E 0 = 0 := rfl
        omega
      · rw [d']
        exact first k' e' (lt (by omega)) he'
  · rw [twos_at]
    intro i
    rw [List.map_map]
    by_cases hi : 2 * i < ks.length
    · obtain ⟨x, hx⟩ := at_some hi
      obtain ⟨y, hy⟩ := at_some (xs := ks) (i := 2 * i + 1) (by omega)
      rw [at_map hx, at_map hy]
      exact congrArg some (low (2 * i) x y (by omega) hx hy).symm
    · rw [List.getElem?_eq_none (by rw [List.length_map]; omega), List.getElem?_eq_none (by rw [List.length_map]; omega)]
  · rw [twos_at]
    intro i
    by_cases hi : 2 * i < ks.length
    · obtain ⟨x, hx⟩ := at_some (xs := ks) (i := 2 * i + 1) (by omega)
      have ea : (rot (ks.map (dr [0] st E)))[2 * i]? = some (dr [0] st E x) := by
        rw [rot_at mne, ml, if_pos (by omega), mapd hx]
      rw [at_map ea]
      by_cases e1 : 2 * i + 1 + 1 < ks.length
      · obtain ⟨y, hy⟩ := at_some e1
        have eb : (rot (ks.map (dr [0] st E)))[2 * i + 1]? = some (dr [0] st E y) := by
          rw [rot_at mne, ml, if_pos (by omega), mapd hy]
        rw [at_map eb, high (2 * i + 1) x y (by omega) hx hy]
      · have : 2 * i + 1 = ks.length - 1 := by omega
        have eb : (rot (ks.map (dr [0] st E)))[2 * i + 1]? = some st := by
          rw [rot_at mne, ml, if_neg (by omega), if_pos (by omega), mapd h0]
          rfl
        rw [this, hl1] at hx
        obtain rfl := Option.some.inj hx
        rw [at_map eb, dk, hb]
    · rw [List.getElem?_eq_none (by rw [List.length_map, rot_len, ml]; omega), List.getElem?_eq_none (by rw [List.length_map, rot_len, ml]; omega)]
  · rw [mapd h0]
    rfl
end
end KQ
namespace KQ
open PySem PySem.Spec PyProof.Rows L2 KR KM StX
theorem flag01 {p r B : List Int} {st : Int} {N : Nat} {E : List Ent} (hB : ∀ b ∈ B, b = 0 ∨ b = 1) (h : Bfs p r B st N E) : ∀ (n j : Nat) (w x : Int), j < n → (Qu B st E)[j]? = some (w, x) → (w = 0 ∨ w = 1) ∧ (x = st ∨ (0 ≤ x ∧ x < N)) := by
  intro n
  induction n with
  | zero => exact fun j w x hj => absurd hj (Nat.not_lt_zero _)
  | succ n ih =>
    intro j w x hj hq
    by_cases e0 : j < B.length
    · obtain ⟨b, hb, hq2⟩ := qu_base (st := st) (E := E) e0
      rw [hq2] at hq
      obtain ⟨rfl, rfl⟩ := Prod.mk.inj (Option.some.inj hq)
      exact ⟨hB _ (List.mem_of_getElem? hb), .inl rfl⟩
    · have hl := (List.getElem?_eq_some_iff.mp hq).1
      rw [qu_len] at hl
      obtain ⟨e, he⟩ := at_some (xs := E) (i := j - B.length) (by omega)
      have hq2 := qu_ent (B := B) (st := st) he
      rw [show B.length + (j - B.length) = j by omega, hq] at hq2
      obtain ⟨rfl, rfl⟩ := Prod.mk.inj (Option.some.inj hq2)
      obtain ⟨h1, h2, _⟩ := h.par _ e he
      have := ih e.q _ _ (by omega) h2
      have r := h.rng e (List.mem_of_getElem? he)
      exact ⟨by omega, .inr r⟩
theorem kvs_val {p r B : List Int} {st : Int} {N : Nat} {E : List Ent} (h : Bfs p r B st N E) (d : Int) : (d ∈ st :: E.map Ent.d → ∃ v, valV (kvsOf st E) (kI d) = some v) ∧ (d ∉ st :: E.map Ent.d → valV (kvsOf st E) (kI d) = none) := by
  constructor
  · intro hd
    rcases mem_keys.mp hd with rfl | ⟨e, he, rfl⟩
    · exact ⟨_, val_start⟩
    · obtain ⟨k, hk⟩ := List.mem_iff_getElem?.mp he
      exact ⟨_, val_ent h.keys hk⟩
  · intro hd
    unfold valV kvsOf
    rw [List.find?_eq_none.mpr]
    · rfl
    · intro kv hkv
      rw [decide_eq_true_eq]
      intro e
      rcases List.mem_cons.mp hkv with rfl | hm
      · exact hd (mem_keys.mpr (.inl (kI_inj _ _ e).symm))
      · obtain ⟨f, hf, rfl⟩ := List.mem_map.mp hm
        exact hd (mem_keys.mpr (.inr ⟨f, hf, kI_inj _ _ e⟩))
theorem kvs_put {st : Int} {E : List Ent} {d w x : Int} {a : Nat} (hd : d ∉ st :: E.map Ent.d) : putK (kvsOf st E) (kI d) (V.int x) = kvsOf st (E ++ [⟨d, w, x, a⟩]) := by
  have hn : ((kvsOf st E).any fun kv => decide (kv.1 = kI d)) = false := by
    rw [List.any_eq_false]
    intro kv hkv
    rw [decide_eq_true_eq]
    intro e
    rcases List.mem_cons.mp hkv with rfl | hm
    · exact hd (mem_keys.mpr (.inl (kI_inj _ _ e).symm))
    · obtain ⟨f, hf, rfl⟩ := List.mem_map.mp hm
      exact hd (mem_keys.mpr (.inr ⟨f, hf, kI_inj _ _ e⟩))
  unfold putK
  rw [hn]
  simp [kvsOf]
theorem pairs_mono {H H' : Hp} {ts : List Addr} {xs : List (Int × Int)} (h : PairsAt H ts xs) (k : ∀ c vs, H c = some (.tup vs) → H' c = some (.tup vs)) : PairsAt H' ts xs :=
  ⟨h.1, fun i t ht => by
    obtain ⟨x, hx, e⟩ := h.2 i t ht
    exact ⟨x, hx, k _ _ e⟩⟩
theorem pairs_snoc {H : Hp} {ts : List Addr} {xs : List (Int × Int)} (h : PairsAt H ts xs) {t : Addr} {x : Int × Int} (e : H t = some (.tup [.int x.1, .int x.2])) : PairsAt H (ts ++ [t]) (xs ++ [x]) := by
  refine ⟨by rw [List.length_append, List.length_append, h.1]; rfl, fun i u hu => ?_⟩
  by_cases hi : i < ts.length
  · rw [List.getElem?_append_left hi] at hu
    obtain ⟨y, hy, e2⟩ := h.2 i u hu
    exact ⟨y, by rw [List.getElem?_append_left (by rw [← h.1]; exact hi)]; exact hy, e2⟩
  · have := (List.getElem?_eq_some_iff.mp hu).1
    rw [List.length_append, List.length_singleton] at this
    have ei : i = ts.length := by omega
    subst ei
    rw [List.getElem?_append_right (Nat.le_refl _), Nat.sub_self] at hu
    obtain rfl := Option.some.inj hu
    refine ⟨x, ?_, e⟩
    rw [h.1, List.getElem?_append_right (Nat.le_refl _), Nat.sub_self]
    rfl
theorem pairs_at {H : Hp} {ts : List Addr} {xs : List (Int × Int)} (h : PairsAt H ts xs) {i : Nat} (hi : i < xs.length) : ∃ t w x, ts[i]? = some t ∧ xs[i]? = some (w, x) ∧ H t = some (.tup [.int w, .int x]) := by
  obtain ⟨t, ht⟩ := at_some (xs := ts) (i := i) (by rw [h.1]; exact hi)
  obtain ⟨⟨w, x⟩, hx, e⟩ := h.2 i t ht
  exact ⟨t, w, x, ht, hx, e⟩
section
variable {P : Program} {w : World} {K : PySem.W.Frag} {mg : Str → Option Value} {base : Heap}
def spAhead : Sp := fun vs H Q _ => ∃ (pa a b da ba : Addr) (p r B : List Int) (st : Int) (N : Nat), vs = [.ref pa, .int st, .ref da, .ref ba] ∧ H pa = some (.tup [.ref a, .ref b]) ∧ TI H a p ∧ TI H b r ∧ p.length = r.length ∧ N ≤ p.length ∧
  p.length ≤ 60 ∧ 0 ≤ st ∧ st < p.length ∧ H da = some (.lst (hv (List.range N))) ∧ TI H ba B ∧ (∀ b ∈ B, b = 0 ∨ b = 1) ∧ B.length ≤ 2 ∧
  ∀ H' t E, Same H H' → H t = none → H' t = some (.dK (kvsOf st E)) → Bfs p r B st N E → (∀ j, j < (Qu B st E).length → FullTo p r B st E j N) → Q (.ref t) H'
end
end KQ
/-! slices with steps; a walk over a locked dict's keys; a tuple turned about -/
namespace KR
open PySem PySem.Spec PyProof.Rows L2 KM KQ
/-! ### xs[lo:hi:step] of a list -/
def pickV (xs : List V) (lo hi st : Option Int) : List V := (sliceRange (sliceBounds lo hi st xs.length).1 (sliceBounds lo hi st xs.length).2.1 (sliceBounds lo hi st xs.length).2.2).filterMap (xs[·]?)
theorem vals_pick {xs : List V} {us : List Value} (r : Vals xs us) : ∀ is : List Nat, Vals (is.filterMap (xs[·]?)) (is.filterMap (us[·]?))
  | [] => .nil
  | i :: is => by
    rw [List.filterMap_cons, List.filterMap_cons]
    have ih := vals_pick r is
    cases hx : xs[i]? with
    | none =>
      have : us[i]? = none := by
        rw [List.getElem?_eq_none_iff] at hx ⊢
        rw [← r.length]
        exact hx
      rw [this]
      exact ih
    | some x =>
      obtain ⟨u, hu, ru⟩ := r.get hx
      rw [hu]
      exact .cons ru ih
section
variable {X : Cx} {K : PySem.W.Frag}
def tStep (K : PySem.W.Frag) (te : TE) (tl th tst : TO) : TE := fun σ H Q => te σ H fun x H1 => tl σ H1 fun l H2 => th σ H2 fun u H3 => tst σ H3 fun o H4 => ∃ a xs, x = .ref a ∧ SqL K H4 a xs ∧ o ≠ some 0 ∧ ∀ p, H4 p = none → Q (.ref p) (upd H4 p (.lst (pickV xs l u o)))
theorem pe_stepL {e : Expr} {te : TE} {lo hi st : Option Expr} {tl th tst : TO} {p3 pos : Pos} (hK : X.K = K) (he : PE X e te) (hl : PO X lo tl) (hu : PO X hi th) (hst : PO X st tst)
    (hop : ∀ a b : Addr, ∃ ops, subscripted (.Slice lo hi st p3) false (.ref a) (.ref b) = operate ops (getItem (.ref a) (.ref b))) : PE X (.Subscript e (.Slice lo hi st p3) pos) (tStep K te tl th tst) := by
  subst hK
  refine ⟨fun pins s σ H Q I h => ?_⟩
  refine Subscript_ (thn (he.run pins s σ H _ I h) fun v s1 ⟨x, H1, I1, r1, q1⟩ => ?_)
  refine wpAny_Slice (thn (hl.run pins s1 σ H1 _ I1 q1) fun vl s2 ⟨l, H2, I2, pl, q2⟩ => ?_)
  refine thn (hu.run pins s2 σ H2 _ I2 q2) fun vu s3 ⟨u, H3, I3, pu, q3⟩ => ?_
  refine thn (hst.run pins s3 σ H3 _ I3 q3) fun vs s4 ⟨o, H4, I4, ps, q4⟩ => ?_
  obtain ⟨a, xs, ex, hx, h0, q⟩ := q4
  subst ex
  cases r1
  have I5 : Inv X pins σ H4 { s4 with heap := s4.heap.push { cls := .type "slice", data := .fields #[vl, vu, vs] } } := I4.kept (t' := s4.toks) fun b ob q => Heap.get?_push_of_some _ q
  obtain ⟨its, r, ht, hz⟩ := I5.list hx
  have hlen := r.length
  show wpAny (model X.prog X.w) X.A (subscriptTail e (.Slice lo hi st p3) (.ref a) (.ref s4.heap.objs.size)) (EP X pins σ Q) X.xe { s4 with heap := s4.heap.push { cls := .type "slice", data := .fields #[vl, vu, vs] } }
  obtain ⟨ops, hops⟩ := hop a s4.heap.objs.size
  refine tail_any (ops := ops) ht.isList.typeIs (PySem.slot_list_getitem.lookup) ?_ hops
  have sz : (slicePick its.toArray l u o).size ≤ its.toArray.size := slicePick_size_le _ _ _ _
  refine wpAny_getItem_list_slice ht.isList (Heap.IsSliceOf.new _ vl vu vs) pl pu ps h0 ?_ (by rw [List.size_toArray]; omega)
  have e : slicePick its.toArray l u o = ((sliceRange (sliceBounds l u o xs.length).1 (sliceBounds l u o xs.length).2.1 (sliceBounds l u o xs.length).2.2).filterMap (its[·]?)).toArray := by
    unfold slicePick
    rw [List.size_toArray, ← hlen]
    congr 1
    refine congrArg (fun f => List.filterMap f _) (funext fun i => ?_)
    simp
  have vp := vals_pick r (sliceRange (sliceBounds l u o xs.length).1 (sliceBounds l u o xs.length).2.1 (sliceBounds l u o xs.length).2.2)
  rw [e] at sz ⊢
  refine ⟨.ref _, _, I5.laid (t' := s4.toks) (o := .lst (pickV xs l u o)) (fun b ob q => Heap.get?_push_of_some _ q) (Nat.le_refl _) ?_, rfl, q _ (I5.hok.fresh (Nat.le_refl _))⟩
  refine ⟨?_, _, 0, vp, Heap.get?_push_size _ rfl⟩
  have := vp.length
  rw [List.size_toArray, List.size_toArray] at sz
  unfold pickV
  omega
/-! ### t[::-1] of a tuple -/
theorem fm_congr {α β : Type} {f g : α → Option β} : ∀ {l : List α}, (∀ x ∈ l, f x = g x) → l.filterMap f = l.filterMap g
  | [], _ => rfl
  | a :: l, h => by
    rw [List.filterMap_cons, List.filterMap_cons, h a List.mem_cons_self, fm_congr fun x hx => h x (List.mem_cons_of_mem _ hx)]
theorem getItem_tuple_rev {prog : Program} {w : World} {A : Around} {E : Value → Shared → Prop} {s : Shared} {t sl : Addr} {items : Array Value} {tk : Tok} {Q : Value → Shared → Prop} (ht : IsTup s.heap t items) (hs : s.heap.IsSliceOf sl .none .none (.int (-1) tk))
    (h : Q (.ref s.heap.objs.size) { s with heap := s.heap.push { cls := .type "tuple", data := .seq items.toList.reverse.toArray } })
    (hsz : items.size ≤ sizeLine) : wpAny (model prog w) A (getItem (.ref t) (.ref sl)) Q E s := by
  have htake : sizeOk (.seq items.toList.reverse.toArray) := by
    show items.toList.reverse.toArray.size ≤ sizeLine
    rw [List.size_toArray, List.length_reverse, Array.length_toList]
    exact hsz
  obtain ⟨os, hos, hcs, hds⟩ := id hs
  have hTs : s.TypeIs (.ref sl) "slice" := ⟨os, hos, hcs⟩
  unfold getItem
  try with_reducible refine wpAny_holding ?_
  first | refine wpAny_bind (wpAny_pure ?_) | skip
  refine wpAny_bind (wpAny_sequenceKey ht.typeIs (by decide) ?_)
  refine wpAny_bind (wpAny_callSpecial?_slot (name := Str.ofString "__getitem__") ht.typeIs PyProof.Rows.slot_tuple_getitem
    (wpAny_call_entry PyProof.Rows.slot_tuple_getitem ht.typeIs entry_tuple_getitem ?_ (args_tuple_getitem _ _)))
  show wpAny _ _ (Builtin.Tuple.tupleItemsOf (.ref t) >>= _) _ _ s
  refine wpAny_bind (tupleItemsOf_ ht ?_)
  refine wpAny_bind (wpAny_typeOf hTs ?_)
  rw [if_pos (by decide)]
  have ap : ∀ {A : Around} {E : Value → Shared → Prop} {Q2 : Int × Int × Nat → Shared → Prop}, Q2 ((items.size : Int) - 1, -1, items.size) s → wpAny (model prog w) A (Builtin.Slice.sliceApplied (.ref sl) (pure (items.size : Int))) Q2 E s := by
    intro A E Q2 h2
    unfold Builtin.Slice.sliceApplied Builtin.Slice.sliceFields
    refine wpAny_bind (wpAny_bind (wpAny_field hos hds (x := .none) rfl (wpAny_bind (wpAny_field hos hds (x := .none) rfl (wpAny_bind (wpAny_field hos hds (x := .int (-1) tk) rfl (wpAny_pure ?_)))))))
    refine wpAny_bind (slicePart_int ?_)
    show wpAny _ _ (if ((-1 : Int) == 0) = true then _ else _) _ _ s
    rw [if_neg (by decide)]
    refine wpAny_bind (slicePart_none (wpAny_bind (slicePart_none (wpAny_bind (wpAny_pure ?_)))))
    show wpAny _ _ (pure ((items.size : Int) - 1, (-1 : Int), Builtin.Slice.slicePlaces ((items.size : Int) - 1) (-1) (-1))) _ _ s
    have e : Builtin.Slice.slicePlaces ((items.size : Int) - 1) (-1) (-1) = items.size := by
      unfold Builtin.Slice.slicePlaces
      rw [if_neg (by decide)]
      by_cases hp : (items.size : Int) - 1 > -1
      · rw [if_pos hp, show (- -1 : Int) = 1 by decide, Int.ediv_one]
        omega
      · rw [if_neg hp]
        omega
    rw [e]
    exact wpAny_pure h2
  refine wpAny_bind (ap ?_)
  have hno : ¬ ((((items.size : Int) - 1) == 0 && (-1 : Int) == 1 && items.size == items.size) = true) := by
    rw [show ((-1 : Int) == 1) = false from rfl, Bool.and_false, Bool.false_and]
    exact Bool.false_ne_true
  show wpAny _ _ (if (((items.size : Int) - 1) == 0 && (-1 : Int) == 1 && items.size == items.size) = true then _ else _) _ _ s
  rw [if_neg hno]
  have ep : ((List.range items.size).filterMap fun (k : Nat) => items[((items.size : Int) - 1 + (k : Int) * -1).toNat]?).toArray = items.toList.reverse.toArray := by
    have h1 := PySem.W.krv_all items
    have h2 := PySem.W.krv_range items.size
    rw [← h1, ← List.filterMap_reverse, ← h2, List.filterMap_map]
    congr 1
    refine fm_congr fun k hk => ?_
    have := List.mem_range.mp hk
    show items[((items.size : Int) - 1 + (k : Int) * -1).toNat]? = items[items.size - 1 - k]?
    rw [show ((items.size : Int) - 1 + (k : Int) * -1).toNat = items.size - 1 - k by omega]
  rw [ep]
  first
    | exact wpAny_bind (m := Builtin.Tuple.tupleExact _) (wpAny_newObj_type (wpAny_pure ⟨_, rfl, wpAny_pure h⟩) htake)
    | exact wpAny_bind (m := Builtin.Tuple.tupleExact _) (wpAny_newObj_type (wpAny_bind (wpAny_pure (wpAny_pure ⟨_, rfl, wpAny_pure h⟩))) htake)
    | exact wpAny_bind (wpAny_bind (m := Builtin.Tuple.tupleExact _) (wpAny_newObj_type (wpAny_pure (wpAny_pure ⟨_, rfl, wpAny_pure h⟩)) htake))
    | exact wpAny_bind (wpAny_bind (m := Builtin.Tuple.tupleExact _) (wpAny_newObj_type (wpAny_pure ⟨_, rfl, wpAny_pure h⟩) htake))
def tRevT (K : PySem.W.Frag) (te : TE) : TE := fun σ H Q => te σ H fun x H1 => ∃ a xs, x = .ref a ∧ SqT K H1 a xs ∧ ∀ p, H1 p = none → Q (.ref p) (upd H1 p (.tup xs.reverse))
theorem pe_revT {e : Expr} {te : TE} {k : Nat} {p1 p2 p3 pos : Pos} (hK : X.K = K) (he : PE X e te) : PE X (.Subscript e (.Slice none none (some (.UnaryOp .USub (.Constant (.int 1) k p1) p2)) p3) pos) (tRevT K te) := by
  subst hK
  refine ⟨fun pins s σ H Q I h => ?_⟩
  refine Subscript_ (thn (he.run pins s σ H _ I h) fun v s1 ⟨x, H1, I1, r1, q1⟩ => ?_)
  obtain ⟨a, xs, ex, hx, q⟩ := q1
  subst ex
  cases r1
  have hst : PO X (some (.UnaryOp .USub (.Constant (.int 1) k p1) p2)) (tPart (tUn (rU fun i => .int (-i)) (tC (.int 1)))) := po_some (pe_un un_neg pe_int)
  refine wpAny_Slice ?_
  rw [evalPart_none]
  refine wpAny_pure (wpAny_pure ?_)
  refine thn (hst.run pins s1 σ H1 (fun o H4 => o = some (-1) ∧ H4 = H1) I1 ⟨1, rfl, -1, rfl, rfl, rfl⟩) fun vs s4 ⟨o, H4, I4, ps, eo, e4⟩ => ?_
  subst eo e4
  obtain ⟨tk, rfl⟩ : ∃ tk, vs = .int (-1) tk := by
    cases ps
    exact ⟨_, rfl⟩
  have I5 : Inv X pins σ H4 { s4 with heap := s4.heap.push { cls := .type "slice", data := .fields #[.none, .none, .int (-1) tk] } } := I4.kept (t' := s4.toks) fun b ob q => Heap.get?_push_of_some _ q
  obtain ⟨its, r, ht, hz⟩ := I5.tuple hx
  have hlen := r.length
  show wpAny (model X.prog X.w) X.A (subscriptTail e (.Slice none none (some (.UnaryOp .USub (.Constant (.int 1) k p1) p2)) p3) (.ref a) (.ref s4.heap.objs.size)) (EP X pins σ Q) X.xe { s4 with heap := s4.heap.push { cls := .type "slice", data := .fields #[.none, .none, .int (-1) tk] } }
  refine tail_any (ops := [.ref a, .ref s4.heap.objs.size]) ht.typeIs (PyProof.Rows.slot_tuple_getitem.lookup) ?_ (by with_unfolding_all rfl)
  refine getItem_tuple_rev ht (Heap.IsSliceOf.new _ _ _ _) ?_ (by rw [List.size_toArray]; omega)
  refine ⟨.ref _, _, I5.laid (t' := s4.toks) (o := .tup xs.reverse) (fun b ob q => Heap.get?_push_of_some _ q) (Nat.le_refl _) ?_, rfl, q _ (I5.hok.fresh (Nat.le_refl _))⟩
  exact ⟨by rw [List.length_reverse]; exact hz, _, r.reverse, IsTup.new _ _⟩
end
/-! ### a walk over a locked dict's keys -/
theorem for_keys {d : Addr} {o : Obj} {kvs : List (L2.Key × V)} {g : TG} {tb : TS} {D : Ends} {σ : L2.St} {H : Hp} (Pv : Nat → L2.St → Hp → Prop) (h0 : Pv 0 σ H) (hl : ∀ i σ H, i ≤ kvs.length → Pv i σ H → H d = some (.frz o (.dK kvs)))
    (hs : ∀ i k v σ H, kvs[i]? = some (k, v) → Pv i σ H → g (kV k) σ H fun σ2 H2 => tb { D with nx := Pv (i + 1), ct := Pv (i + 1), bk := D.nx } σ2 H2) (hd : ∀ σ H, Pv kvs.length σ H → D.nx σ H) :
    ∃ W : Nat → Nat → L2.St → Hp → Prop, (∃ m, W 0 m σ H) ∧ ∀ i m σ H, W i m σ H →
      ((Itk d o kvs).stop i H ∧ D.nx σ H) ∨ ((Itk d o kvs).go i H ∧ ∃ N : L2.St → Hp → Prop, (∀ σ' H', N σ' H' → ∃ m', m' < m ∧ W (i + 1) m' σ' H') ∧ ∀ x H', (Itk d o kvs).yld i H x H' → g x σ H' fun σ2 H2 => tb { D with nx := N, ct := N, bk := D.nx } σ2 H2) := by
  refine ⟨fun i m σ H => m = kvs.length - i ∧ i ≤ kvs.length ∧ Pv i σ H, ⟨kvs.length, by simp, Nat.zero_le _, h0⟩, ?_⟩
  rintro i m σ H ⟨rfl, hi, p⟩
  have q := hl i σ H hi p
  by_cases hlt : i < kvs.length
  · refine .inr ⟨⟨q, hlt⟩, Pv (i + 1), fun σ' H' p' => ⟨kvs.length - (i + 1), by omega, rfl, hlt, p'⟩, fun x H' y => ?_⟩
    obtain ⟨e, k, v, hk, rfl⟩ := y
    subst e
    exact hs i k v σ _ hk p
  · have e : i = kvs.length := by omega
    subst e
    exact .inl ⟨⟨q, Nat.le_refl _⟩, hd σ H p⟩
/-! ### every second one -/
theorem pick_ev : ∀ xs : List V, (List.range ((xs.length + 1) / 2)).filterMap (fun k => xs[2 * k]?) = ev xs
  | [] => rfl
  | [a] => by
    rw [show ([a].length + 1) / 2 = 1 by rw [List.length_singleton]]
    rfl
  | a :: b :: r => by
    rw [show ((a :: b :: r).length + 1) / 2 = (r.length + 1) / 2 + 1 by rw [List.length_cons, List.length_cons]; omega, List.range_succ_eq_map, List.filterMap_cons, List.filterMap_map]
    show a :: _ = a :: ev r
    rw [← pick_ev r]
    refine congrArg (a :: ·) (congrArg (fun f => List.filterMap f _) (funext fun k => ?_))
    show (a :: b :: r)[2 * (k + 1)]? = r[2 * k]?
    rw [show 2 * (k + 1) = 2 * k + 1 + 1 by omega]
    rfl
theorem pick_two (xs : List V) : pickV xs none none (some 2) = ev xs := by
  rw [← pick_ev]
  unfold pickV
  have e : sliceBounds none none (some 2) xs.length = (0, (xs.length : Int), 2) := by
    simp [sliceBounds]
  rw [e]
  unfold sliceRange
  show List.filterMap _ (List.map _ (List.range _)) = _
  rw [List.filterMap_map]
  have c : (if (2 : Int) > 0 then (if (0 : Int) < (xs.length : Int) then ((xs.length : Int) - 0 + 2 - 1) / 2 else 0) else (if (0 : Int) > (xs.length : Int) then (0 - (xs.length : Int) - 2 - 1) / (-2) else 0)).toNat = (xs.length + 1) / 2 := by
    rw [if_pos (by decide)]
    split <;> omega
  rw [c]
  refine congrArg (fun f => List.filterMap f _) (funext fun k => ?_)
  show xs[((0 : Int) + 2 * (k : Int)).toNat]? = xs[2 * k]?
  rw [show ((0 : Int) + 2 * (k : Int)).toNat = 2 * k by omega]
theorem pick_one (xs : List V) : pickV xs (some 1) none (some 2) = ev xs.tail := by
  cases xs with
  | nil =>
    unfold pickV
    have e : sliceBounds (some 1) none (some 2) ([] : List V).length = (0, 0, 2) := by decide
    rw [e]
    rfl
  | cons a t =>
    show _ = ev t
    rw [← pick_ev]
    unfold pickV
    have e : sliceBounds (some 1) none (some 2) (a :: t).length = (1, (t.length : Int) + 1, 2) := by
      simp [sliceBounds] <;> omega
    rw [e]
    unfold sliceRange
    show List.filterMap _ (List.map _ (List.range _)) = _
    rw [List.filterMap_map]
    have c : (if (2 : Int) > 0 then (if (1 : Int) < (t.length : Int) + 1 then ((t.length : Int) + 1 - 1 + 2 - 1) / 2 else 0) else (if (1 : Int) > (t.length : Int) + 1 then (1 - ((t.length : Int) + 1) - 2 - 1) / (-2) else 0)).toNat = (t.length + 1) / 2 := by
      rw [if_pos (by decide)]
      split <;> omega
    rw [c]
    refine congrArg (fun f => List.filterMap f _) (funext fun k => ?_)
    show (a :: t)[((1 : Int) + 2 * (k : Int)).toNat]? = t[2 * k]?
    rw [show ((1 : Int) + 2 * (k : Int)).toNat = 2 * k + 1 by omega, List.getElem?_cons_succ]
end KR
namespace KQ
open PySem PySem.Spec PyProof.Rows L2 KR KM StX
section
variable {P : Program} {w : World} {K : PySem.W.Frag} {mg : Str → Option Value} {base : Heap}
/-- what is told of the first ring up to a door -/
def RingTo (p r : List Int) (n : Int) (H : Hp) (v : V) : Prop := (v = .non ∧ ¬ RingAt p r n.toNat) ∨
  ∃ (t : Addr) (ds : List Int), v = .ref t ∧ TI H t ds ∧ RingAt p r n.toNat ∧ IsRing p r ds ∧ ds[0]? = some n ∧ ∀ d ∈ ds, d ≤ n
def spUpTo : Sp := fun vs H Q _ => ∃ (a b : Addr) (p r : List Int) (n : Int), vs = [.ref a, .ref b, .int n] ∧ TI H a p ∧ TI H b r ∧ Par p ∧ Par r ∧ p.length = r.length ∧ 0 ≤ n ∧ n < p.length ∧
  ∀ H' v, Same H H' → RingTo p r n H' v → Q v H'
def spRing : Sp := fun vs H Q _ => ∃ (a b : Addr) (p r : List Int), vs = [.ref a, .ref b] ∧ TI H a p ∧ TI H b r ∧ Par p ∧ Par r ∧ p.length = r.length ∧
  ∀ H' v, Same H H' → ((v = .non ∧ NoRing p r) ∨ ∃ (n : Nat) (t : Addr) (ds : List Int), v = .ref t ∧ TI H' t ds ∧ RingAt p r n ∧ (∀ j, j < n → ¬ RingAt p r j) ∧ IsRing p r ds ∧ ds[0]? = some (n : Int) ∧ ∀ d ∈ ds, d ≤ (n : Int)) → Q v H'
end
end KQ
namespace KQ
open PySem PySem.Spec PyProof.Rows L2 KR KM StX
/-- things of the kinds that the law makes -/
inductive OddV (H : Hp) : V → Prop where
  | int (i : Int) : OddV H (.int i)
  | bl (b : Bool) : OddV H (.bl b)
  | non : OddV H .non
  | str (x : Str) : OddV H (.str x)
  | lst {a : Addr} {xs : List V} (h : H a = some (.lst xs)) : OddV H (.ref a)
  | dK {a : Addr} {kvs : List (L2.Key × V)} (h : H a = some (.dK kvs)) : OddV H (.ref a)
  | tup {a : Addr} {xs : List V} (h : H a = some (.tup xs)) : OddV H (.ref a)
theorem OddV.mono {H H' : Hp} {v : V} (o : OddV H v) (s : Same H H') : OddV H' v := by
  cases o with
  | int i => exact .int i
  | bl b => exact .bl b
  | non => exact .non
  | str x => exact .str x
  | lst h => exact .lst (s _ _ h)
  | dK h => exact .dK (s _ _ h)
  | tup h => exact .tup (s _ _ h)
def isI : V → Bool
  | .int _ => true
  | _ => false
def inV (v : V) (lo hi : Int) : Bool :=
  match v with
  | .int i => decide (lo ≤ i ∧ i ≤ hi)
  | _ => false
theorem inV_true {v : V} {lo hi : Int} (h : inV v lo hi = true) : ∃ i, v = .int i ∧ lo ≤ i ∧ i ≤ hi := by
  cases v with
  | int i =>
    have := of_decide_eq_true h
    exact ⟨i, rfl, this.1, this.2⟩
  | _ => cases h
inductive Thing (H : Hp) : V → Option (List V) → Prop where
  | tup {a : Addr} {vs : List V} (h : H a = some (.tup vs)) (o : ∀ v ∈ vs, OddV H v) (l : vs.length ≤ 1000) : Thing H (.ref a) (some vs)
  | non : Thing H .non none
  | int (i : Int) : Thing H (.int i) none
  | lst {a : Addr} {xs : List V} (h : H a = some (.lst xs)) : Thing H (.ref a) none
theorem Thing.mono {H H' : Hp} {v : V} {o : Option (List V)} (t : Thing H v o) (s : Same H H') : Thing H' v o := by
  cases t with
  | tup h o l => exact .tup (s _ _ h) (fun v hv => (o v hv).mono s) l
  | non => exact .non
  | int i => exact .int i
  | lst h => exact .lst (s _ _ h)
def RightT (p r : List Int) (o : Option (List V)) : Prop := ∃ ds : List Int, o = some (ds.map V.int) ∧ IsRing p r ds
theorem map_int_inj : ∀ {xs ys : List Int}, xs.map V.int = ys.map V.int → xs = ys
  | [], [], _ => rfl
  | [], _ :: _, h => by cases h
  | _ :: _, [], h => by cases h
  | x :: xs, y :: ys, h => by
    obtain ⟨h1, h2⟩ := List.cons.inj h
    rw [V.int.inj h1, map_int_inj h2]
theorem right_ints {p r ds : List Int} : RightT p r (some (ds.map V.int)) ↔ IsRing p r ds :=
  ⟨fun ⟨ds', e, h⟩ => by rw [map_int_inj (Option.some.inj e)]; exact h, fun h => ⟨ds, rfl, h⟩⟩
theorem eqv_ints : ∀ (xs ys : List Int), PyData.eqvAll (xs.map PyData.int) (ys.map PyData.int) = decide (xs = ys)
  | [], [] => rfl
  | [], _ :: _ => rfl
  | _ :: _, [] => rfl
  | x :: xs, y :: ys => by
    show (PyData.eqv (.int x) (.int y) && PyData.eqvAll (xs.map PyData.int) (ys.map PyData.int)) = _
    rw [eqv_ints xs ys]
    show ((x == y) && decide (xs = ys)) = _
    by_cases e : x = y
    · subst e
      simp
    · simp [e]
section
variable {P : Program} {w : World} {K : PySem.W.Frag} {mg : Str → Option Value} {base : Heap}
theorem OddV.ty {H : Hp} {v : V} (o : OddV H v) (hi : ∀ i, v ≠ .int i) : ∃ T : String, TyX K H v (.type T) ∧ ((T = "bool" ∧ ∃ b, v = .bl b) ∨ (kitB T "int" = some false)) := by
  cases o with
  | int i => exact absurd rfl (hi i)
  | bl b => exact ⟨_, .base (.bl b), .inl ⟨rfl, b, rfl⟩⟩
  | non => exact ⟨_, .base .non, .inr (by decide +kernel)⟩
  | str x => exact ⟨_, .base (.str x), .inr (by decide +kernel)⟩
  | lst h => exact ⟨_, .base (.lst h), .inr (by decide +kernel)⟩
  | dK h => exact ⟨_, .base (.dK h), .inr (by decide +kernel)⟩
  | tup h => exact ⟨_, .base (.tup h), .inr (by decide +kernel)⟩
def spIsIntegerA : Sp := fun vs H Q _ => ∃ v : V, vs = [v] ∧ OddV H v ∧ Q (.bl (isI v)) H
theorem ok_is_integerA (D : DefAt K mg "is_integer" s_is_integer) (T : Bt mg) : Use P w K mg base "is_integer" 1 ["value"] spIsIntegerA := by
  refine use_of D (fun f fd F => F.ok sc_is_integer (fun vs H Q E h => ?_) (fun cdv A outer s H vs Q E hr h => ?_)) (fun _ _ _ _ _ _ us hl => match us, hl with | [_], _ => rfl)
  · obtain ⟨i, rfl, _⟩ := h
    rfl
  · obtain ⟨v, rfl, o, q⟩ := h
    refine ⟨_, (pss_one (ps_ret (pe_and (pe_callB (k_isi (K := K) rfl) (by rfl) T.isinstance (by decide +kernel) (pa_cons (pv 0) (pa_cons (pe_bltn (v := .ty "int") (by rfl) T.int (by decide +kernel) rfl) pa_nil))) (pe_one (pe_not (pe_callB (k_isi (K := K) rfl) (by rfl) T.isinstance (by decide +kernel) (pa_cons (pv 0) (pa_cons (pe_bltn (v := .ty "bool") (by rfl) T.bool (by decide +kernel) rfl) pa_nil)))))))), ?_⟩
    by_cases hi : ∃ i, v = .int i
    · obtain ⟨i, rfl⟩ := hi
      refine ⟨_, rfl, _, _, _, _, true, rfl, .ty _, .base (.int i), kit_ty (by decide +kernel), true, rfl, iteT ?_⟩
      exact ⟨_, rfl, _, _, _, _, false, rfl, .ty _, .base (.int i), kit_ty (by decide +kernel), _, rfl, q⟩
    · have e : isI v = false := by
        cases v with
        | int i => exact absurd ⟨i, rfl⟩ hi
        | _ => rfl
      rw [e] at q
      obtain ⟨t, ty, h⟩ := o.ty (K := K) fun i e => hi ⟨i, e⟩
      rcases h with ⟨rfl, b, rfl⟩ | kt
      · refine ⟨_, rfl, _, _, _, _, true, rfl, .ty _, ty, kit_ty (by decide +kernel), true, rfl, iteT ?_⟩
        exact ⟨_, rfl, _, _, _, _, true, rfl, .ty _, ty, kit_ty (by decide +kernel), _, rfl, q⟩
      · exact ⟨_, rfl, _, _, _, _, false, rfl, .ty _, ty, kit_ty kt, false, rfl, iteF q⟩
def spIntWA : Sp := fun vs H Q _ => ∃ (v : V) (lo hi : Int), vs = [v, .int lo, .int hi] ∧ OddV H v ∧ Q (.bl (inV v lo hi)) H
theorem ok_is_integer_withinA (D : DefAt K mg "is_integer_within" s_is_integer_within) (T : Bt mg) (u_is_integer : Use P w K mg base "is_integer" 1 ["value"] spIsIntegerA) :
    Use P w K mg base "is_integer_within" 2 ["value", "least", "most"] spIntWA := by
  refine use_of D (fun f fd F => F.ok sc_is_integer_within (fun vs H Q E h => ?_) (fun cdv A outer s H vs Q E hr h => ?_)) (fun _ _ _ _ _ _ us hl => match us, hl with | [_, _, _], _ => rfl)
  · obtain ⟨i, lo, hi, rfl, _⟩ := h
    rfl
  · obtain ⟨v, lo, hi, rfl, o, q⟩ := h
    refine ⟨_, (pss_one (ps_ret (pe_and (pe_use u_is_integer (by decide) hr (by rfl) (pa_cons (pv 0) pa_nil)) (pe_one (pe_chain op_le op_le (pv 1) (pv 0) (pv 2)))))), ?_⟩
    by_cases hv : ∃ i, v = .int i
    · obtain ⟨i, rfl⟩ := hv
      have q' : Q (.bl (decide (lo ≤ i ∧ i ≤ hi))) H := q
      refine ⟨_, rfl, _, rfl, o, true, rfl, iteT ?_⟩
      refine ⟨_, rfl, _, rfl, lo, i, rfl, rfl, _, rfl, ?_⟩
      by_cases h1 : lo ≤ i
      · rw [decide_eq_true h1]
        refine iteT ⟨_, rfl, i, hi, rfl, rfl, ?_⟩
        have e : decide (lo ≤ i ∧ i ≤ hi) = decide (i ≤ hi) := by simp [h1]
        rw [e] at q'
        exact q'
      · rw [decide_eq_false h1]
        refine iteF ?_
        have e : decide (lo ≤ i ∧ i ≤ hi) = false := by simp [h1]
        rw [e] at q'
        exact q'
    · have e : isI v = false ∧ inV v lo hi = false := by
        cases v with
        | int i => exact absurd ⟨i, rfl⟩ hv
        | _ => exact ⟨rfl, rfl⟩
      rw [e.2] at q
      exact ⟨_, rfl, _, rfl, o, false, by rw [e.1], iteF q⟩
theorem ev_ints (xs : List Int) : ev (xs.map V.int) = (ev xs).map V.int := ev_map _ _
def spIsRing : Sp := fun vs H Q _ => ∃ (a b : Addr) (t : V) (p r : List Int) (o : Option (List V)), vs = [.ref a, .ref b, t] ∧ TI H a p ∧ TI H b r ∧ Par p ∧ Par r ∧ p.length = r.length ∧ Thing H t o ∧
  ∀ H' c, Same H H' → (c = true ↔ RightT p r o) → Q (.bl c) H'
end
end KQ
namespace KR
open PySem PySem.Spec PyProof.Rows L2 KM KQ
theorem lc_enumT {K : PySem.W.Frag} {a : Addr} {xs : List V} {g : TG} {tt : TT} {te : TE} {vs : List Nat} {σ : L2.St} {H1 : Hp} {D : Addr} {Qd : Hp → Prop} (Pv : Nat → Hp → Prop) (h0 : Pv 0 (upd H1 D (.lst []))) (hl : ∀ i H, i ≤ xs.length → Pv i H → SqT K H a xs)
    (hs : ∀ (i : Nat) (x : V) (T : Addr) (H : Hp), xs[i]? = some x → Pv i H → H T = none → g (.ref T) (wipe σ vs) (upd H T (.tup [.int (i : Nat), x])) fun σ2 H2 => wipe σ2 vs = wipe σ vs ∧ tt σ2 H2 fun b H3 =>
      if b = true then te σ2 H3 fun y H4 => ∃ acc, H4 D = some (.lst acc) ∧ acc.length < sizeLine ∧ Pv (i + 1) (upd H4 D (.lst (acc ++ [y]))) else Pv (i + 1) H3) (hd : ∀ H, Pv xs.length H → Qd H) :
    ∃ W : Nat → Nat → Hp → Prop, (∃ m, W 0 m (upd H1 D (.lst []))) ∧ ∀ i m H, W i m H →
      ((IteT K a).stop i H ∧ Qd H) ∨ ((IteT K a).go i H ∧ ∃ Nx : Hp → Prop, (∀ H', Nx H' → ∃ m', m' < m ∧ W (i + 1) m' H') ∧ ∀ x H', (IteT K a).yld i H x H' → g x (wipe σ vs) H' fun σ2 H2 => wipe σ2 vs = wipe σ vs ∧ tt σ2 H2 fun b H3 =>
        if b = true then te σ2 H3 fun y H4 => ∃ acc, H4 D = some (.lst acc) ∧ acc.length < sizeLine ∧ Nx (upd H4 D (.lst (acc ++ [y]))) else Nx H3) := by
  refine ⟨fun i m H => m = xs.length - i ∧ i ≤ xs.length ∧ Pv i H, ⟨xs.length, by simp, Nat.zero_le _, h0⟩, ?_⟩
  rintro i m H ⟨rfl, hi, p⟩
  have q := hl i H hi p
  by_cases hlt : i < xs.length
  · have hx : xs[i]? = some xs[i] := List.getElem?_eq_getElem hlt
    refine .inr ⟨⟨xs, _, q, hx⟩, Pv (i + 1), fun H' p' => ⟨xs.length - (i + 1), by omega, rfl, hlt, p'⟩, fun x H' y => ?_⟩
    obtain ⟨T, x', rfl, hT, rfl, f1⟩ := y
    exact hs i x' T H (f1 xs q) p hT
  · have e : i = xs.length := by omega
    subst e
    exact .inl ⟨⟨xs, q, Nat.le_refl _⟩, hd H p⟩
theorem lc_enumL {K : PySem.W.Frag} {a : Addr} {xs : List V} {g : TG} {tt : TT} {te : TE} {vs : List Nat} {σ : L2.St} {H1 : Hp} {D : Addr} {Qd : Hp → Prop} (Pv : Nat → Hp → Prop) (h0 : Pv 0 (upd H1 D (.lst []))) (hl : ∀ i H, i ≤ xs.length → Pv i H → SqL K H a xs)
    (hs : ∀ (i : Nat) (x : V) (T : Addr) (H : Hp), xs[i]? = some x → Pv i H → H T = none → g (.ref T) (wipe σ vs) (upd H T (.tup [.int (i : Nat), x])) fun σ2 H2 => wipe σ2 vs = wipe σ vs ∧ tt σ2 H2 fun b H3 =>
      if b = true then te σ2 H3 fun y H4 => ∃ acc, H4 D = some (.lst acc) ∧ acc.length < sizeLine ∧ Pv (i + 1) (upd H4 D (.lst (acc ++ [y]))) else Pv (i + 1) H3) (hd : ∀ H, Pv xs.length H → Qd H) :
    ∃ W : Nat → Nat → Hp → Prop, (∃ m, W 0 m (upd H1 D (.lst []))) ∧ ∀ i m H, W i m H →
      ((Ite K a).stop i H ∧ Qd H) ∨ ((Ite K a).go i H ∧ ∃ Nx : Hp → Prop, (∀ H', Nx H' → ∃ m', m' < m ∧ W (i + 1) m' H') ∧ ∀ x H', (Ite K a).yld i H x H' → g x (wipe σ vs) H' fun σ2 H2 => wipe σ2 vs = wipe σ vs ∧ tt σ2 H2 fun b H3 =>
        if b = true then te σ2 H3 fun y H4 => ∃ acc, H4 D = some (.lst acc) ∧ acc.length < sizeLine ∧ Nx (upd H4 D (.lst (acc ++ [y]))) else Nx H3) := by
  refine ⟨fun i m H => m = xs.length - i ∧ i ≤ xs.length ∧ Pv i H, ⟨xs.length, by simp, Nat.zero_le _, h0⟩, ?_⟩
  rintro i m H ⟨rfl, hi, p⟩
  have q := hl i H hi p
  by_cases hlt : i < xs.length
  · have hx : xs[i]? = some xs[i] := List.getElem?_eq_getElem hlt
    refine .inr ⟨⟨xs, _, q, hx⟩, Pv (i + 1), fun H' p' => ⟨xs.length - (i + 1), by omega, rfl, hlt, p'⟩, fun x H' y => ?_⟩
    obtain ⟨T, x', rfl, hT, rfl, f1⟩ := y
    exact hs i x' T H (f1 xs q) p hT
  · have e : i = xs.length := by omega
    subst e
    exact .inl ⟨⟨xs, q, Nat.le_refl _⟩, hd H p⟩
theorem k_gtup {X : Cx} {K : PySem.W.Frag} {es : List Expr} {k : Nat} {t : TGs} {n : Nat} {pos : Pos} (hK : X.K = K) (hc : X.calm = true) (h : PGs X es t)
    (hn : (assignEach es X.env).length = n := by rfl) (hst : (assignEach es X.env).findIdx? (·.1) = none := by rfl) : PG X (.Tuple es k pos) (gTup K n t) := by
  subst hK
  exact pg_tup hc h hn hst
def rReprB : List V → Hp → VK → Prop := fun xs H Q => ∃ b : Bool, xs = [.bl b] ∧ Q (.str (if b then "True" else "False")) H
theorem call_reprB {X : Cx} : CallR X (.builtin "repr") rReprB := by
  intro pins s σ H xs us Q I r h
  obtain ⟨b, rfl, q⟩ := h
  cases r with
  | cons r1 rr =>
    cases rr
    cases r1
    exact PySem.P.repr_of_bool ⟨.str _, H, I.tok _, ⟨_, rfl⟩, q⟩
/-- a whole number among whole numbers -/
theorem inV_ints (d : Int) (ds : List Int) : L2.inV (.int d) (ds.map V.int) = decide (d ∈ ds) := by
  unfold L2.inV
  rw [List.any_map]
  by_cases h : d ∈ ds
  · rw [decide_eq_true h, List.any_eq_true]
    exact ⟨d, h, by show (d == d) = true; simp⟩
  · rw [decide_eq_false h, List.any_eq_false]
    intro x hx
    show ¬ (x == d) = true
    rw [beq_iff_eq]
    exact fun e => h (e ▸ hx)
theorem flat_ints (ds : List Int) : (ds.map V.int).all flatV = true := by
  rw [List.all_map, List.all_eq_true]
  exact fun _ _ => rfl
end KR
namespace KQ
open PySem PySem.Spec PyProof.Rows L2 KR KM StX
theorem fmod2 (n : Nat) : Int.fmod (n : Int) 2 = ((n % 2 : Nat) : Int) := by
  rw [Int.fmod_eq_emod_of_nonneg _ (by decide)]
  omega
theorem nodup_take (ds : List Int) : ds.Nodup ↔ ∀ (i : Nat) (d : Int), ds[i]? = some d → d ∉ ds.take i := by
  constructor
  · intro h i d hd hm
    obtain ⟨j, hj⟩ := List.mem_iff_getElem?.mp hm
    have jl := (List.getElem?_eq_some_iff.mp hj).1
    rw [List.length_take] at jl
    rw [List.getElem?_take_of_lt (by omega)] at hj
    have l1 := List.getElem?_eq_some_iff.mp hj
    have l2 := List.getElem?_eq_some_iff.mp hd
    exact List.pairwise_iff_getElem.mp h j i l1.1 l2.1 (by omega) (l1.2.trans l2.2.symm)
  · intro h
    refine List.pairwise_iff_getElem.mpr fun i j hi hj hij e => ?_
    refine h j _ (List.getElem?_eq_getElem hj) ?_
    rw [← e]
    exact List.mem_iff_getElem?.mpr ⟨i, by rw [List.getElem?_take_of_lt hij]; exact List.getElem?_eq_getElem hi⟩
section
variable {P : Program} {w : World} {K : PySem.W.Frag} {mg : Str → Option Value} {base : Heap}
abbrev s__law_is_int : Stmt := topS 28
theorem sc__law_is_int : FnScope ["thing", "low", "high"] ["thing", "low", "high"] (defScope s__law_is_int) := ⟨rfl, rfl, rfl, by decide +kernel, rfl, by decide +kernel, by decide +kernel⟩
theorem ok_law_is_int (D : DefAt K mg "_law_is_int" s__law_is_int) (T : Bt mg) : Use P w K mg base "_law_is_int" 1 ["thing", "low", "high"] spIntWA := by
  refine use_of D (fun f fd F => F.ok sc__law_is_int (fun vs H Q E h => ?_) (fun cdv A outer s H vs Q E hr h => ?_)) (fun _ _ _ _ _ _ us hl => match us, hl with | [_, _, _], _ => rfl)
  · obtain ⟨i, lo, hi, rfl, _⟩ := h
    rfl
  · obtain ⟨v, lo, hi, rfl, o, q⟩ := h
    refine ⟨_, (pss_one (ps_ret (pe_and (pe_callB (k_isi (K := K) rfl) (by rfl) T.isinstance (by decide +kernel) (pa_cons (pv 0) (pa_cons (pe_bltn (v := .ty "int") (by rfl) T.int (by decide +kernel) rfl) pa_nil))) (pe_and (pe_not (pe_callB (k_isi (K := K) rfl) (by rfl) T.isinstance (by decide +kernel) (pa_cons (pv 0) (pa_cons (pe_bltn (v := .ty "bool") (by rfl) T.bool (by decide +kernel) rfl) pa_nil)))) (pe_one (pe_chain op_le op_le (pv 1) (pv 0) (pv 2))))))), ?_⟩
    by_cases hv : ∃ i, v = .int i
    · obtain ⟨i, rfl⟩ := hv
      have q' : Q (.bl (decide (lo ≤ i ∧ i ≤ hi))) H := q
      refine ⟨_, rfl, _, _, _, _, true, rfl, .ty _, .base (.int i), kit_ty (by decide +kernel), true, rfl, iteT ?_⟩
      refine ⟨_, rfl, _, _, _, _, false, rfl, .ty _, .base (.int i), kit_ty (by decide +kernel), _, rfl, _, rfl, iteT ?_⟩
      refine ⟨_, rfl, _, rfl, lo, i, rfl, rfl, _, rfl, ?_⟩
      by_cases h1 : lo ≤ i
      · rw [decide_eq_true h1]
        refine iteT ⟨_, rfl, i, hi, rfl, rfl, ?_⟩
        have e : decide (lo ≤ i ∧ i ≤ hi) = decide (i ≤ hi) := by simp [h1]
        rw [e] at q'
        exact q'
      · rw [decide_eq_false h1]
        refine iteF ?_
        have e : decide (lo ≤ i ∧ i ≤ hi) = false := by simp [h1]
        rw [e] at q'
        exact q'
    · have e : inV v lo hi = false := by
        cases v with
        | int i => exact absurd ⟨i, rfl⟩ hv
        | _ => rfl
      rw [e] at q
      obtain ⟨t, ty, h⟩ := o.ty (K := K) fun i e => hv ⟨i, e⟩
      rcases h with ⟨rfl, b, rfl⟩ | kt
      · refine ⟨_, rfl, _, _, _, _, true, rfl, .ty _, ty, kit_ty (by decide +kernel), true, rfl, iteT ?_⟩
        exact ⟨_, rfl, _, _, _, _, true, rfl, .ty _, ty, kit_ty (by decide +kernel), _, rfl, _, rfl, iteF q⟩
      · exact ⟨_, rfl, _, _, _, _, false, rfl, .ty _, ty, kit_ty kt, false, rfl, iteF q⟩
end
end KQ
namespace KR
open PySem PySem.Spec PyProof.Rows L2 KM KQ
section
variable {X : Cx} {K : PySem.W.Frag}
/-- t[lo:hi], t + u, empty ones and whole ones too: a tuple with these items -/
def rSlF : V → Option Int → Option Int → Hp → VK → Prop := fun x lo hi H Q => ∃ a xs, x = .ref a ∧ H a = some (.tup xs) ∧ ∀ H' p, Same H H' → H' p = some (.tup (cutV xs lo hi)) → Q (.ref p) H'
def rCatF : R2 := fun x y H Q => ∃ a b xs ys, x = .ref a ∧ y = .ref b ∧ H a = some (.tup xs) ∧ H b = some (.tup ys) ∧ xs.length + ys.length ≤ 100000 ∧ ∀ H' p, Same H H' → H' p = some (.tup (xs ++ ys)) → Q (.ref p) H'
theorem k_slA (_hK : X.K = K) : SlR X rSlF := by
  intro pins s σ H x v vl vu lo hi sl Q I rx hs pl pu h
  obtain ⟨a, xs, rfl, hx, k⟩ := h
  refine sl_tupA pins s σ H _ v vl vu lo hi sl Q I rx hs pl pu ⟨a, xs, rfl, sqT hx, fun hw => k H a (Same.refl H) ?_, fun _ p np => k _ p (same_new np) upd_same⟩
  unfold cutV
  rw [hw.1, hw.2, List.drop_zero, Nat.sub_zero, List.take_length]
  exact hx
theorem k_catA (_hK : X.K = K) : OpR X (binaryOp .Add) rCatF := by
  intro pins s σ H x y v u Q I rx ry h
  obtain ⟨a, b, xs, ys, rfl, rfl, hx, hy, hl, k⟩ := h
  refine op_catA pins s σ H _ _ v u Q I rx ry ⟨a, b, xs, ys, rfl, rfl, sqT hx, sqT hy, Nat.le_of_lt (small_of hl), fun e => ?_, fun _ e => ?_, fun _ _ p np => k _ p (same_new np) upd_same⟩
  · subst e
    exact k H b (Same.refl H) (by rw [List.nil_append]; exact hy)
  · subst e
    exact k H a (Same.refl H) (by rw [List.append_nil]; exact hx)
end
theorem cut_sub {xs : List V} {lo hi : Option Int} {v : V} (h : v ∈ cutV xs lo hi) : v ∈ xs := by
  unfold cutV at h
  exact List.mem_of_mem_drop (List.mem_of_mem_take h)
/-! ### things that stay where S is changed -/
def refsOut (S : List Addr) (v : V) : Prop := ∀ x, v = .ref x → x ∉ S
def KeptS (H H' : Hp) (S : List Addr) : Prop := ∀ a u, H a = some u → a ∉ S → H' a = some u
def Good (H : Hp) (S : List Addr) (v : V) : Prop := ∃ o, Thing H v o ∧ refsOut S v ∧ ∀ vs, o = some vs → ∀ u ∈ vs, refsOut S u
theorem odd_kept {H H' : Hp} {S : List Addr} {v : V} (k : KeptS H H' S) (r : refsOut S v) (o : OddV H v) : OddV H' v := by
  cases o with
  | int i => exact .int i
  | bl b => exact .bl b
  | non => exact .non
  | str x => exact .str x
  | lst h => exact .lst (k _ _ h (r _ rfl))
  | dK h => exact .dK (k _ _ h (r _ rfl))
  | tup h => exact .tup (k _ _ h (r _ rfl))
theorem Good.kept {H H' : Hp} {S : List Addr} {v : V} (g : Good H S v) (k : KeptS H H' S) : Good H' S v := by
  obtain ⟨o, t, r, ri⟩ := g
  refine ⟨o, ?_, r, ri⟩
  cases t with
  | tup h oo l => exact .tup (k _ _ h (r _ rfl)) (fun v hv => odd_kept k (ri _ rfl v hv) (oo v hv)) l
  | non => exact .non
  | int i => exact .int i
  | lst h => exact .lst (k _ _ h (r _ rfl))
theorem Good.same {H H' : Hp} {S : List Addr} {v : V} (g : Good H S v) (k : Same H H') : Good H' S v := g.kept fun a u h _ => k a u h
theorem Good.sub {H : Hp} {S S' : List Addr} {v : V} (g : Good H S v) (h : ∀ x ∈ S', x ∈ S) : Good H S' v := by
  obtain ⟨o, t, r, ri⟩ := g
  exact ⟨o, t, fun x e hx => r x e (h x hx), fun vs e u hu x e' hx => ri vs e u hu x e' (h x hx)⟩
theorem odd_live {H : Hp} {x : Addr} (o : OddV H (.ref x)) : H x ≠ none := by
  cases o with
  | lst h => rw [h]; exact fun e => by cases e
  | dK h => rw [h]; exact fun e => by cases e
  | tup h => rw [h]; exact fun e => by cases e
theorem Good.new {H : Hp} {S : List Addr} {v : V} {l : Addr} (g : Good H S v) (n : H l = none) : Good H (l :: S) v := by
  obtain ⟨o, t, r, ri⟩ := g
  refine ⟨o, t, fun x e hx => ?_, fun vs e u hu x e' hx => ?_⟩
  · rcases List.mem_cons.mp hx with q | q
    · subst e q
      cases t with
      | tup h _ _ => rw [n] at h; cases h
      | lst h => rw [n] at h; cases h
    · exact r x e q
  · rcases List.mem_cons.mp hx with q | q
    · subst e' q e
      cases t with
      | tup h oo _ => exact odd_live (oo _ hu) n
    · exact ri vs e u hu x e' q
theorem good_tup {H : Hp} {S : List Addr} {a : Addr} {vs : List V} (h : H a = some (.tup vs)) (ns : a ∉ S) (o : ∀ v ∈ vs, OddV H v ∧ refsOut S v) (l : vs.length ≤ 1000) : Good H S (.ref a) :=
  ⟨some vs, .tup h (fun v hv => (o v hv).1) l, fun x e => by cases e; exact ns, fun ws e u hu => by cases e; exact (o u hu).2⟩
theorem good_lst {H : Hp} {S : List Addr} {a : Addr} {xs : List V} (h : H a = some (.lst xs)) (ns : a ∉ S) : Good H S (.ref a) :=
  ⟨none, .lst h, fun x e => by cases e; exact ns, fun ws e => by cases e⟩
theorem good_non {H : Hp} {S : List Addr} : Good H S .non := ⟨none, .non, fun x e => (by cases e), fun ws e => by cases e⟩
theorem good_int {H : Hp} {S : List Addr} {i : Int} : Good H S (.int i) := ⟨none, .int i, fun x e => (by cases e), fun ws e => by cases e⟩
theorem odd_ints {H : Hp} {S : List Addr} {vs : List V} {xs : List Int} (h : ∀ v ∈ vs, v ∈ xs.map V.int) : ∀ v ∈ vs, OddV H v ∧ refsOut S v := fun v hv => by
  obtain ⟨i, _, rfl⟩ := List.mem_map.mp (h v hv)
  exact ⟨.int i, fun x e => by cases e⟩
end KR
/-! tuples of rows, also ones whose object is known -/
namespace KQ
open PySem PySem.Spec PyProof.Rows L2 KR KM StX
/-- a tuple of rows -/
def TL (H : Hp) (a : Addr) (xss : List (List Int)) : Prop := ∃ ts : List Addr, Rd H a (.tup (ts.map V.ref)) ∧ Its H ts xss
theorem TT.tl {H : Hp} {a : Addr} {xss : List (List Int)} (h : TT H a xss) : TL H a xss := let ⟨ts, e, i⟩ := h; ⟨ts, .inl e, i⟩
theorem TL.mono {H H' : Hp} {a : Addr} {xss : List (List Int)} (h : TL H a xss) (s : Same H H') : TL H' a xss := let ⟨ts, e, i⟩ := h; ⟨ts, e.mono s, i.mono s⟩
theorem dp_tl {K : PySem.W.Frag} {H : Hp} {a : Addr} {xss : List (List Int)} (h : TL H a xss) : Dp K H (.ref a) (.tuple (xss.map fun xs => PyData.tuple (xs.map PyData.int))) := by
  obtain ⟨ts, e, h1⟩ := h
  exact .tup (rdT e) (dp_its h1)
theorem TL.put {H : Hp} {a L : Addr} {xss : List (List Int)} {xs : List V} {o : HO} (h : TL H a xss) (e : H L = some (.lst xs)) : TL (upd H L o) a xss := by
  obtain ⟨ts, el, its⟩ := h
  exact ⟨ts, el.put (el.ne e (fun _ z => by cases z) (fun _ _ z => by cases z)), its.put e⟩
/-- an object known to have no attributes of its own -/
def Bare (H : Hp) (a : Addr) : Prop := ∃ o u, H a = some (.frz o u) ∧ o.dict = none
theorem Bare.mono {H H' : Hp} {a : Addr} (h : Bare H a) (s : Same H H') : Bare H' a := let ⟨o, u, e, d⟩ := h; ⟨o, u, s _ _ e, d⟩
section
variable {X : Cx} {K : PySem.W.Frag}
/-- tuple(l) of a list: a new one, known -/
def rTupB (K : PySem.W.Frag) : List V → Hp → VK → Prop := fun xs H Q => ∃ p ys, xs = [.ref p] ∧ SqL K H p ys ∧ ∀ l o, H l = none → o.dict = none → Q (.ref l) (upd H l (.frz o (.tup ys)))
theorem k_tupB (hK : X.K = K) : CallR X (.type "tuple") (rTupB K) := by
  subst hK
  intro pins s σ H xs us Q I r h
  obtain ⟨p, ys, rfl, hq, q⟩ := h
  obtain ⟨u, rfl, rx⟩ := vals1 r
  cases rx
  obtain ⟨its, rv, pl, hz⟩ := I.list hq
  have len := rv.length
  refine call_tuple_list pl.isList (fun h' kp => ?_) (by simp only [List.size_toArray]; omega)
  have J : Inv X pins σ H { s with heap := h' } := I.kept (t' := s.toks) kp
  refine ⟨.ref h'.objs.size, _, J.laid (o := .frz { cls := .type "tuple", data := .seq its.toArray } (.tup ys)) (t' := s.toks) (fun b o e => Heap.get?_push_of_some _ e) (Nat.le_refl _)
    ⟨Heap.get?_push_size _ rfl, hz, its, rv, IsTup.new _ _⟩, rfl, q _ _ (J.hok.fresh (Nat.le_refl _)) rfl⟩
/-- t[lo:hi], t + u where t is a tuple known or not -/
def rSlR : V → Option Int → Option Int → Hp → VK → Prop := fun x lo hi H Q => rSlF x lo hi H Q ∨ ∃ a xs, x = .ref a ∧ Rd H a (.tup xs) ∧ ∀ H' p, Same H H' → Rd H' p (.tup (cutV xs lo hi)) → Q (.ref p) H'
def rCatR : R2 := fun x y H Q => rCatF x y H Q ∨ ∃ a b xs ys, x = .ref a ∧ y = .ref b ∧ Rd H a (.tup xs) ∧ Rd H b (.tup ys) ∧ xs.length + ys.length ≤ 100000 ∧ ∀ H' p, Same H H' → Rd H' p (.tup (xs ++ ys)) → Q (.ref p) H'
theorem k_slR (hK : X.K = K) : SlR X rSlR := by
  intro pins s σ H x v vl vu lo hi sl Q I rx hs pl pu h
  rcases h with h | ⟨a, xs, rfl, hx, k⟩
  · exact k_slA hK pins s σ H x v vl vu lo hi sl Q I rx hs pl pu h
  refine sl_tupA pins s σ H _ v vl vu lo hi sl Q I rx hs pl pu ⟨a, xs, rfl, rdT hx, fun hw => k H a (Same.refl H) ?_, fun _ p np => k _ p (same_new np) (.inl upd_same)⟩
  unfold cutV
  rw [hw.1, hw.2, List.drop_zero, Nat.sub_zero, List.take_length]
  exact hx
theorem k_catR (hK : X.K = K) : OpR X (binaryOp .Add) rCatR := by
  intro pins s σ H x y v u Q I rx ry h
  rcases h with h | ⟨a, b, xs, ys, rfl, rfl, hx, hy, hl, k⟩
  · exact k_catA hK pins s σ H x y v u Q I rx ry h
  refine op_catA pins s σ H _ _ v u Q I rx ry ⟨a, b, xs, ys, rfl, rfl, rdT hx, rdT hy, Nat.le_of_lt (small_of hl), fun e => ?_, fun _ e => ?_, fun _ _ p np => k _ p (same_new np) (.inl upd_same)⟩
  · subst e
    exact k H b (Same.refl H) (by rw [List.nil_append]; exact hy)
  · subst e
    exact k H a (Same.refl H) (by rw [List.append_nil]; exact hx)
/-- a method of a tuple known, called -/
def tTM (K : PySem.W.Frag) (r : V → List V → Hp → VK → Prop) (to : TE) (t : TA) : TE := fun σ H Q => to σ H fun x H1 => (∃ p vs, x = .ref p ∧ SqT K H1 p vs ∧ Bare H1 p) ∧ t σ H1 fun xs H2 => r x xs H2 Q
theorem k_tm {o a : Expr} {more : List Expr} {to : TE} {t : TA} {name : Str} {p1 p2 : Pos} {id : String} {r : V → List V → Hp → VK → Prop} (hK : X.K = K) (sl : Slot "tuple" name id)
    (ty : typeOf (.builtin id) = pure (.type "method_descriptor")) (hm : MtR X id r) (ho : PE X o to) (ha : PA X (a :: more) t) (h1 : attributeBase o name X.env (eval o X.env) = eval o X.env := by rfl)
    (h2 : ((backTo p2 (starEach (a :: more) X.env)).all (fun z => !z.1) && (backToKw p2 (keywordEach [] X.env)).all (fun z => z.1.isSome) && decide ((a :: more).length + ([] : List Keyword).length + (if ([] : List Keyword).isEmpty then 0 else 1) < 30)) = true := by rfl)
    (h3 : (p1.endLine == p2.line) = true := by rfl) (h4 : starEach (a :: more) X.env = (false, eval a X.env) :: starEach more X.env := by rfl) (h5 : (backTo p2 (starEach more X.env)).any (·.1) = false := by rfl) :
    PE X (.Call (.Attribute o name p1) (a :: more) [] p2) (tTM K r to t) := by
  subst hK
  refine ⟨fun pins s σ H Q I h => wpAny_Call_method_late h1 h2 h3 rfl (thn (ho.run pins s σ H _ I h) fun v s1 hh => ?_)⟩
  obtain ⟨x, H1, I1, r1, ⟨p, vs, rfl, hq, ⟨ob, u, eb, db⟩⟩, q1⟩ := hh
  cases r1
  obtain ⟨its, _, ⟨ob2, e, c, d, _⟩, _⟩ := I1.tuple hq
  have gb : s1.heap.get? p = some ob := (show ObjOk X.prog X.w H1 s1.heap p (.frz ob u) from I1.hok p _ eb).1
  refine ⟨_, id, PySem.F.plainAttrs_tuple, sl, ty, ⟨ob2, e, c⟩, fun b ez => ⟨ob, by cases ez; exact gb, db⟩, ?_⟩
  have hA := ha.run p2 pins s1 σ H1 _ I1 q1
  rw [h4] at hA ⊢
  refine Calls.callWith_builtin (by show (false || (backTo p2 (starEach more X.env)).any (·.1)) = false; rw [h5]; rfl) (Calls.evalArgs_plain (thn hA fun us s2 hz => ?_))
  obtain ⟨ws, H2, I2, r2, q2⟩ := hz
  exact hm pins s2 σ H2 _ ws (Value.ref p) us Q I2 (show RelV (.ref p) (.ref p) from rfl) r2 q2
end
end KQ
/-! sorted(rows), rows tuples of whole numbers, any number of them -/
namespace KR
open PySem PySem.Spec PyProof.Rows L2 KM KQ
theorem lex_asym : ∀ x y : List Int, HT.lexLt x y = true → HT.lexLt y x = false
  | [], [], h => by cases h
  | [], _ :: _, _ => rfl
  | _ :: _, [], h => by cases h
  | x :: xs, y :: ys, h => by
    rw [HT.lexLt_cons] at h ⊢
    by_cases e : x = y
    · rw [if_pos e] at h
      rw [if_pos e.symm]
      exact lex_asym xs ys h
    · rw [if_neg e] at h
      rw [if_neg (fun z => e z.symm)]
      have := of_decide_eq_true h
      exact decide_eq_false (by omega)
theorem lex_tr : ∀ x y z : List Int, HT.lexLt y x = false → HT.lexLt z y = false → HT.lexLt z x = false
  | [], [], z, _, h => h
  | [], _ :: _, [], _, h => by cases h
  | [], _ :: _, _ :: _, _, _ => rfl
  | _ :: _, [], _, h, _ => by cases h
  | _ :: _, _ :: _, [], _, h => by cases h
  | x :: xs, y :: ys, z :: zs, h, g => by
    rw [HT.lexLt_cons] at h g ⊢
    by_cases e1 : y = x
    · rw [if_pos e1] at h
      by_cases e2 : z = y
      · rw [if_pos e2] at g
        rw [if_pos (e2.trans e1)]
        exact lex_tr xs ys zs h g
      · rw [if_neg e2] at g
        have := of_decide_eq_false g
        rw [if_neg (by omega)]
        exact decide_eq_false (by omega)
    · rw [if_neg e1] at h
      have a := of_decide_eq_false h
      by_cases e2 : z = y
      · rw [if_neg (by omega)]
        exact decide_eq_false (by omega)
      · rw [if_neg e2] at g
        have b := of_decide_eq_false g
        rw [if_neg (by omega)]
        exact decide_eq_false (by omega)
theorem lex_eq : ∀ x y : List Int, HT.lexLt x y = false → HT.lexLt y x = false → x = y
  | [], [], _, _ => rfl
  | [], _ :: _, h, _ => by cases h
  | _ :: _, [], _, h => by cases h
  | x :: xs, y :: ys, h, g => by
    rw [HT.lexLt_cons] at h g
    by_cases e : x = y
    · rw [if_pos e] at h
      rw [if_pos e.symm] at g
      rw [e, lex_eq xs ys h g]
    · rw [if_neg e] at h
      rw [if_neg (fun z => e z.symm)] at g
      have := of_decide_eq_false h
      have := of_decide_eq_false g
      omega
theorem swo_row (k : Value → List Int) : SrtO.Swo fun v u => HT.lexLt (k v) (k u) := ⟨fun _ _ h => lex_asym _ _ h, fun _ _ _ h g => lex_tr _ _ _ h g⟩
/-- a tuple of whole numbers, at least one -/
def IsRow (h : Heap) (v : Value) (ns : List Int) : Prop := ∃ a o its n, v = .ref a ∧ h.get? a = some o ∧ o.cls = .type "tuple" ∧ o.data = .seq (List.toArray its) n ∧ IntsAre its ns ∧ ns ≠ []
theorem IsRow.keeps {h h' : Heap} {v : Value} {ns : List Int} (p : IsRow h v ns) (k : ∀ b o, h.get? b = some o → o.cls = .type "tuple" → h'.get? b = some o) : IsRow h' v ns := by
  obtain ⟨a, o, its, n, e, ho, hc, hd, hi, ne⟩ := p
  exact ⟨a, o, its, n, e, k _ _ ho hc, hc, hd, hi, ne⟩
section
variable {prog : Program} {w : World} {A : Around} {s : Shared}
theorem kat_ints {fin : Bool} : ∀ {xs ys : List Value} {ns ms : List Int} {i : Nat} {R : Bool}, IntsAre xs ns → IntsAre ys ms →
    (ns.length - ms.length = 0 → ms.length - ns.length = 0 → fin = false) → (ns.length < ms.length → fin = true) → (ms.length < ns.length → fin = false) → R = HT.lexLt ns ms →
    PySem.W.KatLex prog w A true fin (fun r s' => s' = s ∧ r = R) (xs.zip ys) i s
  | [], [], _, _, i, R, .nil, .nil, h0, _, _, e => PySem.W.kat_nil ⟨rfl, by rw [e, h0 rfl rfl]; rfl⟩
  | [], _ :: _, _, _, i, R, .nil, .cons _ _ _, _, h1, _, e => PySem.W.kat_nil ⟨rfl, by rw [e, h1 (by simp)]; rfl⟩
  | _ :: _, [], _, _, i, R, .cons _ _ _, .nil, _, _, h2, e => PySem.W.kat_nil ⟨rfl, by rw [e, h2 (by simp)]; rfl⟩
  | _ :: xs, _ :: ys, _, _, i, R, .cons x t hi, .cons y u hj, h0, h1, h2, e => by
    rw [HT.lexLt_cons] at e
    rw [List.zip_cons_cons]
    refine PySem.W.kat_cons (SeqAt.EqAt.int_int x t y u prog w _ _ ?_)
    refine PySem.W.kat_go (fun e1 => ?_) (fun e1 => ?_)
    · have ex : x = y := by simpa using e1
      rw [if_pos ex] at e
      refine PySem.W.kat_yes (kat_ints hi hj (fun a b => h0 ?_ ?_) (fun a => h1 ?_) (fun a => h2 ?_) e)
      · rw [List.length_cons, List.length_cons]; omega
      · rw [List.length_cons, List.length_cons]; omega
      · rw [List.length_cons, List.length_cons]; omega
      · rw [List.length_cons, List.length_cons]; omega
    · have ex : ¬ x = y := by simpa using e1
      rw [if_neg ex] at e
      by_cases hz : i = 0
      · subst hz
        exact PySem.W.kat_no (oneLt_int ⟨rfl, e.symm⟩)
      · refine PySem.W.kat_no ?_
        rw [show (true && i == 0) = false by simp [hz]]
        exact PySem.W.kat_one _ _ (PyProof.Rows.lt_int (show s = s ∧ decide (x < y) = R from ⟨rfl, e.symm⟩))
theorem row_cmp {vs : List Value} {k : Value → List Int} (hp : ∀ v ∈ vs, IsRow s.heap v (k v)) : SrtO.Cmp prog w A s (tuples' true) (fun p => p.1 ∈ vs) (SrtO.lt2 fun v u => HT.lexLt (k v) (k u)) := by
  intro p q hm hm'
  show wpAny (model prog w) A (keyLt' (tuples' true) p.1 q.1) (fun r s' => s' = s ∧ r = HT.lexLt (k p.1) (k q.1)) (fun _ _ => False) s
  obtain ⟨a, o, its, n, e, ho, hc, hd, hi, ne⟩ := hp _ hm
  obtain ⟨a', o', its', n', e', ho', hc', hd', hi', ne'⟩ := hp _ hm'
  rw [e, e'] at *
  have l1 := hi.length
  have l2 := hi'.length
  refine PySem.W.kat_lt ho hd ho' hd' ?_
  show PySem.W.KatLex prog w A true _ _ (its.zip its') 0 s
  refine kat_ints hi hi' (fun a b => ?_) (fun a => ?_) (fun a => ?_) rfl
  · exact decide_eq_false (by rw [List.size_toArray, List.size_toArray]; omega)
  · exact decide_eq_true (by rw [List.size_toArray, List.size_toArray]; omega)
  · exact decide_eq_false (by rw [List.size_toArray, List.size_toArray]; omega)
theorem row_firsts {h : Heap} {k : Value → List Int} : ∀ {vs : List Value}, (∀ v ∈ vs, IsRow h v (k v)) → ∃ fs : List Value, PySem.W.KatTups h vs fs ∧ fs.length = vs.length ∧ ∀ f ∈ fs, ∃ x t, f = Value.int x t
  | [], _ => ⟨[], PySem.W.KatTups.nil, rfl, fun _ hm => by simp at hm⟩
  | v :: vs, hp => by
    obtain ⟨fs, h1, h2, h3⟩ := row_firsts (vs := vs) fun v' hm => hp v' (List.mem_cons_of_mem _ hm)
    obtain ⟨a, o, its, n, e, ho, hc, hd, hi, ne⟩ := hp v List.mem_cons_self
    subst e
    cases hk : k (.ref a) with
    | nil => exact absurd hk ne
    | cons x r =>
      rw [hk] at hi
      cases hi with
      | cons _ t hr =>
        refine ⟨.int x t :: fs, PySem.W.KatTups.cons ho hc hd rfl h1, by rw [List.length_cons, List.length_cons, h2], fun f hm => ?_⟩
        rcases List.mem_cons.mp hm with rfl | hm
        · exact ⟨x, t, rfl⟩
        · exact h3 f hm
theorem rows_sortable {a : Addr} {vs : List Value} {k : Value → List Int} (h0 : 0 < vs.length) (hp : ∀ v ∈ vs, IsRow s.heap v (k v)) (ha : ∀ o, s.heap.get? a = some o → o.cls ≠ .type "tuple") :
    SrtO.SortableO prog w A s a vs fun v u => HT.lexLt (k v) (k u) := by
  intro h' keep
  have hp' : ∀ v ∈ vs, IsRow h' v (k v) := fun v hm => (hp v hm).keeps fun b o e c => keep b o (fun z => by subst z; exact ha o e c) e
  obtain ⟨fs, h1, h2, h3⟩ := row_firsts hp'
  refine ⟨tuples' true, fun Q E hq => ?_, row_cmp hp'⟩
  refine PySem.W.kat_kind (T := .type "int") h1 (by omega) (fun f hm => ?_) (by rfl) ?_
  · obtain ⟨x, t, rfl⟩ := h3 f hm
    exact PySem.W.Looks.now
  · have e : (Value.type "int" != Value.type "tuple") = true := by first | decide +kernel | rfl | decide
    rw [e]
    exact hq
theorem sorted_rows {l : Addr} {vs : List Value} {k : Value → List Int} {E : Value → Shared → Prop} {Q : Value → Shared → Prop} (hl : s.heap.IsList l vs.toArray) (hz : vs.length ≤ sizeLine) (hp : ∀ v ∈ vs, IsRow s.heap v (k v))
    (h : ∀ (h' : Heap) (d : Addr) (out : List Value), SrtO.Srtd (fun v u => HT.lexLt (k v) (k u)) out → SrtO.Stb (fun v u => HT.lexLt (k v) (k u)) out vs → (∀ b o, s.heap.get? b = some o → h'.get? b = some o) → s.heap.objs.size ≤ d → (∃ n, h'.get? d = some (seqObj "list" out.toArray n)) → Q (.ref d) { s with heap := h' }) :
    wpAny (model prog w) A (call (.builtin "sorted") [.ref l]) Q E s := by
  refine SrtO.sorted_ord (swo_row k) hl hz (fun h2 h₁ a ha kk => ?_) fun out hs hb => ?_
  · refine rows_sortable (s := { s with heap := h₁ }) (by omega) (fun v hm => (hp v hm).keeps fun b o e _ => (kk b o e).2) fun o e => ?_
    have e' : some o = some (seqObj "list" vs.toArray 0) := e.symm.trans ha
    cases e'
    intro c
    exact absurd (Value.type.inj c) (by decide)
  · exact h _ _ out hs hb (fun b o e => PyProof.Rows.sortedAll_old e) (Nat.le_succ _) (PyProof.Rows.sortedAll_at s.heap vs out.toArray)
end
def intsV : List V → List Int
  | [] => []
  | .int i :: r => i :: intsV r
  | _ :: r => intsV r
theorem intsV_map : ∀ xs : List Int, intsV (xs.map V.int) = xs
  | [] => rfl
  | x :: xs => by
    show x :: intsV (xs.map V.int) = x :: xs
    rw [intsV_map xs]
def tupV : Option HO → List Int
  | some (.tup vs) => intsV vs
  | some (.frz _ (.tup vs)) => intsV vs
  | _ => []
/-- the row at a tracked tuple -/
def rowOf (H : Hp) : V → List Int
  | .ref t => tupV (H t)
  | _ => []
theorem rowOf_ti {H : Hp} {t : Addr} {xs : List Int} (h : TI H t xs) : rowOf H (.ref t) = xs := by
  show tupV (H t) = xs
  have h : Rd H t (.tup (xs.map V.int)) := h
  rcases h with h | ⟨o, h⟩
  · rw [h]
    exact intsV_map xs
  · rw [h]
    exact intsV_map xs
def rSortedR (K : PySem.W.Frag) : List V → Hp → VK → Prop := fun vs H Q => ∃ (a : Addr) (ts : List Addr) (rows : List (List Int)), vs = [V.ref a] ∧ SqL K H a (ts.map V.ref) ∧ Its H ts rows ∧ (∀ r ∈ rows, r ≠ []) ∧
  ∀ ts' rows' p, rows'.Perm rows → rows'.Pairwise (fun x y => HT.lexLt y x = false) → Its H ts' rows' → H p = none → Q (.ref p) (upd H p (.lst (ts'.map V.ref)))
def rSortedRM (K : PySem.W.Frag) : List V → Hp → VK → Prop := fun vs H Q => ∃ (a : Addr) (ts : List Addr) (rows : List (List Int)), vs = [V.ref a] ∧ SqL K H a (ts.map V.ref) ∧ Its H ts rows ∧ (∀ r ∈ rows, r ≠ []) ∧
  ∀ ts' rows' p, rows'.Perm rows → rows'.Pairwise (fun x y => HT.lexLt y x = false) → Its H ts' rows' → H p = none → (∀ t ∈ ts', t ∈ ts) → Q (.ref p) (upd H p (.lst (ts'.map V.ref)))
theorem its_rows {H : Hp} : ∀ {ts : List Addr} {rows : List (List Int)}, Its H ts rows → rows = ts.map fun t => rowOf H (.ref t)
  | [], [], _ => rfl
  | [], _ :: _, h => by cases h.1
  | _ :: _, [], h => by cases h.1
  | t :: ts, r :: rows, h => by
    obtain ⟨ys, e, ht⟩ := h.2 0 t rfl
    obtain rfl : r = ys := Option.some.inj e
    rw [List.map_cons, rowOf_ti ht, ← its_rows (ts := ts) (rows := rows) ⟨Nat.succ.inj h.1, fun i u hu => h.2 (i + 1) u hu⟩]
theorem its_of {H : Hp} {ts : List Addr} (h : ∀ t ∈ ts, ∃ xs, TI H t xs) : Its H ts (ts.map fun t => rowOf H (.ref t)) := by
  refine ⟨by rw [List.length_map], fun i t ht => ?_⟩
  obtain ⟨xs, hx⟩ := h t (List.mem_of_getElem? ht)
  exact ⟨xs, by rw [at_map (f := fun t => rowOf H (.ref t)) ht, rowOf_ti hx], hx⟩
theorem intsAre_vals {xs : List Int} : ∀ {us : List Value}, Vals (xs.map V.int) us → IntsAre us xs := fun r => intsAre_of r
section
variable {X : Cx}
theorem cr_sortedR : CallR X (.builtin "sorted") (rSortedR X.K) := by
  intro pins s σ H vs us Q I r h
  obtain ⟨a, ts, rows, rfl, hs, its0, ne, q⟩ := h
  obtain ⟨its, rv, hl, hz⟩ := I.list hs
  obtain ⟨u, rfl, ru⟩ := vals1 r
  obtain rfl : u = Value.ref a := ru
  obtain ⟨e1, e2⟩ := refs_back rv fun x m => by
    obtain ⟨t, _, rfl⟩ := List.mem_map.mp m
    exact ⟨t, rfl⟩
  have hx : ∀ t ∈ ts, ∃ xs, TI H t xs ∧ xs ≠ [] := fun t ht => by
    obtain ⟨i, hi⟩ := List.mem_iff_getElem?.mp ht
    obtain ⟨xs, e, hti⟩ := its0.2 i t hi
    exact ⟨xs, hti, ne xs (List.mem_of_getElem? e)⟩
  have mem : ∀ v ∈ its, ∃ t, v = .ref t ∧ t ∈ ts := fun v hv => by
    obtain ⟨t, rfl⟩ := e2 v hv
    have hm : V.ref t ∈ ts.map V.ref := by rw [e1]; exact List.mem_map.mpr ⟨_, hv, rfl⟩
    obtain ⟨t', ht', e⟩ := List.mem_map.mp hm
    cases e
    exact ⟨t, rfl, ht'⟩
  refine sorted_rows (k := fun u => rowOf H (backV u)) hl.isList (by rw [← rv.length]; exact hz) (fun v hv => ?_) fun h' d out h1 h2 kp hd hn => ?_
  · obtain ⟨t, rfl, ht⟩ := mem v hv
    obtain ⟨xs, hti, nx⟩ := hx t ht
    obtain ⟨its2, r2, ⟨o, ho, hc, n, hdt⟩, _⟩ := I.tuple (TI.seq (K := X.K) hti)
    refine ⟨t, o, its2, n, rfl, ho, hc, hdt, ?_, ?_⟩
    · show IntsAre its2 (rowOf H (.ref t))
      rw [rowOf_ti hti]
      exact intsAre_of r2
    · show rowOf H (.ref t) ≠ []
      rw [rowOf_ti hti]
      exact nx
  · have h3 : ∀ u ∈ out, ∃ t, u = Value.ref t ∧ t ∈ ts := fun u hu => mem u (h2.perm.mem_iff.mp hu)
    obtain ⟨n, hn⟩ := hn
    obtain ⟨ts', hts'⟩ : ∃ ts' : List Addr, out = ts'.map Value.ref := by
      clear hn h2 h1
      induction out with
      | nil => exact ⟨[], rfl⟩
      | cons u out ih =>
        obtain ⟨t, rfl, _⟩ := h3 u List.mem_cons_self
        obtain ⟨ts', e⟩ := ih fun v hv => h3 v (List.mem_cons_of_mem _ hv)
        exact ⟨t :: ts', by rw [e]; rfl⟩
    subst hts'
    have eb : (ts'.map Value.ref).map backV = ts'.map V.ref := by
      rw [List.map_map]
      rfl
    have mts : ∀ t ∈ ts', t ∈ ts := fun t ht => by
      obtain ⟨t', e, hm⟩ := h3 _ (List.mem_map.mpr ⟨t, ht, rfl⟩)
      cases e
      exact hm
    refine ⟨.ref d, upd H d (.lst (ts'.map V.ref)), I.laid (t' := s.toks) kp hd ⟨?_, ts'.map Value.ref, n, by rw [← eb]; exact vals_back fun u hu => (h3 u hu).imp fun _ h => h.1, hn⟩, rfl, ?_⟩
    · have := h2.len
      rw [List.length_map] at this ⊢
      have l2 := rv.length
      omega
    refine q ts' (ts'.map fun t => rowOf H (.ref t)) d ?_ ?_ (its_of fun t ht => (hx t (mts t ht)).imp fun _ h => h.1) (I.hok.fresh hd)
    · have := h2.perm.map fun u => rowOf H (backV u)
      rw [List.map_map] at this
      rw [its_rows its0]
      have e3 : its.map (fun u => rowOf H (backV u)) = ts.map fun t => rowOf H (.ref t) := by
        have := congrArg (List.map (rowOf H)) e1
        rw [List.map_map, List.map_map] at this
        exact this.symm
      rw [e3] at this
      exact this
    · have := List.pairwise_map.mp h1
      exact List.pairwise_map.mpr this
theorem cr_sortedRM : CallR X (.builtin "sorted") (rSortedRM X.K) := by
  intro pins s σ H vs us Q I r h
  obtain ⟨a, ts, rows, rfl, hs, its0, ne, q⟩ := h
  obtain ⟨its, rv, hl, hz⟩ := I.list hs
  obtain ⟨u, rfl, ru⟩ := vals1 r
  obtain rfl : u = Value.ref a := ru
  obtain ⟨e1, e2⟩ := refs_back rv fun x m => by
    obtain ⟨t, _, rfl⟩ := List.mem_map.mp m
    exact ⟨t, rfl⟩
  have hx : ∀ t ∈ ts, ∃ xs, TI H t xs ∧ xs ≠ [] := fun t ht => by
    obtain ⟨i, hi⟩ := List.mem_iff_getElem?.mp ht
    obtain ⟨xs, e, hti⟩ := its0.2 i t hi
    exact ⟨xs, hti, ne xs (List.mem_of_getElem? e)⟩
  have mem : ∀ v ∈ its, ∃ t, v = .ref t ∧ t ∈ ts := fun v hv => by
    obtain ⟨t, rfl⟩ := e2 v hv
    have hm : V.ref t ∈ ts.map V.ref := by rw [e1]; exact List.mem_map.mpr ⟨_, hv, rfl⟩
    obtain ⟨t', ht', e⟩ := List.mem_map.mp hm
    cases e
    exact ⟨t, rfl, ht'⟩
  refine sorted_rows (k := fun u => rowOf H (backV u)) hl.isList (by rw [← rv.length]; exact hz) (fun v hv => ?_) fun h' d out h1 h2 kp hd hn => ?_
  · obtain ⟨t, rfl, ht⟩ := mem v hv
    obtain ⟨xs, hti, nx⟩ := hx t ht
    obtain ⟨its2, r2, ⟨o, ho, hc, n, hdt⟩, _⟩ := I.tuple (TI.seq (K := X.K) hti)
    refine ⟨t, o, its2, n, rfl, ho, hc, hdt, ?_, ?_⟩
    · show IntsAre its2 (rowOf H (.ref t))
      rw [rowOf_ti hti]
      exact intsAre_of r2
    · show rowOf H (.ref t) ≠ []
      rw [rowOf_ti hti]
      exact nx
  · have h3 : ∀ u ∈ out, ∃ t, u = Value.ref t ∧ t ∈ ts := fun u hu => mem u (h2.perm.mem_iff.mp hu)
    obtain ⟨n, hn⟩ := hn
    obtain ⟨ts', hts'⟩ : ∃ ts' : List Addr, out = ts'.map Value.ref := by
      clear hn h2 h1
      induction out with
      | nil => exact ⟨[], rfl⟩
      | cons u out ih =>
        obtain ⟨t, rfl, _⟩ := h3 u List.mem_cons_self
        obtain ⟨ts', e⟩ := ih fun v hv => h3 v (List.mem_cons_of_mem _ hv)
        exact ⟨t :: ts', by rw [e]; rfl⟩
    subst hts'
    have eb : (ts'.map Value.ref).map backV = ts'.map V.ref := by
      rw [List.map_map]
      rfl
    have mts : ∀ t ∈ ts', t ∈ ts := fun t ht => by
      obtain ⟨t', e, hm⟩ := h3 _ (List.mem_map.mpr ⟨t, ht, rfl⟩)
      cases e
      exact hm
    refine ⟨.ref d, upd H d (.lst (ts'.map V.ref)), I.laid (t' := s.toks) kp hd ⟨?_, ts'.map Value.ref, n, by rw [← eb]; exact vals_back fun u hu => (h3 u hu).imp fun _ h => h.1, hn⟩, rfl, ?_⟩
    · have := h2.len
      rw [List.length_map] at this ⊢
      have l2 := rv.length
      omega
    refine q ts' (ts'.map fun t => rowOf H (.ref t)) d ?_ ?_ (its_of fun t ht => (hx t (mts t ht)).imp fun _ h => h.1) (I.hok.fresh hd) mts
    · have := h2.perm.map fun u => rowOf H (backV u)
      rw [List.map_map] at this
      rw [its_rows its0]
      have e3 : its.map (fun u => rowOf H (backV u)) = ts.map fun t => rowOf H (.ref t) := by
        have := congrArg (List.map (rowOf H)) e1
        rw [List.map_map, List.map_map] at this
        exact this.symm
      rw [e3] at this
      exact this
    · have := List.pairwise_map.mp h1
      exact List.pairwise_map.mpr this
end
/-- two orders of the same unlike rows are one -/
theorem rows_uniq : ∀ {xs ys : List (List Int)}, xs.Perm ys → xs.Pairwise (fun x y => HT.lexLt y x = false) → ys.Pairwise (fun x y => HT.lexLt y x = false) → xs = ys := by
  intro xs ys h hx hy
  exact h.eq_of_pairwise (fun a b _ _ h1 h2 => (lex_eq b a h1 h2).symm) hx hy
end KR
/-! sorted of tuples of which some are empty, the first is not -/
namespace KR
open PySem PySem.Spec PyProof.Rows L2 KM KQ PySem.W PySem.Calls
section
variable {M : PySem.Model} {P : Program} {w : World} {A : Around} {E : Value → Shared → Prop} {s : Shared}
/-- whether what is read is a tuple with something in it -/
def full : PyData → Bool
  | .tuple (_ :: _) => true
  | _ => false
theorem looks_first : ∀ {vs : List Value} {ds : List PyData}, EachIs (fun v d => ∃ as, Reads s.heap v d as) vs ds → (∀ d ∈ ds, ∃ r, d = .tuple r) → ∀ {Q : List (Option Value) → Shared → Prop},
    (∀ fs : List (Option Value), fs.map (·.isSome) = ds.map full → Q fs s) → wpAny M A (vs.mapM firstOfTuple') Q E s
  | _, _, .nil, _, Q, h => by rw [List.mapM_nil]; exact wpAny_pure (h [] rfl)
  | _, _, .cons (a := v) (b := d) (as := vs) (bs := ds) ⟨_, r⟩ t, ht, Q, h => by
    obtain ⟨xs, rfl⟩ := ht d List.mem_cons_self
    cases r with
    | @tuple a o its n _ _ ho hc hd hr =>
      rw [List.mapM_cons]
      refine wpAny_bind ?_
      rw [kas_first_eq]
      refine wpAny_bind (Looks.here (show Looks M s.heap (typeOf (Value.ref a)) o.cls from (Looks.ld ho).andThen Looks.now) ?_)
      rw [hc]
      refine wp_if_neg (by decide) ?_
      refine wpAny_bind (listItems_at ho hd (wpAny_pure ?_))
      refine wpAny_bind (looks_first t (fun d hd => ht d (List.mem_cons_of_mem _ hd)) (Q := fun bs s' => wpAny M A (pure (its[0]? :: bs)) Q E s') fun fs hf => wpAny_pure (h _ ?_))
      rw [List.map_cons, List.map_cons, hf]
      refine congrArg (· :: _) ?_
      rw [← Array.getElem?_toList]
      cases q : its.toList with
      | nil =>
        rw [q] at hr
        cases hr
        rfl
      | cons f fr =>
        rw [q] at hr
        cases hr
        rfl
theorem kind_mixed {vs : List Value} {ds : List PyData} (e : EachIs (fun v d => ∃ as, Reads s.heap v d as) vs ds) (ht : ∀ d ∈ ds, ∃ r, d = .tuple r) {d0 : PyData} {dr : List PyData} (hd : ds = d0 :: dr) (h0 : full d0 = true) (h1 : ds.all full = false)
    {Q : SortKind → Shared → Prop} (h : Q general' s) : wpAny M A (keyKind' vs.toArray) Q E s := by
  rw [kat_kind_eq, List.mapM_toArray, map_eq_pure_bind]
  refine wpAny_bind (wpAny_bind (looks_first e ht fun fs hf => wpAny_pure ?_))
  have na : (fs.toArray.all fun x => x.isSome) = false := by
    rw [List.all_toArray, ← h1]
    have := congrArg (fun l => l.all id) hf
    simpa [List.all_map, Function.comp_def] using this
  refine wp_if_neg (by rw [na]; decide) ?_
  have n0 : ((fs.toArray[0]?).bind id).isSome = true := by
    rw [hd] at hf
    cases fs with
    | nil => cases hf
    | cons f fr =>
      rw [List.map_cons, List.map_cons] at hf
      have := (List.cons.inj hf).1
      rw [h0] at this
      simpa using this
  refine wp_if_pos n0 ?_
  exact wpAny_pure h
/-- values that read as tuples alike, the first with something in it -/
theorem sorts_mixed {vs : List Value} {ds : List PyData} (e : EachIs (fun v d => ∃ as, Reads s.heap v d as) vs ds) (hal : AllAlike ds) (ht : ∀ d ∈ ds, ∃ r, d = .tuple r) {d0 : PyData} {dr : List PyData} (hd : ds = d0 :: dr) (h0 : full d0 = true)
    (hu : ∀ d ∈ ds, A.units + d.depth < cLine) : SortsAt P w A s (dataKind s.heap ds) vs := by
  by_cases h1 : ds.all full = true
  · refine SortsAt.data e hal (.inl fun d m => ?_) hu
    obtain ⟨r, rfl⟩ := ht d m
    have := List.all_eq_true.mp h1 _ m
    cases r with
    | nil => cases this
    | cons x r => exact ⟨x, r, rfl⟩
  · refine ⟨fun v m => ?_, general', ?_, fun _ E' Q' q' => kind_mixed e ht hd h0 (by simpa using h1) q'⟩
    · obtain ⟨d, m', as, rd⟩ := e.left v m
      exact ⟨_, dataKind_some hal m' rd⟩
    · intro E' x y a b Q' ha hb q'
      obtain ⟨d, as, m1, ra, rfl⟩ := dataKind_inv ha
      obtain ⟨d', as', m2, rb, rfl⟩ := dataKind_inv hb
      refine (show wpAny (model P w) A (oneLt' false x y) Q' E' s from ?_)
      refine oneLt_alike (fun z => by cases z) ra rb (hal _ m1 _ m2) (fun z => ?_) (Nat.lt_of_le_of_lt (Nat.add_le_add_left (Nat.min_le_left _ _) _) (hu d m1)) q'
      obtain ⟨r, e'⟩ := ht d m1
      rw [e'] at z
      cases z
end
end KR
/-! lots sorted; dicts whose keys are lots -/
namespace KR
open PySem PySem.Spec PyProof.Rows L2 KM KQ PySem.W PySem.Calls
abbrev rowD (xs : List Int) : PyData := .tuple (xs.map PyData.int)
/-- a lot with its address -/
abbrev LA := List (List Int) × Addr
abbrev lotD (L : List (List Int)) : PyData := .tuple (L.map rowD)
theorem alike_lots : ∀ L M : List (List Int), alikeAll (L.map rowD) (M.map rowD) = true
  | [], _ => by simp [alikeAll]
  | _ :: _, [] => by simp [alikeAll]
  | x :: L, y :: M => by
    rw [List.map_cons, List.map_cons, alikeAll, alike_lots L M, Bool.and_true]
    show alike (.tuple _) (.tuple _) = true
    rw [alike]
    exact alike_ints x y
theorem depth_lots : ∀ L : List (List Int), PyData.depthAll (L.map rowD) ≤ 1
  | [] => by rw [List.map_nil, PyData.depthAll]; exact Nat.zero_le _
  | x :: L => by
    have := depth_lots L
    have h2 := PySem.W.depth_ints x
    rw [List.map_cons, PyData.depthAll]
    show max (PyData.depth (.tuple _)) _ ≤ 1
    rw [PyData.depth, h2]
    omega
noncomputable def leN : LA → LA → Bool := dataLe false fun x => lotD x.1
noncomputable def leL : List (List Int) → List (List Int) → Bool := dataLe false lotD
theorem leN_map (xs : List LA) : (xs.mergeSort leN).map (·.1) = (xs.map (·.1)).mergeSort leL := List.map_mergeSort fun _ _ _ _ => rfl
theorem valsF_back {α : Type} {f : α → Addr} : ∀ {xs : List α} {us : List Value}, Vals (xs.map fun x => V.ref (f x)) us → us = xs.map fun x => Value.ref (f x)
  | [], _, r => by cases r; rfl
  | x :: xs, _, r => by
    cases r with
    | cons h t =>
      rw [List.map_cons, valsF_back t]
      cases h
      rfl
theorem valsF_of {α : Type} {f : α → Addr} : ∀ xs : List α, Vals (xs.map fun x => V.ref (f x)) (xs.map fun x => Value.ref (f x))
  | [] => .nil
  | x :: xs => .cons rfl (valsF_of xs)
theorem each_map2 {α β γ : Type} {R : β → γ → Prop} {f : α → β} {g : α → γ} : ∀ {xs : List α}, (∀ x ∈ xs, R (f x) (g x)) → EachIs R (xs.map f) (xs.map g)
  | [], _ => .nil
  | x :: xs, h => .cons (h x List.mem_cons_self) (each_map2 fun y hy => h y (List.mem_cons_of_mem _ hy))
theorem each_out {α : Type} {f : α → Addr} : ∀ {out : List Value} {xs : List α}, EachIs (fun v x => v = Value.ref (f x)) out xs → out = xs.map fun x => Value.ref (f x)
  | _, _, .nil => rfl
  | _, _, .cons h t => by rw [List.map_cons, ← each_out t, h]
def rSortN (K : PySem.W.Frag) : List V → Hp → VK → Prop := fun vs H Q => ∃ (a : Addr) (xs : List LA), vs = [V.ref a] ∧ SqL K H a (xs.map fun x => V.ref x.2) ∧ (∀ x ∈ xs, TL H x.2 x.1) ∧ (∃ x r, xs = x :: r ∧ x.1 ≠ []) ∧
  ∀ p, H p = none → Q (.ref p) (upd H p (.lst ((xs.mergeSort leN).map fun x => V.ref x.2)))
section
variable {X : Cx} {pins : List (Addr × Obj)} {σ : L2.St} {H : Hp} {s : Shared}
theorem lots_read (I : Inv X pins σ H s) {xs : List LA} (ht : ∀ x ∈ xs, TL H x.2 x.1) : ∀ x ∈ xs, ∃ as, Reads s.heap (.ref x.2) (lotD x.1) as := fun x hx => Dp.reads I (lotD x.1) _ _ (dp_tl (ht x hx)) rfl
/-- the kind that lots sort by, and what comes -/
theorem lots_sort {P : Program} {w : World} {A : Around} {s2 : Shared} {xs : List LA} (rd : ∀ x ∈ xs, ∃ as, Reads s2.heap (.ref x.2) (lotD x.1) as) (h0 : ∃ x r, xs = x :: r ∧ x.1 ≠ []) (hu : A.units + 2 < cLine) :
    SortsAt P w A s2 (dataKind s2.heap (xs.map fun x => lotD x.1)) (xs.map fun x => Value.ref x.2) ∧
    sortVals (dataKind s2.heap (xs.map fun x => lotD x.1)) false (xs.map fun x => Value.ref x.2) (xs.map fun x => Value.ref x.2) = (xs.mergeSort leN).map fun x => Value.ref x.2 := by
  have al : AllAlike (xs.map fun x => lotD x.1) := AllAlike.of fun b b' => by
    show alike (.tuple _) (.tuple _) = true
    rw [alike]
    exact alike_lots _ _
  have e := each_map2 (R := fun v d => ∃ as, Reads s2.heap v d as) (f := fun x : LA => Value.ref x.2) (g := fun x : LA => lotD x.1) rd
  obtain ⟨x0, r0, hx, n0⟩ := h0
  refine ⟨?_, each_out (sortVals_data (R := fun v (x : LA) => v = Value.ref x.2) (enc := fun x : LA => lotD x.1) false ?_ ?_ al)⟩
  · refine sorts_mixed (d0 := lotD x0.1) (dr := r0.map fun x => lotD x.1) e al (fun d hd => ?_) (by rw [hx]; rfl) ?_ fun d hd => ?_
    · obtain ⟨x, _, rfl⟩ := List.mem_map.mp hd
      exact ⟨_, rfl⟩
    · cases q : x0.1 with
      | nil => exact absurd q n0
      | cons a b => rfl
    · obtain ⟨x, _, rfl⟩ := List.mem_map.mp hd
      have := depth_lots x.1
      show A.units + PyData.depth (.tuple _) < cLine
      rw [PyData.depth]
      omega
  · have := each_map2 (R := fun v (x : LA) => v = Value.ref x.2) (f := fun x : LA => Value.ref x.2) (g := fun x : LA => x) (xs := xs) fun _ _ => rfl
    rwa [List.map_id'] at this
  · have := each_map2 (R := fun v (x : LA) => ∃ as, Reads s2.heap v (lotD x.1) as) (f := fun x : LA => Value.ref x.2) (g := fun x : LA => x) (xs := xs) rd
    rwa [List.map_id'] at this
theorem cr_sortedN (hu : X.A.units + 64 < cLine) : CallR X (.builtin "sorted") (rSortN X.K) := by
  intro pins s σ H vs us Q I r h
  obtain ⟨a, xs, rfl, hs, ht, h0, q⟩ := h
  obtain ⟨its, rv, hl, hz⟩ := I.list hs
  obtain ⟨u, rfl, ru⟩ := vals1 r
  obtain rfl : u = Value.ref a := ru
  obtain rfl := valsF_back rv
  have rd := lots_read I ht
  have rd2 : ∀ x ∈ xs, ∃ as, Reads (sortingHeap (copyHeap s.heap (xs.map fun x => Value.ref x.2)) (s.heap.objs.size + 1) (xs.map fun x => Value.ref x.2)) (.ref x.2) (lotD x.1) as := fun x hx => by
    obtain ⟨as, r⟩ := rd x hx
    exact ⟨as, PyProof.Rows.Reads.keeps (fun _ _ => sorting_copy_old) r⟩
  have le : (xs.mergeSort leN).length = xs.length := List.length_mergeSort _
  have in2 : X.A.in1.in1.units ≤ X.A.units + 2 := by simp [Around.in1]
  obtain ⟨S, e⟩ := lots_sort (P := X.prog) (w := X.w) (A := X.A.in1.in1) (s2 := { s with heap := sortingHeap (copyHeap s.heap (xs.map fun x => Value.ref x.2)) (s.heap.objs.size + 1) (xs.map fun x => Value.ref x.2) }) rd2 h0 (by omega)
  refine sorted_vals hl.isList S (by simpa using hz) ?_
  rw [e]
  obtain ⟨e0, hat⟩ := PyProof.Rows.sortedAll_at s.heap (xs.map fun x => Value.ref x.2) ((xs.mergeSort leN).map fun x => Value.ref x.2).toArray
  refine ⟨.ref (s.heap.objs.size + 1), upd H (s.heap.objs.size + 1) (.lst ((xs.mergeSort leN).map fun x => V.ref x.2)), I.laid (t' := s.toks) (fun b o e => PyProof.Rows.sortedAll_old e) (Nat.le_succ _) ⟨?_, (xs.mergeSort leN).map fun x => Value.ref x.2, e0, valsF_of _, hat⟩, rfl, q _ (I.hok.fresh (Nat.le_succ _))⟩
  rw [List.length_map, le]
  simpa using hz
end
end KR
/-! lines as lots of two rows -/
namespace KQ
open PySem PySem.Spec PyProof.Rows L2 KR KM
abbrev rowE (e : En) : List Int := [e.1, e.2]
def lotZ (z : En × En) : List (List Int) := [rowE z.1, rowE z.2]
/-- a line, its lesser end first -/
def normZ (z : En × En) : List (List Int) := if HT.lexLt (rowE z.1) (rowE z.2) = true then [rowE z.1, rowE z.2] else [rowE z.2, rowE z.1]
noncomputable def plainL (zs : List (En × En)) : List (List (List Int)) := (zs.map normZ).mergeSort leL
theorem lotD_Z (z : En × En) : lotD (lotZ z) = lineD z := rfl
theorem norm_two (z : En × En) : ∃ r s, normZ z = [r, s] := by
  unfold normZ
  split
  · exact ⟨_, _, rfl⟩
  · exact ⟨_, _, rfl⟩
theorem DVs.ints {H : Hp} : ∀ xs : List Int, DVs H (xs.map PyData.int) (xs.map V.int)
  | [] => DVs.nil H
  | x :: xs => .cons (DV.of_int H x) (DVs.ints xs)
theorem DVs.strs {H : Hp} : ∀ xs : List Str, DVs H (xs.map PyData.str) (xs.map V.str)
  | [] => DVs.nil H
  | x :: xs => .cons (DV.of_str H x) (DVs.strs xs)
theorem DVs.ints_out {H : Hp} : ∀ {xs : List Int} {vs : List V}, DVs H (xs.map PyData.int) vs → vs = xs.map V.int
  | [], _, h => h.end'
  | x :: xs, _, h => by
    obtain ⟨v, vs, rfl, a, b⟩ := h.out
    rw [DVs.ints_out b]
    have : v = .int x := by simpa only [DV] using a
    rw [this]
    rfl
theorem DVs.strs_out {H : Hp} : ∀ {xs : List Str} {vs : List V}, DVs H (xs.map PyData.str) vs → vs = xs.map V.str
  | [], _, h => h.end'
  | x :: xs, _, h => by
    obtain ⟨v, vs, rfl, a, b⟩ := h.out
    rw [DVs.strs_out b]
    have : v = .str x := by simpa only [DV] using a
    rw [this]
    rfl
theorem DV.row {H : Hp} {xs : List Int} {v : V} (h : DV H (rowD xs) v) : ∃ a, v = .ref a ∧ TI H a xs := by
  obtain ⟨a, vs, e, ea, hs⟩ := h.tup
  rw [hs.ints_out] at ea
  exact ⟨a, e, ea⟩
theorem DV.of_row {H : Hp} {xs : List Int} {a : Addr} (h : TI H a xs) : DV H (rowD xs) (.ref a) := DV.of_tup h (DVs.ints xs)
theorem DVs.rows {H : Hp} : ∀ {L : List (List Int)} {ts : List Addr}, Its H ts L → DVs H (L.map rowD) (ts.map V.ref)
  | [], ts, h => by
    have : ts = [] := List.length_eq_zero_iff.mp h.1
    subst this
    exact DVs.nil H
  | x :: L, [], h => by cases h.1
  | x :: L, t :: ts, h => by
    obtain ⟨y, e, g⟩ := h.2 0 t rfl
    cases e
    exact .cons (DV.of_row g) (DVs.rows ⟨Nat.succ.inj h.1, fun i u hu => h.2 (i + 1) u hu⟩)
theorem DVs.rows_out {H : Hp} : ∀ {L : List (List Int)} {vs : List V}, DVs H (L.map rowD) vs → ∃ ts, vs = ts.map V.ref ∧ Its H ts L
  | [], _, h => ⟨[], h.end', rfl, fun i t z => by cases z⟩
  | x :: L, _, h => by
    obtain ⟨v, vs, rfl, a, b⟩ := h.out
    obtain ⟨t, rfl, g⟩ := a.row
    obtain ⟨ts, rfl, i⟩ := DVs.rows_out b
    refine ⟨t :: ts, rfl, congrArg Nat.succ i.1, fun j u hu => ?_⟩
    cases j with
    | zero =>
      cases hu
      exact ⟨x, rfl, g⟩
    | succ j => exact i.2 j u hu
theorem DV.of_tl {H : Hp} {L : List (List Int)} {a : Addr} (h : TL H a L) : DV H (lotD L) (.ref a) := by
  obtain ⟨ts, e, i⟩ := h
  exact DV.of_tup e (DVs.rows i)
theorem DV.tl {H : Hp} {L : List (List Int)} {v : V} (h : DV H (lotD L) v) : ∃ a, v = .ref a ∧ TL H a L := by
  obtain ⟨a, vs, e, ea, hs⟩ := h.tup
  obtain ⟨ts, rfl, i⟩ := hs.rows_out
  exact ⟨a, e, ts, ea, i⟩
/-- the two ends of a line that stands -/
theorem DV.line {H : Hp} {z : En × En} {v : V} (h : DV H (lineD z) v) : ∃ a t1 t2, v = .ref a ∧ Rd H a (.tup [.ref t1, .ref t2]) ∧ TI H t1 (rowE z.1) ∧ TI H t2 (rowE z.2) := by
  obtain ⟨a, vs, e, ea, hs⟩ := h.tup
  obtain ⟨v1, vs1, rfl, h1, hs⟩ := hs.out
  obtain ⟨v2, vs2, rfl, h2, hs⟩ := hs.out
  obtain rfl := hs.end'
  obtain ⟨t1, rfl, g1⟩ := DV.row (xs := rowE z.1) h1
  obtain ⟨t2, rfl, g2⟩ := DV.row (xs := rowE z.2) h2
  exact ⟨a, t1, t2, e, ea, g1, g2⟩
theorem its_two {H : Hp} {t1 t2 : Addr} {r s : List Int} (h1 : TI H t1 r) (h2 : TI H t2 s) : Its H [t1, t2] [r, s] := ⟨rfl, fun i t ht => by
  match i, ht with
  | 0, e => cases e; exact ⟨r, rfl, h1⟩
  | 1, e => cases e; exact ⟨s, rfl, h2⟩
  | i + 2, e => cases e⟩
/-- lots in a list, after sorting: data -/
theorem dvs_sorted {H : Hp} {xs : List LA} (h : ∀ x ∈ xs, TL H x.2 x.1) : DVs H (((xs.mergeSort leN).map (·.1)).map lotD) ((xs.mergeSort leN).map fun x => V.ref x.2) := by
  have : ∀ ys : List LA, (∀ y ∈ ys, TL H y.2 y.1) → DVs H ((ys.map (·.1)).map lotD) (ys.map fun x => V.ref x.2) := by
    intro ys
    induction ys with
    | nil => exact fun _ => DVs.nil H
    | cons y ys ih => exact fun hy => .cons (DV.of_tl (hy y List.mem_cons_self)) (ih fun z hz => hy z (List.mem_cons_of_mem _ hz))
  exact this _ fun y hy => h y ((List.mergeSort_perm xs leN).mem_iff.mp hy)
end KQ
/-! new tuples whose object is known: displays, sums -/
namespace KQ
open PySem PySem.Spec PyProof.Rows L2 KR KM StX
section
variable {X : Cx} {K : PySem.W.Frag} {es : List Expr} {t : TA} {pos : Pos}
def tTupB (t : TA) : TE := fun σ H Q => t σ H fun xs H1 => xs.length ≤ sizeLine ∧ ∀ p o, H1 p = none → o.dict = none → Q (.ref p) (upd H1 p (.frz o (.tup xs)))
theorem pe_tupB {x1} (h : PA X es t) : PE X (.Tuple es x1 pos) (tTupB t) := by
  refine ⟨fun pins s σ H Q I hq => ?_⟩
  refine wpAny_Tuple_spliced (thn (h.run pos pins s σ H _ I hq) fun us s1 ⟨xs, H1, I1, r, z, q⟩ => ⟨by rw [← r.length]; exact z, ?_⟩)
  have hf : H1 s1.heap.objs.size = none := I1.hok.fresh (Nat.le_refl _)
  refine ⟨.ref s1.heap.objs.size, _, I1.laid (o := .frz _ (.tup xs)) (t' := s1.toks) (fun b u e => Heap.get?_push_of_some _ e) (Nat.le_refl _) ⟨Heap.get?_push_size _ rfl, z, us, r, ⟨_, Heap.get?_push_size _ rfl, rfl, _, rfl⟩⟩, rfl, q _ _ hf rfl⟩
/-- t + u, both not empty: a new one, known -/
def rCatB : R2 := fun x y H Q => ∃ a b xs ys, x = .ref a ∧ y = .ref b ∧ Rd H a (.tup xs) ∧ Rd H b (.tup ys) ∧ xs ≠ [] ∧ ys ≠ [] ∧ xs.length + ys.length ≤ 100000 ∧ ∀ p o, H p = none → o.dict = none → Q (.ref p) (upd H p (.frz o (.tup (xs ++ ys))))
theorem op_catB : OpR X (binaryOp .Add) rCatB := by
  intro pins s σ H x y v u Q I rx ry h
  obtain ⟨a, b, xs, ys, rfl, rfl, ha, hb, hx, hy, hz, q⟩ := h
  cases rx
  cases ry
  obtain ⟨its, r1, p1, _⟩ := I.tuple (rdT ha)
  obtain ⟨its2, r2, p2, _⟩ := I.tuple (rdT hb)
  have z : xs.length + ys.length ≤ sizeLine := Nat.le_of_lt (small_of hz)
  refine HT.cat_tup p1 p2 (fun z => hx (r1.nil_iff.mp z)) (fun z => absurd (r2.nil_iff.mp z) hy) (fun _ => ?_) (by rw [← r1.length, ← r2.length]; exact z)
  refine ⟨.ref s.heap.objs.size, _, I.laid (t' := s.toks) (o := .frz _ (.tup (xs ++ ys))) (fun b ob q => Heap.get?_push_of_some _ q) (Nat.le_refl _) ⟨Heap.get?_push_size _ rfl, by rw [List.length_append]; exact z, _, r1.append r2, IsTup.new _ _⟩, rfl, q _ _ (I.hok.fresh (Nat.le_refl _)) rfl⟩
end
end KQ
/-! how often: whole numbers in a list or a tuple, rows in a list -/
namespace KQ
open PySem PySem.Spec PyProof.Rows L2 KR KM StX
theorem k_lcnt {X : Cx} {K : PySem.W.Frag} (hK : X.K = K) : MtR X "list.count" (rCntI K) := by
  subst hK
  exact mt_lcount
def rCntT (K : PySem.W.Frag) : V → List V → Hp → VK → Prop := fun x xs H Q => ∃ (a : Addr) (ns : List Int) (y : Int), x = .ref a ∧ xs = [.int y] ∧ SqT K H a (ns.map V.int) ∧ Q (.int ((ns.countP (fun z => decide (z = y)) : Nat) : Int)) H
theorem k_tcnt {X : Cx} {K : PySem.W.Frag} (hK : X.K = K) (hu : X.A.units + 65 < cLine) : MtR X "tuple.count" (rCntT K) := by
  subst hK
  intro pins s σ H x xs v us Q I rx rxs h
  obtain ⟨a, ns, y, rfl, rfl, ha, q⟩ := h
  cases rx
  obtain ⟨u, rfl, ru⟩ := rxs.one
  obtain ⟨vs, rv, pt, hz⟩ := I.tuple ha
  obtain ⟨as, hr⟩ := Dp.reads I (.int y) _ u (.int _) ru
  obtain ⟨bs, hrs⟩ := Dp.readsAll I (ns.map PyData.int) _ vs (dpAll_ints _) rv
  have hall : PySem.W.HoldAll s.heap vs ns := ⟨bs, hrs⟩
  have hone : PySem.W.Holds s.heap u y := ⟨as, hr⟩
  exact PySem.W.count_tuple_datum pt hall hone (by have e : PySem.W.Datum.depth Int = 0 := rfl; rw [e]; omega) ⟨.int _, H, I.tok _, ⟨_, rfl⟩, q⟩
abbrev rowU5 (xs : List Int) : PySem.W.Tup Int := ⟨xs⟩
def rCntR (K : PySem.W.Frag) : V → List V → Hp → VK → Prop := fun x xs H Q => ∃ (a t : Addr) (ts : List Addr) (xss : List (List Int)) (y : List Int), x = .ref a ∧ xs = [.ref t] ∧ SqL K H a (ts.map V.ref) ∧ Its H ts xss ∧ TI H t y ∧ Q (.int ((xss.countP (fun z => decide (z = y)) : Nat) : Int)) H
theorem k_rcnt {X : Cx} {K : PySem.W.Frag} (hK : X.K = K) (hu : X.A.units + 65 < cLine) : MtR X "list.count" (rCntR K) := by
  subst hK
  intro pins s σ H x xs v us Q I rx rxs h
  obtain ⟨a, t, ts, xss, y, rfl, rfl, ha, its, ty, q⟩ := h
  cases rx
  obtain ⟨u, rfl, ru⟩ := rxs.one
  obtain ⟨vs, rv, pt, hz⟩ := I.list ha
  obtain ⟨as, hr⟩ := Dp.reads I (.tuple (y.map PyData.int)) _ u (dp_ti ty) ru
  obtain ⟨bs, hrs⟩ := Dp.readsAll I (xss.map fun xs => PyData.tuple (xs.map PyData.int)) _ vs (dp_its its) rv
  have hall : PySem.W.HoldAll s.heap vs (xss.map rowU5) := ⟨bs, by rw [List.map_map]; exact hrs⟩
  have hone : PySem.W.Holds s.heap u (rowU5 y) := ⟨as, hr⟩
  refine PySem.W.count_list_datum pt.isList hall hone (by show X.A.units + 1 + (0 + 1) < cLine; omega) ⟨.int _, H, I.tok _, ⟨_, rfl⟩, ?_⟩
  rw [List.countP_map, show ((fun z : PySem.W.Tup Int => decide (z = rowU5 y)) ∘ rowU5) = fun z => decide (z = y) from funext fun z => decide_eq_decide.mpr ⟨fun e => PySem.W.Tup.mk.inj e, fun e => by rw [e]⟩]
  exact q
end KQ
/-! l.index(x); x in l for data of any depth; lots sorted, or nothing -/
namespace KR
open PySem PySem.Spec PyProof.Rows L2 KM KQ PySem.W PySem.Calls
theorem k_index {X : Cx} {K : PySem.W.Frag} (hK : X.K = K) : MtR X "list.index" (rIndex K) := by
  subst hK
  exact mt_index
theorem k_indexD {X : Cx} {K : PySem.W.Frag} (hK : X.K = K) (hu : X.A.units + 65 < cLine) : MtR X "list.index" (rIndexD K) := by
  subst hK
  exact mt_indexD hu
theorem k_inD {X : Cx} {K : PySem.W.Frag} (hK : X.K = K) (hu : X.A.units + 65 < cLine) : OpR X (compareOp .In) (rInD K) := by
  subst hK
  exact op_inD hu
theorem k_sortNI {X : Cx} {K : PySem.W.Frag} (hK : X.K = K) (hu : X.A.units + 64 < cLine) : CallR X (.builtin "sorted") (fun vs H Q => rSortN K vs H Q ∨ rSortedI K vs H Q) := by
  subst hK
  exact CallR.or (cr_sortedN hu) cr_sortedI
end KR
/-! how often a text stands in a tuple; t < u of rows -/
namespace KQ
open PySem PySem.Spec PyProof.Rows L2 KR KM StX
theorem dpAll_strs {K : PySem.W.Frag} {H : Hp} : ∀ xs : List Str, DpAll K H (xs.map V.str) (xs.map PyData.str)
  | [] => .nil
  | x :: r => .cons (.str x) (dpAll_strs r)
def rCntS (K : PySem.W.Frag) : V → List V → Hp → VK → Prop := fun x xs H Q => ∃ (a : Addr) (ns : List Str) (y : Str), x = .ref a ∧ xs = [.str y] ∧ SqT K H a (ns.map V.str) ∧ Q (.int ((ns.countP (fun z => decide (z = y)) : Nat) : Int)) H
theorem k_scnt {X : Cx} {K : PySem.W.Frag} (hK : X.K = K) (hu : X.A.units + 65 < cLine) : MtR X "tuple.count" (rCntS K) := by
  subst hK
  intro pins s σ H x xs v us Q I rx rxs h
  obtain ⟨a, ns, y, rfl, rfl, ha, q⟩ := h
  cases rx
  obtain ⟨u, rfl, ru⟩ := rxs.one
  obtain ⟨vs, rv, pt, hz⟩ := I.tuple ha
  obtain ⟨as, hr⟩ := Dp.reads I (.str y) _ u (.str _) ru
  obtain ⟨bs, hrs⟩ := Dp.readsAll I (ns.map PyData.str) _ vs (dpAll_strs _) rv
  have hall : PySem.W.HoldAll s.heap vs ns := ⟨bs, hrs⟩
  have hone : PySem.W.Holds s.heap u y := ⟨as, hr⟩
  exact PySem.W.count_tuple_datum pt hall hone (by have e : PySem.W.Datum.depth Str = 0 := rfl; rw [e]; omega) ⟨.int _, H, I.tok _, ⟨_, rfl⟩, q⟩
theorem k_ltT {X : Cx} {K : PySem.W.Frag} (hK : X.K = K) (hu : X.A.units < cLine) : OpR X (compareOp .Lt) (rLtT K) := by
  subst hK
  exact op_ltT hu
theorem room0g {k : Nat} {A : Around} (r : Room k A) : A.units < cLine := by
  have := r.un
  omega
theorem room65g {k : Nat} {A : Around} (r : Room k A) : A.units + 65 < cLine := by
  have := r.un
  omega
end KQ
/-! an end in a list of ends -/
namespace KQ
open PySem PySem.Spec PyProof.Rows L2 KR KM StX
theorem lay_rowsG : ∀ xss : List (List Int), PyData.canLayAll0 (xss.map rowD) = true
  | [] => rfl
  | xs :: r => by
    rw [List.map_cons]
    simp only [PyData.canLayAll0, PyData.canLay0, lay0, lay_rowsG r, Bool.and_self]
theorem depth_rowsG : ∀ xss : List (List Int), PyData.depthAll (xss.map rowD) ≤ 1
  | [] => Nat.zero_le _
  | xs :: r => by
    rw [List.map_cons]
    have := depth_rowsG r
    simp only [PyData.depthAll, PyData.depth, depth0]
    omega
theorem shaped_rowsG (xss : List (List Int)) : SeqAt.shaped (.list (xss.map rowD)) = true := by
  have h1 : PyData.canLay0 (.list (xss.map rowD)) = true := by simp only [PyData.canLay0, lay_rowsG]
  have h2 : PyData.depth (.list (xss.map rowD)) ≤ 64 := by
    have := depth_rowsG xss
    simp only [PyData.depth]
    omega
  exact Bool.and_eq_true_iff.mpr ⟨h1, decide_eq_true h2⟩
theorem any_rowsG (xss : List (List Int)) (x : List Int) : ((xss.map rowD).any fun z => PyData.eqv z (rowD x)) = decide (x ∈ xss) := by
  induction xss with
  | nil => rfl
  | cons y r ih =>
    rw [List.map_cons, List.any_cons, ih, show PyData.eqv (rowD y) (rowD x) = decide (y = x) from eqv_ints y x]
    by_cases e : y = x
    · subst e
      simp
    · have e2 : ¬ x = y := fun q => e q.symm
      simp [e, e2]
theorem shaped_rowG (xs : List Int) : SeqAt.shaped (rowD xs) = true := by
  have h1 : PyData.canLay0 (rowD xs) = true := by simp only [PyData.canLay0, lay0]
  have h2 : PyData.depth (rowD xs) ≤ 64 := by
    simp only [PyData.depth, depth0]
    omega
  exact Bool.and_eq_true_iff.mpr ⟨h1, decide_eq_true h2⟩
theorem rowE_inj {a b : En} (h : rowE a = rowE b) : a = b := by
  have h1 := List.cons.inj h
  have h2 := List.cons.inj h1.2
  exact Prod.ext h1.1 h2.1
theorem mem_rowE {x : En} {es : List En} : rowE x ∈ es.map rowE ↔ x ∈ es := by
  constructor
  · intro h
    obtain ⟨y, hy, e⟩ := List.mem_map.mp h
    rw [← rowE_inj e]
    exact hy
  · exact List.mem_map_of_mem
/-- what is asked where the wanted end is among the met ones -/
theorem in_ends {K : PySem.W.Frag} {H : Hp} {l : Addr} {vs : List V} {es : List En} {v : V} {x : En} {Q : VK} (el : H l = some (.lst vs)) (hs : DVs H (es.map endD) vs) (hv : DV H (endD x) v) (q : Q (.bl (decide (x ∈ es))) H) : rInD K v (.ref l) H Q := by
  have e : es.map endD = (es.map rowE).map rowD := by
    rw [List.map_map]
    rfl
  refine ⟨endD x, es.map endD, hv.dp, .lst (sqL el) hs.dp, shaped_rowG (rowE x), ?_, ?_⟩
  · rw [e]
    exact shaped_rowsG _
  · have := any_rowsG (es.map rowE) (rowE x)
    rw [← e] at this
    show Q (.bl ((es.map endD).any fun z => PyData.eqv z (rowD (rowE x)))) H
    rw [this]
    by_cases c : x ∈ es
    · rw [decide_eq_true (mem_rowE.mpr c)]
      rw [decide_eq_true c] at q
      exact q
    · rw [decide_eq_false (fun z => c (mem_rowE.mp z))]
      rw [decide_eq_false c] at q
      exact q
end KQ
/-! the heap without the state of the draws -/
namespace KQ
open PySem PySem.Spec PyProof.Rows L2 KR KM StX
def Out (m g : Addr) (H : Hp) : Hp := fun a => if a = m ∨ a = g then none else H a
theorem out_same (m g : Addr) (H : Hp) : Same (Out m g H) H := fun a u h => by
  unfold Out at h
  split at h
  · cases h
  · exact h
theorem out_at {m g a : Addr} {H : Hp} {u : HO} (e : H a = some u) (n1 : a ≠ m) (n2 : a ≠ g) : Out m g H a = some u := by
  unfold Out
  rw [if_neg fun z => z.elim n1 n2]
  exact e
theorem out_kept {m g : Addr} {H H' : Hp} (k : Kept H H' m g) : Same (Out m g H) (Out m g H') := fun a u h => by
  unfold Out at h ⊢
  split at h
  · cases h
  · rename_i c
    rw [if_neg c]
    exact k a u h (fun e => c (.inl e)) (fun e => c (.inr e))
theorem out_mono {m g : Addr} {H H' : Hp} (s : Same H H') : Same (Out m g H) (Out m g H') := out_kept (Kept.of s)
theorem out_rd {m c g a : Addr} {b : Int} {H : Hp} {xs : List V} (ms : MS H m c g b) (h : Rd H a (.tup xs)) : Rd (Out m g H) a (.tup xs) := by
  obtain ⟨cs, gs, k, h1, h2, h3, r⟩ := ms
  have n1 : a ≠ m := h.ne h1 (fun _ z => by cases z) (fun _ _ z => by cases z)
  have n2 : a ≠ g := h.ne h3 (fun _ z => by cases z) (fun _ _ z => by cases z)
  rcases h with h | ⟨o, h⟩
  · exact .inl (out_at h n1 n2)
  · exact .inr ⟨o, out_at h n1 n2⟩
theorem out_bare {m c g a : Addr} {b : Int} {H : Hp} (ms : MS H m c g b) (h : Bare H a) : Bare (Out m g H) a := by
  obtain ⟨cs, gs, k, h1, h2, h3, r⟩ := ms
  obtain ⟨o, u, e, d⟩ := h
  refine ⟨o, u, out_at e (fun z => ?_) (fun z => ?_), d⟩
  · rw [z, h1] at e
    cases e
  · rw [z, h3] at e
    cases e
theorem out_its {m c g : Addr} {b : Int} {H : Hp} {ts : List Addr} {xss : List (List Int)} (ms : MS H m c g b) (h : Its H ts xss) : Its (Out m g H) ts xss := ⟨h.1, fun i t ht => by
  obtain ⟨xs, e, r⟩ := h.2 i t ht
  exact ⟨xs, e, out_rd ms r⟩⟩
theorem out_tl {m c g a : Addr} {b : Int} {H : Hp} {L : List (List Int)} (ms : MS H m c g b) (h : TL H a L) : TL (Out m g H) a L := by
  obtain ⟨ts, e, i⟩ := h
  exact ⟨ts, out_rd ms e, out_its ms i⟩
theorem lex_two (a b c d : Int) : HT.lexLt [a, b] [c, d] = decide (([a, b] : List Int) < [c, d]) := by
  rw [HT.lexLt_cons, HT.lexLt_cons, HT.lexLt_nil_nil, Bool.eq_iff_iff, decide_eq_true_eq, List.cons_lt_cons_iff, List.cons_lt_cons_iff]
  by_cases e : a = c
  · rw [if_pos e]
    by_cases f : b = d
    · rw [if_pos f]
      simp [e, f]
    · rw [if_neg f]
      simp [e, f]
  · rw [if_neg e]
    simp [e]
theorem rowD_lt (a b : En) : PySem.W.dataLt (rowD (rowE a)) (rowD (rowE b)) = HT.lexLt (rowE a) (rowE b) := by
  have h := PySem.W.dataLt_ints (rowE a) (rowE b)
  show PySem.W.dataLt (.tuple _) (.tuple _) = _
  rw [PySem.W.dataLt_tuple]
  refine Eq.trans h ?_
  exact (lex_two _ _ _ _).symm
theorem lex_tot {a b : En} (h : a ≠ b) : HT.lexLt (rowE b) (rowE a) = !HT.lexLt (rowE a) (rowE b) := by
  obtain ⟨a1, a2⟩ := a
  obtain ⟨b1, b2⟩ := b
  show HT.lexLt [b1, b2] [a1, a2] = !HT.lexLt [a1, a2] [b1, b2]
  rw [HT.lexLt_cons, HT.lexLt_cons, HT.lexLt_nil_nil, HT.lexLt_cons, HT.lexLt_cons, HT.lexLt_nil_nil]
  by_cases e : a1 = b1
  · subst e
    have f : a2 ≠ b2 := fun z => h (by rw [z])
    rw [if_pos rfl, if_pos rfl, if_neg f, if_neg f.symm]
    by_cases g : a2 < b2
    · rw [decide_eq_true g, decide_eq_false (by omega)]
      rfl
    · rw [decide_eq_false g, decide_eq_true (by omega)]
      rfl
  · rw [if_neg e, if_neg fun z => e z.symm]
    by_cases g : a1 < b1
    · rw [decide_eq_true g, decide_eq_false (by omega)]
      rfl
    · rw [decide_eq_false g, decide_eq_true (by omega)]
      rfl
end KQ
namespace KQ
open PySem PySem.Spec PyProof.Rows L2 KR KM StX
theorem gNG {i : Nat} {v : V} {σ : L2.St} {H : Hp} {Q : L2.St → Hp → Prop} (h : Q (σ.set i (some v)) H) : gName i v σ H Q := h
theorem seq_cutG {t u : Ends → L2.St → Hp → Prop} {D : Ends} {σ : L2.St} {H : Hp} (Fact : L2.St → Hp → Prop) (h1 : ∀ k : L2.St → Hp → Prop, (∀ σ' H', Fact σ' H' → k σ' H') → t { D with nx := k } σ H) (h2 : ∀ σ' H', Fact σ' H' → u D σ' H') : tSeq t u D σ H := h1 _ h2
/-- ends in a list -/
def EndsL (H : Hp) (l : Addr) (es : List En) : Prop := ∃ ts : List Addr, H l = some (.lst (ts.map V.ref)) ∧ Its H ts (es.map rowE)
theorem EndsL.kept {H H' : Hp} {m c g l : Addr} {b : Int} {es : List En} (h : EndsL H l es) (ms : MS H m c g b) (k : Kept H H' m g) (n1 : l ≠ m) (n2 : l ≠ g) : EndsL H' l es := by
  obtain ⟨ts, e, i⟩ := h
  exact ⟨ts, k _ _ e n1 n2, i.1, fun j t ht => by
    obtain ⟨xs, a, b⟩ := i.2 j t ht
    exact ⟨xs, a, k.ti ms b⟩⟩
theorem its_ref {H : Hp} {ts : List Addr} {xss : List (List Int)} (h : Its H ts xss) {i : Nat} (hi : i < xss.length) : ∃ t, (ts.map V.ref)[i]? = some (.ref t) ∧ TI H t xss[i] := by
  have hl : i < ts.length := by rw [h.1]; exact hi
  refine ⟨ts[i], by rw [List.getElem?_map, List.getElem?_eq_getElem hl]; rfl, ?_⟩
  obtain ⟨xs, e, r⟩ := h.2 i ts[i] (List.getElem?_eq_getElem hl)
  rw [List.getElem?_eq_getElem hi] at e
  cases e
  exact r
theorem its_one {H : Hp} {t : Addr} {r : List Int} (h1 : TI H t r) : Its H [t] [r] := ⟨rfl, fun i u hu => by
  match i, hu with
  | 0, e => cases e; exact ⟨r, rfl, h1⟩
  | i + 1, e => cases e⟩
theorem ends_app {H : Hp} {l : Addr} {ts us : List Addr} {es fs : List En} (e : H l = some (.lst (ts.map V.ref))) (i : Its H ts (es.map rowE)) (j : Its H us (fs.map rowE)) : EndsL (upd H l (.lst (ts.map V.ref ++ us.map V.ref))) l (es ++ fs) := by
  refine ⟨ts ++ us, ?_, ?_⟩
  · rw [upd_same, List.map_append]
  · rw [List.map_append]
    exact (i.app j).put e
theorem EndsL.mono {H H' : Hp} {l : Addr} {es : List En} (h : EndsL H l es) (s : Same H H') : EndsL H' l es := by
  obtain ⟨ts, e, i⟩ := h
  exact ⟨ts, s _ _ e, i.mono s⟩
theorem kept_free {H H' : Hp} {m g a : Addr} (k : Kept H H' m g) (n : H' a = none) (n1 : a ≠ m) (n2 : a ≠ g) : H a = none := by
  cases h : H a with
  | none => rfl
  | some u =>
    rw [k a u h n1 n2] at n
    cases n
theorem rg_two {h : Nat} (hh : h < 50) : RgC 0 (2 * ((h : Nat) : Int)) 2 h := by
  have : ∀ h : Fin 50, (Builtin.Range.small 0 (2 * ((h.val : Nat) : Int)) 2 && decide (Builtin.Range.rangeSize 0 (2 * ((h.val : Nat) : Int)) 2 = ((h.val : Nat) : Int))) = true := by decide +kernel
  have t := Bool.and_eq_true_iff.mp (this ⟨h, hh⟩)
  exact ⟨by decide, by decide, t.1, of_decide_eq_true t.2⟩
theorem ti_if {H : Hp} {t1 t2 : Addr} {x1 x2 : En} (c : Bool) (h1 : TI H t1 (rowE x1)) (h2 : TI H t2 (rowE x2)) : TI H (if c = true then t2 else t1) (rowE (if c = true then x2 else x1)) := by
  cases c
  · exact h1
  · exact h2
theorem lots_lines {L : List (List (List Int))} (h : ∀ x ∈ L, ∃ z, x = lotZ z) : ∃ zs : List (En × En), L = zs.map lotZ := by
  induction L with
  | nil => exact ⟨[], rfl⟩
  | cons x L ih =>
    obtain ⟨z, e⟩ := h x List.mem_cons_self
    obtain ⟨zs, f⟩ := ih fun y hy => h y (List.mem_cons_of_mem _ hy)
    exact ⟨z :: zs, by rw [e, f]; rfl⟩
/-- lots sorted that are lines: data again -/
theorem lines_sorted {ls : List LA} (h : ∀ x ∈ ls, ∃ z, x.1 = lotZ z) : ∃ zs : List (En × En), zs.length = ls.length ∧ ((ls.mergeSort leN).map (·.1)).map lotD = zs.map lineD := by
  obtain ⟨zs, e⟩ := lots_lines (L := (ls.mergeSort leN).map (·.1)) fun x hx => by
    obtain ⟨y, hy, rfl⟩ := List.mem_map.mp hx
    exact h y ((List.mergeSort_perm ls leN).mem_iff.mp hy)
  refine ⟨zs, ?_, ?_⟩
  · have := congrArg List.length e
    rw [List.length_map, List.length_map, List.length_mergeSort] at this
    exact this.symm
  · rw [e, List.map_map]
    rfl
end KQ
/-! what a bent piece is -/
namespace KQ
open PySem PySem.Spec PyProof.Rows L2 KR KM StX
structure Bi (G : Hp) (a ak al : Addr) (n : Int) (xk xl : List V) (ks ls : List PyData) : Prop where
  ra : Rd G a (.tup [.int n, .ref ak, .ref al])
  rk : Rd G ak (.tup xk)
  dk : DVs G ks xk
  bk : ks.length ≤ 200 → Bare G ak
  rl : Rd G al (.tup xl)
  dl : DVs G ls xl
theorem Bi.mono {G G' : Hp} {a ak al : Addr} {n : Int} {xk xl : List V} {ks ls : List PyData} (h : Bi G a ak al n xk xl ks ls) (s : Same G G') : Bi G' a ak al n xk xl ks ls :=
  ⟨h.ra.mono s, h.rk.mono s, h.dk.mono s, fun z => (h.bk z).mono s, h.rl.mono s, h.dl.mono s⟩
def ValG (k : Nat) (G : Hp) (d : PyData) (v : V) : Prop := DV G d v ∧ ∀ e ks ls, d = .tuple [e, .tuple ks, .tuple ls] → ks.length ≤ k ∧ (ls.length ≤ 13 ∨ (320 < ls.length ∧ ls.length ≤ 100000)) ∧
  ∃ a ak x1 x3, v = .ref a ∧ Rd G a (.tup [x1, .ref ak, x3]) ∧ (ks.length ≤ 200 → Bare G ak)
theorem ValG.mono {k : Nat} {G G' : Hp} {d : PyData} {v : V} (h : ValG k G d v) (s : Same G G') : ValG k G' d v := ⟨h.1.mono s, fun e ks ls z => by
  obtain ⟨a1, a2, a, ak, x1, x3, e1, r, b⟩ := h.2 e ks ls z
  exact ⟨a1, a2, a, ak, x1, x3, e1, r.mono s, fun z => (b z).mono s⟩⟩
theorem ValG.odd {k : Nat} {G : Hp} {d : PyData} {v : V} (h : DV G d v) (n : ∀ e ks ls, d ≠ .tuple [e, .tuple ks, .tuple ls]) : ValG k G d v := ⟨h, fun e ks ls z => absurd z (n e ks ls)⟩
theorem ValG.three {k : Nat} {G : Hp} {a ak : Addr} {x1 x3 : V} {e : PyData} {ks ls : List PyData} (r : Rd G a (.tup [x1, .ref ak, x3])) (h1 : DV G e x1) (h2 : DV G (.tuple ks) (.ref ak)) (h3 : DV G (.tuple ls) x3) (b : ks.length ≤ 200 → Bare G ak) (bk : ks.length ≤ k) (bl : ls.length ≤ 13 ∨ (320 < ls.length ∧ ls.length ≤ 100000)) :
    ValG k G (.tuple [e, .tuple ks, .tuple ls]) (.ref a) := by
  refine ⟨DV.of_tup r (.cons h1 (.cons h2 (.cons h3 (DVs.nil _)))), fun e' ks' ls' z => ?_⟩
  cases z
  exact ⟨bk, bl, a, ak, x1, x3, rfl, r, b⟩
theorem Rd.inj {H : Hp} {a : Addr} {xs ys : List V} (h : Rd H a (.tup xs)) (k : Rd H a (.tup ys)) : xs = ys := by
  rcases h with h | ⟨o, h⟩
  · rcases k with k | ⟨o', k⟩
    · rw [h] at k
      cases k
      rfl
    · rw [h] at k
      cases k
  · rcases k with k | ⟨o', k⟩
    · rw [h] at k
      cases k
    · rw [h] at k
      cases k
      rfl
theorem out_new {m c g t : Addr} {b : Int} {H : Hp} {o : HO} (ms : MS H m c g b) (n : H t = none) : Out m g (upd H t o) t = some o := by
  have nn := ms.ne n
  exact out_at upd_same nn.1 nn.2.2
theorem DVs.rep {G : Hp} {ds : List PyData} {xs : List V} (h : DVs G ds xs) : ∀ k : Nat, DVs G (List.replicate k ds).flatten (List.replicate k xs).flatten
  | 0 => DVs.nil G
  | k + 1 => by
    rw [List.replicate_succ, List.replicate_succ, List.flatten_cons, List.flatten_cons]
    exact h.app (DVs.rep h k)
/-- the heap without a list that grows, too -/
abbrev OutM (M m g : Addr) (H : Hp) : Hp := Out M M (Out m g H)
theorem outM_ne {M m g a : Addr} {H : Hp} {u : HO} (h : OutM M m g H a = some u) : a ≠ M ∧ Out m g H a = some u := by
  unfold OutM at h
  generalize Out m g H = G at h
  unfold Out at h
  split at h
  · cases h
  · rename_i c
    exact ⟨fun e => c (.inl e), h⟩
theorem outM_of {M m g a : Addr} {H : Hp} {u : HO} (n : a ≠ M) (h : Out m g H a = some u) : OutM M m g H a = some u := by
  unfold OutM
  generalize Out m g H = G at h ⊢
  exact out_at h n n
theorem outM_kept {M m g : Addr} {H H' : Hp} (k : Kept H H' m g) : Same (OutM M m g H) (OutM M m g H') := fun a u h => by
  obtain ⟨n, e⟩ := outM_ne h
  exact outM_of n (out_kept k _ _ e)
theorem outM_upd {M m g : Addr} {H : Hp} {o : HO} : Same (OutM M m g H) (OutM M m g (upd H M o)) := fun a u h => by
  obtain ⟨n, e⟩ := outM_ne h
  refine outM_of n ?_
  unfold Out at e ⊢
  split at e
  · cases e
  · rename_i c
    rw [if_neg c, upd_ne n]
    exact e
theorem outM_in {M m g : Addr} {H H' : Hp} (k : Kept H H' m g) (nM : H M = none) : Same (Out m g H) (OutM M m g H') := fun a u h => by
  refine outM_of (fun e => ?_) (out_kept k _ _ h)
  rw [e] at h
  have := out_same m g H _ _ h
  rw [nM] at this
  cases this
theorem outM_out {M m g : Addr} {H : Hp} : Same (OutM M m g H) (Out m g H) := out_same M M _
theorem outM_new {M m c g t : Addr} {b : Int} {H : Hp} {o : HO} {xs : List V} (ms : MS H m c g b) (eM : H M = some (.lst xs)) (n : H t = none) : OutM M m g (upd H t o) t = some o := outM_of (fun e => by
  rw [e, eM] at n
  cases n) (out_new ms n)
theorem DVs.rev {G : Hp} : ∀ {ds : List PyData} {xs : List V}, DVs G ds xs → DVs G ds.reverse xs.reverse
  | [], _, h => by
    rw [h.end']
    exact DVs.nil G
  | d :: ds, _, h => by
    obtain ⟨v, vs, rfl, a, b⟩ := h.out
    rw [List.reverse_cons, List.reverse_cons]
    exact (DVs.rev b).app (.cons a (DVs.nil G))
end KQ
namespace KQ
open PySem PySem.Spec PyProof.Rows L2 KR KM StX
section
variable {P : Program} {w : World} {K : PySem.W.Frag} {mg : Str → Option Value} {base : Heap}
def intD (lo hi : Int) : PyData → Bool
  | .int i => decide (lo ≤ i ∧ i ≤ hi)
  | _ => false
def isID : PyData → Bool
  | .int _ => true
  | _ => false
def spIsIntD : Sp := fun vs H Q _ => ∃ (v : V) (d : PyData), vs = [v] ∧ DV H d v ∧ Q (.bl (isID d)) H
theorem ok_is_integerD (D : DefAt K mg "is_integer" s_is_integer) (T : Bt mg) : Use P w K mg base "is_integer" 1 ["value"] spIsIntD := by
  refine use_of D (fun f fd F => F.ok sc_is_integer (fun vs H Q E h => ?_) (fun cdv A outer s H vs Q E hr h => ?_)) (fun _ _ _ _ _ _ us hl => match us, hl with | [_], _ => rfl)
  · obtain ⟨v, d, rfl, _⟩ := h
    rfl
  · obtain ⟨v, d, rfl, o, q⟩ := h
    refine ⟨_, (pss_one (ps_ret (pe_and (pe_callB (k_isi (K := K) rfl) (by rfl) T.isinstance (by decide +kernel) (pa_cons (pv 0) (pa_cons (pe_bltn (v := .ty "int") (by rfl) T.int (by decide +kernel) rfl) pa_nil))) (pe_one (pe_not (pe_callB (k_isi (K := K) rfl) (by rfl) T.isinstance (by decide +kernel) (pa_cons (pv 0) (pa_cons (pe_bltn (v := .ty "bool") (by rfl) T.bool (by decide +kernel) rfl) pa_nil)))))))), ?_⟩
    obtain ⟨t1, y1, e1⟩ := dv_ty (K := K) o (C := "int") (.inl rfl)
    obtain ⟨t2, y2, e2⟩ := dv_ty (K := K) o (C := "bool") (.inr (.inl rfl))
    refine ⟨_, rfl, _, _, t1, _, _, rfl, .ty _, y1, e1, _, rfl, ?_⟩
    cases d with
    | int i => exact iteT ⟨_, rfl, _, _, t2, _, _, rfl, .ty _, y2, e2, _, rfl, q⟩
    | bool b => exact iteT ⟨_, rfl, _, _, t2, _, _, rfl, .ty _, y2, e2, _, rfl, q⟩
    | none => exact iteF q
    | str x => exact iteF q
    | list x => exact iteF q
    | tuple x => exact iteF q
    | dict x => exact iteF q
def spIntWD : Sp := fun vs H Q _ => ∃ (v : V) (d : PyData) (lo hi : Int), vs = [v, .int lo, .int hi] ∧ DV H d v ∧ Q (.bl (intD lo hi d)) H
theorem two_le {i lo hi : Int} {Q : VK} {H : Hp} (q : Q (.bl (decide (lo ≤ i ∧ i ≤ hi))) H) : (lo ≤ i → Q (.bl (decide (i ≤ hi))) H) ∧ (¬ lo ≤ i → Q (.bl false) H) := by
  refine ⟨fun h => ?_, fun h => ?_⟩
  · have e : decide (lo ≤ i ∧ i ≤ hi) = decide (i ≤ hi) := by simp [h]
    rw [e] at q
    exact q
  · have e : decide (lo ≤ i ∧ i ≤ hi) = false := by simp [h]
    rw [e] at q
    exact q
theorem ok_is_integer_withinD (D : DefAt K mg "is_integer_within" s_is_integer_within) (T : Bt mg) (u_is_integer : Use P w K mg base "is_integer" 1 ["value"] spIsIntD) : Use P w K mg base "is_integer_within" 2 ["value", "least", "most"] spIntWD := by
  refine use_of D (fun f fd F => F.ok sc_is_integer_within (fun vs H Q E h => ?_) (fun cdv A outer s H vs Q E hr h => ?_)) (fun _ _ _ _ _ _ us hl => match us, hl with | [_, _, _], _ => rfl)
  · obtain ⟨v, d, lo, hi, rfl, _⟩ := h
    rfl
  · obtain ⟨v, d, lo, hi, rfl, o, q⟩ := h
    refine ⟨_, (pss_one (ps_ret (pe_and (pe_use u_is_integer (by decide) hr (by rfl) (pa_cons (pv 0) pa_nil)) (pe_one (pe_chain op_le op_le (pv 1) (pv 0) (pv 2)))))), ?_⟩
    refine ⟨_, rfl, v, d, rfl, o, isID d, rfl, ?_⟩
    cases d with
    | int i =>
      have e : v = .int i := by simpa only [DV] using o
      subst e
      refine iteT ⟨_, rfl, _, rfl, lo, i, rfl, rfl, _, rfl, ?_⟩
      obtain ⟨q1, q2⟩ := two_le (Q := Q) (H := H) q
      by_cases h1 : lo ≤ i
      · rw [decide_eq_true h1]
        exact iteT ⟨_, rfl, i, hi, rfl, rfl, q1 h1⟩
      · rw [decide_eq_false h1]
        exact iteF (q2 h1)
    | bool b => exact iteF q
    | none => exact iteF q
    | str x => exact iteF q
    | list x => exact iteF q
    | tuple x => exact iteF q
    | dict x => exact iteF q
theorem ok_law_is_intD (D : DefAt K mg "_law_is_int" s__law_is_int) (T : Bt mg) : Use P w K mg base "_law_is_int" 1 ["thing", "low", "high"] spIntWD := by
  refine use_of D (fun f fd F => F.ok sc__law_is_int (fun vs H Q E h => ?_) (fun cdv A outer s H vs Q E hr h => ?_)) (fun _ _ _ _ _ _ us hl => match us, hl with | [_, _, _], _ => rfl)
  · obtain ⟨v, d, lo, hi, rfl, _⟩ := h
    rfl
  · obtain ⟨v, d, lo, hi, rfl, o, q⟩ := h
    refine ⟨_, (pss_one (ps_ret (pe_and (pe_callB (k_isi (K := K) rfl) (by rfl) T.isinstance (by decide +kernel) (pa_cons (pv 0) (pa_cons (pe_bltn (v := .ty "int") (by rfl) T.int (by decide +kernel) rfl) pa_nil))) (pe_and (pe_not (pe_callB (k_isi (K := K) rfl) (by rfl) T.isinstance (by decide +kernel) (pa_cons (pv 0) (pa_cons (pe_bltn (v := .ty "bool") (by rfl) T.bool (by decide +kernel) rfl) pa_nil)))) (pe_one (pe_chain op_le op_le (pv 1) (pv 0) (pv 2))))))), ?_⟩
    obtain ⟨t1, y1, e1⟩ := dv_ty (K := K) o (C := "int") (.inl rfl)
    obtain ⟨t2, y2, e2⟩ := dv_ty (K := K) o (C := "bool") (.inr (.inl rfl))
    refine ⟨_, rfl, _, _, t1, _, _, rfl, .ty _, y1, e1, _, rfl, ?_⟩
    cases d with
    | int i =>
      have e : v = .int i := by simpa only [DV] using o
      refine iteT ⟨_, rfl, _, _, t2, _, _, rfl, .ty _, y2, e2, _, rfl, _, rfl, ?_⟩
      subst e
      refine iteT ⟨_, rfl, _, rfl, lo, i, rfl, rfl, _, rfl, ?_⟩
      obtain ⟨q1, q2⟩ := two_le (Q := Q) (H := H) q
      by_cases h1 : lo ≤ i
      · rw [decide_eq_true h1]
        exact iteT ⟨_, rfl, i, hi, rfl, rfl, q1 h1⟩
      · rw [decide_eq_false h1]
        exact iteF (q2 h1)
    | bool b => exact iteT ⟨_, rfl, _, _, t2, _, _, rfl, .ty _, y2, e2, _, rfl, _, rfl, iteF q⟩
    | none => exact iteF q
    | str x => exact iteF q
    | list x => exact iteF q
    | tuple x => exact iteF q
    | dict x => exact iteF q
def tupD (lo hi : Int) : PyData → Bool
  | .tuple ds => decide (lo ≤ (ds.length : Int) ∧ (ds.length : Int) ≤ hi)
  | _ => false
def spTupWD : Sp := fun vs H Q _ => ∃ (v : V) (d : PyData) (lo hi : Int), vs = [v, .int lo, .int hi] ∧ DV H d v ∧ Q (.bl (tupD lo hi d)) H
theorem ok_is_tuple_withinD (D : DefAt K mg "is_tuple_within" s_is_tuple_within) (T : Bt mg) : Use P w K mg base "is_tuple_within" 1 ["value", "least", "most"] spTupWD := by
  refine use_of D (fun f fd F => F.ok sc_is_tuple_within (fun vs H Q E h => ?_) (fun cdv A outer s H vs Q E hr h => ?_)) (fun _ _ _ _ _ _ us hl => match us, hl with | [_, _, _], _ => rfl)
  · obtain ⟨v, d, lo, hi, rfl, _⟩ := h
    rfl
  · obtain ⟨v, d, lo, hi, rfl, o, q⟩ := h
    refine ⟨_, (pss_one (ps_ret (pe_and (pe_callB (k_isi (K := K) rfl) (by rfl) T.isinstance (by decide +kernel) (pa_cons (pv 0) (pa_cons (pe_bltn (v := .ty "tuple") (by rfl) T.tuple (by decide +kernel) rfl) pa_nil))) (pe_one (pe_chain op_le op_le (pv 1) (pe_callB (k_len (K := K) rfl) (by rfl) T.len PySem.boot_len (pa_cons (pv 0) pa_nil)) (pv 2)))))), ?_⟩
    obtain ⟨t1, y1, e1⟩ := dv_ty (K := K) o (C := "tuple") (.inr (.inr (.inr rfl)))
    refine ⟨_, rfl, _, _, t1, _, _, rfl, .ty _, y1, e1, _, rfl, ?_⟩
    cases d with
    | tuple ds =>
      obtain ⟨a, xs, rfl, e, hs⟩ := o.tup
      have ln := hs.len
      refine iteT ⟨_, rfl, _, rfl, a, _, rfl, .inr (rdT e), lo, _, rfl, rfl, _, rfl, ?_⟩
      rw [ln]
      obtain ⟨q1, q2⟩ := two_le (Q := Q) (H := H) q
      by_cases h1 : lo ≤ (ds.length : Int)
      · rw [decide_eq_true h1]
        exact iteT ⟨_, rfl, _, hi, rfl, rfl, q1 h1⟩
      · rw [decide_eq_false h1]
        exact iteF (q2 h1)
    | bool b => exact iteF q
    | none => exact iteF q
    | str x => exact iteF q
    | list x => exact iteF q
    | int x => exact iteF q
    | dict x => exact iteF q
abbrev s_is_sort : Stmt := topS 11
theorem sc_is_sort : FnScope ["value"] ["value"] (defScope s_is_sort) := ⟨rfl, rfl, rfl, by decide +kernel, rfl, by decide +kernel, by decide +kernel⟩
def spSort : Sp := fun vs H Q _ => ∃ (v : V) (d : PyData), vs = [v] ∧ DV H d v ∧ ∀ H', Same H H' → Q (.bl (sortB d)) H'
theorem ok_is_sort (D : DefAt K mg "is_sort" s_is_sort) (T : Bt mg) (z_str : mg "str" = none) : Use P w K mg base "is_sort" 1 ["value"] spSort := by
  refine use_of D (fun f fd F => F.ok sc_is_sort (fun vs H Q E h => ?_) (fun cdv A outer s H vs Q E hr h => ?_)) (fun _ _ _ _ _ _ us hl => match us, hl with | [_], _ => rfl)
  · obtain ⟨v, d, rfl, _⟩ := h
    rfl
  · obtain ⟨v, d, rfl, o, q⟩ := h
    refine ⟨_, (pss_one (ps_ret (pe_and (pe_callB (k_isi (K := K) rfl) (by rfl) T.isinstance (by decide +kernel) (pa_cons (pv 0) (pa_cons (pe_bltn (v := .ty "str") (by rfl) z_str (by decide +kernel) rfl) pa_nil))) (pe_one (pe_cmpR (k_in (K := K) rfl) (pv 0) (pe_tup (pa_cons pe_str (pa_cons pe_str pa_nil))) (by rfl)))))), ?_⟩
    obtain ⟨t1, y1, e1⟩ := dv_ty (K := K) o (C := "str") (.inr (.inr (.inl rfl)))
    refine ⟨_, rfl, _, _, t1, _, _, rfl, .ty _, y1, e1, _, rfl, ?_⟩
    cases d with
    | str x =>
      have e : v = .str x := by simpa only [DV] using o
      subst e
      refine iteT ⟨_, rfl, by show 2 ≤ sizeLine; decide, fun tp ntp => ?_⟩
      refine ⟨tp, _, rfl, .inr (sqT upd_same), rfl, rfl, ?_⟩
      have := q _ (same_new (o := .tup [V.str "both", V.str "either"]) ntp)
      have e : (if false = true then !L2.inV (V.str x) [V.str "both", V.str "either"] else L2.inV (V.str x) [V.str "both", V.str "either"]) = sortB (.str x) := by
        show L2.inV (V.str x) [V.str "both", V.str "either"] = (decide (x = "both") || decide (x = "either"))
        show (("both" == x) || (("either" == x) || false)) = _
        rw [Bool.eq_iff_iff]
        simp only [Bool.or_eq_true, beq_iff_eq, decide_eq_true_eq, Bool.false_eq_true, or_false]
        exact ⟨fun h => h.imp Eq.symm Eq.symm, fun h => h.imp Eq.symm Eq.symm⟩
      rw [e]
      exact this
    | bool b => exact iteF (q H (.refl H))
    | none => exact iteF (q H (.refl H))
    | int x => exact iteF (q H (.refl H))
    | list x => exact iteF (q H (.refl H))
    | tuple x => exact iteF (q H (.refl H))
    | dict x => exact iteF (q H (.refl H))
end
end KQ
namespace KQ
open PySem PySem.Spec PyProof.Rows L2 KR KM StX
theorem endOf_not {doors knots : Int} {a b : PyData} (h : ¬ ∃ k p, a = .int k ∧ b = .int p) : endOf doors knots (.tuple [a, b]) = none := by
  unfold endOf
  split
  · rename_i k p e
    cases e
    exact absurd ⟨k, p, rfl, rfl⟩ h
  · rfl
theorem endOf_len {doors knots : Int} {ds : List PyData} (h : ds.length ≠ 2) : endOf doors knots (.tuple ds) = none := by
  unfold endOf
  split
  · rename_i k p e
    cases e
    exact absurd rfl h
  · rfl
theorem endOf_some {doors knots k p : Int} : (endOf doors knots (.tuple [.int k, .int p])).isSome = decide ((k = -1 ∧ 0 ≤ p ∧ p < doors) ∨ (0 ≤ k ∧ k < knots ∧ 0 ≤ p ∧ p ≤ 2)) := by
  show (if (k = -1 ∧ 0 ≤ p ∧ p < doors) ∨ (0 ≤ k ∧ k < knots ∧ 0 ≤ p ∧ p ≤ 2) then some (k, p) else none).isSome = _
  split
  · rename_i c
    rw [decide_eq_true c]
    rfl
  · rename_i c
    rw [decide_eq_false c]
    rfl
theorem int_or_bool {d : PyData} (h : clsB "int" d = true) : (∃ i, d = .int i) ∨ ∃ b, d = .bool b := by
  cases d with
  | int i => exact .inl ⟨i, rfl⟩
  | bool b => exact .inr ⟨b, rfl⟩
  | none => cases h
  | str x => exact absurd h (show ¬ ("int" == "str") = true by decide)
  | list x => exact absurd h (show ¬ ("int" == "list") = true by decide)
  | tuple x => exact absurd h (show ¬ ("int" == "tuple") = true by decide)
  | dict x => exact absurd h (show ¬ ("int" == "dict") = true by decide)
section
variable {P : Program} {w : World} {K : PySem.W.Frag} {mg : Str → Option Value} {base : Heap}
abbrev s_is_end : Stmt := topS 12
theorem sc_is_end : FnScope ["value", "doors", "knots", "knot", "place"] ["value", "doors", "knots"] (defScope s_is_end) := ⟨rfl, rfl, rfl, by decide +kernel, rfl, by decide +kernel, by decide +kernel⟩
def spEnd : Sp := fun vs H Q _ => ∃ (v : V) (d : PyData) (n k : Int), vs = [v, .int n, .int k] ∧ DV H d v ∧ Q (.bl (endOf n k d).isSome) H
theorem ok_is_end (D : DefAt K mg "is_end" s_is_end) (T : Bt mg) : Use P w K mg base "is_end" 1 ["value", "doors", "knots"] spEnd := by
  refine use_of D (fun f fd F => F.ok sc_is_end (fun vs H Q E h => ?_) (fun cdv A outer s H vs Q E hr h => ?_)) (fun _ _ _ _ _ _ us hl => match us, hl with | [_, _, _], _ => rfl)
  · obtain ⟨v, d, n, k, rfl, _⟩ := h
    rfl
  · obtain ⟨v, d, n, k, rfl, o, q⟩ := h
    refine ⟨_, (pss_cons (ps_if (PW.pt (pw_or (pt_not (pt_val (pe_callB (k_isi (K := K) rfl) (by rfl) T.isinstance (by decide +kernel) (pa_cons (pv 0) (pa_cons (pe_bltn (v := .ty "tuple") (by rfl) T.tuple (by decide +kernel) rfl) pa_nil))))) (pw_or1 (pt_cmpR op_ne (pe_callB (k_len (K := K) rfl) (by rfl) T.len PySem.boot_len (pa_cons (pv 0) pa_nil)) pe_int (nomark _))))) (pss_one (ps_ret pe_bl)) pss_nil)
      (pss_cons (ps_asg (pv 0) (pg_tup rfl (pgs_cons (pg_name (i := 3) sc_is_end.nd rfl (Or.inl rfl)) (pgs_cons (pg_name (i := 4) sc_is_end.nd rfl (Or.inl rfl)) pgs_nil))))
      (pss_cons (ps_if (PW.pt (pw_or (pt_not (pt_val (pe_callB (k_isi (K := K) rfl) (by rfl) T.isinstance (by decide +kernel) (pa_cons (pv 3) (pa_cons (pe_bltn (v := .ty "int") (by rfl) T.int (by decide +kernel) rfl) pa_nil))))) (pw_or (pt_not (pt_val (pe_callB (k_isi (K := K) rfl) (by rfl) T.isinstance (by decide +kernel) (pa_cons (pv 4) (pa_cons (pe_bltn (v := .ty "int") (by rfl) T.int (by decide +kernel) rfl) pa_nil))))) (pw_or (pt_val (pe_callB (k_isi (K := K) rfl) (by rfl) T.isinstance (by decide +kernel) (pa_cons (pv 3) (pa_cons (pe_bltn (v := .ty "bool") (by rfl) T.bool (by decide +kernel) rfl) pa_nil)))) (pw_or1 (pt_val (pe_callB (k_isi (K := K) rfl) (by rfl) T.isinstance (by decide +kernel) (pa_cons (pv 4) (pa_cons (pe_bltn (v := .ty "bool") (by rfl) T.bool (by decide +kernel) rfl) pa_nil))))))))) (pss_one (ps_ret pe_bl)) pss_nil)
      (pss_cons (ps_if (pt_cmpR op_eq (pv 3) (pe_un un_neg pe_int) (nomark _)) (pss_one (ps_ret (pe_chain op_le op_lt pe_int (pv 4) (pv 1)))) pss_nil)
      (pss_one (ps_ret (pe_and (pe_chain op_le op_lt pe_int (pv 3) (pv 2)) (pe_one (pe_chain op_le op_le pe_int (pv 4) pe_int))))))))), ?_⟩
    obtain ⟨t1, y1, e1⟩ := dv_ty (K := K) o (C := "tuple") (.inr (.inr (.inr rfl)))
    refine ⟨_, rfl, _, _, t1, _, _, rfl, .ty _, y1, e1, _, rfl, ?_⟩
    have none' : clsB "tuple" d = false → Q (.bl false) H := fun c => by
      cases d <;> first | exact q | cases c
    cases c : clsB "tuple" d with
    | false =>
      refine iteT ?_
      exact iteT (none' c)
    | true =>
      refine iteF ?_
      cases d with
      | tuple ds =>
        obtain ⟨a, xs, rfl, e, hs⟩ := o.tup
        refine ⟨_, rfl, a, _, rfl, .inr (rdT e), rfl, ?_⟩
        have ln := hs.len
        by_cases c2 : ds.length = 2
        rotate_left
        · rw [endOf_len c2] at q
          refine ⟨true, congrArg V.bl (congrArg Bool.not (decide_eq_false fun z => c2 (by have := V.int.inj z; omega))), ?_⟩
          exact iteT q
        · obtain ⟨d1, d2, rfl⟩ : ∃ d1 d2, ds = [d1, d2] := (match ds, c2 with | [d1, d2], _ => ⟨d1, d2, rfl⟩)
          obtain ⟨v1, vs1, rfl, h1, hs⟩ := hs.out
          obtain ⟨v2, vs2, rfl, h2, hs⟩ := hs.out
          obtain rfl := hs.end'
          refine ⟨false, rfl, ?_⟩
          refine iteF ?_
          refine ⟨_, rfl, a, _, rfl, rdT e, rfl, ?_⟩
          obtain ⟨ta, ya, ea⟩ := dv_ty (K := K) h1 (C := "int") (.inl rfl)
          obtain ⟨tb, yb, eb⟩ := dv_ty (K := K) h2 (C := "int") (.inl rfl)
          obtain ⟨tc, yc, ec⟩ := dv_ty (K := K) h1 (C := "bool") (.inr (.inl rfl))
          obtain ⟨td, yd, ed⟩ := dv_ty (K := K) h2 (C := "bool") (.inr (.inl rfl))
          refine ⟨_, _, rfl, _, [], rfl, rfl, ?_⟩
          by_cases bothI : ∃ kk pp, d1 = .int kk ∧ d2 = .int pp
          · obtain ⟨kk, pp, rfl, rfl⟩ := bothI
            obtain rfl : v1 = .int kk := by simpa only [DV] using h1
            obtain rfl : v2 = .int pp := by simpa only [DV] using h2
            refine ⟨_, rfl, _, _, ta, _, _, rfl, .ty _, ya, ea, _, rfl, iteF ?_⟩
            refine ⟨_, rfl, _, _, tb, _, _, rfl, .ty _, yb, eb, _, rfl, iteF ?_⟩
            refine ⟨_, rfl, _, _, tc, _, _, rfl, .ty _, yc, ec, _, rfl, iteF ?_⟩
            refine ⟨_, rfl, _, _, td, _, _, rfl, .ty _, yd, ed, _, rfl, iteF ?_⟩
            refine ⟨_, rfl, 1, rfl, rfl, decide (kk = -1), congrArg V.bl ?_, ?_⟩
            · by_cases c : kk = -1
              · rw [decide_eq_true c, c]
                rfl
              · rw [decide_eq_false c]
                exact decide_eq_false fun z => c (V.int.inj z)
            rw [endOf_some] at q
            by_cases c : kk = -1
            · rw [decide_eq_true c]
              refine iteT ⟨_, rfl, 0, pp, rfl, rfl, _, rfl, ?_⟩
              have e : decide ((kk = -1 ∧ 0 ≤ pp ∧ pp < n) ∨ (0 ≤ kk ∧ kk < k ∧ 0 ≤ pp ∧ pp ≤ 2)) = decide (0 ≤ pp ∧ pp < n) := by
                rw [Bool.eq_iff_iff, decide_eq_true_eq, decide_eq_true_eq]
                omega
              rw [e] at q
              by_cases h0 : 0 ≤ pp
              · rw [decide_eq_true h0]
                refine iteT ⟨_, rfl, pp, n, rfl, rfl, ?_⟩
                have e : decide (0 ≤ pp ∧ pp < n) = decide (pp < n) := by simp [h0]
                rw [e] at q
                exact q
              · rw [decide_eq_false h0]
                refine iteF ?_
                have e : decide (0 ≤ pp ∧ pp < n) = false := by simp [h0]
                rw [e] at q
                exact q
            · rw [decide_eq_false c]
              refine iteF ?_
              have e : decide ((kk = -1 ∧ 0 ≤ pp ∧ pp < n) ∨ (0 ≤ kk ∧ kk < k ∧ 0 ≤ pp ∧ pp ≤ 2)) = decide ((0 ≤ kk ∧ kk < k) ∧ 0 ≤ pp ∧ pp ≤ 2) := by
                rw [Bool.eq_iff_iff, decide_eq_true_eq, decide_eq_true_eq]
                omega
              rw [e] at q
              by_cases h0 : 0 ≤ kk
              · by_cases h1 : kk < k
                · have e : decide ((0 ≤ kk ∧ kk < k) ∧ 0 ≤ pp ∧ pp ≤ 2) = decide (0 ≤ pp ∧ pp ≤ 2) := by simp [h0, h1]
                  rw [e] at q
                  obtain ⟨q1, q2⟩ := two_le (Q := Q) (H := H) q
                  refine ⟨_, rfl, 0, kk, rfl, rfl, true, congrArg V.bl (decide_eq_true h0), iteT ⟨_, rfl, kk, k, rfl, rfl, true, congrArg V.bl (decide_eq_true h1), iteT ?_⟩⟩
                  refine ⟨_, rfl, 0, pp, rfl, rfl, _, rfl, ?_⟩
                  by_cases h2 : 0 ≤ pp
                  · rw [decide_eq_true h2]
                    exact iteT ⟨pp, 2, rfl, rfl, q1 h2⟩
                  · rw [decide_eq_false h2]
                    exact iteF (q2 h2)
                · have e : decide ((0 ≤ kk ∧ kk < k) ∧ 0 ≤ pp ∧ pp ≤ 2) = false := by simp [h1]
                  rw [e] at q
                  exact ⟨_, rfl, 0, kk, rfl, rfl, true, congrArg V.bl (decide_eq_true h0), iteT ⟨_, rfl, kk, k, rfl, rfl, false, congrArg V.bl (decide_eq_false h1), iteF q⟩⟩
              · have e : decide ((0 ≤ kk ∧ kk < k) ∧ 0 ≤ pp ∧ pp ≤ 2) = false := by simp [h0]
                rw [e] at q
                exact ⟨_, rfl, 0, kk, rfl, rfl, false, congrArg V.bl (decide_eq_false h0), iteF ⟨false, rfl, iteF q⟩⟩
          · rw [endOf_not bothI] at q
            refine ⟨_, rfl, _, _, ta, _, _, rfl, .ty _, ya, ea, _, rfl, ?_⟩
            cases c1 : clsB "int" d1 with
            | false => exact iteT (iteT q)
            | true =>
              refine iteF ?_
              refine ⟨_, rfl, _, _, tb, _, _, rfl, .ty _, yb, eb, _, rfl, ?_⟩
              cases c3 : clsB "int" d2 with
              | false => exact iteT (iteT q)
              | true =>
                refine iteF ?_
                refine ⟨_, rfl, _, _, tc, _, _, rfl, .ty _, yc, ec, _, rfl, ?_⟩
                cases c4 : clsB "bool" d1 with
                | true => exact iteT (iteT q)
                | false =>
                  refine iteF ?_
                  refine ⟨_, rfl, _, _, td, _, _, rfl, .ty _, yd, ed, _, rfl, ?_⟩
                  have c5 : clsB "bool" d2 = true := by
                    rcases int_or_bool c1 with ⟨i, rfl⟩ | ⟨b, rfl⟩
                    · rcases int_or_bool c3 with ⟨j, rfl⟩ | ⟨b, rfl⟩
                      · exact absurd ⟨i, j, rfl, rfl⟩ bothI
                      · rfl
                    · cases c4
                  rw [c5]
                  exact iteT q
      | _ => cases c
end
end KQ
/-! x in s, a set of rows -/
namespace KR
open PySem PySem.Spec PyProof.Rows L2 PySem.Calls
section
variable {P : Program} {w : World} {A : Around} {E : Value → Shared → Prop} {s : Shared} {a : Addr} {L : List (Addr × List Int)} {es : Array (Int × Value)} {ep : Nat} {t : SetTable}
/-- where a probe stands behind c steps -/
abbrev stand0 (m : Nat) (h : Int) (c : Nat) : SetTable.Probe := nth m (runAt m (SetTable.bits h % (m + 1)) (SetTable.bits h)) c
theorem stand_dummy (m : Nat) (h : Int) (c : Nat) : (stand0 m h c).dummy = none := by
  have go : ∀ (c : Nat) (p : SetTable.Probe), p.dummy = none → (nth m p c).dummy = none := fun c => by
    induction c with
    | zero => exact fun p e => e
    | succ c ih => exact fun p e => ih _ (by unfold adv; split <;> exact e)
  exact go c _ rfl
/-- a look from the c-th step on: there, or not there -/
theorem look_from (R : SetTR P w s.heap a L es ep t) {b : Addr} {k : List Int} (kb : IsT P w s.heap k b) (un : A.units < cLine) {N : Nat} (small : N < 10 * SetTable.turns t.mask)
    (free : way t.mask (thash P w k) N ∉ t.place.toList) (taken : ∀ c, c < N → way t.mask (thash P w k) c ∈ t.place.toList) {Q : SetFound → Shared → Prop}
    (yes : ∀ i, k ∈ L.map (·.2) → Q (.there (some i)) s) (no : k ∉ L.map (·.2) → Q (.free (way t.mask (thash P w k) N) false) s) :
    ∀ (fuel c : Nat) (st : Option SetTable.Probe), st.getD (t.probeStart (thash P w k)) = stand0 t.mask (thash P w k) c → c ≤ N → N - c < fuel →
      (∀ (i : Nat) p, L[i]? = some p → p.2 = k → ∃ d, c ≤ d ∧ d < N ∧ t.place.toList[i]? = some (way t.mask (thash P w k) d)) →
      wpAny (model P w) A (setSearchFrom a (.ref b) (thash P w k) false fuel st) Q E s := by
  intro fuel
  induction fuel with
  | zero => exact fun c st _ _ z _ => absurd z (Nat.not_lt_zero _)
  | succ fuel ih =>
    intro c st est cN lt ahead
    obtain ⟨ob, ge, ex, dat⟩ := R.ob
    rw [setSearchFrom_succ]
    refine wpAny_bind (wpAny_setState_of ge dat R.fits ?_)
    dsimp only
    refine wp_if_neg R.gw ?_
    try refine wpAny_bind (wpAny_pure ?_)
    generalize eh : thash P w k = h at *
    have step : ∀ n, nth t.mask (stand0 t.mask h c) n = stand0 t.mask h (c + n) := fun n => (nth_add t.mask c _ n).symm
    have place : ∀ n, (nth t.mask (stand0 t.mask h c) n).j = way t.mask h (c + n) := fun n => congrArg SetTable.Probe.j (step n)
    have two := go_spec t R.tab.ris R.tab.dm (fun i => (es[i]?.map (·.1)).getD 0) h (10 * SetTable.turns t.mask) (N - c) _ (stand_dummy t.mask h c) (by omega)
      (fun n hn => by rw [place]; exact taken _ (by omega)) (by rw [place, Nat.add_sub_cancel' cN]; exact free)
    have hashOf : ∀ (i : Nat) p, L[i]? = some p → (es[i]?.map (·.1)).getD 0 = thash P w p.2 := fun i p e => by rw [R.entry e]; rfl
    rcases two with ⟨n, i, nN, atI, hI, before, prb⟩ | ⟨none', prb⟩
    · rw [place] at atI
      have iL : i < L.length := by
        have u := (List.getElem?_eq_some_iff.mp atI).1
        have v := R.tab.sz
        rw [List.length_map] at v
        rw [Array.length_toList] at u
        omega
      obtain ⟨p, hp⟩ : ∃ p, L[i]? = some p := ⟨_, List.getElem?_eq_getElem iL⟩
      have mem := List.mem_of_getElem? hp
      have live := slot_live R.tab.ris atI
      have met : t.probe (fun i => (es[i]?.map (·.1)).getD 0) h (st.getD (t.probeStart h)) = some (.candidate (way t.mask h (c + n)) i (stand0 t.mask h (c + (n + 1)))) := by
        rw [est, ← place, ← step]
        exact prb
      rw [met]
      dsimp only
      have goOn : wpAny (model P w) A (searchRest a (.ref b) h false fuel es t (way t.mask h (c + n)) i (stand0 t.mask h (c + (n + 1)))) Q E s := by
        unfold searchRest
        rw [R.entry hp]
        dsimp only
        refine wpAny_bind (wpAny_holding (wpAny_eqBool_tuple un (R.tup p mem) kb ?_))
        refine wpAny_bind (wpAny_setState_of ge dat R.fits ?_)
        dsimp only
        refine wp_if_neg (by simp) ?_
        try refine wpAny_bind (wpAny_pure ?_)
        rw [sameMem]
        dsimp only
        simp only [if_true, live, R.entry hp]
        refine wpAny_bind (wpAny_isSame_ref_self (wpAny_bind (wpAny_pure ?_)))
        simp only [if_true]
        by_cases same : p.2 = k
        · refine wp_if_pos (by simp [same]) ?_
          exact wpAny_pure (yes i (List.mem_map.mpr ⟨p, mem, same⟩))
        · refine wp_if_neg (by simp [same]) ?_
          refine ih (c + (n + 1)) _ rfl (by omega) (by omega) fun i2 p2 e2 k2 => ?_
          obtain ⟨d, d1, d2, d3⟩ := ahead i2 p2 e2 k2
          refine ⟨d, ?_, d2, d3⟩
          have e3 : (es[i2]?.map (·.1)).getD 0 = h := by rw [hashOf i2 p2 e2, k2, eh]
          rcases Nat.lt_trichotomy d (c + n) with z | z | z
          · refine absurd e3 (before (d - c) i2 (by omega) ?_)
            rw [place, Nat.add_sub_cancel' d1]
            exact d3
          · rw [z] at d3
            have o2 := slot_live R.tab.ris d3
            rw [live] at o2
            cases o2
            rw [hp] at e2
            cases e2
            exact absurd k2 same
          · omega
      by_cases led : t.led = true
      · refine wp_if_neg (by simp [led]) ?_
        try refine wpAny_bind (wpAny_pure ?_)
        exact goOn
      · refine wp_if_pos (by simp [led]) ?_
        refine wpAny_bind (seen_tup kb (fun y hy => ?_) ?_)
        · obtain ⟨z, hz, rfl⟩ := List.mem_map.mp hy
          have z1 : z ∈ es.toList := by
            have : z ∈ es ∧ z.1 = h := by simpa using hz
            simpa using this.1
          rw [R.rows] at z1
          obtain ⟨p2, m2, rfl⟩ := List.mem_map.mp z1
          exact ⟨p2.2, p2.1, rfl, R.tup p2 m2⟩
        · refine wp_if_neg (by decide) ?_
          try refine wpAny_bind (wpAny_pure ?_)
          exact goOn
    · have met : t.probe (fun i => (es[i]?.map (·.1)).getD 0) h (st.getD (t.probeStart h)) = some (.empty (way t.mask h N) none) := by
        have e2 : way t.mask h N = (nth t.mask (stand0 t.mask h c) (N - c)).j := by rw [place, Nat.add_sub_cancel' cN]
        rw [est, e2]
        exact prb
      rw [met]
      dsimp only
      refine wpAny_pure (no fun hm => ?_)
      obtain ⟨p2, m2, k2⟩ := List.mem_map.mp hm
      obtain ⟨i2, e2⟩ := List.getElem?_of_mem m2
      obtain ⟨d, d1, d2, d3⟩ := ahead i2 p2 e2 k2
      refine none' (d - c) i2 (by omega) (by rw [place, Nat.add_sub_cancel' d1]; exact d3) ?_
      show (es[i2]?.map (·.1)).getD 0 = h
      rw [hashOf i2 p2 e2, k2, eh]
/-- s finds k, or doesn't -/
theorem find_row (R : SetTR P w s.heap a L es ep t) {b : Addr} {k : List Int} (kb : IsT P w s.heap k b) (un : A.units < cLine) {Q : Option Nat → Shared → Prop} (h : ∀ r : Option Nat, r.isSome = decide (k ∈ L.map (·.2)) → Q r s) :
    wpAny (model P w) A (setFind a (.ref b) (thash P w k)) Q E s := by
  obtain ⟨ob, ge, ex, dat⟩ := R.ob
  have room := R.room
  obtain ⟨N, small, free, taken⟩ := R.tab.first (by rw [List.length_map]; omega) (thash P w k)
  have big : N < 100000 := by
    have : 10 * SetTable.turns t.mask ≤ 1420 := by
      unfold SetTable.turns
      rcases R.tab.mok with e | e | e <;> omega
    omega
  show wpAny _ _ (setFindIn a (.ref b) (thash P w k) (99999 + 1)) _ _ _
  unfold setFindIn
  refine wpAny_bind (wpAny_setState_of ge dat R.fits ?_)
  dsimp only
  refine wp_if_neg (by simp [byScan, Value.scannable]) ?_
  try refine wpAny_bind (wpAny_pure ?_)
  refine wpAny_bind ?_
  unfold setSearch
  refine look_from R kb un small free taken (fun i m => ?_) (fun m => ?_) 100000 0 none rfl (Nat.zero_le _) (by omega) fun i p hp hk => ?_
  · exact wpAny_pure (h (some i) (decide_eq_true m).symm)
  · exact wpAny_pure (h none (decide_eq_false m).symm)
  · have hi : (L.map fun q => thash P w q.2)[i]? = some (thash P w k) := by
      rw [List.getElem?_map, hp, ← hk]
      rfl
    have il : i < t.place.toList.length := by
      have u := (List.getElem?_eq_some_iff.mp hp).1
      have v := R.tab.sz
      rw [List.length_map] at v
      rw [Array.length_toList]
      omega
    obtain ⟨d, d1, d2⟩ := R.tab.before free hi (List.getElem?_eq_getElem il)
    exact ⟨d, Nat.zero_le _, d1, by rw [List.getElem?_eq_getElem il, d2]⟩
end
section
variable {X : Cx}
theorem settr_type {P : Program} {w : World} {s : Shared} {a : Addr} {L : List (Addr × List Int)} {es : Array (Int × Value)} {ep : Nat} {t : SetTable} (R : SetTR P w s.heap a L es ep t) : s.TypeIs (.ref a) "set" := by
  obtain ⟨o, ge, ex, _⟩ := R.ob
  exact ⟨o, ge, ex.1⟩
/-- rows that stand in the heap -/
def RowsAt (K : PySem.W.Frag) (H : Hp) (L : List (Addr × List Int)) : Prop := ∀ p ∈ L, SqT K H p.1 (p.2.map V.int)
theorem rows_full {pins : List (Addr × Obj)} {σ : L2.St} {H : Hp} {s : Shared} {a : Addr} {L : List (Addr × List Int)} (I : Inv X pins σ H s) (ha : H a = some (SetTO X.prog X.w a L)) (hl : RowsAt X.K H L) : ∃ es ep t, SetTR X.prog X.w s.heap a L es ep t :=
  SetT0.full (show SetT0 X.prog X.w s.heap a L from (I.hok a _ ha).1) fun p hp => I.isT (hl p hp)
def rInT (K : PySem.W.Frag) (P : Program) (w : World) : R2 := fun x y H Q => ∃ (a b : Addr) (k : List Int) (L : List (Addr × List Int)), x = .ref b ∧ y = .ref a ∧ SqT K H b (k.map V.int) ∧ H a = some (SetTO P w a L) ∧ RowsAt K H L ∧ Q (.bl (decide (k ∈ L.map (·.2)))) H
theorem k_inT {K : PySem.W.Frag} (hK : X.K = K) (un : X.A.units + 64 < cLine) : OpR X (compareOp .In) (rInT K X.prog X.w) := by
  subst hK
  intro pins s σ H x y v u Q I rx ry h
  obtain ⟨a, b, k, L, rfl, rfl, hb, ha, hl, q⟩ := h
  cases rx
  cases ry
  obtain ⟨es, ep, t, R⟩ := rows_full I ha hl
  have kb := I.isT hb
  have ty := settr_type R
  show wpAny _ _ (do return Value.bool (← contains (.ref a) (.ref b))) _ _ s
  refine wpAny_bind ?_
  unfold contains
  try with_reducible refine wpAny_holding ?_
  refine wpAny_bind (wpAny_specialOf ty F.slot_set_contains.lookup ?_)
  refine wp_if_neg (by rw [beq_builtin_none]; decide) ?_
  refine wpAny_bind (wpAny_callSpecialUnlessNone?_slot (name := Str.ofString "__contains__") ty F.slot_set_contains (wpAny_call_entry F.slot_set_contains ty entry_set_contains ?_ (F.args_set_contains_2 _ _)))
  unfold Builtin.«frozenset.__contains__» Builtin.Frozenset.oneOther
  simp only [List.isEmpty_nil, bind_assoc]
  unfold Builtin.Frozenset.addrOf Builtin.Frozenset.withSetAsKey setContains
  refine wpAny_bind (wpAny_pure ?_)
  try dsimp only
  refine wpAny_bind (wpAny_pure ?_)
  try dsimp only
  refine wpAny_bind (wpAny_tryCatch ?_)
  refine wpAny_holding ?_
  refine wpAny_bind (wpAny_pyHash_tuple (by show X.A.units + 1 < cLine; omega) kb ?_)
  refine wpAny_bind (find_row (s := { s with toks := s.toks + (k.length + 1) }) R kb (by show X.A.units + 1 < cLine; omega) fun r hr => ?_)
  refine wpAny_pure ?_
  show wpAny _ _ (ret (Value.bool r.isSome)) _ _ _
  rw [hr]
  exact wpAny_pure ⟨_, rfl, wpAny_truthy_bool (wpAny_pure ⟨.bl _, H, I.tok _, rfl, q⟩)⟩
def rAddT (K : PySem.W.Frag) (P : Program) (w : World) : V → List V → Hp → VK → Prop := fun x xs H Q => ∃ (a b : Addr) (k : List Int) (L : List (Addr × List Int)), x = .ref a ∧ xs = [.ref b] ∧ SqT K H b (k.map V.int) ∧ H a = some (SetTO P w a L) ∧ RowsAt K H L ∧ L.length + 1 < 64 ∧
  ∀ L', (k ∈ L.map (·.2) → L' = L) → (k ∉ L.map (·.2) → L'.Perm ((b, k) :: L)) → Q .non (upd H a (SetTO P w a L'))
theorem mt_addT {K : PySem.W.Frag} (hK : X.K = K) (un : X.A.units + 64 < cLine) : MtR X "set.add" (rAddT K X.prog X.w) := by
  subst hK
  intro pins s σ H x xs v us Q I rx rxs h
  obtain ⟨a, b, k, L, rfl, rfl, hb, ha, hl, few, q⟩ := h
  cases rx
  obtain ⟨u1, rfl, r1⟩ := vals1 rxs
  obtain rfl : u1 = .ref b := r1
  obtain ⟨es, ep, t, R⟩ := rows_full I ha hl
  have kb := I.isT hb
  refine wpAny_call_entry F.slot_set_add (settr_type R) F.entry_set_add ?_ (F.args_set_add_2 _ _)
  unfold Builtin.«set.add» Builtin.Frozenset.oneOther
  simp only [List.isEmpty_nil, bind_assoc]
  unfold Builtin.Frozenset.addrOf setAdd
  refine wpAny_bind (wpAny_pure ?_)
  try dsimp only
  refine wpAny_bind (wpAny_pure ?_)
  try dsimp only
  refine wpAny_bind ?_
  refine wpAny_holding ?_
  refine wpAny_bind (wpAny_pyHash_tuple (by show X.A.units + 1 < cLine; omega) kb ?_)
  refine add_at (s := { s with toks := s.toks + (k.length + 1) }) R kb (by show X.A.units + 1 < cLine; omega) few fun r h' L' es' ep' t' sb R' c1 c2 => ?_
  show wpAny _ _ (ret Value.none) _ _ _
  refine wpAny_pure ⟨_, rfl, ?_⟩
  have he : ∃ u, h'.get? a = some u := by
    obtain ⟨o, ho, _⟩ := R'.ob
    exact ⟨o, ho⟩
  exact ⟨.non, upd H a (SetTO X.prog X.w a L'), d_write (t' := s.toks + (k.length + 1)) (I.tok _) (by rw [ha]; trivial) sb he (setTO_new R'.t0), rfl, q L' c1 c2⟩
/-- set() -/
def rSet0 (P : Program) (w : World) : List V → Hp → VK → Prop := fun xs H Q => xs = [] ∧ ∀ p, H p = none → Q (.ref p) (upd H p (SetTO P w p []))
theorem k_set0 : CallR X (.type "set") (rSet0 X.prog X.w) := by
  intro pins s σ H xs us Q I r h
  obtain ⟨rfl, q⟩ := h
  cases r
  refine setR_new fun _ => ?_
  have new := (setTR_fresh (P := X.prog) (w := X.w) (h := s.heap.push { cls := .type "set", dict := none, data := .set #[] 0 (.fresh 0 0 (!X.w.params.followText "set-order")) }) (a := s.heap.objs.size) (Heap.get?_push_size _ rfl)).t0
  exact ⟨.ref _, upd H s.heap.objs.size (SetTO X.prog X.w s.heap.objs.size []), I.laid (t' := s.toks) (fun b u e => Heap.get?_push_of_some _ e) (Nat.le_refl _) (setTO_new new), rfl, q _ (I.hok.fresh (Nat.le_refl _))⟩
/-- s.add(x) -/
def tAddT (K : PySem.W.Frag) (P : Program) (w : World) (to : TE) (t : TA) : TE := fun σ H Q => to σ H fun x H1 => (∃ a L, x = V.ref a ∧ H1 a = some (SetTO P w a L) ∧ RowsAt K H1 L) ∧ t σ H1 fun xs H2 => rAddT K P w x xs H2 Q
theorem settr_dict {P : Program} {w : World} {s : Shared} {a : Addr} {L : List (Addr × List Int)} {es : Array (Int × Value)} {ep : Nat} {t : SetTable} (R : SetTR P w s.heap a L es ep t) : ∃ ob, s.heap.get? a = some ob ∧ ob.dict = none := by
  obtain ⟨o, ge, ex, _⟩ := R.ob
  exact ⟨o, ge, ex.2.1⟩
theorem pe_addT {K : PySem.W.Frag} {o e : Expr} {es : List Expr} {to : TE} {ta : TA} {apos cpos : Pos} (hK : X.K = K) (un : X.A.units + 64 < cLine) (ho : PE X o to) (ha : PA X (e :: es) ta)
    (hb : attributeBase o "add" X.env (eval o X.env) = eval o X.env := by rfl)
    (hf : ((backTo cpos (starEach (e :: es) X.env)).all (fun x => !x.1) && (backToKw cpos (keywordEach [] X.env)).all (fun x => x.1.isSome) && decide ((e :: es).length + ([] : List Keyword).length + (if ([] : List Keyword).isEmpty then 0 else 1) < 30)) = true := by rfl)
    (hl : (apos.endLine == cpos.line) = true := by rfl) (hst : starEach (e :: es) X.env = (false, eval e X.env) :: starEach es X.env := by rfl) (hpl : (backTo cpos (starEach es X.env)).any (·.1) = false := by rfl) :
    PE X (.Call (.Attribute o "add" apos) (e :: es) [] cpos) (tAddT K X.prog X.w to ta) := by
  subst hK
  refine ⟨fun pins s σ H Q I h => ?_⟩
  refine wpAny_Call_method_late hb hf hl rfl (thn (ho.run pins s σ H _ I h) fun v s1 ⟨x, H1, I1, r1, ty, q1⟩ => ?_)
  obtain ⟨a, L, rfl, hL, rows⟩ := ty
  obtain ⟨els, ep, tb, R⟩ := rows_full I1 hL rows
  cases r1
  refine ⟨"set", "set.add", F.plainAttrs_set, F.slot_set_add, F.type_set_add, settr_type R, ?_, ?_⟩
  · intro b hb'
    cases hb'
    exact settr_dict R
  have run := ha.run cpos pins s1 σ H1 _ I1 q1
  rw [hst] at run ⊢
  refine Calls.callWith_builtin (by show (false || (backTo cpos (starEach es X.env)).any (·.1)) = false; rw [hpl] <;> rfl) (Calls.evalArgs_plain ?_)
  exact thn run fun us s2 ⟨vs, H2, I2, r2, q2⟩ => mt_addT rfl un pins s2 σ H2 (.ref a) vs (.ref a) us Q I2 rfl r2 q2
end
end KR
namespace KQ
open PySem PySem.Spec PyProof.Rows L2 KR KM StX
def enR (e : En) : List Int := [e.1, e.2]
theorem enR_inj {a b : En} (h : enR a = enR b) : a = b := by
  obtain ⟨x, y⟩ := a
  obtain ⟨u, v⟩ := b
  cases h
  rfl
/-- a set of ends -/
def SetE (P : Program) (w : World) (H : Hp) (S : Addr) (seen : List En) : Prop := ∃ L : List (Addr × List Int), H S = some (SetTO P w S L) ∧ (∀ p ∈ L, Rd H p.1 (.tup (p.2.map V.int))) ∧ (L.map (·.2)).Perm (seen.map enR)
theorem SetE.mono {P : Program} {w : World} {H H' : Hp} {S : Addr} {seen : List En} (h : SetE P w H S seen) (s : Same H H') : SetE P w H' S seen := by
  obtain ⟨L, e, r, p⟩ := h
  exact ⟨L, s _ _ e, fun p hp => (r p hp).mono s, p⟩
theorem SetE.has {P : Program} {w : World} {H : Hp} {S : Addr} {seen : List En} {L : List (Addr × List Int)} (p : (L.map (·.2)).Perm (seen.map enR)) (x : En) : decide (enR x ∈ L.map (·.2)) = decide (x ∈ seen) := by
  rw [Bool.eq_iff_iff, decide_eq_true_eq, decide_eq_true_eq, p.mem_iff, List.mem_map]
  exact ⟨fun ⟨y, hy, e⟩ => enR_inj e ▸ hy, fun h => ⟨x, h, rfl⟩⟩
theorem endOf_is {n k : Int} {d : PyData} {x : En} (h : endOf n k d = some x) : d = .tuple [.int x.1, .int x.2] := by
  unfold endOf at h
  split at h
  · split at h
    · cases h
      rfl
    · cases h
  · cases h
section
variable {P : Program} {w : World} {K : PySem.W.Frag} {mg : Str → Option Value} {base : Heap}
abbrev s_first_wrong_line : Stmt := topS 14
theorem sc_first_wrong_line : FnScope ["doors", "knots", "lines", "seen", "place", "line", "end"] ["doors", "knots", "lines"] (defScope s_first_wrong_line) := ⟨rfl, rfl, rfl, by decide +kernel, rfl, by decide +kernel, by decide +kernel⟩
def wrongV : Sum Nat (List En) → V
  | .inl i => .int (i : Int)
  | .inr _ => .non
def spFWL : Sp := fun vs H Q _ => ∃ (n k : Int) (a : Addr) (xs : List V) (ls : List PyData), vs = [.int n, .int k, .ref a] ∧ Rd H a (.tup xs) ∧ DVs H ls xs ∧ ls.length ≤ 31 ∧ ∀ H', Same H H' → Q (wrongV (linesOf n k [] 0 ls)) H'
theorem ok_first_wrong_line (D : DefAt K mg "first_wrong_line" s_first_wrong_line) (T : Bt mg) (u_is_end : Use P w K mg base "is_end" 1 ["value", "doors", "knots"] spEnd) : Use P w K mg base "first_wrong_line" 2 ["doors", "knots", "lines"] spFWL := by
  refine use_of D (fun f fd F => F.ok sc_first_wrong_line (fun vs H Q E h => ?_) (fun cdv A outer s H vs Q E hr h => ?_)) (fun _ _ _ _ _ _ us hl => match us, hl with | [_, _, _], _ => rfl)
  · obtain ⟨n, k, a, xs, ls, rfl, _⟩ := h
    rfl
  · obtain ⟨n, k, a, xs, ls, rfl, ea, hs, few, q⟩ := h
    refine ⟨_, (pss_cons (ps_set (i := 3) sc_first_wrong_line.nd rfl (Or.inl rfl) (pe_callTy0 k_set0 (by rfl) T.set (by decide +kernel)))
      (pss_cons (ps_for PassesOwn.never rfl (k_enumT (K := K) rfl (by rfl) T.enumerate (pa_cons (pv 2) pa_nil)) (pg_tup rfl (pgs_cons (pg_name (i := 4) sc_first_wrong_line.nd rfl (Or.inl rfl)) (pgs_cons (pg_name (i := 5) sc_first_wrong_line.nd rfl (Or.inl rfl)) pgs_nil)))
      (pss_cons (ps_if (PW.pt (pw_or (pt_not (pt_val (pe_callB (k_isi (K := K) rfl) (by rfl) T.isinstance (by decide +kernel) (pa_cons (pv 5) (pa_cons (pe_bltn (v := .ty "tuple") (by rfl) T.tuple (by decide +kernel) rfl) pa_nil))))) (pw_or1 (pt_cmpR op_ne (pe_callB (k_len (K := K) rfl) (by rfl) T.len PySem.boot_len (pa_cons (pv 5) pa_nil)) pe_int (nomark _))))) (pss_one (ps_ret (pv 4))) pss_nil)
      (pss_one (ps_for PassesOwn.never rfl (k_tup (K := K) rfl (pv 5)) (pg_name (i := 6) sc_first_wrong_line.nd rfl (Or.inl rfl))
      (pss_cons (ps_if (PW.pt (pw_or (pt_not (pt_val (pe_use u_is_end (by decide) hr (by rfl) (pa_cons (pv 6) (pa_cons (pv 0) (pa_cons (pv 1) pa_nil)))))) (pw_or1 (pt_cmpR (k_inT (K := K) rfl hr.units) (pv 6) (pv 3) (by rfl))))) (pss_one (ps_ret (pv 4))) pss_nil)
      (pss_one (ps_expr (pe_addT (K := K) rfl hr.units (pv 3) (pa_cons (pv 6) pa_nil)))))))))
      (pss_one (ps_ret pe_non)))), ?_⟩
    refine ⟨rfl, fun S nS => ?_⟩
    have sS := same_new (H := H) (o := SetTO P w S []) nS
    have eS := upd_same (H := H) (a := S) (o := SetTO P w S [])
    have ln := hs.len
    refine ⟨_, rfl, a, _, rfl, rdT (ea.mono sS), for_enumT (K := K) (a := a) (xs := xs)
      (fun i σ H1 => ∃ (y4 y5 y6 : Option V) (seen : List En), σ = [some (.int n), some (.int k), some (.ref a), some (.ref S), y4, y5, y6] ∧ Same H H1 ∧ SetE P w H1 S seen ∧ linesOf n k [] 0 ls = linesOf n k seen i (ls.drop i) ∧ seen.length = 2 * i)
      ⟨none, none, none, [], rfl, sS, ⟨[], eS, fun p hp => (by cases hp), .nil⟩, rfl, rfl⟩ (fun i σ H1 ⟨_, _, _, _, _, s1, _⟩ => rdT (ea.mono s1)) ?_ ?_⟩
    · rintro i v T1 σ H1 hv ⟨y4, y5, y6, seen, rfl, s1, set1, run, sl⟩ nT
      obtain ⟨d, hd, dv⟩ := hs.at hv
      have il : i < ls.length := (List.getElem?_eq_some_iff.mp hd).1
      have sT := same_new (H := H1) (o := .tup [V.int ((i : Nat) : Int), v]) nT
      have s2 := s1.trans sT
      have dr : ls.drop i = d :: ls.drop (i + 1) := by
        rw [List.drop_eq_getElem_cons il]
        congr 1
        rw [List.getElem?_eq_getElem il] at hd
        exact Option.some.inj hd
      rw [dr] at run
      have wrong : lineOf n k seen d = none → linesOf n k [] 0 ls = .inl i := fun e => by
        rw [run]
        unfold linesOf
        rw [e]
      refine ⟨T1, _, rfl, .inl (.inl upd_same), rfl, _, _, rfl, _, [], rfl, rfl, ?_⟩
      have set2 := set1.mono sT
      have dv2 := dv.mono s2
      generalize upd H1 T1 (.tup [V.int ((i : Nat) : Int), v]) = H2 at s2 set2 dv2 sT
      obtain ⟨t1, yt, e1⟩ := dv_ty (K := K) dv2 (C := "tuple") (.inr (.inr (.inr rfl)))
      refine ⟨_, rfl, _, _, t1, _, _, rfl, .ty _, yt, e1, _, rfl, ?_⟩
      cases c : clsB "tuple" d with
      | false =>
        refine iteT (iteT ⟨_, rfl, ?_⟩)
        have : lineOf n k seen d = none := by
          unfold lineOf
          split
          · cases c
          · rfl
        have qq := q H2 s2
        rw [wrong this] at qq
        exact qq
      | true =>
        refine iteF ?_
        obtain ⟨ds, rfl⟩ : ∃ ds, d = .tuple ds := by
          cases d with
          | tuple ds => exact ⟨ds, rfl⟩
          | _ => cases c
        obtain ⟨b, ys, rfl, eb, hy⟩ := dv.tup
        have yl := hy.len
        refine ⟨_, rfl, b, _, rfl, .inr (rdT (eb.mono s2)), rfl, ?_⟩
        by_cases c2 : ds.length = 2
        rotate_left
        · refine ⟨true, congrArg V.bl (congrArg Bool.not (decide_eq_false fun z => c2 (by have := V.int.inj z; omega))), iteT ⟨_, rfl, ?_⟩⟩
          have : lineOf n k seen (.tuple ds) = none := if_neg c2
          have qq := q H2 s2
          rw [wrong this] at qq
          exact qq
        refine ⟨false, congrArg V.bl (congrArg Bool.not (decide_eq_true (congrArg V.int (by omega)))), iteF ?_⟩
        have lE : lineOf n k seen (.tuple ds) = collectE n k seen ds := if_pos c2
        refine ⟨_, rfl, b, rfl, ⟨_, rdT (eb.mono s2)⟩, for_tup (K := K) (a := b) (xs := ys)
          (fun j σ H3 => ∃ (y6 : Option V) (sj : List En), σ = [some (.int n), some (.int k), some (.ref a), some (.ref S), some (.int ((i : Nat) : Int)), some (.ref b), y6] ∧ Same H H3 ∧ SetE P w H3 S sj ∧ collectE n k seen ds = collectE n k sj (ds.drop j) ∧ sj.length = seen.length + j)
          ⟨y6, seen, rfl, s2, set2, rfl, rfl⟩ (fun j σ H3 _ ⟨_, _, _, s3, _⟩ => rdT (eb.mono s3)) ?_ ?_⟩
        · rintro j ve σ H3 hj ⟨y6, sj, rfl, s3, set3, runj, sjl⟩
          obtain ⟨de, hde, dve⟩ := hy.at hj
          have jl : j < ds.length := (List.getElem?_eq_some_iff.mp hde).1
          have drj : ds.drop j = de :: ds.drop (j + 1) := by
            rw [List.drop_eq_getElem_cons jl]
            congr 1
            rw [List.getElem?_eq_getElem jl] at hde
            exact Option.some.inj hde
          rw [drj] at runj
          have dve3 := dve.mono s3
          have bad : collectE n k sj (de :: ds.drop (j + 1)) = none → Q (.int ((i : Nat) : Int)) H3 := fun e => by
            have qq := q H3 s3
            rw [wrong (by rw [lE, runj, e])] at qq
            exact qq
          refine ⟨_, rfl, _, rfl, _, rfl, ve, de, n, k, rfl, dve3, _, rfl, ?_⟩
          cases hE : endOf n k de with
          | none =>
            refine iteT (iteT ⟨_, rfl, bad ?_⟩)
            unfold collectE
            rw [hE]
          | some x =>
            refine iteF ?_
            obtain rfl := endOf_is hE
            obtain ⟨eb2, ws, rfl, reb, hw⟩ := dve3.tup
            obtain ⟨w1, ws1, rfl, hw1, hw⟩ := hw.out
            obtain ⟨w2, ws2, rfl, hw2, hw⟩ := hw.out
            obtain rfl := hw.end'
            obtain rfl : w1 = .int x.1 := by simpa only [DV] using hw1
            obtain rfl : w2 = .int x.2 := by simpa only [DV] using hw2
            obtain ⟨L, eL, rows, pm⟩ := set3
            have sq : SqT K H3 eb2 ((enR x).map V.int) := rdT reb
            have ll : L.length = sj.length := by
              have := pm.length_eq
              rw [List.length_map, List.length_map] at this
              exact this
            refine ⟨_, rfl, _, rfl, S, eb2, enR x, L, rfl, rfl, sq, eL, fun p hp => rdT (rows p hp), _, rfl, ?_⟩
            rw [SetE.has (P := P) (w := w) (H := H3) (S := S) pm x]
            by_cases m : x ∈ sj
            · rw [decide_eq_true m]
              refine iteT ⟨_, rfl, bad ?_⟩
              unfold collectE
              rw [hE]
              exact if_pos m
            · rw [decide_eq_false m]
              refine iteF ?_
              refine ⟨_, rfl, ⟨S, L, rfl, eL, fun p hp => rdT (rows p hp)⟩, _, rfl, S, eb2, enR x, L, rfl, rfl, sq, eL, (fun p hp => rdT (rows p hp)), by omega, fun L' c1 c2' => ?_⟩
              have notin : enR x ∉ L.map (·.2) := fun z => by
                have := SetE.has (P := P) (w := w) (H := H3) (S := S) pm x
                rw [decide_eq_true z] at this
                exact m (of_decide_eq_true this.symm)
              have pm2 := c2' notin
              have neS : ∀ {y : Addr} {zs : List V}, Rd H3 y (.tup zs) → Rd (upd H3 S (SetTO P w S L')) y (.tup zs) := fun r => rd_upd r eL (fun z => by cases z) (fun p z => by cases z)
              refine ⟨_, sj ++ [x], rfl, same_mut s3 nS, ⟨L', upd_same, fun p hp => ?_, ?_⟩, ?_, by rw [List.length_append, sjl]; show seen.length + j + 1 = _; omega⟩
              · rcases List.mem_cons.mp (pm2.mem_iff.mp hp) with rfl | hp
                · exact neS reb
                · exact neS (rows p hp)
              · refine (pm2.map (·.2)).trans ?_
                rw [List.map_append]
                exact (pm.cons (enR x)).trans (List.perm_append_comm (l₁ := [enR x]) (l₂ := sj.map enR))
              · rw [runj]
                conv => lhs; unfold collectE
                rw [hE]
                exact if_neg m
        · rintro σ H3 ⟨y6, sj, rfl, s3, set3, runj, sjl⟩
          rw [yl, List.drop_length] at runj
          refine ⟨_, _, _, sj, rfl, s3, set3, ?_, by omega⟩
          rw [run]
          have : lineOf n k seen (.tuple ds) = some sj := by rw [lE, runj]; rfl
          show (match lineOf n k seen (.tuple ds) with | none => Sum.inl i | some es => linesOf n k es (i + 1) (ls.drop (i + 1))) = _
          rw [this]
    · rintro σ H1 ⟨y4, y5, y6, seen, rfl, s1, set1, run, sl⟩
      rw [ln, List.drop_length] at run
      have qq := q H1 s1
      rw [run] at qq
      exact qq
end
end KQ
/-! x *= y of great numbers -/
namespace KQ
open PySem PySem.Spec PyProof.Rows L2 KR
def ipMW : TIp := fun x y H Q => ∃ i j, x = .int i ∧ y = .int j ∧ CMulW i j ∧ Q (.int (i * j)) H
theorem ip_mulW {X : Cx} : PIp X .Mult ipMW := by
  intro pins s σ H x y v u Q I r1 r2 h
  obtain ⟨i, j, e1, e2, c, q⟩ := h
  subst e1; subst e2
  obtain ⟨t, rfl⟩ := r1
  obtain ⟨t', rfl⟩ := r2
  exact imul_int ⟨.int _, H, I.tok _, ⟨_, rfl⟩, q⟩ c.ok
end KQ
namespace KQ
open PySem PySem.Spec PyProof.Rows L2 KR KM StX
theorem formD_of {d : PyData} (h : formD d = true) : ∃ n ks ls, d = .tuple [.int n, .tuple ks, .tuple ls] ∧ 0 ≤ n ∧ n ≤ 40 ∧ ks.length ≤ 200 ∧ ls.length ≤ 320 := by
  unfold formD at h
  split at h
  · rename_i n ks ls
    exact ⟨n, ks, ls, rfl, of_decide_eq_true h⟩
  · cases h
theorem formD_no {d : PyData} (h : ¬ ∃ n ks ls, d = .tuple [.int n, .tuple ks, .tuple ls] ∧ 0 ≤ n ∧ n ≤ 40 ∧ ks.length ≤ 200 ∧ ls.length ≤ 320) : formD d = false := by
  cases c : formD d with
  | false => rfl
  | true => exact absurd (formD_of c) h
theorem faultD_form {d : PyData} (h : formD d = false) : faultD d = some (("form" : Str), none) := by
  unfold faultD
  split
  · rename_i n ks ls
    exact if_neg fun z => by
      have e : formD (.tuple [.int n, .tuple ks, .tuple ls]) = true := decide_eq_true z
      rw [e] at h
      cases h
  · rfl
section
variable {P : Program} {w : World} {K : PySem.W.Frag} {mg : Str → Option Value} {base : Heap}
abbrev s_has_form : Stmt := topS 13
theorem sc_has_form : FnScope ["value", "doors", "knots", "lines"] ["value"] (defScope s_has_form) := ⟨rfl, rfl, rfl, by decide +kernel, rfl, by decide +kernel, by decide +kernel⟩
def spHasF : Sp := fun vs H Q _ => ∃ (v : V) (d : PyData), vs = [v] ∧ DV H d v ∧ Q (.bl (formD d)) H
theorem ok_has_form (D : DefAt K mg "has_form" s_has_form) (T : Bt mg) (c_MOST_PIECE_DOORS : Cst mg "MOST_PIECE_DOORS" 40) (c_MOST_KNOTS : Cst mg "MOST_KNOTS" 200) (c_MOST_LINES : Cst mg "MOST_LINES" 320)
    (u_is_tuple_within : Use P w K mg base "is_tuple_within" 1 ["value", "least", "most"] spTupWD) (u_is_integer_within : Use P w K mg base "is_integer_within" 2 ["value", "least", "most"] spIntWD) : Use P w K mg base "has_form" 3 ["value"] spHasF := by
  refine use_of D (fun f fd F => F.ok sc_has_form (fun vs H Q E h => ?_) (fun cdv A outer s H vs Q E hr h => ?_)) (fun _ _ _ _ _ _ us hl => match us, hl with | [_], _ => rfl)
  · obtain ⟨v, d, rfl, _⟩ := h
    rfl
  · obtain ⟨v, d, rfl, o, q⟩ := h
    refine ⟨_, (pss_cons (ps_if (pt_not (pt_val (pe_use u_is_tuple_within (by decide) hr (by rfl) (pa_cons (pv 0) (pa_cons pe_int (pa_cons pe_int pa_nil)))))) (pss_one (ps_ret pe_bl)) pss_nil)
      (pss_cons (ps_asg (pv 0) (pg_tup rfl (pgs_cons (pg_name (i := 1) sc_has_form.nd rfl (Or.inl rfl)) (pgs_cons (pg_name (i := 2) sc_has_form.nd rfl (Or.inl rfl)) (pgs_cons (pg_name (i := 3) sc_has_form.nd rfl (Or.inl rfl)) pgs_nil)))))
      (pss_cons (ps_if (pt_not (pt_val (pe_use u_is_integer_within (by decide) hr (by rfl) (pa_cons (pv 1) (pa_cons pe_int (pa_cons (pe_cst (by rfl) c_MOST_PIECE_DOORS) pa_nil)))))) (pss_one (ps_ret pe_bl)) pss_nil)
      (pss_one (ps_ret (pe_and (pe_use u_is_tuple_within (by decide) hr (by rfl) (pa_cons (pv 2) (pa_cons pe_int (pa_cons (pe_cst (by rfl) c_MOST_KNOTS) pa_nil)))) (pe_one (pe_use u_is_tuple_within (by decide) hr (by rfl) (pa_cons (pv 3) (pa_cons pe_int (pa_cons (pe_cst (by rfl) c_MOST_LINES) pa_nil))))))))))), ?_⟩
    refine ⟨_, rfl, v, d, 3, 3, rfl, o, _, rfl, ?_⟩
    cases c : tupD 3 3 d with
    | false =>
      refine iteT ?_
      rw [formD_no (by
        rintro ⟨n, ks, ls, rfl, _⟩
        cases c)] at q
      exact q
    | true =>
      refine iteF ?_
      obtain ⟨d1, d2, d3, rfl⟩ : ∃ d1 d2 d3, d = .tuple [d1, d2, d3] := by
        cases d with
        | tuple ds =>
          have c : (3 : Int) ≤ (ds.length : Int) ∧ (ds.length : Int) ≤ 3 := of_decide_eq_true c
          match ds, c with
          | [d1, d2, d3], _ => exact ⟨d1, d2, d3, rfl⟩
          | [], c => simp at c
          | [_], c => simp at c
          | [_, _], c => simp at c
          | _ :: _ :: _ :: _ :: _, c => simp at c; omega
        | _ => cases c
      obtain ⟨a, xs, rfl, ea, hs⟩ := o.tup
      obtain ⟨v1, vs1, rfl, h1, hs⟩ := hs.out
      obtain ⟨v2, vs2, rfl, h2, hs⟩ := hs.out
      obtain ⟨v3, vs3, rfl, h3, hs⟩ := hs.out
      obtain rfl := hs.end'
      refine ⟨_, rfl, a, _, rfl, rdT ea, rfl, _, _, rfl, _, _, rfl, _, [], rfl, rfl, ?_⟩
      refine ⟨_, rfl, v1, d1, 0, 40, rfl, h1, _, rfl, ?_⟩
      cases c1 : intD 0 40 d1 with
      | false =>
        refine iteT ?_
        rw [formD_no (by
          rintro ⟨n, ks, ls, e, z, z2, _⟩
          cases e
          rw [show intD 0 40 (.int n) = true from decide_eq_true ⟨z, z2⟩] at c1
          cases c1)] at q
        exact q
      | true =>
        refine iteF ?_
        obtain ⟨n, rfl, n0, n40⟩ : ∃ n, d1 = .int n ∧ 0 ≤ n ∧ n ≤ 40 := by
          cases d1 with
          | int n => exact ⟨n, rfl, of_decide_eq_true c1⟩
          | _ => cases c1
        refine ⟨_, rfl, v2, d2, 0, 200, rfl, h2, _, rfl, ?_⟩
        cases c2 : tupD 0 200 d2 with
        | false =>
          refine iteF ?_
          rw [formD_no (by
            rintro ⟨n, ks, ls, e, _, _, z, _⟩
            cases e
            rw [show tupD 0 200 (.tuple ks) = true from decide_eq_true ⟨by omega, by omega⟩] at c2
            cases c2)] at q
          exact q
        | true =>
          refine iteT ?_
          obtain ⟨ks, rfl, k200⟩ : ∃ ks, d2 = .tuple ks ∧ ks.length ≤ 200 := by
            cases d2 with
            | tuple ks =>
              have := (of_decide_eq_true c2 : (0 : Int) ≤ (ks.length : Int) ∧ (ks.length : Int) ≤ 200)
              exact ⟨ks, rfl, by omega⟩
            | _ => cases c2
          refine ⟨_, rfl, v3, d3, 0, 320, rfl, h3, ?_⟩
          have e : formD (.tuple [.int n, .tuple ks, d3]) = tupD 0 320 d3 := by
            cases d3 with
            | tuple ls =>
              show decide (0 ≤ n ∧ n ≤ 40 ∧ ks.length ≤ 200 ∧ ls.length ≤ 320) = decide ((0 : Int) ≤ (ls.length : Int) ∧ (ls.length : Int) ≤ 320)
              rw [Bool.eq_iff_iff, decide_eq_true_eq, decide_eq_true_eq]
              omega
            | _ => rfl
          rw [e] at q
          exact q
abbrev s_piece_fault : Stmt := topS 15
theorem sc_piece_fault : FnScope ["value", "doors", "knots", "lines", "place", "sort"] ["value"] (defScope s_piece_fault) := ⟨rfl, rfl, rfl, by decide +kernel, rfl, by decide +kernel, by decide +kernel⟩
def placeV : Option Nat → V
  | none => .non
  | some i => .int (i : Int)
/-- what is told: nothing, or a word and a place -/
def FaultV (H : Hp) (v : V) : Option (Str × Option Nat) → Prop
  | none => v = .non
  | some p => ∃ t, v = .ref t ∧ H t = some (.tup [.str p.1, placeV p.2])
theorem FaultV.mono {H H' : Hp} {v : V} (s : Same H H') : ∀ {o : Option (Str × Option Nat)}, FaultV H v o → FaultV H' v o
  | none, h => h
  | some _, ⟨t, a, b⟩ => ⟨t, a, s _ _ b⟩
/-- few lines, or too many -/
def FewL (d : PyData) : Prop := ∀ n ks ls, d = .tuple [.int n, .tuple ks, .tuple ls] → ls.length ≤ 31 ∨ 320 < ls.length
theorem badKnot_at : ∀ (ks : List PyData) (i j : Nat), (∀ m, m < j → ∃ d, ks[m]? = some d ∧ sortB d = true) → badKnot i ks = badKnot (i + j) (ks.drop j)
  | ks, i, 0, _ => rfl
  | [], i, j + 1, h => by
    obtain ⟨d, e, _⟩ := h 0 (Nat.succ_pos _)
    cases e
  | d :: r, i, j + 1, h => by
    obtain ⟨d', e, s⟩ := h 0 (Nat.succ_pos _)
    cases e
    have := badKnot_at r (i + 1) j fun m hm => h (m + 1) (Nat.succ_lt_succ hm)
    show (if sortB d = true then badKnot (i + 1) r else some i) = _
    rw [if_pos s, this, show i + 1 + j = i + (j + 1) by omega]
    rfl
def spPF : Sp := fun vs H Q _ => ∃ (v : V) (d : PyData), vs = [v] ∧ DV H d v ∧ FewL d ∧ ∀ H' v', Same H H' → FaultV H' v' (faultD d) → Q v' H'
theorem ok_piece_fault (D : DefAt K mg "piece_fault" s_piece_fault) (T : Bt mg) (u_has_form : Use P w K mg base "has_form" 3 ["value"] spHasF) (u_is_sort : Use P w K mg base "is_sort" 1 ["value"] spSort)
    (u_first_wrong_line : Use P w K mg base "first_wrong_line" 2 ["doors", "knots", "lines"] spFWL) : Use P w K mg base "piece_fault" 4 ["value"] spPF := by
  refine use_of D (fun f fd F => F.ok sc_piece_fault (fun vs H Q E h => ?_) (fun cdv A outer s H vs Q E hr h => ?_)) (fun _ _ _ _ _ _ us hl => match us, hl with | [_], _ => rfl)
  · obtain ⟨v, d, rfl, _⟩ := h
    rfl
  · obtain ⟨v, d, rfl, o, few, q⟩ := h
    refine ⟨_, (pss_cons (ps_if (pt_not (pt_val (pe_use u_has_form (by decide) hr (by rfl) (pa_cons (pv 0) pa_nil)))) (pss_one (ps_ret (pe_tup (pa_cons pe_str (pa_cons pe_non pa_nil))))) pss_nil)
      (pss_cons (ps_asg (pv 0) (pg_tup rfl (pgs_cons (pg_name (i := 1) sc_piece_fault.nd rfl (Or.inl rfl)) (pgs_cons (pg_name (i := 2) sc_piece_fault.nd rfl (Or.inl rfl)) (pgs_cons (pg_name (i := 3) sc_piece_fault.nd rfl (Or.inl rfl)) pgs_nil)))))
      (pss_cons (ps_for PassesOwn.never rfl (k_enumT (K := K) rfl (by rfl) T.enumerate (pa_cons (pv 2) pa_nil)) (pg_tup rfl (pgs_cons (pg_name (i := 4) sc_piece_fault.nd rfl (Or.inl rfl)) (pgs_cons (pg_name (i := 5) sc_piece_fault.nd rfl (Or.inl rfl)) pgs_nil)))
      (pss_one (ps_if (pt_not (pt_val (pe_use u_is_sort (by decide) hr (by rfl) (pa_cons (pv 5) pa_nil)))) (pss_one (ps_ret (pe_tup (pa_cons pe_str (pa_cons (pv 4) pa_nil))))) pss_nil)))
      (pss_cons (ps_set (i := 4) sc_piece_fault.nd rfl (Or.inl rfl) (pe_use u_first_wrong_line (by decide) hr (by rfl) (pa_cons (pv 1) (pa_cons (pe_callB (k_len (K := K) rfl) (by rfl) T.len PySem.boot_len (pa_cons (pv 2) pa_nil)) (pa_cons (pv 3) pa_nil)))))
      (pss_cons (ps_if (pt_cmpR op_notN (pv 4) pe_non (nomark _)) (pss_one (ps_ret (pe_tup (pa_cons pe_str (pa_cons (pv 4) pa_nil))))) pss_nil)
      (pss_cons (ps_if (pt_cmpR op_ne (pe_op op_mulW pe_int (pe_callB (k_len (K := K) rfl) (by rfl) T.len PySem.boot_len (pa_cons (pv 3) pa_nil))) (pe_op op_add (pv 1) (pe_op op_mulW pe_int (pe_callB (k_len (K := K) rfl) (by rfl) T.len PySem.boot_len (pa_cons (pv 2) pa_nil)))) (nomark _)) (pss_one (ps_ret (pe_tup (pa_cons pe_str (pa_cons pe_non pa_nil))))) pss_nil)
      (pss_one (ps_ret pe_non)))))))), ?_⟩
    refine ⟨_, rfl, v, d, rfl, o, _, rfl, ?_⟩
    cases c : formD d with
    | false =>
      refine iteT ⟨by show 2 ≤ sizeLine; decide, fun t nt => ?_⟩
      refine q _ _ (same_new nt) ?_
      rw [faultD_form c]
      exact ⟨t, rfl, upd_same⟩
    | true =>
      refine iteF ?_
      obtain ⟨n, ks, ls, rfl, n0, n40, k200, l320⟩ := formD_of c
      have few := few n ks ls rfl
      have fE : faultD (.tuple [.int n, .tuple ks, .tuple ls]) = faultIn n ks ls := if_pos ⟨n0, n40, k200, l320⟩
      rw [fE] at q
      obtain ⟨a, xs, rfl, ea, hs⟩ := o.tup
      obtain ⟨v1, vs1, rfl, h1, hs⟩ := hs.out
      obtain ⟨v2, vs2, rfl, h2, hs⟩ := hs.out
      obtain ⟨v3, vs3, rfl, h3, hs⟩ := hs.out
      obtain rfl := hs.end'
      obtain rfl : v1 = .int n := by simpa only [DV] using h1
      obtain ⟨ak, xk, rfl, ek, hk⟩ := h2.tup
      obtain ⟨al, xl, rfl, el, hl⟩ := h3.tup
      have kl := hk.len
      have ll := hl.len
      refine ⟨_, rfl, a, _, rfl, rdT ea, rfl, _, _, rfl, _, _, rfl, _, [], rfl, rfl, ?_⟩
      refine ⟨_, rfl, ak, _, rfl, rdT ek, for_enumT (K := K) (a := ak) (xs := xk)
        (fun i σ H1 => ∃ (y4 y5 : Option V), σ = [some (.ref a), some (.int n), some (.ref ak), some (.ref al), y4, y5] ∧ Same H H1 ∧ ∀ m, m < i → ∃ d, ks[m]? = some d ∧ sortB d = true)
        ⟨none, none, rfl, .refl H, fun m hm => absurd hm (Nat.not_lt_zero _)⟩ (fun i σ H1 ⟨_, _, _, s1, _⟩ => rdT (ek.mono s1)) ?_ ?_⟩
      · rintro i v T1 σ H1 hv ⟨y4, y5, rfl, s1, good⟩ nT
        obtain ⟨d, hd, dv⟩ := hk.at hv
        have il := (List.getElem?_eq_some_iff.mp hd).1
        have sT := same_new (H := H1) (o := .tup [V.int ((i : Nat) : Int), v]) nT
        have s2 := s1.trans sT
        refine ⟨T1, _, rfl, .inl (.inl upd_same), rfl, _, _, rfl, _, [], rfl, rfl, ?_⟩
        refine ⟨_, rfl, v, d, rfl, dv.mono s2, fun H2 s3 => ⟨_, rfl, ?_⟩⟩
        cases cs : sortB d with
        | true =>
          refine iteF ⟨_, _, rfl, s2.trans s3, fun m hm => ?_⟩
          rcases Nat.lt_or_ge m i with z | z
          · exact good m z
          · obtain rfl : m = i := by omega
            exact ⟨d, hd, cs⟩
        | false =>
          refine iteT ⟨_, rfl, by show 2 ≤ sizeLine; decide, fun t nt => ?_⟩
          refine q _ _ ((s2.trans s3).trans (same_new nt)) ?_
          have b : badKnot 0 ks = some i := by
            rw [badKnot_at ks 0 i good, List.drop_eq_getElem_cons il]
            have e : ks[i] = d := Option.some.inj ((List.getElem?_eq_getElem il).symm.trans hd)
            rw [e]
            show (if sortB d = true then _ else some (0 + i)) = _
            rw [cs, Nat.zero_add]
            rfl
          have : faultIn n ks ls = some (("knots" : Str), some i) := by
            unfold faultIn
            rw [b]
          rw [this]
          exact ⟨t, rfl, upd_same⟩
      · rintro σ H1 ⟨y4, y5, rfl, s1, good⟩
        have b : badKnot 0 ks = none := by
          rw [badKnot_at ks 0 ks.length (by rw [← kl]; exact good), List.drop_length]
          rfl
        refine ⟨_, rfl, _, rfl, ak, _, rfl, .inr (rdT (ek.mono s1)), _, rfl, n, xk.length, al, xl, ls, rfl, el.mono s1, hl.mono s1, by omega, fun H2 s2 => ?_⟩
        have s12 := s1.trans s2
        rw [kl]
        cases lr : linesOf n ((ks.length : Nat) : Int) [] 0 ls with
        | inl i =>
          have f : faultIn n ks ls = some (("lines" : Str), some i) := by
            unfold faultIn
            rw [b]
            dsimp only
            rw [lr]
          rw [f] at q
          refine ⟨_, rfl, rfl, true, rfl, iteT ⟨_, rfl, by show 2 ≤ sizeLine; decide, fun t nt => ?_⟩⟩
          exact q _ _ (s12.trans (same_new nt)) ⟨t, rfl, upd_same⟩
        | inr es =>
          have f : faultIn n ks ls = if 2 * (ls.length : Int) = n + 3 * (ks.length : Int) then none else some (("ends" : Str), none) := by
            unfold faultIn
            rw [b]
            dsimp only
            rw [lr]
          rw [f] at q
          refine ⟨_, rfl, rfl, false, rfl, iteF ?_⟩
          refine ⟨_, rfl, al, _, rfl, .inr (rdT (el.mono s12)), _, _, rfl, rfl, wide_mul (a := 4) (b := 12) (by decide) (by omega) (by decide) (by decide) (by decide), ?_⟩
          refine ⟨_, rfl, _, rfl, ak, _, rfl, .inr (rdT (ek.mono s12)), _, _, rfl, rfl, wide_mul (a := 4) (b := 12) (by decide) (by omega) (by decide) (by decide) (by decide), _, _, rfl, rfl, rfl, ?_⟩
          rw [kl, ll]
          by_cases e : 2 * (ls.length : Int) = n + 3 * (ks.length : Int)
          · rw [if_pos e] at q
            refine ⟨false, congrArg V.bl (congrArg Bool.not (decide_eq_true (congrArg V.int e))), iteF ?_⟩
            exact q _ _ s12 rfl
          · rw [if_neg e] at q
            refine ⟨true, congrArg V.bl (congrArg Bool.not (decide_eq_false fun z => e (V.int.inj z))), iteT ⟨by show 2 ≤ sizeLine; decide, fun t nt => ?_⟩⟩
            exact q _ _ (s12.trans (same_new nt)) ⟨t, rfl, upd_same⟩
abbrev s_is_piece : Stmt := topS 16
theorem sc_is_piece : FnScope ["value"] ["value"] (defScope s_is_piece) := ⟨rfl, rfl, rfl, by decide +kernel, rfl, by decide +kernel, by decide +kernel⟩
def spIsP : Sp := fun vs H Q _ => ∃ (v : V) (d : PyData), vs = [v] ∧ DV H d v ∧ FewL d ∧ ∀ H', Same H H' → Q (.bl (faultD d).isNone) H'
theorem ok_is_piece (D : DefAt K mg "is_piece" s_is_piece) (T : Bt mg) (u_piece_fault : Use P w K mg base "piece_fault" 4 ["value"] spPF) : Use P w K mg base "is_piece" 5 ["value"] spIsP := by
  refine use_of D (fun f fd F => F.ok sc_is_piece (fun vs H Q E h => ?_) (fun cdv A outer s H vs Q E hr h => ?_)) (fun _ _ _ _ _ _ us hl => match us, hl with | [_], _ => rfl)
  · obtain ⟨v, d, rfl, _⟩ := h
    rfl
  · obtain ⟨v, d, rfl, o, few, q⟩ := h
    refine ⟨_, (pss_one (ps_ret (pe_cmpR op_isN (pe_use u_piece_fault (by decide) hr (by rfl) (pa_cons (pv 0) pa_nil)) pe_non (nomark _)))), ?_⟩
    refine ⟨_, rfl, v, d, rfl, o, few, fun H1 v1 s1 f1 => ?_⟩
    have qq := q H1 s1
    cases e : faultD d with
    | none =>
      rw [e] at f1 qq
      obtain rfl : v1 = .non := f1
      exact ⟨rfl, qq⟩
    | some p =>
      rw [e] at f1 qq
      obtain ⟨t, rfl, _⟩ := f1
      exact ⟨rfl, qq⟩
abbrev s_need_piece : Stmt := topS 17
theorem sc_need_piece : FnScope ["piece", "fault", "word", "place"] ["piece"] (defScope s_need_piece) := ⟨rfl, rfl, rfl, by decide +kernel, rfl, by decide +kernel, by decide +kernel⟩
def spNeedP : Sp := fun vs H Q _ => ∃ (v : V) (d : PyData), vs = [v] ∧ DV H d v ∧ FewL d ∧ faultD d = none ∧ ∀ H', Same H H' → Q v H'
theorem ok_need_piece (D : DefAt K mg "need_piece" s_need_piece) (T : Bt mg) (u_piece_fault : Use P w K mg base "piece_fault" 4 ["value"] spPF) : Use P w K mg base "need_piece" 5 ["piece"] spNeedP := by
  refine use_of D (fun f fd F => F.ok sc_need_piece (fun vs H Q E h => ?_) (fun cdv A outer s H vs Q E hr h => ?_)) (fun _ _ _ _ _ _ us hl => match us, hl with | [_], _ => rfl)
  · obtain ⟨v, d, rfl, _⟩ := h
    rfl
  · obtain ⟨v, d, rfl, o, few, e, q⟩ := h
    refine ⟨_, (pss_cons (ps_set (i := 1) sc_need_piece.nd rfl (Or.inl rfl) (pe_use u_piece_fault (by decide) hr (by rfl) (pa_cons (pv 0) pa_nil)))
      (pss_cons (ps_if (pt_cmpR op_notN (pv 1) pe_non (nomark _)) (pss_cons (ps_asg (pv 1) (pg_tup rfl (pgs_cons (pg_name (i := 2) sc_need_piece.nd rfl (Or.inl rfl)) (pgs_cons (pg_name (i := 3) sc_need_piece.nd rfl (Or.inl rfl)) pgs_nil))))
      (pss_one ps_never)) pss_nil)
      (pss_one (ps_ret (pe_callTy (k_tupOf (K := K) rfl) (by rfl) T.tuple (by decide +kernel) (pa_cons (pv 0) pa_nil)))))), ?_⟩
    refine ⟨_, rfl, v, d, rfl, o, few, fun H1 v1 s1 f1 => ?_⟩
    rw [e] at f1
    obtain rfl : v1 = .non := f1
    refine ⟨_, rfl, rfl, false, rfl, iteF ?_⟩
    have form : ∃ ds, d = .tuple ds := by
      cases d with
      | tuple ds => exact ⟨ds, rfl⟩
      | _ => cases e
    obtain ⟨ds, rfl⟩ := form
    obtain ⟨a, xs, rfl, ea, hs⟩ := o.tup
    exact ⟨_, rfl, a, xs, rfl, .inr ⟨rdT (ea.mono s1), q H1 s1⟩⟩
def spNeedX (CP : Addr) : Sp := fun vs H _ E => ∃ (v : V) (d : PyData) (x : Str) (p : Option Nat), vs = [v] ∧ DV H d v ∧ FewL d ∧ faultD d = some (x, p) ∧ ∀ H' b, Same H H' → H' b = some (.xd [("word", .str x), ("place", placeV p)]) → E (.ref CP) (some b) H'
end
end KQ
/-! sorted(set(xs)) of a list of whole numbers; a comprehension over a locked dict's keys -/
namespace KR
open PySem PySem.Spec PyProof.Rows L2 KM KQ
section
variable {P : Program} {w : World} {A : Around} {E : Value → Shared → Prop} {s : Shared}
/-- a set without members -/
abbrev bare (w : World) : Obj := { cls := .type "set", dict := none, data := .set #[] 0 (.fresh 0 0 (!w.params.followText "set-order")) }
abbrev bareS (w : World) (s : Shared) : Shared := { s with heap := s.heap.push (bare w) }
set_option maxHeartbeats 8000000 in
theorem set_of_list {l : Addr} {items : Array Value} (ns : List Int) {Q : Value → Shared → Prop} (free : A.handled = none) (lst : s.heap.IsList l items) (hit : IntsAre items.toList ns) (small : ns.length + 1 < scanBound)
    (out : ∀ (h' : Heap) (tk c : Nat), SetR w h' s.heap.objs.size (fun j => decide (j ∈ ns)) c → c ≤ ns.length → (∀ b o, s.heap.get? b = some o → h'.get? b = some o) → Q (.ref s.heap.objs.size) { s with heap := h', toks := tk }) :
    wpAny (model P w) A (call (.type "set") [.ref l]) Q E s := by
  have size : items.size = ns.length := by rw [← hit.length, Array.length_toList]
  obtain ⟨c0, tl0, m0⟩ := F.called_set.mro
  have m1 := F.called_set.made; have m2 := F.called_set.sub; have m3 := F.called_set.notType; have m4 := F.called_set.canCreate; have m5 := F.typeCall_set_1 (.ref l)
  refine wpAny_call (codeAny_of_tree (show wpAny _ _ (callAny (.type "set") _) _ _ _ from wpAny_pure ⟨Code.quiet_builtin _ (by decide +kernel), codeAny_builtin F.entry_type_call ?_⟩))
  rw [Around.under_plain (weight_type_call_type "set" [.ref l] []) rfl]; repeat (any_goals (first | assumption | wp_step))
  refine codeAny_mono (code_set_led1 (.ref l) (E := E) (Q₁ := fun u s1 => u = .ref s.heap.objs.size ∧ s1 = bareS w s) ⟨rfl, rfl⟩) fun z s1 hz => ?_
  cases z with
  | error e => exact hz
  | ok fl =>
    cases fl with
    | ret u =>
      obtain ⟨rfl, rfl⟩ := hz
      have at0 : (s.heap.push (bare w)).get? s.heap.objs.size = some (bare w) := Heap.get?_push_size _ rfl
      have ty0 : Shared.TypeIs (bareS w s) (.ref s.heap.objs.size) "set" := ⟨_, at0, rfl⟩
      have n1 := F.called_set.init.lookup; have n2 := F.called_set.init.bind (.ref s.heap.objs.size); repeat (any_goals (first | assumption | wp_step))
      refine codeAny_mono (codeAny_call_builtin (R := wants (fun r s2 => r = .none ∧ ∃ h' tk c, s2 = { s with heap := h', toks := tk } ∧ SetR w h' s.heap.objs.size (fun j => decide (j ∈ ns)) c ∧ c ≤ ns.length ∧ ∀ b o, s.heap.get? b = some o → h'.get? b = some o) E)
        F.called_set.init.plain F.entry_set_init (check_set_init_1 ty0 ?_)) fun r2 s2 hz2 => ?_
      · obtain ⟨⟨oc, od, oda, osl⟩, at1, c1, n1', d1⟩ := lst
        simp only at c1 d1; subst c1; subst d1
        have at2 : (s.heap.push (bare w)).get? l = some { cls := .type "list", dict := od, data := .seq items n1', slots := osl } := Heap.get?_push_of_some _ at1
        have u1 := F.sub_list_set; have u2 := F.sub_list_frozenset; have u3 : (Value.type "list" == Value.type "dict") = false := by decide
        have lst2 : (s.heap.push (bare w)).IsList l items := ⟨_, at2, rfl, n1', rfl⟩
        unfold Builtin.«set.__init__» noKeywords Builtin.Frozenset.updateFrom; generalize hq : pyIter = qi; wp_walk; subst hq
        refine wpAny_pyIter_list lst2 (wpAny_bind (wpAny_runValue ?_))
        have below : l < s.heap.objs.size := Heap.lt_size at1
        have free3 : A.in1.in1.in1.handled = none := by simp [free]
        have ne1 : l ≠ (s.heap.push (bare w)).objs.size := by rw [Heap.size_push]; exact Nat.ne_of_lt (Nat.lt_succ_of_lt below)
        have out1 : s.heap.objs.size ∉ [(s.heap.push (bare w)).objs.size, l] := by
          rw [Heap.size_push]
          simp only [List.mem_cons, List.not_mem_nil, or_false, not_or]
          exact ⟨Nat.ne_of_lt (Nat.lt_succ_self _), Nat.ne_of_gt below⟩
        have vals : ∀ (i : Nat) (v : Value), items[i]? = some v → ∃ k t, ns[i]? = some k ∧ v = .int k t := fun i v hv => by
          have hi : i < ns.length := by rw [← size]; exact (Array.getElem?_eq_some_iff.mp hv).1
          obtain ⟨t, e⟩ := PyProof.Rows.IntsAre.int_at hit i v (by rw [Array.getElem?_toList]; exact hv)
          exact ⟨ns[i], t, List.getElem?_eq_getElem hi, by rw [e, List.getD_eq_getElem?_getD, List.getElem?_eq_getElem hi]; rfl⟩
        refine set_update_ints ((Walks.list free3 _ l ne1 items).toS) s.heap.objs.size out1 ns size small vals (items.size - 0) 0 _ (by omega) (Nat.zero_le _) ⟨⟨_, Heap.get?_push_size _ rfl, rfl, rfl⟩, lst2.push _⟩ ⟨0, Nat.le_refl 0, setR_new_at (Heap.get?_push_of_some _ at0)⟩ ?_
        rintro ⟨h', g2, d', tk', os'⟩ c' mv hc' R'
        obtain rfl : g2 = s.gens := mv.gens
        obtain rfl : d' = s.drawn := mv.drawn
        obtain rfl : os' = s.os := mv.os
        refine (show wpAny _ _ _ _ _ _ from wpAny_pure (show wpAny _ _ (ret Value.none) _ _ _ from wpAny_pure ⟨rfl, h', tk', c', rfl, R', by rw [← size]; exact hc', fun b o e => ?_⟩))
        have b0 : b < s.heap.objs.size := Heap.lt_size e
        refine mv.heap b o ?_ (Heap.get?_push_of_some _ (Heap.get?_push_of_some _ e))
        rw [Heap.size_push]
        simp only [List.mem_cons, List.not_mem_nil, or_false, not_or]
        exact ⟨Nat.ne_of_lt b0, Nat.ne_of_lt (Nat.lt_succ_of_lt b0)⟩
      · cases r2 with
        | error e => exact hz2
        | ok f2 =>
          cases f2 with
          | ret r =>
            obtain ⟨rfl, h', tk, c', rfl, R', hc', kp⟩ := hz2
            repeat (any_goals (first | assumption | wp_step))
            exact out _ _ _ R' hc' kp
          | _ => exact hz2.elim
    | _ => exact hz.elim
end
section
variable {X : Cx}
theorem srt_set {pins : List (Addr × Obj)} {σ : L2.St} {H : Hp} {Q : VK} {s : Shared} {a : Addr} {S : Int → Bool} {n : Nat} (hc : X.calm = true) (I : Inv X pins σ H s) (R : SetR X.w s.heap a S n) (h64 : n < 64)
    (q : ∀ (ns : List Int) (p : Addr), ns.Pairwise (· < ·) → (∀ k : Int, k ∈ ns ↔ S k = true) → H p = none → Q (.ref p) (upd H p (.lst (ns.map V.int)))) :
    wpAny (model X.prog X.w) X.A (call (.builtin "sorted") [.ref a]) (EP X pins σ Q) X.xe s := by
  refine sorted_set R (I.ok.hd hc) h64 fun s' p out c ns k g o hp hg hi hs hm hl => ?_
  have hz : (ns.map V.int).length ≤ sizeLine := by
    rw [List.length_map, hl, sizeLine_eq]
    omega
  have new : H p = none := I.hok.fresh hp
  have J : Inv X pins σ (upd H p (.lst (ns.map V.int))) { s with heap := s'.heap, gens := s'.gens, drawn := s'.drawn, toks := s'.toks } :=
    I.call (ch := []) (Un.laid k hp new) (I.hok.laid k hp ⟨hz, out.toList, c, vals_of_ints hi, hg⟩) (by rw [g]; exact I.bare) (fun _ z => nomatch z)
  rw [show s' = { s with heap := s'.heap, gens := s'.gens, drawn := s'.drawn, toks := s'.toks } by cases s'; cases s; cases o; rfl]
  exact ⟨.ref p, _, J, rfl, q ns p hs hm new⟩
def tSrtSet (K : PySem.W.Frag) (ta : TE) : TE := fun σ H Q => ta σ H fun x H1 => ∃ (l : Addr) (xs : List Int), x = .ref l ∧ SqL K H1 l (xs.map V.int) ∧ xs.length < 64 ∧
  ∀ (ns : List Int) (p : Addr), ns.Pairwise (· < ·) → (∀ k : Int, k ∈ ns ↔ k ∈ xs) → H1 p = none → Q (.ref p) (upd H1 p (.lst (ns.map V.int)))
theorem pe_srtSet {a : Expr} {ta : TE} {p p2 q pos : Pos} (hc : X.calm = true) (hg : Gl X "sorted") (hm : X.mg "sorted" = none) (hg2 : Gl X "set") (hm2 : X.mg "set" = none) (ha : PE X a ta)
    (na : starEach [a] X.env = (false, eval a X.env) :: starEach [] X.env := by rfl) : PE X (.Call (.Name "sorted" p) [.Call (.Name "set" p2) [a] [] q] [] pos) (tSrtSet X.K ta) := by
  refine ⟨fun pins s σ H Q I h => ?_⟩
  refine Call_ (ld_blt I hg hm (show bootBuiltins (Str.ofString "sorted") = some (.builtin "sorted") by decide +kernel) ?_)
  refine PyProof.Rows.callWith_builtin1 (PyProof.Rows.args_cons ?_ rfl) rfl rfl
  refine Call_ (ld_blt I hg2 hm2 boot_set ?_)
  refine PyProof.Rows.callWith_type1 (PyProof.Rows.args_cons (thn (ha.run pins s σ H _ I h) fun v s1 ⟨x, H1, I1, r1, q1⟩ => PyProof.Rows.args_nil ?_) na) na rfl
  obtain ⟨l, xs, rfl, hq, hle, q1⟩ := q1
  cases r1
  obtain ⟨its, r, pl, hz⟩ := I1.list hq
  refine set_of_list xs (I1.ok.hd hc) pl.isList (by simpa using r.ints) (Nat.lt_of_le_of_lt hle (by decide)) fun h' tk c R hcl kp => ?_
  refine PyProof.Rows.args_nil ?_
  have I2 : Inv X pins σ H1 { s1 with heap := h', toks := tk } := I1.kept kp
  exact srt_set hc I2 R (by omega) fun ns p hs hm hn => q1 ns p hs (fun z => by rw [hm z, decide_eq_true_iff]) hn
end
/-! a comprehension over a locked dict's keys -/
theorem lc_keys {d : Addr} {o : Obj} {kvs : List (L2.Key × V)} {g : TG} {tt : TT} {te : TE} {vs : List Nat} {σ : L2.St} {H1 : Hp} {D : Addr} {Qd : Hp → Prop} (Pv : Nat → Hp → Prop) (h0 : Pv 0 (upd H1 D (.lst []))) (hl : ∀ i H, i ≤ kvs.length → Pv i H → H d = some (.frz o (.dK kvs)))
    (hs : ∀ i k v H, kvs[i]? = some (k, v) → Pv i H → g (kV k) (wipe σ vs) H fun σ2 H2 => wipe σ2 vs = wipe σ vs ∧ tt σ2 H2 fun b H3 =>
      if b = true then te σ2 H3 fun y H4 => ∃ acc, H4 D = some (.lst acc) ∧ acc.length < sizeLine ∧ Pv (i + 1) (upd H4 D (.lst (acc ++ [y]))) else Pv (i + 1) H3) (hd : ∀ H, Pv kvs.length H → Qd H) :
    ∃ W : Nat → Nat → Hp → Prop, (∃ m, W 0 m (upd H1 D (.lst []))) ∧ ∀ i m H, W i m H →
      ((Itk d o kvs).stop i H ∧ Qd H) ∨ ((Itk d o kvs).go i H ∧ ∃ Nx : Hp → Prop, (∀ H', Nx H' → ∃ m', m' < m ∧ W (i + 1) m' H') ∧ ∀ x H', (Itk d o kvs).yld i H x H' → g x (wipe σ vs) H' fun σ2 H2 => wipe σ2 vs = wipe σ vs ∧ tt σ2 H2 fun b H3 =>
        if b = true then te σ2 H3 fun y H4 => ∃ acc, H4 D = some (.lst acc) ∧ acc.length < sizeLine ∧ Nx (upd H4 D (.lst (acc ++ [y]))) else Nx H3) := by
  refine ⟨fun i m H => m = kvs.length - i ∧ i ≤ kvs.length ∧ Pv i H, ⟨kvs.length, by simp, Nat.zero_le _, h0⟩, ?_⟩
  rintro i m H ⟨rfl, hi, p⟩
  have q := hl i H hi p
  by_cases hlt : i < kvs.length
  · refine .inr ⟨⟨q, hlt⟩, Pv (i + 1), fun H' p' => ⟨kvs.length - (i + 1), by omega, rfl, hlt, p'⟩, fun x H' y => ?_⟩
    obtain ⟨e, k, v, hk, rfl⟩ := y
    subst e
    exact hs i k v _ hk p
  · obtain rfl : i = kvs.length := by omega
    exact .inl ⟨⟨q, Nat.le_refl _⟩, hd H p⟩
end KR
/-! an own error whose __init__ says super().__init__(text), then self.f = x -/
namespace KR
open PySem PySem.Spec PyProof.Rows L2
def spIni (C : Addr) (fld : Str) : Sp := fun vs H Q _ => ∃ a v, vs = [.ref a, v] ∧ H a = some (exo a C none) ∧ ∀ dx, H dx = none → dx ≠ a → Q .non (upd (upd H dx (exd dx [(fld, v)])) a (exo a C (some dx)))
def cxI (P : Program) (w : World) (K : PySem.W.Frag) (mg : Str → Option Value) (base : Heap) (N : List Str) (qual : Str) (scope : Scope) (f cc : Addr) (cd : Value) (A : Around) (outer : List Env) (s : Shared) (H : Hp) (E' : Value → Shared → Prop) : Cx where
  prog := P
  w := w
  K := K
  mg := mg
  base := base
  A := A.deeper (PySem.W.ksEnv qual scope s.heap.objs.size f cd cc)
  N := N
  s_0 := s
  H_0 := H
  env := PySem.W.ksEnv qual scope s.heap.objs.size f cd cc
  outer := outer
  stack := PySem.W.ksEnv qual scope s.heap.objs.size f cd cc :: outer
  ex := []
  calm := true
  fn := fun _ => false
  pn := []
  xe := E'
theorem lkp {β : Type} (f g : Str) (y : β) (fs : List (Str × β)) : ((f, y) :: fs).lookup g = if g = f then some y else fs.lookup g := by
  by_cases h : g = f
  · subst h
    simp [List.lookup]
  · have e : (g == f) = false := by simpa using h
    rw [if_neg h]
    simp [List.lookup, e]
theorem lookup_cc {cc c : Addr} {y : Str} (e : ([(("__class__" : Str), cc)] : List (Str × Addr)).lookup y = some c) : y = "__class__" ∧ c = cc := by
  rw [lkp] at e
  by_cases h : y = "__class__"
  · rw [if_pos h] at e
    exact ⟨h, (Option.some.inj e).symm⟩
  · rw [if_neg h] at e
    cases e
theorem cc_lookup {cc : Addr} : ([(("__class__" : Str), cc)] : List (Str × Addr)).lookup ("__class__" : Str) = some cc := by
  rw [lkp, if_pos rfl]
section
variable {P : Program} {w : World} {K : PySem.W.Frag} {mg : Str → Option Value} {base : Heap} {CX : CXT} {f cc cda C : Addr} {name qual fld x msg : Str} {params : Arguments} {scope : Scope} {dV kV doc pm ct oc ccl cl : Value} {an od cdd cld : Option Addr} {osl ccs csl : Array (Option Value)} {vs0 : Array Value} {file : Str} {tf : Tok} {ar : Arg}
  {j : Nat} {p0 p1 p2 p3 p4 p5 q1 q2 q3 q4 : Pos}
abbrev iniBody (msg fld x : Str) (j : Nat) (p0 p1 p2 p3 p4 p5 q1 q2 q3 q4 : Pos) : List Stmt :=
  [.Expr (.Call (.Attribute (.Call (.Name "super" p0) [] [] p1) "__init__" p2) [.Constant (.str msg) j p3] [] p4) p5, .Assign [.Attribute (.Name "self" q1) fld q2] (.Name x q3) q4]
theorem fn_ini (T : OexC K C)
    (lk : K.lookup f = some ⟨oc, od, .func (PySem.W.ksFn name qual params (iniBody msg fld x j p0 p1 p2 p3 p4 p5 q1 q2 q3 q4) scope dV kV doc pm an (.ref cda) ct cc), osl⟩)
    (hcd : PySem.W.codeIn K (.ref cda) qual = true) (hcode : K.lookup cda = some ⟨ccl, cdd, .fields vs0, ccs⟩) (hvs : vs0[2]? = some (.str file tf)) (hfile : ((P.main.file : Str) == file) = true)
    (htop : (P.main.scope.names.lookup ("super" : Str)).isSome = false) (hcell : K.lookup cc = some ⟨cl, cld, .cell (some (.ref C)), csl⟩)
    (hsup : PySem.W.ks_superIn K C C "__init__" = some (some (.builtin "ValueError.__init__"))) (hV : PySem.W.subIn K (.ref C) (.type "ValueError") = some true) (hmro : PySem.W.mroIn K C (.ref C) = some true)
    (hop : PySem.W.nsIn K cStatics "thirdparty.any" = some none) (hsm : mg "super" = none) (hfa : PySem.W.findIn K (.ref C) fld = some none)
    (hp : (params.posonlyargs ++ params.args).head? = some ar) (har : ar.arg = "self") (hx : ¬ (x = "self")) (hxd : (x == ("__debug__" : Str)) = false) (hxc : (x == ("__classdict__" : Str)) = false)
    (hk : scope.kind = .function) (hco : scope.isCoroutine = false) (hgen : scope.isGenerator = false)
    (l1 : scope.names.lookup ("self" : Str) = some .local) (l2 : scope.names.lookup x = some .local) (l3 : scope.names.lookup ("__class__" : Str) = some .free) (l4 : scope.names.lookup ("super" : Str) = some .globalImplicit)
    {pl : Sem Bool} (hev : ∀ L, eval (.Call (.Attribute (.Call (.Name "super" p0) [] [] p1) "__init__" p2) [.Constant (.str msg) j p3] [] p4) (PySem.W.ksEnv qual scope L f (.ref cda) cc) = (do
      let ov ← attributeBase (.Call (.Name "super" p0) [] [] p1) "__init__" (PySem.W.ksEnv qual scope L f (.ref cda) cc) (eval (.Call (.Name "super" p0) [] [] p1) (PySem.W.ksEnv qual scope L f (.ref cda) cc))
      standAt p2.atName
      let (fn, first) ← holding [ov] (getMethod ov "__init__" pl)
      callWith p4 fn first (backTo p4 (starEach [.Constant (.str msg) j p3] (PySem.W.ksEnv qual scope L f (.ref cda) cc))) []))
    (l5 : ∀ y ∈ scope.names, y.2 ≠ .cell) (l6 : ∀ y ∈ scope.names, y.2 = .free → y.1 = "__class__") :
    FnOk P w K mg base CX 1 f (PySem.W.ksFn name qual params (iniBody msg fld x j p0 p1 p2 p3 p4 p5 q1 q2 q3 q4) scope dV kV doc pm an (.ref cda) ct cc) ["self", x] (spIni C fld) := by
  refine ⟨fun vs H Q E h => ?_, fun A outer s H args us vs Q E hr e0 hb r hsp => ?_⟩
  · obtain ⟨a, v, rfl, _⟩ := h
    rfl
  obtain ⟨a, v, rfl, ha, q⟩ := hsp
  cases r with
  | cons ra r1 =>
  rename_i u0 us1
  cases r1 with
  | cons rv r2 =>
  rename_i u1 us2
  cases r2
  obtain rfl : u0 = Value.ref a := ra
  have KX : K.In s.heap := e0.mod.kin.keeps fun b o e => (e0.bs b o e).1
  have lim : s.heap.NoLimit := e0.mod.nolimit.keeps fun b o e => (e0.bs b o e).1
  refine PySem.ks_codeAny_call_defAt (fd := PySem.W.ksFn name qual params (iniBody msg fld x j p0 p1 p2 p3 p4 p5 q1 q2 q3 q4) scope dV kV doc pm an (.ref cda) ct cc) (body := iniBody msg fld x j p0 p1 p2 p3 p4 p5 q1 q2 q3 q4)
    (binds := [("self", .ref a), (x, u1)]) hr.depth (KX _ _ lk) rfl lim (PySem.W.codeRec_of KX hcd) rfl hb l5 (fun y hy => ?_) (fun h0 hns hkp => ?_) hco hgen hk
  · simp only [List.mem_cons, List.not_mem_nil, or_false] at hy
    rcases hy with rfl | rfl
    · exact l1
    · exact l2
  show PySem.wpAt (model P w) (A.deeper (PySem.W.ksEnv qual scope s.heap.objs.size f (.ref cda) cc)) (.func (iniBody msg fld x j p0 p1 p2 p3 p4 p5 q1 q2 q3 q4) (PySem.W.ksEnv qual scope s.heap.objs.size f (.ref cda) cc)) (execs (iniBody msg fld x j p0 p1 p2 p3 p4 p5 q1 q2 q3 q4) (PySem.W.ksEnv qual scope s.heap.objs.size f (.ref cda) cc)) _ _ _
  generalize hE : (fun (e : Value) (s' : Shared) => wpAny (model P w) (A.deeper (callEnv (PySem.W.ksFn name qual params (iniBody msg fld x j p0 p1 p2 p3 p4 p5 q1 q2 q3 q4) scope dV kV doc pm an (.ref cda) ct cc) s.heap.objs.size f)) (leaving (callEnv (PySem.W.ksFn name qual params (iniBody msg fld x j p0 p1 p2 p3 p4 p5 q1 q2 q3 q4) scope dV kV doc pm an (.ref cda) ct cc) s.heap.objs.size f) e)
    (fun _ s'' => CR CX outer P w H s Q E (.error e) s'') (fun e' s'' => CR CX outer P w H s Q E (.error e') s'') s') = E'
  have I0 : Inv (cxI P w K mg base ["self", x] qual scope f cc (.ref cda) A outer s H E') [] [some (.ref a), some v] H { s with heap := h0, toks := s.toks + 2 } := by
    have hcc : base.get? cc = some ⟨cl, cld, .cell (some (.ref C)), csl⟩ := e0.mod.kin _ _ hcell
    have hccs := e0.bs _ _ hcc
    have noA : ∀ b : Addr, b ∉ (cxI P w K mg base ["self", x] qual scope f cc (.ref cda) A outer s H E').ex := fun b z => absurd (show b ∈ ([] : List Addr) from z) (by simp)
    refine ⟨⟨e0.mod, hk, rfl, rfl, Nat.le_refl _, fun y z c h1 h2 => ?_, fun y hy => ?_, fun y c h => ?_, fun _ => hr.hd, Around.frames_deeper e0.frames, .inr ⟨rfl, rfl⟩, fun b z => absurd z (noA b), e0.bs, e0.bsz, fun b _ _ => noA b, fun b z => absurd z (noA b), e0.funs, e0.frf⟩,
      rfl, e0.bare, Un.kept hkp, ⟨_, hns, fun i y v' h1 h2 h3 => ?_⟩, fun y c h => ?_, e0.hok.fresh (Nat.le_refl _), fun y c h => ?_, fun p hp => absurd (show p ∈ ([] : List (Addr × Obj)) from hp) (by simp), e0.hok.kept hkp, rfl⟩
    · exact (lookup_cc h1).1.trans (lookup_cc h2).1.symm
    · have hy : scope.names.lookup y = some .cell ∨ scope.names.lookup y = some .free := hy
      rcases hy with hy | hy
      · exact absurd rfl (l5 _ (PySem.mem_of_lookup hy))
      · rw [show y = ("__class__" : Str) from l6 _ (PySem.mem_of_lookup hy) rfl]
        exact ⟨cc, cc_lookup⟩
    · cases h
    · match i, h1, h2 with
      | 0, h1, h2 =>
        cases h1
        cases h2
        refine ⟨.ref a, rfl, .inl ⟨l1, ?_⟩⟩
        show ([(x, u1), ("self", Value.ref a)] : List (Str × Value)).lookup ("self" : Str) = _
        rw [lkp, if_neg (fun z => hx z.symm), lkp, if_pos rfl]
      | 1, h1, h2 =>
        cases h1
        cases h2
        refine ⟨u1, rv, .inl ⟨l2, ?_⟩⟩
        show ([(x, u1), ("self", Value.ref a)] : List (Str × Value)).lookup x = _
        rw [lkp, if_pos rfl]
      | n + 2, h1, h2 => exact absurd h1 (by simp [cxI])
    · rw [(lookup_cc h).2]
      exact ⟨_, _, hkp _ _ hccs.1, rfl⟩
    · rw [(lookup_cc h).2]
      exact hccs.2
  have KX0 := I0.kIn
  have heg : H a = some (exo a C none) := ha
  obtain ⟨t1, hoe⟩ := exo_at I0.hok heg
  obtain ⟨nm, qn, N, bs, bm, sn, sub, ab, col, dd, k0, k1, k2, k3, k5, hC, hbm⟩ := T.cls
  have hcl : PySem.W.clsIn K C = some { name := nm, bases := bs, mro := .ref C :: bm, ns := N, qualname := qn, hasDict := true, slotNames := sn, subclasses := sub, abstract := ab, collection := col, hasDel := false } := by unfold PySem.W.clsIn; rw [hC] <;> rfl
  have inst : PySem.W.InstAt h0 a { cls := .ref C, dict := none, data := .fields #[.ref t1, .none, .none, .none, .bool false, .none] } C none := ⟨hoe, rfl, rfl, trivial⟩
  have hac : a ≠ C := PySem.W.ks_ne KX0 inst hcl
  refine PySem.ks_wpAt_execs_cons (PySem.ks_wpAt_Expr_any (hi := I0.quiet) (PySem.ks_wpAt_MethodCall (he := hev _) ?_))
  obtain ⟨mb, hmb1, hmb2⟩ := I0.mod.blt
  have hCo := KX0 _ _ hC
  refine PySem.ks_wpAt_super_base (env := PySem.W.ksEnv qual scope s.heap.objs.size f (.ref cda) cc) l4 l3 (by decide +kernel) rfl (KX0 _ _ lk) rfl hp rfl (KX0 _ _ hcode) rfl hvs hfile htop ?_
  refine PySem.W.ks_loadName_global hk l4 (PySem.Calls.loadGlobal_builtin (env := PySem.W.ksEnv qual scope s.heap.objs.size f (.ref cda) cc) (I0.mod.glob.keeps I0.bk) hsm (hmb1.keeps I0.bk) ((hmb2 "super" (by decide)).trans PyProof.Rows.Boot.«super») ⟨rfl, ?_⟩)
  refine wpAny_loadName_free hk l3 cc_lookup ⟨_, KX0 _ _ hcell, rfl⟩ ?_
  refine wpAny_loadName_local hk (by rw [har]; exact l1) hns (v := .ref a) (by rw [har]; show ([(x, u1), ("self", Value.ref a)] : List (Str × Value)).lookup ("self" : Str) = _; rw [lkp, if_neg (fun z => hx z.symm), lkp, if_pos rfl]) ?_
  refine PySem.ks_wpAny_isType_cls hCo rfl ⟨rfl, ?_⟩
  refine PySem.ks_wpAny_call_super hCo rfl inst.at_ inst.cls (fun c e => by cases e) (PySem.W.looks_mroIn KX0 hmro) (fun h1 e1 kk1 => ?_)
  have KX1 := KX0.keeps kk1
  have hI : PySem.W.Looks (model P w) h1 (isInstance (.ref a) (.type "ValueError")) true := (show PySem.W.InstAt h1 a { cls := .ref C, dict := none, data := .fields #[.ref t1, .none, .none, .none, .bool false, .none] } C none from ⟨kk1 _ _ hoe, rfl, rfl, trivial⟩).type.andThen (PySem.W.looks_subIn KX1 hV)
  have hsup2 : PySem.W.alongIn K "__init__" bm = some (some (.builtin "ValueError.__init__")) := by
    unfold PySem.W.ks_superIn at hsup
    rw [hcl] at hsup
    have e2 : ((Value.ref C :: bm).dropWhile (· != Value.ref C)).drop 1 = bm := by simp [List.dropWhile_cons]
    rw [← e2]
    exact hsup
  refine PySem.W.kxs_getMethod PySem.W.kxs_ValueError e1 (PySem.W.looks_opaque KX1 hop) (l₀ := .ref C :: bm) (fun A Q E s k q => wpAny_bind ((PySem.W.looks_clsIn KX1 hcl) A _ E s k (wpAny_pure q))) (l := bm) (by simp [List.dropWhile_cons]) KX1 hsup2 hI hac (by decide +kernel) ?_
  have I1 := I0.kept (t' := s.toks + 2) kk1
  have kk2 : ∀ b o, h0.get? b = some o → (h1.push (PySem.W.kxs_mw "ValueError.__init__" a)).get? b = some o := fun b o e => Heap.get?_push_of_some _ (kk1 _ _ e)
  have hmw : (h1.push (PySem.W.kxs_mw "ValueError.__init__" a)).get? h1.objs.size = some (PySem.W.kxs_mw "ValueError.__init__" a) := Heap.get?_push_at rfl rfl
  have I2 : Inv (cxI P w K mg base ["self", x] qual scope f cc (.ref cda) A outer s H E') [(h1.objs.size, PySem.W.kxs_mw "ValueError.__init__" a)] [some (.ref a), some v] H
      { s with heap := h1.push (PySem.W.kxs_mw "ValueError.__init__" a), toks := s.toks + 2 + 1 } := (I0.kept (t' := s.toks + 2 + 1) kk2).pins_of fun p hp => by
    rcases List.mem_append.mp (show p ∈ [] ++ [(h1.objs.size, PySem.W.kxs_mw "ValueError.__init__" a)] from hp) with hp | hp
    · cases hp
    · rw [List.mem_singleton] at hp
      subst hp
      exact ⟨hmw, I1.hok.fresh (Nat.le_refl _), Nat.ne_of_gt I1.lt, I1.nofs (Nat.le_refl _), fun v z => by cases z⟩
  have hargs : PA (cxI P w K mg base ["self", x] qual scope f cc (.ref cda) A outer s H E') [.Constant (.str msg) j p3] (tCons (tC (.str msg)) tNil) := pa_cons pe_str pa_nil
  have hspl := hargs.run p4 _ _ _ H (fun vs H1 => vs = [V.str msg] ∧ H1 = H) I2 ⟨rfl, rfl⟩
  refine PySem.W.kxs_callWith (i := "ValueError.__init__") (x := a) rfl (PySem.Calls.evalArgs_plain (wpAny_mono hspl (fun us s3 h3 => ?_) (fun _ _ z => z)))
  obtain ⟨vs, H1, I3, r3, rfl, rfl⟩ := h3
  cases r3 with
  | cons ru rn =>
  rename_i uz usz
  cases rn
  have hmw3 := (I3.pin (h1.objs.size, PySem.W.kxs_mw "ValueError.__init__" a) (by simp [cxI])).1
  refine ⟨hmw3, ?_⟩
  obtain ⟨t3, ho3⟩ := exo_at I3.hok heg
  have hC3 := I3.kIn _ _ hC
  obtain ⟨h3, g3, d3, tk3, os3⟩ := s3
  refine wpAny_call (codeAny_of_tree ?_)
  show wpAny _ _ (callAny (.ref h1.objs.size) ⟨[uz], []⟩) _ _ _
  simp only [callAny]
  refine wpAny_bind (wpAny_load hmw3 ?_)
  simp only [PySem.W.kxs_mw, show (Value.type "method-wrapper" == Value.type "method" || Value.type "method-wrapper" == Value.type "builtin_function_or_method" || Value.type "method-wrapper" == Value.type "method-wrapper") = true by decide, if_true]
  refine PySem.W.KFB.if_so (by decide) ?_
  refine wpAny_bind (PySem.W.check_bound_init PySem.F.excBase_ValueError.toExcCallFacts hC3 ho3 rfl ?_)
  refine wpAny_bind (wpAny_pure (wpAny_pure ?_))
  refine ⟨PySem.plainId_quiet PySem.F.excBase_ValueError.init.plain _, codeAny_builtin PySem.F.excBase_ValueError.initEntry ?_⟩
  refine PySem.W.exc_init_tree (cls := .ref C) (t0 := t3) (dv := none) (c2 := .none) (c3 := .none) (b4 := .bool false) ho3 (by show 1 ≤ sizeLine; rw [sizeLine_eq]; omega) (fun h4 k4 hx4 _ => ?_)
  have J := I3.write (t' := tk3) (x := a) (e := a) (o := exo a C none) (by rw [heg]; exact True.intro) (.inl rfl) k4 ⟨_, hx4⟩ (exo_ok hx4)
  have eu : upd H1 a (exo a C none) = H1 := by
    funext b
    by_cases hb : b = a
    · rw [hb, upd_same, heg]
    · rw [upd_ne hb]
  rw [eu] at J
  refine wpAt_of_wpAny ?_
  have hps : PSs (cxI P w K mg base ["self", x] qual scope f cc (.ref cda) A outer s H1 E') [.Assign [.Attribute (.Name "self" q1) fld q2] (.Name x q3) q4] _ :=
    pss_one (ps_ost (pe_var (i := 0) rfl (.inl l1)) (pe_var (i := 1) rfl (.inl l2) hxd hxc))
  refine wpAny_mono (hps.run _ _ _ H1 { nx := fun _ H' => Q .non H', rt := Q } J ⟨v, rfl, .ref a, rfl, a, C, rfl, T, hfa, .inl ⟨heg, fun dx n ne => q dx n ne⟩⟩) (fun fl s' hs => ?_) (fun _ _ z => z)
  cases fl with
  | ret u =>
    obtain ⟨v', σ', H', J', rv', q'⟩ := hs
    exact ⟨v', H', J'.os, J'.bare, J'.base, J'.hok, rv', q'⟩
  | next =>
    obtain ⟨σ', H', J', q'⟩ := hs
    exact ⟨V.non, H', J'.os, J'.bare, J'.base, J'.hok, rfl, q'⟩
  | brk =>
    obtain ⟨_, _, _, q'⟩ := hs
    exact False.elim q'
  | cont =>
    obtain ⟨_, _, _, q'⟩ := hs
    exact False.elim q'
end
end KR
/-! defs that raise; several clauses `except C as e` -/
namespace KR
open PySem PySem.Spec PyProof.Rows L2
def UseX (P : Program) (w : World) (K : PySem.W.Frag) (mg : Str → Option Value) (base : Heap) (x : Str) (k : Nat) (ps : List Str) (sp : Sp) : Prop :=
  ∃ f fd, FnOk P w K mg base (L2.CX P w) k f fd ps sp ∧ mg x = some (.ref f) ∧ PySem.W.keepIn K (.ref f) = true ∧ Binds K fd ps []
section
variable {P : Program} {w : World} {K : PySem.W.Frag} {mg : Str → Option Value} {base : Heap} {x qual : Str} {st : Stmt} {k : Nat} {N ps : List Str} {sp : Sp} {f : Addr} {fd : FuncData}
theorem lift0 {CX : CXT} (F : FnOk P w K mg base CX0 k f fd ps sp) : FnOk P w K mg base CX k f fd ps sp :=
  ⟨F.len, fun A outer s H args us vs Q E hr he hb hv hs => codeAny_mono (F.run A outer s H args us vs Q E hr he hb hv hs) fun r s' hq => by
    cases r with
    | error e => exact (show False from hq).elim
    | ok fl => cases fl <;> exact hq⟩
theorem Use.up (u : Use P w K mg base x k ps sp) : UseX P w K mg base x k ps sp := by
  obtain ⟨f, fd, F, a, b, c⟩ := u
  exact ⟨f, fd, lift0 F, a, b, c⟩
theorem usex_of (D : DefAt K mg x st) (ok : ∀ f fd, Fun K x x st f fd → FnOk P w K mg base (L2.CX P w) k f fd ps sp)
    (h : ∀ (kV doc pm : Value) (an : Option Addr) (cdv ct : Value) (us : List Value), us.length = ps.length → bindArgs (PySem.W.fnOf x x (defArgs st) (defBody st) (defScope st) .none kV doc pm an cdv ct) ⟨us, []⟩ = pure (ps.zip us)) :
    UseX P w K mg base x k ps sp := by
  obtain ⟨f, fd, F, hm⟩ := D
  exact ⟨f, fd, ok f fd F, hm, F.kp, F.binds h⟩
/-- a def of the text that may raise, by its body -/
theorem okX (F : Fun K x qual st f fd) (S : FnScope N ps (defScope st)) (len : ∀ vs H Q E, sp vs H Q E → vs.length = ps.length)
    (body : ∀ (cdv : Value) (A : Around) (outer : List Env) (s : Shared) (H : Hp) (vs : List V) (Q : VK) (E : XK), Takes (cxOf (L2.CX P w) P w K mg base N qual (defScope st) f cdv A outer s H E) (fun cls d _ H' => E cls d H') →
      PassesOwn (model P w) (A.deeper (envOfC qual (defScope st) s.heap.objs.size f cdv)) (envOfC qual (defScope st) s.heap.objs.size f cdv) (cxOf (L2.CX P w) P w K mg base N qual (defScope st) f cdv A outer s H E).xe →
      Room k (A.deeper (envOfC qual (defScope st) s.heap.objs.size f cdv)) → sp vs H Q E →
      ∃ t, PSs (cxOf (L2.CX P w) P w K mg base N qual (defScope st) f cdv A outer s H E) (defBody st) t ∧ t { nx := fun _ H' => Q .non H', rt := Q } (start N vs) H) : FnOk P w K mg base (L2.CX P w) (k + 1) f fd ps sp := by
  obtain ⟨oc, od, kV, doc, pm, an, cdv, ct, osl, rfl, lk, hcd⟩ := F.ex
  exact fn_of lk hcd S len fun A outer s H vs Q E hr hsp => body cdv A outer s H vs Q E (takes_of rfl rfl rfl rfl) (passes_of rfl) hr hsp
end
section
variable {X : Cx} {x : Str} {j k : Nat} {ps : List Str} {sp : Sp} {e : Expr} {es : List Expr} {t : TA} {p pos : Pos} {E : XK}
/-- a call that may raise what is wished -/
theorem pe_usex (u : UseX X.prog X.w X.K X.mg X.base x j ps sp) (tk : Takes X (fun cls d _ H => E cls d H)) (le : j ≤ k) (hr : Room k X.A) (hg : Gl X x) (ha : PA X (e :: es) t)
    (hdb : (x == ("__debug__" : Str)) = false := by decide) (he : starEach (e :: es) X.env = (false, eval e X.env) :: starEach es X.env := by rfl)
    (hpl : (backTo pos (starEach es X.env)).any (·.1) = false := by rfl) : PE X (.Call (.Name x p) (e :: es) [] pos) (tCall sp [] E t) := by
  obtain ⟨f, fd, F, hm, kp, b⟩ := u
  exact pe_call F (hr.mono le) hg hm kp b .nil (passes_call tk fun _ _ _ _ h => h) ha hdb he hpl
end
/-! ### own errors made -/
structure ErrC (P : Program) (w : World) (K : PySem.W.Frag) (mg : Str → Option Value) (base : Heap) (x : Str) (C : Addr) (fld : Str) : Prop where
  T : OexC K C
  ini : ∃ fI fd p, FnOk P w K mg base CX0 1 fI fd ["self", p] (spIni C fld) ∧ PySem.W.findIn K (.ref C) "__init__" = some (some (.ref fI)) ∧ PySem.W.typeIn K (.ref fI) = some (.type "function") ∧ Binds K fd ["self", p] []
  hm : mg x = some (.ref C)
  xf : XfC K C
  nf : PySem.W.findIn K (.ref C) fld = some none
def tUp (ta : TA) : TA := fun σ H Q => ∃ Q' : List V → Hp → Prop, ta σ H Q' ∧ ∀ vs H1, Q' vs H1 → Q vs H1
def tErr (C : Addr) (fld : Str) (ta : TA) : L2.St → Hp → XK → Prop := fun σ H Q => ta σ H fun vs H1 => ∃ v, vs = [v] ∧ ∀ H' d, Same H1 H' → H' d = some (.xd [(fld, v)]) → Q (.ref C) (some d) H'
section
variable {X : Cx} {x fld : Str} {C : Addr} {e : Expr} {es : List Expr} {ta : TA} {p pos : Pos}
theorem pa_up (ha : PA X es ta) : PA X es (tUp ta) := ⟨fun pos pins s σ H Q I h => by
  obtain ⟨Q', h1, h2⟩ := h
  exact wpAny_mono (ha.run pos pins s σ H Q' I h1) (fun us s1 ⟨vs, H1, I1, r1, q1⟩ => ⟨vs, H1, I1, r1, h2 _ _ q1⟩) fun _ _ z => z⟩
theorem pmk_err (er : ErrC X.prog X.w X.K X.mg X.base x C fld) (hr : Room 2 X.A) (hg : Gl X x) (ha : PA X (e :: es) ta)
    (hdb : (x == ("__debug__" : Str)) = false := by decide) (he : starEach (e :: es) X.env = (false, eval e X.env) :: starEach es X.env := by rfl) (hpl : (backTo pos (starEach es X.env)).any (·.1) = false := by rfl) :
    PMk X (.Call (.Name x p) (e :: es) [] pos) (tErr C fld ta) := fun pins s σ H Q I h => by
  obtain ⟨fI, fd, pn, F, iC, tI, hb⟩ := er.ini
  refine pmk_oex (CX := CX0) er.T iC tI F hr hb .nil (fun _ _ _ _ _ _ _ z => z.elim) hg er.hm (pa_up ha) hdb he hpl pins s σ H Q I ⟨_, h, fun vs H1 hv => ?_⟩
  obtain ⟨v, rfl, q⟩ := hv
  refine ⟨by show 1 ≤ 1000; decide, fun a na => ⟨a, v, rfl, upd_same, fun dx ndx nea => ?_⟩⟩
  have n1 : H1 dx = none := by rw [upd_ne nea] at ndx; exact ndx
  refine ⟨rfl, dx, [(fld, v)], upd_same, ?_, n1, q _ dx (fun b o hb => ?_) upd_same⟩
  · rw [upd_ne nea, upd_same]
  · have ba : b ≠ a := ne_of_none hb na
    rw [upd_ne (ne_of_none hb n1), del_ne ba, upd_ne ba, upd_ne (ne_of_none hb n1), upd_ne ba]
    exact hb
end
/-! ### several clauses with names -/
def wManyA (K : PySem.W.Frag) (Wout : WX) (D : Ends) : List (Value × Nat × (Addr → Value → Option Addr → TS)) → WX
  | [] => Wout
  | (c, i, ts) :: r => fun cls d σ H => ∃ b, PySem.W.exmOne K cls c = some b ∧
    (b = true → ∀ a, H a = none → ts a cls d { nx := fun σ' H' => D.nx (σ'.set i none) H', rt := D.rt, bk := fun σ' H' => D.bk (σ'.set i none) H', ct := fun σ' H' => D.ct (σ'.set i none) H' } (σ.set i (some (.ref a))) H) ∧
    (b = false → wManyA K Wout D r cls d σ H)
inductive HdsA (X : Cx) : List ExceptHandler → List (Value × Nat × (Addr → Value → Option Addr → TS)) → Prop
  | nil : HdsA X [] []
  | cons {x n : Str} {c : Value} {i : Nat} {ts : Addr → Value → Option Addr → TS} {b₀ : Stmt} {suite : List Stmt} {np pos' : Pos} {hds : List ExceptHandler} {l : List (Value × Nat × (Addr → Value → Option Addr → TS))} (hc : Names X x c)
      (hi : X.N[i]? = some n) (hln : X.env.kindOf n = some .local)
      (hsu : ∀ (a : Addr) (oe : Obj) (cls : Value) (d : Option Addr) (pn : List (Addr × Obj)), Zc cls d oe → (∃ vs, oe.data = .fields vs) → PSs (X.suite a ((a, oe) :: pn)) (b₀ :: suite) (ts a cls d)) (r : HdsA X hds l) :
      HdsA X (.ExceptHandler (some (.Name x np)) (some n) (b₀ :: suite) pos' :: hds) ((c, i, ts) :: l)
section
variable {X : Cx} {body : List Stmt} {h₀ : ExceptHandler} {hds : List ExceptHandler} {l : List (Value × Nat × (Addr → Value → Option Addr → TS))} {pos : Pos} {tb : WX → TS} {Wout : WX}
theorem ps_try_manyA (hs : X.stack = X.env :: X.outer) (hf : X.env.frame = some X.env.locals) (hN : X.N.Nodup) (tk : Takes X Wout)
    (hb : ∀ (W : WX) (pn : List (Addr × Obj)) (xe : Value → Shared → Prop), Takes (X.tr pn xe) W → PassesOwn (model X.prog X.w) X.A X.env xe → PSs (X.tr pn xe) body (tb W))
    (hh : HdsA X (h₀ :: hds) l) : PS X (.Try body (h₀ :: hds) [] [] pos) (fun D σ H => tb (wManyA X.K Wout D l) D σ H) := by
  refine ⟨fun pins s σ H D I h => ?_⟩
  have ok := I.ok
  have hfr : X.A.frames = some (X.env :: X.outer) := by rw [ok.frames, hs]
  refine wpAny_Try_except ?_
  refine wpAny_mono ((hb (wManyA X.K Wout D l) (X.pn ++ pins) (fun e s₁ => wpAny (model X.prog X.w) X.A (noteFrame e X.env) (fun _ s₂ => wpAny (model X.prog X.w) X.A (setFlight e none) (fun _ s₃ =>
    wpAny (model X.prog X.w) X.A (handleBy e X.env (h₀ :: hds)) (SP X pins D) X.xe s₃) X.xe s₂) X.xe s₁) (fun u s' xx => ?_) PassesOwn.looking).run [] s σ H D (I.toTry _) h) (fun f s1 hsp => ?_) (fun e s1 he => he)
  · obtain ⟨a, B, sI, pins', σ', H', cls, d, rfl, J', nb, up, sky, na, os, ag, w⟩ := xx
    have J : Inv X pins σ' H' sI := J'.ofTry ok
    have sky' : Sky B (X.env :: X.outer) a (Zc cls d) X.env.locals s'.heap := by rw [← hs]; exact sky
    show wpAny (model X.prog X.w) X.A (noteFrame (.ref a) X.env) _ _ _
    refine Sky.land Zc.steady hfr hf sky' fun h3 fl3 up3 => ?_
    have J3 : Inv X pins σ' H' { s' with heap := h3 } := J.landed nb fl3.1 (up.trans up3) os ag
    obtain ⟨oe3, vs3, he3, hz3, hd3⟩ := fl3.there
    have notFr : ∀ {h : Heap} {o : Obj} {vs : Array Value}, h.FunFrames B (X.env :: X.outer) → h.get? a = some o → o.data = .fields vs → a ∉ frs (X.env :: X.outer) := fun {h o vs} ff e dd hm => by
      obtain ⟨_, o', e', hnf⟩ := ff.mem hm
      rw [e] at e'; cases e'
      exact hnf _ dd
    have nfr := notFr fl3.2.2.1 he3 hd3
    have nL : a ≠ X.env.locals := fun z => nfr (List.mem_filterMap.mpr ⟨X.env, List.mem_cons_self, by rw [hf, z]⟩)
    have nF : a ∉ X.fs := fun hm => by
      obtain ⟨e, he, q⟩ := List.mem_filterMap.mp hm
      exact nfr (List.mem_filterMap.mpr ⟨e, List.mem_cons_of_mem _ he, q⟩)
    have S3 := J3.suite he3 hd3 na nL nF
    have go : ∀ {hds' : List ExceptHandler} {l' : List (Value × Nat × (Addr → Value → Option Addr → TS))}, HdsA X hds' l' → wManyA X.K Wout D l' cls d σ' H' →
        wpAny (model X.prog X.w) X.A (handleBy (.ref a) X.env hds') (SP X pins D) X.xe { s' with heap := h3 } := by
      intro hds' l' hk
      induction hk with
      | nil =>
        intro w
        refine wpAny_handleBy_nil ?_
        obtain ⟨k1, k2, k3, oe, vs, T, oT, ts', he, hz, hd, h1, hr⟩ := id fl3
        unfold PySem.passOn
        refine wpAny_bind (wpAny_field he hd h1 ?_)
        rw [if_neg (show ¬ ((Value.ref T == Value.none) = true) from by simp)]
        have fin : wpAny (model X.prog X.w) X.A (setFlight (.ref a) X.env.frame) (fun _ s4 => wpAny (model X.prog X.w) X.A (throw (.ref a) : Sem Flow) (SP X pins D) X.xe s4) X.xe { s' with heap := h3 } := by
          rw [hf]
          refine HandSPX.setFlight_upZ fl3 fun h4 hh4 up4 => wpAny_throw (tk _ _ ?_)
          exact ⟨a, B, sI, pins, σ', H', cls, d, rfl, J, nb, (up.trans up3).trans up4, .inr (.inr (by rw [hs]; exact hh4)), na, os, ag, w⟩
        first
          | exact wpAny_bind (wpAny_pure (wpAny_bind fin))
          | exact wpAny_bind fin
      | @cons x n c i ts b₀ suite np pos' hds2 l2 hc hi hln hsu r ih =>
        intro w
        have hloc : Loc X.env.scope n := .inl hln
        obtain ⟨b, hb1, hyes, hno⟩ := w
        refine wpAny_handleBy_cons (codeAny_handlers_test ?_) (by intro q; cases q)
        have LT : PySem.W.Looks (model X.prog X.w) h3 (typeOf (.ref a)) cls := fun A Q E s k q => wpAny_typeOf_ref (k _ _ he3) (by rw [hz3.1]; exact q)
        have LM := PySem.W.exm_one (M := model X.prog X.w) (J3.kIn) LT hb1
        have test : ∀ {Q : Value → Shared → Prop} {E : Value → Shared → Prop}, Q c { s' with heap := h3 } → wpAny (model X.prog X.w) (X.A.mark (some (.ref a))) (eval (.Name x np) X.env) Q E { s' with heap := h3 } := fun {Q E} q => by
          obtain ⟨hg, hdbg, hm | ⟨hm, hv, hnn⟩⟩ := hc
          · exact ld_glob (X := X.suite a ((a, oe3) :: (X.pn ++ pins))) S3 hg hm q hdbg
          · exact ld_blt (X := X.suite a ((a, oe3) :: (X.pn ++ pins))) S3 hg hm hv q hnn hdbg
        refine test (LM.here ?_)
        cases b with
        | true =>
          refine codeAny_handlers_suite_as ?_
          refine HandSPX.lands_againZ fl3 fun h4 fl4 up4 => ?_
          have J4 : Inv X pins σ' H' { s' with heap := h4 } := J.landed nb fl4.1 ((up.trans up3).trans up4) os ag
          obtain ⟨oe4, vs4, he4, hz4, hd4⟩ := fl4.there
          have S4 := J4.suite he4 hd4 na nL nF
          refine store_ok (X := X.suite a ((a, oe4) :: (X.pn ++ pins))) (v := .ref a) S4 hN hi hloc rfl (fun s5 S5 => ?_) (.inr hln)
          refine wpAny_mono ((hsu a oe4 cls d (X.pn ++ pins) hz4 ⟨_, hd4⟩).run [] s5 _ H' _ S5 (hyes rfl a na)) (fun f s6 hsp => ?_) (fun _ _ z => False.elim z)
          have end_ : ∀ {σ6 : L2.St} {H6 : Hp} {Q : Shared → Prop}, Inv (X.suite a ((a, oe4) :: (X.pn ++ pins))) [] σ6 H6 s6 → (∀ s7, Inv X pins (σ6.set i none) H6 s7 → Q s7) →
              wpAny (model X.prog X.w) X.A (do bindName X.env n .none; unbindBehindTheSuite X.env n pos') (fun _ s7 => Q s7) X.xe s6 := fun {σ6 H6 Q} S6 hq => gone_ok (S6.unsuite ok) hN hi hln hq
          cases f with
          | next =>
            obtain ⟨σ6, H6, S6, q6⟩ := hsp
            exact end_ S6 fun s7 J7 => ⟨_, _, J7, q6⟩
          | brk =>
            obtain ⟨σ6, H6, S6, q6⟩ := hsp
            exact end_ S6 fun s7 J7 => ⟨_, _, J7, q6⟩
          | cont =>
            obtain ⟨σ6, H6, S6, q6⟩ := hsp
            exact end_ S6 fun s7 J7 => ⟨_, _, J7, q6⟩
          | ret u =>
            obtain ⟨v6, σ6, H6, S6, r6, q6⟩ := hsp
            exact end_ S6 fun s7 J7 => ⟨_, _, _, J7, r6, q6⟩
        | false =>
          show wpAny _ X.A (handleBy (.ref a) X.env hds2) _ _ _
          exact ih (hno rfl)
    exact go hh w
  · cases f with
    | next =>
      obtain ⟨σ', H', J', q⟩ := hsp
      exact wpAny_execs_nil ⟨σ', H', J'.ofTry ok, q⟩
    | brk =>
      obtain ⟨σ', H', J', q⟩ := hsp
      exact ⟨σ', H', J'.ofTry ok, q⟩
    | cont =>
      obtain ⟨σ', H', J', q⟩ := hsp
      exact ⟨σ', H', J'.ofTry ok, q⟩
    | ret u =>
      obtain ⟨v, σ', H', J', r, q⟩ := hsp
      exact ⟨v, σ', H', J'.ofTry ok, r, q⟩
end
end KR
/-! a local name's def called in a try's body -/
namespace KR
open PySem PySem.Spec PyProof.Rows L2
def tCallLS (i : Nat) (f : Addr) (sp : Sp) (W : WX) (t : TA) : TE := fun σ H Q => σ[i]? = some (some (.ref f)) ∧ t σ H fun vs H1 => sp vs H1 Q (fun cls d H' => W cls d σ H')
section
variable {X : Cx} {k j i : Nat} {f : Addr} {fd : FuncData} {ps : List Str} {sp : Sp} {W : WX} {x : Str} {p pos : Pos} {e : Expr} {es : List Expr} {t : TA}
theorem pe_callLS (F : FnOk X.prog X.w X.K X.mg X.base (L2.CX X.prog X.w) j f fd ps sp) (le : j ≤ k) (hr : Room k X.A) (hN : X.N[i]? = some x) (hv : Vis X.env.scope x) (hk : PySem.W.keepIn X.K (.ref f) = true) (hb : Binds X.K fd ps []) (tk : Takes X W) (ha : PA X (e :: es) t)
    (hdb : (x == ("__debug__" : Str)) = false := by decide) (hcd : (x == ("__classdict__" : Str)) = false := by decide)
    (he : starEach (e :: es) X.env = (false, eval e X.env) :: starEach es X.env := by rfl) (hpl : (backTo pos (starEach es X.env)).any (·.1) = false := by rfl) : PE X (.Call (.Name x p) (e :: es) [] pos) (tCallLS i f sp W t) := by
  refine ⟨fun pins s σ H Q I h => ?_⟩
  obtain ⟨hs, ht⟩ := h
  refine wpAny_Call_Name_kw (thn ((pe_var (pos := p) hN hv hdb hcd).run pins s σ H (fun v H1 => v = .ref f ∧ H1 = H) I ⟨.ref f, hs, rfl, rfl⟩) fun u s1 ⟨v, H1, I1, r1, q1⟩ => ?_)
  obtain ⟨rfl, rfl⟩ := q1
  cases r1
  refine PySem.W.callWith_K (h₀ := X.base) I.ok.mod.kin hk (thn (ha.run pos pins s1 σ _ _ I1 ht) fun us s2 ⟨vs, H2, I2, r, q⟩ => ⟨I2.kIn, ?_⟩) he hpl
  have q' : sp (vs ++ []) H2 Q (fun cls d H' => W cls d σ H') := by rw [List.append_nil]; exact q
  refine run_fnSD (E := fun σ cls d H' => W cls d σ H') (dvs := []) (ds := []) F (hr.mono le) hb .nil (fun pins H s e s' I c => ?_) I2 r q'
  exact tk e s' (XE.of_call I (fun _ _ _ h => h) c)
end
/-- which clause takes which error -/
structure ExM (K : PySem.W.Frag) (A B : Addr) : Prop where
  aa : PySem.W.exmOne K (.ref A) (.ref A) = some true
  ba : PySem.W.exmOne K (.ref B) (.ref A) = some false
  bb : PySem.W.exmOne K (.ref B) (.ref B) = some true
end KR
/-! an own error that keeps two things -/
namespace KR
open PySem PySem.Spec PyProof.Rows L2
def spIni2 (C : Addr) (fld fle : Str) : Sp := fun vs H Q _ => ∃ a v v2, vs = [.ref a, v, v2] ∧ H a = some (exo a C none) ∧ ∀ dx, H dx = none → dx ≠ a → Q .non (upd (upd (upd H dx (exd dx [(fld, v)])) a (exo a C (some dx))) dx (exd dx [(fle, v2), (fld, v)]))
section
variable {P : Program} {w : World} {K : PySem.W.Frag} {mg : Str → Option Value} {base : Heap} {CX : CXT} {f cc cda C : Addr} {name qual fld fle x y msg : Str} {params : Arguments} {scope : Scope} {dV kV doc pm ct oc ccl cl : Value} {an od cdd cld : Option Addr} {osl ccs csl : Array (Option Value)} {vs0 : Array Value} {file : Str} {tf : Tok} {ar : Arg}
  {j : Nat} {p0 p1 p2 p3 p4 p5 q1 q2 q3 q4 r1 r2 r3 r4 : Pos}
abbrev iniBody2 (msg fld fle x y : Str) (j : Nat) (p0 p1 p2 p3 p4 p5 q1 q2 q3 q4 r1 r2 r3 r4 : Pos) : List Stmt :=
  [.Expr (.Call (.Attribute (.Call (.Name "super" p0) [] [] p1) "__init__" p2) [.Constant (.str msg) j p3] [] p4) p5, .Assign [.Attribute (.Name "self" q1) fld q2] (.Name x q3) q4, .Assign [.Attribute (.Name "self" r1) fle r2] (.Name y r3) r4]
theorem fn_ini2 (T : OexC K C)
    (lk : K.lookup f = some ⟨oc, od, .func (PySem.W.ksFn name qual params (iniBody2 msg fld fle x y j p0 p1 p2 p3 p4 p5 q1 q2 q3 q4 r1 r2 r3 r4) scope dV kV doc pm an (.ref cda) ct cc), osl⟩)
    (hcd : PySem.W.codeIn K (.ref cda) qual = true) (hcode : K.lookup cda = some ⟨ccl, cdd, .fields vs0, ccs⟩) (hvs : vs0[2]? = some (.str file tf)) (hfile : ((P.main.file : Str) == file) = true)
    (htop : (P.main.scope.names.lookup ("super" : Str)).isSome = false) (hcell : K.lookup cc = some ⟨cl, cld, .cell (some (.ref C)), csl⟩)
    (hsup : PySem.W.ks_superIn K C C "__init__" = some (some (.builtin "ValueError.__init__"))) (hV : PySem.W.subIn K (.ref C) (.type "ValueError") = some true) (hmro : PySem.W.mroIn K C (.ref C) = some true)
    (hop : PySem.W.nsIn K cStatics "thirdparty.any" = some none) (hsm : mg "super" = none) (hfa : PySem.W.findIn K (.ref C) fld = some none)
    (hp : (params.posonlyargs ++ params.args).head? = some ar) (har : ar.arg = "self") (hfb : PySem.W.findIn K (.ref C) fle = some none) (hx : ¬ (x = "self")) (hy' : ¬ (y = "self")) (hxy : ¬ (x = y)) (hyd : (y == ("__debug__" : Str)) = false) (hyc : (y == ("__classdict__" : Str)) = false) (hxd : (x == ("__debug__" : Str)) = false) (hxc : (x == ("__classdict__" : Str)) = false)
    (hk : scope.kind = .function) (hco : scope.isCoroutine = false) (hgen : scope.isGenerator = false)
    (l1 : scope.names.lookup ("self" : Str) = some .local) (l2 : scope.names.lookup x = some .local) (l2' : scope.names.lookup y = some .local) (l3 : scope.names.lookup ("__class__" : Str) = some .free) (l4 : scope.names.lookup ("super" : Str) = some .globalImplicit)
    {pl : Sem Bool} (hev : ∀ L, eval (.Call (.Attribute (.Call (.Name "super" p0) [] [] p1) "__init__" p2) [.Constant (.str msg) j p3] [] p4) (PySem.W.ksEnv qual scope L f (.ref cda) cc) = (do
      let ov ← attributeBase (.Call (.Name "super" p0) [] [] p1) "__init__" (PySem.W.ksEnv qual scope L f (.ref cda) cc) (eval (.Call (.Name "super" p0) [] [] p1) (PySem.W.ksEnv qual scope L f (.ref cda) cc))
      standAt p2.atName
      let (fn, first) ← holding [ov] (getMethod ov "__init__" pl)
      callWith p4 fn first (backTo p4 (starEach [.Constant (.str msg) j p3] (PySem.W.ksEnv qual scope L f (.ref cda) cc))) []))
    (l5 : ∀ y ∈ scope.names, y.2 ≠ .cell) (l6 : ∀ y ∈ scope.names, y.2 = .free → y.1 = "__class__") :
    FnOk P w K mg base CX 1 f (PySem.W.ksFn name qual params (iniBody2 msg fld fle x y j p0 p1 p2 p3 p4 p5 q1 q2 q3 q4 r1 r2 r3 r4) scope dV kV doc pm an (.ref cda) ct cc) ["self", x, y] (spIni2 C fld fle) := by
  refine ⟨fun vs H Q E h => ?_, fun A outer s H args us vs Q E hr e0 hb r hsp => ?_⟩
  · obtain ⟨a, v, v2, rfl, _⟩ := h
    rfl
  obtain ⟨a, v, v2, rfl, ha, q⟩ := hsp
  cases r with
  | cons ra r1 =>
  rename_i u0 us1
  cases r1 with
  | cons rv r2 =>
  rename_i u1 us2
  cases r2 with
  | cons rv2 r3' =>
  rename_i u2 us3
  cases r3'
  obtain rfl : u0 = Value.ref a := ra
  have KX : K.In s.heap := e0.mod.kin.keeps fun b o e => (e0.bs b o e).1
  have lim : s.heap.NoLimit := e0.mod.nolimit.keeps fun b o e => (e0.bs b o e).1
  refine PySem.ks_codeAny_call_defAt (fd := PySem.W.ksFn name qual params (iniBody2 msg fld fle x y j p0 p1 p2 p3 p4 p5 q1 q2 q3 q4 r1 r2 r3 r4) scope dV kV doc pm an (.ref cda) ct cc) (body := iniBody2 msg fld fle x y j p0 p1 p2 p3 p4 p5 q1 q2 q3 q4 r1 r2 r3 r4)
    (binds := [("self", .ref a), (x, u1), (y, u2)]) hr.depth (KX _ _ lk) rfl lim (PySem.W.codeRec_of KX hcd) rfl hb l5 (fun z hz => ?_) (fun h0 hns hkp => ?_) hco hgen hk
  · simp only [List.mem_cons, List.not_mem_nil, or_false] at hz
    rcases hz with rfl | rfl | rfl
    · exact l1
    · exact l2
    · exact l2'
  show PySem.wpAt (model P w) (A.deeper (PySem.W.ksEnv qual scope s.heap.objs.size f (.ref cda) cc)) (.func (iniBody2 msg fld fle x y j p0 p1 p2 p3 p4 p5 q1 q2 q3 q4 r1 r2 r3 r4) (PySem.W.ksEnv qual scope s.heap.objs.size f (.ref cda) cc)) (execs (iniBody2 msg fld fle x y j p0 p1 p2 p3 p4 p5 q1 q2 q3 q4 r1 r2 r3 r4) (PySem.W.ksEnv qual scope s.heap.objs.size f (.ref cda) cc)) _ _ _
  generalize hE : (fun (e : Value) (s' : Shared) => wpAny (model P w) (A.deeper (callEnv (PySem.W.ksFn name qual params (iniBody2 msg fld fle x y j p0 p1 p2 p3 p4 p5 q1 q2 q3 q4 r1 r2 r3 r4) scope dV kV doc pm an (.ref cda) ct cc) s.heap.objs.size f)) (leaving (callEnv (PySem.W.ksFn name qual params (iniBody2 msg fld fle x y j p0 p1 p2 p3 p4 p5 q1 q2 q3 q4 r1 r2 r3 r4) scope dV kV doc pm an (.ref cda) ct cc) s.heap.objs.size f) e)
    (fun _ s'' => CR CX outer P w H s Q E (.error e) s'') (fun e' s'' => CR CX outer P w H s Q E (.error e') s'') s') = E'
  have I0 : Inv (cxI P w K mg base ["self", x, y] qual scope f cc (.ref cda) A outer s H E') [] [some (.ref a), some v, some v2] H { s with heap := h0, toks := s.toks + 3 } := by
    have hcc : base.get? cc = some ⟨cl, cld, .cell (some (.ref C)), csl⟩ := e0.mod.kin _ _ hcell
    have hccs := e0.bs _ _ hcc
    have noA : ∀ b : Addr, b ∉ (cxI P w K mg base ["self", x, y] qual scope f cc (.ref cda) A outer s H E').ex := fun b z => absurd (show b ∈ ([] : List Addr) from z) (by simp)
    refine ⟨⟨e0.mod, hk, rfl, rfl, Nat.le_refl _, fun y z c h1 h2 => ?_, fun y hy => ?_, fun y c h => ?_, fun _ => hr.hd, Around.frames_deeper e0.frames, .inr ⟨rfl, rfl⟩, fun b z => absurd z (noA b), e0.bs, e0.bsz, fun b _ _ => noA b, fun b z => absurd z (noA b), e0.funs, e0.frf⟩,
      rfl, e0.bare, Un.kept hkp, ⟨_, hns, fun i y v' h1 h2 h3 => ?_⟩, fun y c h => ?_, e0.hok.fresh (Nat.le_refl _), fun y c h => ?_, fun p hp => absurd (show p ∈ ([] : List (Addr × Obj)) from hp) (by simp), e0.hok.kept hkp, rfl⟩
    · exact (lookup_cc h1).1.trans (lookup_cc h2).1.symm
    · have hy : scope.names.lookup y = some .cell ∨ scope.names.lookup y = some .free := hy
      rcases hy with hy | hy
      · exact absurd rfl (l5 _ (PySem.mem_of_lookup hy))
      · rw [show y = ("__class__" : Str) from l6 _ (PySem.mem_of_lookup hy) rfl]
        exact ⟨cc, cc_lookup⟩
    · cases h
    · match i, h1, h2 with
      | 0, h1, h2 =>
        cases h1
        cases h2
        refine ⟨.ref a, rfl, .inl ⟨l1, ?_⟩⟩
        show ([(y, u2), (x, u1), ("self", Value.ref a)] : List (Str × Value)).lookup ("self" : Str) = _
        rw [lkp, if_neg (fun z => hy' z.symm), lkp, if_neg (fun z => hx z.symm), lkp, if_pos rfl]
      | 1, h1, h2 =>
        cases h1
        cases h2
        refine ⟨u1, rv, .inl ⟨l2, ?_⟩⟩
        show ([(y, u2), (x, u1), ("self", Value.ref a)] : List (Str × Value)).lookup x = _
        rw [lkp, if_neg hxy, lkp, if_pos rfl]
      | 2, h1, h2 =>
        cases h1
        cases h2
        refine ⟨u2, rv2, .inl ⟨l2', ?_⟩⟩
        show ([(y, u2), (x, u1), ("self", Value.ref a)] : List (Str × Value)).lookup y = _
        rw [lkp, if_pos rfl]
      | n + 3, h1, h2 => exact absurd h1 (by simp [cxI])
    · rw [(lookup_cc h).2]
      exact ⟨_, _, hkp _ _ hccs.1, rfl⟩
    · rw [(lookup_cc h).2]
      exact hccs.2
  have KX0 := I0.kIn
  have heg : H a = some (exo a C none) := ha
  obtain ⟨t1, hoe⟩ := exo_at I0.hok heg
  obtain ⟨nm, qn, N, bs, bm, sn, sub, ab, col, dd, k0, k1, k2, k3, k5, hC, hbm⟩ := T.cls
  have hcl : PySem.W.clsIn K C = some { name := nm, bases := bs, mro := .ref C :: bm, ns := N, qualname := qn, hasDict := true, slotNames := sn, subclasses := sub, abstract := ab, collection := col, hasDel := false } := by unfold PySem.W.clsIn; rw [hC] <;> rfl
  have inst : PySem.W.InstAt h0 a { cls := .ref C, dict := none, data := .fields #[.ref t1, .none, .none, .none, .bool false, .none] } C none := ⟨hoe, rfl, rfl, trivial⟩
  have hac : a ≠ C := PySem.W.ks_ne KX0 inst hcl
  refine PySem.ks_wpAt_execs_cons (PySem.ks_wpAt_Expr_any (hi := I0.quiet) (PySem.ks_wpAt_MethodCall (he := hev _) ?_))
  obtain ⟨mb, hmb1, hmb2⟩ := I0.mod.blt
  have hCo := KX0 _ _ hC
  refine PySem.ks_wpAt_super_base (env := PySem.W.ksEnv qual scope s.heap.objs.size f (.ref cda) cc) l4 l3 (by decide +kernel) rfl (KX0 _ _ lk) rfl hp rfl (KX0 _ _ hcode) rfl hvs hfile htop ?_
  refine PySem.W.ks_loadName_global hk l4 (PySem.Calls.loadGlobal_builtin (env := PySem.W.ksEnv qual scope s.heap.objs.size f (.ref cda) cc) (I0.mod.glob.keeps I0.bk) hsm (hmb1.keeps I0.bk) ((hmb2 "super" (by decide)).trans PyProof.Rows.Boot.«super») ⟨rfl, ?_⟩)
  refine wpAny_loadName_free hk l3 cc_lookup ⟨_, KX0 _ _ hcell, rfl⟩ ?_
  refine wpAny_loadName_local hk (by rw [har]; exact l1) hns (v := .ref a) (by rw [har]; show ([(y, u2), (x, u1), ("self", Value.ref a)] : List (Str × Value)).lookup ("self" : Str) = _; rw [lkp, if_neg (fun z => hy' z.symm), lkp, if_neg (fun z => hx z.symm), lkp, if_pos rfl]) ?_
  refine PySem.ks_wpAny_isType_cls hCo rfl ⟨rfl, ?_⟩
  refine PySem.ks_wpAny_call_super hCo rfl inst.at_ inst.cls (fun c e => by cases e) (PySem.W.looks_mroIn KX0 hmro) (fun h1 e1 kk1 => ?_)
  have KX1 := KX0.keeps kk1
  have hI : PySem.W.Looks (model P w) h1 (isInstance (.ref a) (.type "ValueError")) true := (show PySem.W.InstAt h1 a { cls := .ref C, dict := none, data := .fields #[.ref t1, .none, .none, .none, .bool false, .none] } C none from ⟨kk1 _ _ hoe, rfl, rfl, trivial⟩).type.andThen (PySem.W.looks_subIn KX1 hV)
  have hsup2 : PySem.W.alongIn K "__init__" bm = some (some (.builtin "ValueError.__init__")) := by
    unfold PySem.W.ks_superIn at hsup
    rw [hcl] at hsup
    have e2 : ((Value.ref C :: bm).dropWhile (· != Value.ref C)).drop 1 = bm := by simp [List.dropWhile_cons]
    rw [← e2]
    exact hsup
  refine PySem.W.kxs_getMethod PySem.W.kxs_ValueError e1 (PySem.W.looks_opaque KX1 hop) (l₀ := .ref C :: bm) (fun A Q E s k q => wpAny_bind ((PySem.W.looks_clsIn KX1 hcl) A _ E s k (wpAny_pure q))) (l := bm) (by simp [List.dropWhile_cons]) KX1 hsup2 hI hac (by decide +kernel) ?_
  have I1 := I0.kept (t' := s.toks + 3) kk1
  have kk2 : ∀ b o, h0.get? b = some o → (h1.push (PySem.W.kxs_mw "ValueError.__init__" a)).get? b = some o := fun b o e => Heap.get?_push_of_some _ (kk1 _ _ e)
  have hmw : (h1.push (PySem.W.kxs_mw "ValueError.__init__" a)).get? h1.objs.size = some (PySem.W.kxs_mw "ValueError.__init__" a) := Heap.get?_push_at rfl rfl
  have I2 : Inv (cxI P w K mg base ["self", x, y] qual scope f cc (.ref cda) A outer s H E') [(h1.objs.size, PySem.W.kxs_mw "ValueError.__init__" a)] [some (.ref a), some v, some v2] H
      { s with heap := h1.push (PySem.W.kxs_mw "ValueError.__init__" a), toks := s.toks + 3 + 1 } := (I0.kept (t' := s.toks + 3 + 1) kk2).pins_of fun p hp => by
    rcases List.mem_append.mp (show p ∈ [] ++ [(h1.objs.size, PySem.W.kxs_mw "ValueError.__init__" a)] from hp) with hp | hp
    · cases hp
    · rw [List.mem_singleton] at hp
      subst hp
      exact ⟨hmw, I1.hok.fresh (Nat.le_refl _), Nat.ne_of_gt I1.lt, I1.nofs (Nat.le_refl _), fun v z => by cases z⟩
  have hargs : PA (cxI P w K mg base ["self", x, y] qual scope f cc (.ref cda) A outer s H E') [.Constant (.str msg) j p3] (tCons (tC (.str msg)) tNil) := pa_cons pe_str pa_nil
  have hspl := hargs.run p4 _ _ _ H (fun vs H1 => vs = [V.str msg] ∧ H1 = H) I2 ⟨rfl, rfl⟩
  refine PySem.W.kxs_callWith (i := "ValueError.__init__") (x := a) rfl (PySem.Calls.evalArgs_plain (wpAny_mono hspl (fun us s3 h3 => ?_) (fun _ _ z => z)))
  obtain ⟨vs, H1, I3, r3, rfl, rfl⟩ := h3
  cases r3 with
  | cons ru rn =>
  rename_i uz usz
  cases rn
  have hmw3 := (I3.pin (h1.objs.size, PySem.W.kxs_mw "ValueError.__init__" a) (by simp [cxI])).1
  refine ⟨hmw3, ?_⟩
  obtain ⟨t3, ho3⟩ := exo_at I3.hok heg
  have hC3 := I3.kIn _ _ hC
  obtain ⟨h3, g3, d3, tk3, os3⟩ := s3
  refine wpAny_call (codeAny_of_tree ?_)
  show wpAny _ _ (callAny (.ref h1.objs.size) ⟨[uz], []⟩) _ _ _
  simp only [callAny]
  refine wpAny_bind (wpAny_load hmw3 ?_)
  simp only [PySem.W.kxs_mw, show (Value.type "method-wrapper" == Value.type "method" || Value.type "method-wrapper" == Value.type "builtin_function_or_method" || Value.type "method-wrapper" == Value.type "method-wrapper") = true by decide, if_true]
  refine PySem.W.KFB.if_so (by decide) ?_
  refine wpAny_bind (PySem.W.check_bound_init PySem.F.excBase_ValueError.toExcCallFacts hC3 ho3 rfl ?_)
  refine wpAny_bind (wpAny_pure (wpAny_pure ?_))
  refine ⟨PySem.plainId_quiet PySem.F.excBase_ValueError.init.plain _, codeAny_builtin PySem.F.excBase_ValueError.initEntry ?_⟩
  refine PySem.W.exc_init_tree (cls := .ref C) (t0 := t3) (dv := none) (c2 := .none) (c3 := .none) (b4 := .bool false) ho3 (by show 1 ≤ sizeLine; rw [sizeLine_eq]; omega) (fun h4 k4 hx4 _ => ?_)
  have J := I3.write (t' := tk3) (x := a) (e := a) (o := exo a C none) (by rw [heg]; exact True.intro) (.inl rfl) k4 ⟨_, hx4⟩ (exo_ok hx4)
  have eu : upd H1 a (exo a C none) = H1 := by
    funext b
    by_cases hb : b = a
    · rw [hb, upd_same, heg]
    · rw [upd_ne hb]
  rw [eu] at J
  refine wpAt_of_wpAny ?_
  have hps : PSs (cxI P w K mg base ["self", x, y] qual scope f cc (.ref cda) A outer s H1 E') [.Assign [.Attribute (.Name "self" q1) fld q2] (.Name x q3) q4, .Assign [.Attribute (.Name "self" r1) fle r2] (.Name y r3) r4] _ :=
    pss_cons (ps_ost (pe_var (i := 0) rfl (.inl l1)) (pe_var (i := 1) rfl (.inl l2) hxd hxc)) (pss_one (ps_ost (pe_var (i := 0) rfl (.inl l1)) (pe_var (i := 2) rfl (.inl l2') hyd hyc)))
  refine wpAny_mono (hps.run _ _ _ H1 { nx := fun _ H' => Q .non H', rt := Q } J ⟨v, rfl, .ref a, rfl, a, C, rfl, T, hfa, .inl ⟨heg, fun dx n ne => ⟨v2, rfl, .ref a, rfl, a, C, rfl, T, hfb, .inr ⟨dx, [(fld, v)], upd_same, by rw [upd_ne ne]; exact upd_same, by show 1 ≤ 900; decide, q dx n ne⟩⟩⟩⟩) (fun fl s' hs => ?_) (fun _ _ z => z)
  cases fl with
  | ret u =>
    obtain ⟨v', σ', H', J', rv', q'⟩ := hs
    exact ⟨v', H', J'.os, J'.bare, J'.base, J'.hok, rv', q'⟩
  | next =>
    obtain ⟨σ', H', J', q'⟩ := hs
    exact ⟨V.non, H', J'.os, J'.bare, J'.base, J'.hok, rfl, q'⟩
  | brk =>
    obtain ⟨_, _, _, q'⟩ := hs
    exact False.elim q'
  | cont =>
    obtain ⟨_, _, _, q'⟩ := hs
    exact False.elim q'
end
structure ErrC2 (P : Program) (w : World) (K : PySem.W.Frag) (mg : Str → Option Value) (base : Heap) (x : Str) (C : Addr) (fld fle : Str) : Prop where
  T : OexC K C
  ini : ∃ fI fd p p', FnOk P w K mg base CX0 1 fI fd ["self", p, p'] (spIni2 C fld fle) ∧ PySem.W.findIn K (.ref C) "__init__" = some (some (.ref fI)) ∧ PySem.W.typeIn K (.ref fI) = some (.type "function") ∧ Binds K fd ["self", p, p'] []
  hm : mg x = some (.ref C)
  xf : XfC K C
  nf : PySem.W.findIn K (.ref C) fld = some none
  ng : PySem.W.findIn K (.ref C) fle = some none
def tErr2 (C : Addr) (fld fle : Str) (ta : TA) : L2.St → Hp → XK → Prop := fun σ H Q => ta σ H fun vs H1 => ∃ v v2, vs = [v, v2] ∧ ∀ H' d, Same H1 H' → H' d = some (.xd [(fle, v2), (fld, v)]) → Q (.ref C) (some d) H'
section
variable {X : Cx} {x fld fle : Str} {C : Addr} {e : Expr} {es : List Expr} {ta : TA} {p pos : Pos}
theorem pmk_err2 (er : ErrC2 X.prog X.w X.K X.mg X.base x C fld fle) (hr : Room 2 X.A) (hg : Gl X x) (ha : PA X (e :: es) ta)
    (hdb : (x == ("__debug__" : Str)) = false := by decide) (he : starEach (e :: es) X.env = (false, eval e X.env) :: starEach es X.env := by rfl) (hpl : (backTo pos (starEach es X.env)).any (·.1) = false := by rfl) :
    PMk X (.Call (.Name x p) (e :: es) [] pos) (tErr2 C fld fle ta) := fun pins s σ H Q I h => by
  obtain ⟨fI, fd, pn, pn', F, iC, tI, hb⟩ := er.ini
  refine pmk_oex (CX := CX0) er.T iC tI F hr hb .nil (fun _ _ _ _ _ _ _ z => z.elim) hg er.hm (pa_up ha) hdb he hpl pins s σ H Q I ⟨_, h, fun vs H1 hv => ?_⟩
  obtain ⟨v, v2, rfl, q⟩ := hv
  refine ⟨by show 2 ≤ 1000; decide, fun a na => ⟨a, v, v2, rfl, upd_same, fun dx ndx nea => ?_⟩⟩
  have n1 : H1 dx = none := by rw [upd_ne nea] at ndx; exact ndx
  refine ⟨rfl, dx, [(fle, v2), (fld, v)], ?_, upd_same, n1, q _ dx (fun b o hb => ?_) upd_same⟩
  · rw [upd_ne nea.symm, upd_same]
  · have ba : b ≠ a := ne_of_none hb na
    have bd : b ≠ dx := ne_of_none hb n1
    rw [upd_ne bd, del_ne ba, upd_ne bd, upd_ne ba, upd_ne bd, upd_ne ba]
    exact hb
end
end KR
namespace KQ
open PySem PySem.Spec PyProof.Rows L2 KR KM StX
section
variable {P : Program} {w : World} {K : PySem.W.Frag} {mg : Str → Option Value} {base : Heap}
abbrev s_plain_lines : Stmt := topS 18
theorem sc_plain_lines : FnScope ["lines", "one", "two"] ["lines"] (defScope s_plain_lines) := ⟨rfl, rfl, rfl, by decide +kernel, rfl, by decide +kernel, by decide +kernel⟩
def spNeedPX (CP : Addr) : Sp := fun vs H _ E => ∃ (v : V) (d : PyData) (x : Str) (p : Option Nat), vs = [v] ∧ DV H d v ∧ FewL d ∧ faultD d = some (x, p) ∧ ∀ H' b, Same H H' → H' b = some (.xd [("place", placeV p), ("word", .str x)]) → E (.ref CP) (some b) H'
theorem ok_need_pieceX {CP : Addr} (D : DefAt K mg "need_piece" s_need_piece) (T : Bt mg) (e_BadPiece : ErrC2 P w K mg base "BadPiece" CP "word" "place") (u_piece_fault : Use P w K mg base "piece_fault" 4 ["value"] spPF) : UseX P w K mg base "need_piece" 5 ["piece"] (spNeedPX CP) := by
  refine usex_of D (fun f fd F => okX F sc_need_piece (fun vs H Q E h => ?_) (fun cdv A outer s H vs Q E tk po hr h => ?_)) (fun _ _ _ _ _ _ us hl => match us, hl with | [_], _ => rfl)
  · obtain ⟨v, d, x, p, rfl, _⟩ := h
    rfl
  · obtain ⟨v, d, x, p, rfl, o, few, e, q⟩ := h
    refine ⟨_, (pss_cons (ps_set (i := 1) sc_need_piece.nd rfl (Or.inl rfl) (pe_use u_piece_fault (by decide) hr (by rfl) (pa_cons (pv 0) pa_nil)))
      (pss_cons (ps_if (pt_cmpR op_notN (pv 1) pe_non (nomark _)) (pss_cons (ps_asg (pv 1) (pg_tup rfl (pgs_cons (pg_name (i := 2) sc_need_piece.nd rfl (Or.inl rfl)) (pgs_cons (pg_name (i := 3) sc_need_piece.nd rfl (Or.inl rfl)) pgs_nil))))
      (pss_one (ps_raise rfl tk (pmk_err2 e_BadPiece (hr.mono (by decide)) (by rfl) (pa_cons (pv 2) (pa_cons (pv 3) pa_nil)))))) pss_nil)
      (pss_one (ps_ret (pe_callTy (k_tupOf (K := K) rfl) (by rfl) T.tuple (by decide +kernel) (pa_cons (pv 0) pa_nil)))))), ?_⟩
    refine ⟨_, rfl, v, d, rfl, o, few, fun H1 v1 s1 f1 => ?_⟩
    rw [e] at f1
    obtain ⟨t, rfl, et⟩ := f1
    refine ⟨_, rfl, rfl, true, rfl, iteT ?_⟩
    refine ⟨_, rfl, t, _, rfl, .inl (.inl et), rfl, _, _, rfl, _, [], rfl, rfl, ?_⟩
    exact ⟨_, rfl, _, rfl, .str x, placeV p, rfl, fun H' b s' eb => q H' b (s1.trans s') eb⟩
end
end KQ
/-! t + u where t may be empty: known, if u is -/
namespace KQ
open PySem PySem.Spec PyProof.Rows L2 KR KM StX
theorem if_factG {b : Bool} {t u : TE} {σ : L2.St} {H : Hp} {Q : VK} (Fact : V → Hp → Prop) (h1 : b = true → ∀ Q : VK, (∀ v H', Fact v H' → Q v H') → t σ H Q) (h2 : b = false → ∀ Q : VK, (∀ v H', Fact v H' → Q v H') → u σ H Q)
    (k : ∀ v H', Fact v H' → Q v H') : if b = true then t σ H Q else u σ H Q := by
  cases b
  · exact h2 rfl Q k
  · exact h1 rfl Q k
section
variable {X : Cx} {K : PySem.W.Frag}
def rCatC : R2 := fun x y H Q => ∃ a b xs ys, x = .ref a ∧ y = .ref b ∧ Rd H a (.tup xs) ∧ Rd H b (.tup ys) ∧ ys ≠ [] ∧ Bare H b ∧ xs.length + ys.length ≤ 100000 ∧ ∀ H' p, Same H H' → Rd H' p (.tup (xs ++ ys)) → Bare H' p → Q (.ref p) H'
theorem op_catC : OpR X (binaryOp .Add) rCatC := by
  intro pins s σ H x y v u Q I rx ry h
  obtain ⟨a, b, xs, ys, rfl, rfl, ha, hb, hy, bb, hz, q⟩ := h
  by_cases hx : xs = []
  · subst hx
    cases rx
    cases ry
    obtain ⟨its, r1, p1, _⟩ := I.tuple (rdT ha)
    obtain ⟨its2, r2, p2, _⟩ := I.tuple (rdT hb)
    cases r1
    exact cat_tup0 p1 p2 ⟨.ref b, H, I, rfl, q H b (Same.refl H) (by rw [List.nil_append]; exact hb) bb⟩
  · exact op_catB pins s σ H _ _ v u Q I rx ry ⟨a, b, xs, ys, rfl, rfl, ha, hb, hx, hy, hz, fun p o np dn => q _ p (same_new np) (.inr ⟨o, upd_same⟩) ⟨o, _, upd_same, dn⟩⟩
end
end KQ
namespace KQ
open PySem PySem.Spec PyProof.Rows L2 KR KM StX
/-- a new line behind those in a list -/
theorem lots_app {H1 : Hp} {M t t1 t2 : Addr} {ts : List LA} {r s : List Int} (eM : H1 M = some (.lst (ts.map fun x => V.ref x.2))) (ht : ∀ x ∈ ts, TL H1 x.2 x.1) (nt : H1 t = none) (h1 : TI H1 t1 r) (h2 : TI H1 t2 s) :
    (upd H1 t (.tup [.ref t1, .ref t2])) M = some (.lst (ts.map fun x => V.ref x.2)) ∧ ∀ ys : List V, ∀ x ∈ ts ++ [(([r, s] : List (List Int)), t)], TL (upd (upd H1 t (.tup [.ref t1, .ref t2])) M (.lst ys)) x.2 x.1 := by
  have st : Same H1 (upd H1 t (.tup [.ref t1, .ref t2])) := same_new nt
  have eM' := st _ _ eM
  refine ⟨eM', fun ys x hx => ?_⟩
  rcases List.mem_append.mp hx with hx | hx
  · exact TL.put ((ht x hx).mono st) eM'
  · obtain rfl := List.mem_singleton.mp hx
    exact TL.put ⟨[t1, t2], .inl upd_same, its_two (h1.mono st) (h2.mono st)⟩ eM'
/-- lots of two rows in a list, sorted -/
theorem sort_lots {K : PySem.W.Frag} {H : Hp} {M : Addr} {ts : List LA} {Q : VK} (eM : H M = some (.lst (ts.map fun x => V.ref x.2))) (ht : ∀ x ∈ ts, TL H x.2 x.1) (ne : ∀ x ∈ ts, x.1 ≠ [])
    (q : ∀ p, H p = none → Q (.ref p) (upd H p (.lst ((ts.mergeSort leN).map fun x => V.ref x.2)))) : rSortN K [.ref M] H Q ∨ rSortedI K [.ref M] H Q := by
  cases ts with
  | nil =>
    refine .inr ⟨M, [], rfl, sqL eM, fun ns p hp _ hn => ?_⟩
    obtain rfl := List.perm_nil.mp hp
    simpa using q p hn
  | cons x r => exact .inl ⟨M, x :: r, rfl, sqL eM, ht, ⟨x, r, rfl, ne x List.mem_cons_self⟩, q⟩
theorem norm_ne (z : En × En) : normZ z ≠ [] := by
  obtain ⟨r, s, e⟩ := norm_two z
  rw [e]
  exact fun h => by cases h
section
variable {P : Program} {w : World} {K : PySem.W.Frag} {mg : Str → Option Value} {base : Heap}
def spPlainL : Sp := fun vs H Q _ => ∃ (v : V) (zs : List (En × En)), vs = [v] ∧ DV H (.tuple (zs.map lineD)) v ∧ zs.length ≤ 400 ∧ ∀ H' v', Same H H' → DV H' (.tuple ((plainL zs).map lotD)) v' → Q v' H'
theorem ok_plain_lines (D : DefAt K mg "plain_lines" s_plain_lines) (T : Bt mg) : Use P w K mg base "plain_lines" 1 ["lines"] spPlainL := by
  refine use_of D (fun f fd F => F.ok sc_plain_lines (fun vs H Q E h => ?_) (fun cdv A outer s H vs Q E hr h => ?_)) (fun _ _ _ _ _ _ us hl => match us, hl with | [_], _ => rfl)
  · obtain ⟨v, zs, rfl, _⟩ := h
    rfl
  · obtain ⟨v, zs, rfl, o, l400, q⟩ := h
    refine ⟨_, (pss_one (ps_ret (pe_callTy (k_tupOf (K := K) rfl) (by rfl) T.tuple (by decide +kernel) (pa_cons (pe_callB (k_sortNI (K := K) rfl hr.units) (by rfl) T.sorted (by decide +kernel) (pa_cons (pe_lc (own := [("one", 1), ("two", 2)]) rfl sc_plain_lines.nd (k_tup (K := K) rfl (pv 0)) (blkOk_by (N := ["lines", "one", "two"]) (sc := defScope s_plain_lines) (by decide +kernel)) (fun _ _ _ _ _ => (k_gtup (K := K) (n := 2) rfl rfl (pgs_cons (pg_name (i := 1) sc_plain_lines.nd rfl (Or.inl rfl)) (pgs_cons (pg_name (i := 2) sc_plain_lines.nd rfl (Or.inl rfl)) pgs_nil)))) (fun _ _ _ _ _ => pts_nil) (fun _ _ _ _ _ => (pe_ifExp (pt_cmpR (k_ltT (K := K) rfl (room0g hr)) (pv 1) (pv 2) (nomark _)) (pe_tup (pa_cons (pv 1) (pa_cons (pv 2) pa_nil))) (pe_tup (pa_cons (pv 2) (pa_cons (pv 1) pa_nil)))))) pa_nil)) pa_nil)))), ?_⟩
    obtain ⟨a, vs, rfl, ea, hs⟩ := o.tup
    have vl := hs.len
    rw [List.length_map] at vl
    refine ⟨_, rfl, a, rfl, ⟨_, rdT ea⟩, fun M nM => ?_⟩
    refine lc_tup (K := K) (a := a) (xs := vs) (fun k H1 => Same H H1 ∧ ∃ ts : List LA, H1 M = some (.lst (ts.map fun x => V.ref x.2)) ∧ ts.map (·.1) = (zs.take k).map normZ ∧ ∀ x ∈ ts, TL H1 x.2 x.1)
      ⟨same_new nM, [], upd_same, rfl, fun x hx => by cases hx⟩ (fun k H1 _ ⟨s1, _⟩ => rdT (ea.mono s1)) ?_ ?_
    · rintro k v H1 hk ⟨s1, ts, eM, et, ht⟩
      obtain ⟨d, hd, dv⟩ := hs.at hk
      obtain ⟨z, hz, rfl⟩ := map_at hd
      have kl := (List.getElem?_eq_some_iff.mp hz).1
      have tl : ts.length = k := by
        have := congrArg List.length et
        rw [List.length_map, List.length_map, List.length_take] at this
        omega
      obtain ⟨b, t1, t2, rfl, eb, g1, g2⟩ := dv.line
      have eb1 := eb.mono s1
      have g11 := g1.mono s1
      have g21 := g2.mono s1
      refine ⟨b, _, rfl, rdT eb1, rfl, _, _, rfl, _, [], rfl, rfl, ?_⟩
      refine ⟨rfl, ?_⟩
      refine ⟨_, rfl, _, rfl, t1, t2, rowE z.1, rowE z.2, rfl, rfl, rdT g11, rdT g21, ?_⟩
      cases c : HT.lexLt (rowE z.1) (rowE z.2) with
      | true =>
        refine ⟨true, rfl, iteT ⟨_, rfl, _, rfl, by show 2 ≤ sizeLine; decide, fun t nt => ?_⟩⟩
        obtain ⟨e1, e2⟩ := lots_app eM ht nt g11 g21
        refine ⟨_, e1, ?_, same_mut (s1.trans (same_new nt)) nM, ts ++ [([rowE z.1, rowE z.2], t)], ?_, ?_, e2 _⟩
        · rw [List.length_map]
          exact small_of (by omega)
        · rw [upd_same, List.map_append]
          rfl
        · rw [List.map_append, et, take_snoc hz, List.map_append]
          congr 1
          show [_] = [normZ z]
          unfold normZ
          rw [c]
          rfl
      | false =>
        refine ⟨false, rfl, iteF ⟨_, rfl, _, rfl, by show 2 ≤ sizeLine; decide, fun t nt => ?_⟩⟩
        obtain ⟨e1, e2⟩ := lots_app eM ht nt g21 g11
        refine ⟨_, e1, ?_, same_mut (s1.trans (same_new nt)) nM, ts ++ [([rowE z.2, rowE z.1], t)], ?_, ?_, e2 _⟩
        · rw [List.length_map]
          exact small_of (by omega)
        · rw [upd_same, List.map_append]
          rfl
        · rw [List.map_append, et, take_snoc hz, List.map_append]
          congr 1
          show [_] = [normZ z]
          unfold normZ
          rw [c]
          rfl
    · rintro H1 ⟨s1, ts, eM, et, ht⟩
      rw [vl, List.take_length] at et
      refine sort_lots eM ht (fun x hx => ?_) fun p np => ?_
      · have : x.1 ∈ zs.map normZ := by
          rw [← et]
          exact List.mem_map_of_mem hx
        obtain ⟨z, _, e⟩ := List.mem_map.mp this
        rw [← e]
        exact norm_ne z
      · have l : ((ts.mergeSort leN).map fun x => V.ref x.2).length ≤ 400 := by
          have := congrArg List.length et
          rw [List.length_map, List.length_map] at this
          rw [List.length_map, List.length_mergeSort]
          omega
        have ds := dvs_sorted ht
        rw [leN_map, et] at ds
        refine ⟨p, _, rfl, .inl ⟨sqL upd_same, fun l nl => ?_⟩⟩
        have sl := (same_new (H := H1) (o := .lst ((ts.mergeSort leN).map fun x => V.ref x.2)) np).trans (same_new (o := .tup ((ts.mergeSort leN).map fun x => V.ref x.2)) nl)
        exact q _ _ (s1.trans sl) (DV.of_tup (.inl upd_same) (ds.mono sl))
abbrev s_plain_piece : Stmt := topS 19
theorem sc_plain_piece : FnScope ["piece", "doors", "knots", "lines"] ["piece"] (defScope s_plain_piece) := ⟨rfl, rfl, rfl, by decide +kernel, rfl, by decide +kernel, by decide +kernel⟩
def plainD (d : PyData) : PyData → Prop := fun e => ∃ (n : Int) (xs : List Str) (zs : List (En × En)), d = .tuple [.int n, .tuple (xs.map PyData.str), .tuple (zs.map lineD)] ∧ e = .tuple [.int n, .tuple (xs.map PyData.str), .tuple ((plainL zs).map lotD)]
def spPlainP : Sp := fun vs H Q _ => ∃ (v : V) (d : PyData), vs = [v] ∧ DV H d v ∧ FewL d ∧ faultD d = none ∧ ∀ H' v' e, Same H H' → plainD d e → DV H' e v' → Q v' H'
theorem ok_plain_piece (D : DefAt K mg "plain_piece" s_plain_piece) (T : Bt mg) (u_need_piece : Use P w K mg base "need_piece" 5 ["piece"] spNeedP) (u_plain_lines : Use P w K mg base "plain_lines" 1 ["lines"] spPlainL) : Use P w K mg base "plain_piece" 6 ["piece"] spPlainP := by
  refine use_of D (fun f fd F => F.ok sc_plain_piece (fun vs H Q E h => ?_) (fun cdv A outer s H vs Q E hr h => ?_)) (fun _ _ _ _ _ _ us hl => match us, hl with | [_], _ => rfl)
  · obtain ⟨v, d, rfl, _⟩ := h
    rfl
  · obtain ⟨v, d, rfl, o, few, e, q⟩ := h
    refine ⟨_, (pss_cons (ps_asg (pe_use u_need_piece (by decide) hr (by rfl) (pa_cons (pv 0) pa_nil)) (pg_tup rfl (pgs_cons (pg_name (i := 1) sc_plain_piece.nd rfl (Or.inl rfl)) (pgs_cons (pg_name (i := 2) sc_plain_piece.nd rfl (Or.inl rfl)) (pgs_cons (pg_name (i := 3) sc_plain_piece.nd rfl (Or.inl rfl)) pgs_nil)))))
      (pss_one (ps_ret (pe_tup (pa_cons (pv 1) (pa_cons (pe_callTy (k_tupOf (K := K) rfl) (by rfl) T.tuple (by decide +kernel) (pa_cons (pv 2) pa_nil)) (pa_cons (pe_use u_plain_lines (by decide) hr (by rfl) (pa_cons (pv 3) pa_nil)) pa_nil))))))), ?_⟩
    refine ⟨_, rfl, v, d, rfl, o, few, e, fun H1 s1 => ?_⟩
    obtain ⟨n, xs, zs, rfl, gx, gz, x200, z320, n0, n40⟩ := piece_data e
    obtain ⟨a, ws, rfl, ea, hs⟩ := (o.mono s1).tup
    obtain ⟨v1, vs1, rfl, h1, hs⟩ := hs.out
    obtain ⟨v2, vs2, rfl, h2, hs⟩ := hs.out
    obtain ⟨v3, vs3, rfl, h3, hs⟩ := hs.out
    obtain rfl := hs.end'
    obtain rfl : v1 = .int n := by simpa only [DV] using h1
    obtain ⟨ak, xk, rfl, ek, hk⟩ := h2.tup
    refine ⟨a, _, rfl, rdT ea, rfl, _, _, rfl, _, _, rfl, _, [], rfl, rfl, ?_⟩
    refine ⟨_, rfl, _, rfl, ak, _, rfl, .inr ⟨rdT ek, ?_⟩⟩
    refine ⟨_, rfl, v3, zs, rfl, h3, by omega, fun H2 v' s2 o' => ⟨by show 3 ≤ sizeLine; decide, fun t nt => ?_⟩⟩
    have s3 := same_new (H := H2) (o := .tup [.int n, .ref ak, v']) nt
    refine q _ _ _ (s1.trans (s2.trans s3)) ⟨n, xs, zs, rfl, rfl⟩ (DV.of_tup (.inl upd_same) (.cons (DV.of_int _ n) (.cons ((h2.mono s2).mono s3) (.cons (o'.mono s3) (DVs.nil _)))))
abbrev s_piece_size : Stmt := topS 20
theorem sc_piece_size : FnScope ["piece", "_", "knots", "lines"] ["piece"] (defScope s_piece_size) := ⟨rfl, rfl, rfl, by decide +kernel, rfl, by decide +kernel, by decide +kernel⟩
/-- a piece that stands, its knots known -/
def PieceB (H : Hp) (v : V) (n : Int) (xs : List Str) (zs : List (En × En)) : Prop := ∃ a ak v3, v = .ref a ∧ Rd H a (.tup [.int n, .ref ak, v3]) ∧ Rd H ak (.tup (xs.map V.str)) ∧ Bare H ak ∧ DV H (.tuple (zs.map lineD)) v3
abbrev pieceD (n : Int) (xs : List Str) (zs : List (En × En)) : PyData := .tuple [.int n, .tuple (xs.map PyData.str), .tuple (zs.map lineD)]
theorem PieceB.dv {H : Hp} {v : V} {n : Int} {xs : List Str} {zs : List (En × En)} (h : PieceB H v n xs zs) : DV H (pieceD n xs zs) v := by
  obtain ⟨a, ak, v3, rfl, ea, ek, _, d3⟩ := h
  exact DV.of_tup ea (.cons (DV.of_int _ n) (.cons (DV.of_tup ek (DVs.strs xs)) (.cons d3 (DVs.nil _))))
theorem PieceB.mono {H H' : Hp} {v : V} {n : Int} {xs : List Str} {zs : List (En × En)} (h : PieceB H v n xs zs) (s : Same H H') : PieceB H' v n xs zs := by
  obtain ⟨a, ak, v3, e, ea, ek, bk, d3⟩ := h
  exact ⟨a, ak, v3, e, ea.mono s, ek.mono s, bk.mono s, d3.mono s⟩
def cntS (y : Str) (xs : List Str) : Int := ((xs.countP (fun z => decide (z = y)) : Nat) : Int)
theorem cntS_le (y : Str) (xs : List Str) : cntS y xs ≤ xs.length := by
  unfold cntS
  have : xs.countP (fun z => decide (z = y)) ≤ xs.length := List.countP_le_length
  omega
theorem cntS_ge (y : Str) (xs : List Str) : 0 ≤ cntS y xs := by
  unfold cntS
  omega
def spPSize : Sp := fun vs H Q _ => ∃ (v : V) (n : Int) (xs : List Str) (zs : List (En × En)), vs = [v] ∧ PieceB H v n xs zs ∧ FewL (pieceD n xs zs) ∧ faultD (pieceD n xs zs) = none ∧ ∀ H', Same H H' → Q (.int ((zs.length : Int) - 2 * cntS "both" xs - cntS "either" xs)) H'
theorem ok_piece_size (D : DefAt K mg "piece_size" s_piece_size) (T : Bt mg) (u_need_piece : Use P w K mg base "need_piece" 5 ["piece"] spNeedP) : Use P w K mg base "piece_size" 6 ["piece"] spPSize := by
  refine use_of D (fun f fd F => F.ok sc_piece_size (fun vs H Q E h => ?_) (fun cdv A outer s H vs Q E hr h => ?_)) (fun _ _ _ _ _ _ us hl => match us, hl with | [_], _ => rfl)
  · obtain ⟨v, n, xs, zs, rfl, _⟩ := h
    rfl
  · obtain ⟨v, n, xs, zs, rfl, o, few, e, q⟩ := h
    refine ⟨_, (pss_cons (ps_asg (pe_use u_need_piece (by decide) hr (by rfl) (pa_cons (pv 0) pa_nil)) (pg_tup rfl (pgs_cons (pg_name (i := 1) sc_piece_size.nd rfl (Or.inl rfl)) (pgs_cons (pg_name (i := 2) sc_piece_size.nd rfl (Or.inl rfl)) (pgs_cons (pg_name (i := 3) sc_piece_size.nd rfl (Or.inl rfl)) pgs_nil)))))
      (pss_one (ps_ret (pe_op op_sub (pe_op op_sub (pe_callB (k_len (K := K) rfl) (by rfl) T.len PySem.boot_len (pa_cons (pv 3) pa_nil)) (pe_op op_mulW pe_int (k_tm (K := K) rfl PySem.F.slot_tuple_count PySem.F.type_tuple_count (k_scnt (K := K) rfl (room65g hr)) (pv 2) (pa_cons pe_str pa_nil)))) (k_tm (K := K) rfl PySem.F.slot_tuple_count PySem.F.type_tuple_count (k_scnt (K := K) rfl (room65g hr)) (pv 2) (pa_cons pe_str pa_nil)))))), ?_⟩
    refine ⟨_, rfl, v, _, rfl, o.dv, few, e, fun H1 s1 => ?_⟩
    have x200 : xs.length ≤ 200 := by
      obtain ⟨ks, ls, hk⟩ : ∃ m ks ls, pieceD n xs zs = .tuple [.int m, .tuple ks, .tuple ls] ∧ ks.length ≤ 200 := by
        by_cases c : formD (pieceD n xs zs) = true
        · obtain ⟨m, ks, ls, e1, _, _, k200, _⟩ := formD_of c
          exact ⟨m, ks, ls, e1, k200⟩
        · rw [faultD_form (Bool.eq_false_iff.mpr c)] at e
          cases e
      obtain ⟨ls, e1, k2⟩ := hk
      cases e1
      rwa [List.length_map] at k2
    obtain ⟨a, ak, v3, rfl, ea, ek, bk, d3⟩ := o.mono s1
    obtain ⟨al, xl, rfl, el, hl⟩ := d3.tup
    have ll := hl.len
    rw [List.length_map] at ll
    refine ⟨a, _, rfl, rdT ea, rfl, _, _, rfl, _, _, rfl, _, [], rfl, rfl, ?_⟩
    refine ⟨_, rfl, al, _, rfl, .inr (rdT el), ?_⟩
    refine ⟨_, rfl, ⟨ak, _, rfl, rdT ek, bk⟩, ak, xs, "both", rfl, rfl, rdT ek, ?_⟩
    have b1 := cntS_le "both" xs
    have b0 := cntS_ge "both" xs
    have r := q H1 s1
    refine ⟨_, _, rfl, rfl, wide_mul (a := 4) (b := 12) (by decide) (by show (cntS "both" xs).natAbs < _; omega) (by decide) (by decide) (by decide), ?_⟩
    refine ⟨_, _, rfl, rfl, ?_⟩
    refine ⟨_, rfl, ⟨ak, _, rfl, rdT ek, bk⟩, ak, xs, "either", rfl, rfl, rdT ek, ?_⟩
    refine ⟨_, _, rfl, rfl, ?_⟩
    rw [ll]
    exact r
end
end KQ
/-! pieces that stand: their ends are small, what repr shows of them, their plain lines and size -/
namespace KQ
open PySem PySem.Spec PyProof.Rows L2 KR KM
def BE (x : En) : Prop := (-1 ≤ x.1 ∧ x.1 < 1000) ∧ (0 ≤ x.2 ∧ x.2 < 1000)
theorem endOf_BE {n k : Int} {d : PyData} {x : En} (n40 : n ≤ 40) (k200 : k ≤ 200) (h : endOf n k d = some x) : BE x := by
  unfold endOf at h
  split at h
  · split at h
    · rename_i c
      cases h
      unfold BE
      dsimp only
      omega
    · cases h
  · cases h
theorem collectE_BE {n k : Int} {seen es : List En} {ds : List PyData} (n40 : n ≤ 40) (k200 : k ≤ 200) (l : ds.length = 2) (h : collectE n k seen ds = some es) : ∃ x y, ds = [endD x, endD y] ∧ x ≠ y ∧ BE x ∧ BE y := by
  match ds, l with
  | [a, b], _ =>
    unfold collectE at h
    split at h
    · cases h
    · rename_i x hx
      split at h
      · cases h
      · unfold collectE at h
        split at h
        · cases h
        · rename_i y hy
          split at h
          · cases h
          · rename_i ny
            refine ⟨x, y, by rw [endOf_data hx, endOf_data hy], fun e => ny ?_, endOf_BE n40 k200 hx, endOf_BE n40 k200 hy⟩
            rw [e]
            exact List.mem_append_right _ List.mem_cons_self
theorem lineD_inj {z w : En × En} (h : lineD z = lineD w) : z = w := by
  obtain ⟨⟨a, b⟩, ⟨c, d⟩⟩ := z
  obtain ⟨⟨a', b'⟩, ⟨c', d'⟩⟩ := w
  have h : PyData.tuple [.tuple [.int a, .int b], .tuple [.int c, .int d]] = .tuple [.tuple [.int a', .int b'], .tuple [.int c', .int d']] := h
  simp only [PyData.tuple.injEq, List.cons.injEq, PyData.int.injEq, and_true] at h
  obtain ⟨⟨rfl, rfl⟩, rfl, rfl⟩ := h
  rfl
theorem linesOf_BE {n k : Int} (n40 : n ≤ 40) (k200 : k ≤ 200) : ∀ (zs : List (En × En)) (seen : List En) (i : Nat) (es : List En), linesOf n k seen i (zs.map lineD) = .inr es → ∀ z ∈ zs, z.1 ≠ z.2 ∧ BE z.1 ∧ BE z.2
  | [], _, _, _, _ => fun z h => by cases h
  | z :: zs, seen, i, es, h => by
    rw [List.map_cons] at h
    unfold linesOf at h
    split at h
    · cases h
    · rename_i e2 he
      have ih := linesOf_BE n40 k200 zs _ _ _ h
      unfold lineOf at he
      split at he
      · rename_i ds hz
        split at he
        · rename_i l2
          obtain ⟨x, y, rfl, xy, bx, by'⟩ := collectE_BE n40 k200 l2 he
          intro w hw
          rcases List.mem_cons.mp hw with rfl | hw
          · have : w = (x, y) := lineD_inj hz
            rw [this]
            exact ⟨xy, bx, by'⟩
          · exact ih w hw
        · cases he
      · cases he
theorem badKnot_both : ∀ (xs : List Str) (i : Nat), badKnot i (xs.map PyData.str) = none → ∀ x ∈ xs, x = "both" ∨ x = "either"
  | [], _, _ => fun x h => by cases h
  | y :: r, i, h => by
    rw [List.map_cons] at h
    unfold badKnot at h
    split at h
    · rename_i c
      intro x hx
      rcases List.mem_cons.mp hx with rfl | hx
      · have c : (decide (x = "both") || decide (x = "either")) = true := c
        simpa using c
      · exact badKnot_both r _ h x hx
    · cases h
/-- all that a piece tells -/
theorem piece_all {d : PyData} (h : faultD d = none) : ∃ (n : Int) (xs : List Str) (zs : List (En × En)), d = pieceD n xs zs ∧ (∀ x ∈ xs, x = "both" ∨ x = "either") ∧ (∀ z ∈ zs, z.1 ≠ z.2 ∧ BE z.1 ∧ BE z.2) ∧ xs.length ≤ 200 ∧ zs.length ≤ 320 ∧ 0 ≤ n ∧ n ≤ 40 := by
  have h0 := h
  obtain ⟨n, xs, zs, rfl, gx, gz, x200, z320, n0, n40⟩ := piece_data h
  refine ⟨n, xs, zs, rfl, gx, ?_, x200, z320, n0, n40⟩
  unfold faultD at h0
  have c : 0 ≤ n ∧ n ≤ 40 ∧ (xs.map PyData.str).length ≤ 200 ∧ (zs.map lineD).length ≤ 320 := ⟨n0, n40, by rw [List.length_map]; exact x200, by rw [List.length_map]; exact z320⟩
  dsimp only at h0
  rw [if_pos c] at h0
  unfold faultIn at h0
  split at h0
  · cases h0
  · split at h0
    · cases h0
    · rename_i es hl
      exact linesOf_BE n40 (by rw [List.length_map]; omega) zs _ _ _ hl
/-! what repr shows of it -/
theorem nc_int1 {i : Int} (h0 : -1 ≤ i) (h1 : i < 1024) : Nc 0 10 (.int i) := by
  by_cases c : i = -1
  · subst c
    exact ⟨by decide +kernel, rfl, Nat.le_refl _, by decide +kernel, by decide +kernel⟩
  · exact nc_int (by omega) h1
theorem nc_small {i : Int} (h0 : -1000 < i) (h1 : i < 1000) : Nc 0 20 (.int i) := by
  have all : ∀ k : Fin 2000, ((PyData.int (((k.val : Nat) : Int) - 1000)).showable && (PyData.int (((k.val : Nat) : Int) - 1000)).leavesShort 13 && decide ((PyData.int (((k.val : Nat) : Int) - 1000)).weight ≤ 20)) = true := by decide +kernel
  have h := all ⟨(i + 1000).toNat, by omega⟩
  have e : (((i + 1000).toNat : Nat) : Int) - 1000 = i := by omega
  rw [show (((⟨(i + 1000).toNat, by omega⟩ : Fin 2000).val : Nat) : Int) - 1000 = i from e] at h
  have h2 := Bool.and_eq_true_iff.mp h
  have h3 := Bool.and_eq_true_iff.mp h2.1
  exact ⟨h3.1, rfl, Nat.le_refl _, h3.2, of_decide_eq_true h2.2⟩
theorem nc_end {x : En} (h : BE x) : Nc 1 22 (endD x) := (nc_tup (nc_cons (nc_int1 h.1.1 (by have := h.1.2; omega)) (nc_cons (nc_int h.2.1 (by have := h.2.2; omega)) (nc_nil 0)))).le (Nat.le_refl _) (by decide)
theorem nc_two {a b : PyData} (h : Nc 1 22 a) (k : Nc 1 22 b) : Nc 2 46 (.tuple [a, b]) := (nc_tup (nc_cons h (nc_cons k (nc_nil 1)))).le (Nat.le_refl _) (by decide)
theorem nc_sort {x : Str} (h : x = "both" ∨ x = "either") : Nc 0 20 (.str x) := by
  rcases h with rfl | rfl
  · exact ⟨by decide +kernel, rfl, Nat.le_refl _, by decide +kernel, by decide +kernel⟩
  · exact ⟨by decide +kernel, rfl, Nat.le_refl _, by decide +kernel, by decide +kernel⟩
theorem nc_piece {n : Int} {ks ls : List PyData} (n0 : 0 ≤ n) (n40 : n ≤ 40) (hk : ∀ d ∈ ks, Nc 0 20 d) (hl : ∀ d ∈ ls, Nc 2 46 d) (k200 : ks.length ≤ 200) (l320 : ls.length ≤ 320) : Nc 4 20000 (.tuple [.int n, .tuple ks, .tuple ls]) := by
  have a := (nc_int (i := n) n0 (by omega)).le (Nat.zero_le 3) (Nat.le_refl _)
  have b := (nc_tup (nc_all hk)).le (show 1 ≤ 3 by decide) (Nat.le_refl _)
  have c := (nc_tup (nc_all hl)).le (show 3 ≤ 3 by decide) (Nat.le_refl _)
  refine (nc_tup (nc_cons a (nc_cons b (nc_cons c (nc_nil 3))))).le (Nat.le_refl _) ?_
  have : (20 + 1) * ks.length ≤ 21 * 200 := Nat.mul_le_mul_left _ k200
  have : (46 + 1) * ls.length ≤ 47 * 320 := Nat.mul_le_mul_left _ l320
  omega
theorem nc_pieceD {n : Int} {xs : List Str} {zs : List (En × En)} (gx : ∀ x ∈ xs, x = "both" ∨ x = "either") (gz : ∀ z ∈ zs, z.1 ≠ z.2 ∧ BE z.1 ∧ BE z.2) (x200 : xs.length ≤ 200) (z320 : zs.length ≤ 320) (n0 : 0 ≤ n) (n40 : n ≤ 40) : Nc 4 20000 (pieceD n xs zs) := by
  refine nc_piece n0 n40 (fun d hd => ?_) (fun d hd => ?_) (by rw [List.length_map]; exact x200) (by rw [List.length_map]; exact z320)
  · obtain ⟨x, hx, rfl⟩ := List.mem_map.mp hd
    exact nc_sort (gx x hx)
  · obtain ⟨z, hz, rfl⟩ := List.mem_map.mp hd
    obtain ⟨_, a, b⟩ := gz z hz
    exact nc_two (nc_end a) (nc_end b)
theorem norm_cases (z : En × En) : lotD (normZ z) = lineD z ∨ lotD (normZ z) = lineD (z.2, z.1) := by
  unfold normZ
  split
  · exact .inl rfl
  · exact .inr rfl
theorem nc_plain {n : Int} {xs : List Str} {zs : List (En × En)} (gx : ∀ x ∈ xs, x = "both" ∨ x = "either") (gz : ∀ z ∈ zs, z.1 ≠ z.2 ∧ BE z.1 ∧ BE z.2) (x200 : xs.length ≤ 200) (z320 : zs.length ≤ 320) (n0 : 0 ≤ n) (n40 : n ≤ 40) :
    Nc 4 20000 (.tuple [.int n, .tuple (xs.map PyData.str), .tuple ((plainL zs).map lotD)]) := by
  refine nc_piece n0 n40 (fun d hd => ?_) (fun d hd => ?_) (by rw [List.length_map]; exact x200) ?_
  · obtain ⟨x, hx, rfl⟩ := List.mem_map.mp hd
    exact nc_sort (gx x hx)
  · obtain ⟨l, hl, rfl⟩ := List.mem_map.mp hd
    have := (List.mergeSort_perm _ _).mem_iff.mp hl
    obtain ⟨z, hz, rfl⟩ := List.mem_map.mp this
    obtain ⟨_, a, b⟩ := gz z hz
    rcases norm_cases z with e | e
    · rw [e]
      exact nc_two (nc_end a) (nc_end b)
    · rw [e]
      exact nc_two (nc_end b) (nc_end a)
  · unfold plainL
    rw [List.length_map, List.length_mergeSort, List.length_map]
    exact z320
/-- the size, by the sorts -/
theorem sorts_sum : ∀ {xs : List Str}, (∀ x ∈ xs, x = "both" ∨ x = "either") → (xs.map fun (x : Str) => if x = ("both" : Str) then (2 : Int) else 1).sum = 2 * cntS "both" xs + cntS "either" xs
  | [], _ => rfl
  | x :: xs, h => by
    have ih := sorts_sum fun y hy => h y (List.mem_cons_of_mem _ hy)
    rw [List.map_cons, List.sum_cons, ih]
    unfold cntS
    rw [List.countP_cons, List.countP_cons]
    rcases h x List.mem_cons_self with rfl | rfl
    · rw [if_pos rfl, if_pos (decide_eq_true rfl), if_neg (by decide)]
      omega
    · rw [if_neg (by decide), if_neg (by decide), if_pos (decide_eq_true rfl)]
      omega
theorem norm_minmax {z : En × En} (h : z.1 ≠ z.2) : [rowE (if PySem.W.dataLt (rowD (rowE z.2)) (rowD (rowE z.1)) = true then z.2 else z.1), rowE (if PySem.W.dataLt (rowD (rowE z.1)) (rowD (rowE z.2)) = true then z.2 else z.1)] = normZ z := by
  unfold normZ
  rw [rowD_lt, rowD_lt, lex_tot h]
  cases HT.lexLt (rowE z.1) (rowE z.2) <;> rfl
/-! what is told of a fault, as data -/
theorem badKnot_lt : ∀ (ks : List PyData) (i j : Nat), badKnot i ks = some j → j < i + ks.length
  | [], _, _, h => by cases h
  | d :: r, i, j, h => by
    unfold badKnot at h
    split at h
    · have := badKnot_lt r _ _ h
      rw [List.length_cons]
      omega
    · cases h
      rw [List.length_cons]
      omega
theorem linesOf_lt {n k : Int} : ∀ (ls : List PyData) (seen : List En) (i j : Nat), linesOf n k seen i ls = .inl j → j < i + ls.length
  | [], _, _, _, h => by cases h
  | d :: r, seen, i, j, h => by
    unfold linesOf at h
    split at h
    · cases h
      rw [List.length_cons]
      omega
    · have := linesOf_lt r _ _ _ h
      rw [List.length_cons]
      omega
def FWord (x : Str) : Prop := x = "form" ∨ x = "knots" ∨ x = "lines" ∨ x = "ends"
theorem fault_small {d : PyData} {p : Str × Option Nat} (h : faultD d = some p) : FWord p.1 ∧ ∀ i, p.2 = some i → i < 1000 := by
  unfold faultD at h
  split at h
  · rename_i n ks ls
    split at h
    · rename_i c
      unfold faultIn at h
      split at h
      · rename_i i hk
        cases h
        have := badKnot_lt _ _ _ hk
        exact ⟨.inr (.inl rfl), fun j e => by cases e; omega⟩
      · split at h
        · rename_i i hl
          cases h
          have := linesOf_lt _ _ _ _ hl
          exact ⟨.inr (.inr (.inl rfl)), fun j e => by cases e; omega⟩
        · split at h
          · cases h
          · cases h
            exact ⟨.inr (.inr (.inr rfl)), fun j e => by cases e⟩
    · cases h
      exact ⟨.inl rfl, fun j e => by cases e⟩
  · cases h
    exact ⟨.inl rfl, fun j e => by cases e⟩
def placeD : Option Nat → PyData
  | none => .none
  | some i => .int (i : Int)
def fdata : Option (Str × Option Nat) → PyData
  | none => .none
  | some p => .tuple [.str p.1, placeD p.2]
theorem dp_place {K : PySem.W.Frag} {H : Hp} : ∀ p : Option Nat, Dp K H (placeV p) (placeD p)
  | none => .non
  | some i => .int _
theorem FaultV.dp {K : PySem.W.Frag} {H : Hp} {v : V} : ∀ {o : Option (Str × Option Nat)}, FaultV H v o → Dp K H v (fdata o)
  | none, h => by
    obtain rfl : v = .non := h
    exact .non
  | some p, h => by
    obtain ⟨t, rfl, e⟩ := h
    exact .tup (sqT e) (.cons (.str _) (.cons (dp_place _) .nil))
theorem nc_none : Nc 0 0 .none := ⟨rfl, rfl, Nat.le_refl _, rfl, Nat.le_refl _⟩
theorem nc_fword {x : Str} (h : FWord x) : Nc 0 20 (.str x) := by
  rcases h with rfl | rfl | rfl | rfl
  · exact ⟨by decide +kernel, rfl, Nat.le_refl _, by decide +kernel, by decide +kernel⟩
  · exact ⟨by decide +kernel, rfl, Nat.le_refl _, by decide +kernel, by decide +kernel⟩
  · exact ⟨by decide +kernel, rfl, Nat.le_refl _, by decide +kernel, by decide +kernel⟩
  · exact ⟨by decide +kernel, rfl, Nat.le_refl _, by decide +kernel, by decide +kernel⟩
theorem nc_place {p : Option Nat} (h : ∀ i, p = some i → i < 1000) : Nc 0 10 (placeD p) := by
  cases p with
  | none => exact nc_none.le (Nat.le_refl _) (by decide)
  | some i => exact nc_int (by omega) (by have := h i rfl; omega)
theorem nc_fault {d : PyData} : Nc 1 40 (fdata (faultD d)) := by
  cases e : faultD d with
  | none => exact nc_none.le (by decide) (by decide)
  | some p =>
    obtain ⟨a, b⟩ := fault_small e
    exact (nc_tup (nc_cons (nc_fword a) (nc_cons (nc_place b) (nc_nil 0)))).le (Nat.le_refl _) (by decide)
end KQ
/-! lines that grow: each empty, or two places, open or an end -/
namespace KQ
/-- a place: open, or an end -/
abbrev Pl := Option En
abbrev Lns := List (List Pl)
def Op (ls : Lns) (e : Nat × Nat) : Prop := ∃ l, ls[e.1]? = some l ∧ l[e.2]? = some none
def setP (ls : Lns) (i s : Nat) (p : Pl) : Lns := match ls[i]? with
  | none => ls
  | some l => ls.set i (l.set s p)
/-- the open places are the ends, each once -/
structure GoodL (ls : Lns) (es : List (Nat × Nat)) : Prop where
  two : ∀ l ∈ ls, l = [] ∨ l.length = 2
  nd : es.Nodup
  op : ∀ e, e ∈ es ↔ Op ls e
theorem setP_at {ls : Lns} {i s : Nat} {p : Pl} {l : List Pl} (h : ls[i]? = some l) : setP ls i s p = ls.set i (l.set s p) := by
  unfold setP
  rw [h]
theorem op_set {ls : Lns} {i s : Nat} {x : En} {e : Nat × Nat} : Op (setP ls i s (some x)) e ↔ Op ls e ∧ e ≠ (i, s) := by
  cases h : ls[i]? with
  | none =>
    unfold setP
    rw [h]
    refine ⟨fun o => ⟨o, fun z => ?_⟩, fun o => o.1⟩
    obtain ⟨l, e1, _⟩ := o
    rw [z, h] at e1
    cases e1
  | some l =>
    rw [setP_at h]
    have il := (List.getElem?_eq_some_iff.mp h).1
    constructor
    · rintro ⟨l', e1, e2⟩
      by_cases z : i = e.1
      · rw [z, List.getElem?_set_self (by rw [← z]; exact il)] at e1
        cases e1
        by_cases w : s = e.2
        · rw [w] at e2
          by_cases v : e.2 < l.length
          · rw [List.getElem?_set_self v] at e2
            cases e2
          · rw [List.getElem?_eq_none (by rw [List.length_set]; omega)] at e2
            cases e2
        · rw [List.getElem?_set_ne w] at e2
          exact ⟨⟨l, by rw [← z]; exact h, e2⟩, fun q => w (by rw [q])⟩
      · rw [List.getElem?_set_ne z] at e1
        exact ⟨⟨l', e1, e2⟩, fun q => z (by rw [q])⟩
    · rintro ⟨⟨l', e1, e2⟩, ne⟩
      by_cases z : i = e.1
      · rw [← z, h] at e1
        cases e1
        have w : s ≠ e.2 := fun w => ne (by rw [z, w])
        exact ⟨l.set s (some x), by rw [z, List.getElem?_set_self (by rw [← z]; exact il)], by rw [List.getElem?_set_ne w]; exact e2⟩
      · exact ⟨l', by rw [List.getElem?_set_ne z]; exact e1, e2⟩
theorem op_clear {ls : Lns} {i : Nat} {e : Nat × Nat} : Op (ls.set i []) e ↔ Op ls e ∧ e.1 ≠ i := by
  constructor
  · rintro ⟨l, e1, e2⟩
    by_cases z : i = e.1
    · rw [z] at e1
      by_cases v : e.1 < ls.length
      · rw [List.getElem?_set_self v] at e1
        cases e1
        cases e2
      · rw [List.getElem?_eq_none (by rw [List.length_set]; omega)] at e1
        cases e1
    · rw [List.getElem?_set_ne z] at e1
      exact ⟨⟨l, e1, e2⟩, fun q => z q.symm⟩
  · rintro ⟨⟨l, e1, e2⟩, ne⟩
    exact ⟨l, by rw [List.getElem?_set_ne fun q => ne q.symm]; exact e1, e2⟩
theorem op_app {ls : Lns} {n : List Pl} {e : Nat × Nat} : Op (ls ++ [n]) e ↔ Op ls e ∨ (e.1 = ls.length ∧ n[e.2]? = some none) := by
  constructor
  · rintro ⟨l, e1, e2⟩
    by_cases z : e.1 < ls.length
    · rw [List.getElem?_append_left z] at e1
      exact .inl ⟨l, e1, e2⟩
    · rw [List.getElem?_append_right (by omega)] at e1
      have : e.1 - ls.length = 0 := by
        have := (List.getElem?_eq_some_iff.mp e1).1
        simp at this
        omega
      rw [this] at e1
      cases e1
      exact .inr ⟨by omega, e2⟩
  · rintro (⟨l, e1, e2⟩ | ⟨e1, e2⟩)
    · have z := (List.getElem?_eq_some_iff.mp e1).1
      exact ⟨l, by rw [List.getElem?_append_left z]; exact e1, e2⟩
    · exact ⟨n, by rw [e1, List.getElem?_append_right (Nat.le_refl _), Nat.sub_self]; rfl, e2⟩
theorem setP_two {ls : Lns} {i s : Nat} {p : Pl} (h : ∀ l ∈ ls, l = [] ∨ l.length = 2) : ∀ l ∈ setP ls i s p, l = [] ∨ l.length = 2 := by
  unfold setP
  split
  · exact h
  · rename_i l hl
    intro l' hl'
    rcases List.mem_or_eq_of_mem_set hl' with z | rfl
    · exact h l' z
    · rcases h l (List.mem_of_getElem? hl) with rfl | z
      · exact .inl rfl
      · exact .inr (by rw [List.length_set]; exact z)
/-- one end is told -/
theorem GoodL.fill {ls : Lns} {es : List (Nat × Nat)} (h : GoodL ls es) {i s : Nat} {x : En} : GoodL (setP ls i s (some x)) (es.filter fun e => decide (e ≠ (i, s))) := by
  refine ⟨setP_two h.two, h.nd.filter _, fun e => ?_⟩
  rw [List.mem_filter, op_set, h.op, decide_eq_true_eq]
/-- a new line, both ends open -/
theorem GoodL.more {ls : Lns} {es : List (Nat × Nat)} (h : GoodL ls es) : GoodL (ls ++ [[none, none]]) (es ++ [(ls.length, 0), (ls.length, 1)]) := by
  have old : ∀ e ∈ es, e.1 < ls.length := fun e he => by
    obtain ⟨l, e1, _⟩ := (h.op e).mp he
    exact (List.getElem?_eq_some_iff.mp e1).1
  refine ⟨fun l hl => ?_, ?_, fun e => ?_⟩
  · rcases List.mem_append.mp hl with z | z
    · exact h.two l z
    · obtain rfl := List.mem_singleton.mp z
      exact .inr rfl
  · refine List.nodup_append.mpr ⟨h.nd, ?_, fun a ha b hb z => ?_⟩
    · simp
    · have := old a ha
      subst z
      simp only [List.mem_cons, List.not_mem_nil, or_false] at hb
      rcases hb with rfl | rfl <;> exact Nat.lt_irrefl _ this
  · rw [List.mem_append, op_app, h.op]
    simp only [List.mem_cons, List.not_mem_nil, or_false]
    constructor
    · rintro (z | rfl | rfl)
      · exact .inl z
      · exact .inr ⟨rfl, rfl⟩
      · exact .inr ⟨rfl, rfl⟩
    · rintro (z | ⟨z, w⟩)
      · exact .inl z
      · obtain ⟨a, b⟩ := e
        subst z
        match b, w with
        | 0, _ => exact .inr (.inl rfl)
        | 1, _ => exact .inr (.inr rfl)
        | b + 2, w => cases w
/-- a new line, its first end told -/
theorem GoodL.out {ls : Lns} {es : List (Nat × Nat)} (h : GoodL ls es) (x : En) : GoodL (ls ++ [[some x, none]]) (es ++ [(ls.length, 1)]) := by
  have old : ∀ e ∈ es, e.1 < ls.length := fun e he => by
    obtain ⟨l, e1, _⟩ := (h.op e).mp he
    exact (List.getElem?_eq_some_iff.mp e1).1
  refine ⟨fun l hl => ?_, ?_, fun e => ?_⟩
  · rcases List.mem_append.mp hl with z | z
    · exact h.two l z
    · obtain rfl := List.mem_singleton.mp z
      exact .inr rfl
  · refine List.nodup_append.mpr ⟨h.nd, by simp, fun a ha b hb z => ?_⟩
    have := old a ha
    subst z
    obtain rfl := List.mem_singleton.mp hb
    exact Nat.lt_irrefl _ this
  · rw [List.mem_append, op_app, h.op]
    constructor
    · rintro (z | z)
      · exact .inl z
      · obtain rfl := List.mem_singleton.mp z
        exact .inr ⟨rfl, rfl⟩
    · rintro (z | ⟨z, w⟩)
      · exact .inl z
      · obtain ⟨a, b⟩ := e
        subst z
        match b, w with
        | 0, w => cases w
        | 1, _ => exact .inr (List.mem_singleton.mpr rfl)
        | b + 2, w => cases w
/-- nothing open is left: both places of a line hold ends -/
theorem GoodL.done {ls : Lns} (h : GoodL ls []) {l : List Pl} (hl : l ∈ ls) (ne : l ≠ []) : ∃ x y, l = [some x, some y] := by
  have no : ∀ e, ¬ Op ls e := fun e o => by
    have := (h.op e).mpr o
    cases this
  obtain ⟨i, hi⟩ := List.mem_iff_getElem?.mp hl
  rcases h.two l hl with z | z
  · exact absurd z ne
  · match l, z with
    | [some x, some y], _ => exact ⟨x, y, rfl⟩
    | [none, _], _ => exact absurd ⟨_, hi, rfl⟩ (no (i, 0))
    | [some x, none], _ => exact absurd ⟨_, hi, rfl⟩ (no (i, 1))
end KQ
/-! lines that grow, in the heap -/
namespace KQ
open PySem PySem.Spec PyProof.Rows L2 KR KM StX
def plV (H : Hp) : Pl → V → Prop
  | none, v => v = .non
  | some e, v => ∃ t, v = .ref t ∧ TI H t (rowE e)
def PlsV (H : Hp) (l : List Pl) (vs : List V) : Prop := l.length = vs.length ∧ ∀ (s : Nat) (p : Pl), l[s]? = some p → ∃ v, vs[s]? = some v ∧ plV H p v
theorem plV.mono {H H' : Hp} {p : Pl} {v : V} (h : plV H p v) (k : ∀ t e, TI H t (rowE e) → TI H' t (rowE e)) : plV H' p v := by
  cases p with
  | none => exact h
  | some e =>
    obtain ⟨t, a, b⟩ := h
    exact ⟨t, a, k t e b⟩
theorem PlsV.mono {H H' : Hp} {l : List Pl} {vs : List V} (h : PlsV H l vs) (k : ∀ t e, TI H t (rowE e) → TI H' t (rowE e)) : PlsV H' l vs := ⟨h.1, fun s p hp => by
  obtain ⟨v, a, b⟩ := h.2 s p hp
  exact ⟨v, a, b.mono k⟩⟩
theorem PlsV.set {H : Hp} {l : List Pl} {vs : List V} {s : Nat} {p : Pl} {v : V} (h : PlsV H l vs) (hv : plV H p v) : PlsV H (l.set s p) (vs.set s v) := by
  refine ⟨by rw [List.length_set, List.length_set, h.1], fun j q hq => ?_⟩
  by_cases z : s = j
  · subst z
    have sl : s < l.length := by
      have := (List.getElem?_eq_some_iff.mp hq).1
      rwa [List.length_set] at this
    rw [List.getElem?_set_self sl] at hq
    cases hq
    exact ⟨v, List.getElem?_set_self (by rw [← h.1]; exact sl), hv⟩
  · rw [List.getElem?_set_ne z] at hq ⊢
    exact h.2 j q hq
/-- the list of lines; the lists apart from one another -/
structure LinesAt (H : Hp) (L : Addr) (as : List Addr) (ls : Lns) : Prop where
  el : H L = some (.lst (as.map V.ref))
  nd : as.Nodup
  ne : L ∉ as
  len : as.length = ls.length
  at_ : ∀ (i : Nat) (a : Addr) (l : List Pl), as[i]? = some a → ls[i]? = some l → ∃ vs, H a = some (.lst vs) ∧ PlsV H l vs
theorem ti_upd {H : Hp} {a t : Addr} {xs : List V} {o : HO} {r : List Int} (e : H a = some (.lst xs)) (h : TI H t r) : TI (upd H a o) t r := rd_lst (show Rd H t _ from h) e
theorem LinesAt.set {H : Hp} {L : Addr} {as : List Addr} {ls : Lns} (h : LinesAt H L as ls) {i : Nat} {a : Addr} {l : List Pl} {vs : List V} {s : Nat} {p : Pl} {v : V} (ha : as[i]? = some a) (hl : ls[i]? = some l) (ea : H a = some (.lst vs)) (hp : PlsV H l vs) (hv : plV H p v) :
    LinesAt (upd H a (.lst (vs.set s v))) L as (setP ls i s p) := by
  have il := (List.getElem?_eq_some_iff.mp hl).1
  have aL : L ≠ a := fun z => h.ne (z ▸ List.mem_of_getElem? ha)
  rw [setP_at hl]
  refine ⟨by rw [upd_ne aL]; exact h.el, h.nd, h.ne, by rw [List.length_set]; exact h.len, fun j b l' hb hl' => ?_⟩
  by_cases z : i = j
  · subst z
    rw [ha] at hb
    cases hb
    rw [List.getElem?_set_self il] at hl'
    cases hl'
    exact ⟨_, upd_same, (hp.set hv).mono fun t e ht => ti_upd ea ht⟩
  · rw [List.getElem?_set_ne z] at hl'
    obtain ⟨ws, e1, e2⟩ := h.at_ j b l' hb hl'
    have ba : b ≠ a := fun w => by
      subst w
      have i1 := (List.getElem?_eq_some_iff.mp ha)
      have i2 := (List.getElem?_eq_some_iff.mp hb)
      exact z ((List.getElem_inj h.nd).mp (i1.2.trans i2.2.symm))
    exact ⟨ws, by rw [upd_ne ba]; exact e1, e2.mono fun t e ht => ti_upd ea ht⟩
theorem LinesAt.mono {H H' : Hp} {L : Addr} {as : List Addr} {ls : Lns} (h : LinesAt H L as ls) (s : Same H H') : LinesAt H' L as ls := ⟨s _ _ h.el, h.nd, h.ne, h.len, fun i a l ha hl => by
  obtain ⟨vs, e, p⟩ := h.at_ i a l ha hl
  exact ⟨vs, s _ _ e, p.mono fun t r ht => ht.mono s⟩⟩
theorem filter_tail {α : Type} [DecidableEq α] {x : α} {r : List α} (h : (x :: r).Nodup) : (x :: r).filter (fun e => decide (e ≠ x)) = r := by
  have n := (List.nodup_cons.mp h).1
  rw [List.filter_cons, if_neg (by simp)]
  refine List.filter_eq_self.mpr fun y hy => decide_eq_true fun z => n ?_
  rw [← z]
  exact hy
end KQ
/-! two ends tied together -/
namespace KQ
theorem setP_self {ls : Lns} {i s : Nat} {p : Pl} {l : List Pl} (h : ls[i]? = some l) (h2 : l[s]? = some p) : setP ls i s p = ls := by
  rw [setP_at h]
  have e : l.set s p = l := by
    apply List.ext_getElem?
    intro j
    by_cases z : s = j
    · subst z
      rw [List.getElem?_set_self (List.getElem?_eq_some_iff.mp h2).1, h2]
    · rw [List.getElem?_set_ne z]
  rw [e]
  apply List.ext_getElem?
  intro j
  by_cases z : i = j
  · subst z
    rw [List.getElem?_set_self (List.getElem?_eq_some_iff.mp h).1, h]
  · rw [List.getElem?_set_ne z]
theorem Op.lt {ls : Lns} {es : List (Nat × Nat)} (g : GoodL ls es) {e : Nat × Nat} (h : Op ls e) : e.2 < 2 := by
  obtain ⟨l, e1, e2⟩ := h
  have := (List.getElem?_eq_some_iff.mp e2).1
  rcases g.two l (List.mem_of_getElem? e1) with z | z
  · rw [z] at this
    cases this
  · omega
theorem GoodL.tie {ls : Lns} {es rest : List (Nat × Nat)} (g : GoodL ls es) {one two : Nat × Nat} {other : Pl} {l : List Pl} (m1 : one ∈ es) (m2 : two ∈ es) (ne : one ≠ two) (hl : ls[two.1]? = some l) (ho : l[1 - two.2]? = some other)
    (hr : ∀ e, e ∈ rest ↔ e ∈ es ∧ e ≠ one ∧ e ≠ two) (nr : rest.Nodup) :
    GoodL ((setP ls one.1 one.2 other).set two.1 []) (rest.map fun e => if e = (two.1, 1 - two.2) then one else e) := by
  have b1 := Op.lt g ((g.op one).mp m1)
  have b2 := Op.lt g ((g.op two).mp m2)
  have only : ∀ e ∈ es, e.1 = two.1 → e = two ∨ e = (two.1, 1 - two.2) := fun e he z => by
    have := Op.lt g ((g.op e).mp he)
    by_cases w : e.2 = two.2
    · exact .inl (Prod.ext z w)
    · exact .inr (Prod.ext z (show e.2 = 1 - two.2 by omega))
  have farO : ((two.1, 1 - two.2) : Nat × Nat) ∈ es ↔ other = none := by
    rw [g.op]
    constructor
    · rintro ⟨l', e1, e2⟩
      rw [hl] at e1
      cases e1
      rw [ho] at e2
      exact Option.some.inj e2
    · intro z
      subst z
      exact ⟨l, hl, ho⟩
  have n1 : one ∉ rest := fun z => ((hr one).mp z).2.1 rfl
  have opS : ∀ e, Op (setP ls one.1 one.2 other) e ↔ e ∈ es ∧ (other = none ∨ e ≠ one) := fun e => by
    cases other with
    | none =>
      obtain ⟨l1, f1, f2⟩ := (g.op one).mp m1
      rw [setP_self f1 f2, g.op]
      simp
    | some x =>
      rw [op_set, g.op]
      simp
  refine ⟨fun l' hl' => ?_, ?_, fun e => ?_⟩
  · rcases List.mem_or_eq_of_mem_set hl' with z | rfl
    · exact setP_two g.two l' z
    · exact .inl rfl
  · refine List.pairwise_map.mpr (nr.imp_of_mem fun {a b} ha hb hab z => hab ?_)
    split at z
    · rename_i c
      split at z
      · rename_i d
        rw [c, d]
      · exact absurd (z ▸ hb) n1
    · split at z
      · exact absurd (z ▸ ha) n1
      · exact z
  · rw [op_clear, opS, List.mem_map]
    constructor
    · rintro ⟨a, ha, rfl⟩
      obtain ⟨h1, h2, h3⟩ := (hr a).mp ha
      split
      · rename_i c
        have on : other = none := farO.mp (c ▸ h1)
        refine ⟨⟨m1, .inl on⟩, fun z => ?_⟩
        rcases only one m1 z with w | w
        · exact ne w
        · exact h2 (c.trans w.symm)
      · rename_i c
        refine ⟨⟨h1, .inr h2⟩, fun z => ?_⟩
        rcases only a h1 z with w | w
        · exact h3 w
        · exact c w
    · rintro ⟨⟨h1, h2⟩, h3⟩
      by_cases c : e = one
      · have on : other = none := h2.resolve_right fun z => z c
        have fm := farO.mpr on
        refine ⟨(two.1, 1 - two.2), (hr _).mpr ⟨fm, fun z => ?_, fun z => ?_⟩, by rw [if_pos rfl]; exact c.symm⟩
        · exact h3 (by rw [c, ← z])
        · have := congrArg Prod.snd z
          have : 1 - two.2 = two.2 := this
          omega
      · refine ⟨e, (hr e).mpr ⟨h1, c, fun z => h3 (by rw [z])⟩, if_neg fun z => h3 (by rw [z])⟩
end KQ
namespace KQ
open PySem PySem.Spec PyProof.Rows L2 KR KM StX
theorem intD_of {lo hi : Int} {d : PyData} (h : intD lo hi d = true) : ∃ i, d = .int i ∧ lo ≤ i ∧ i ≤ hi := by
  cases d with
  | int i => exact ⟨i, rfl, of_decide_eq_true h⟩
  | _ => cases h
theorem endOf_no1 {n k : Int} {a b : PyData} (k0 : 0 ≤ k) (h : intD (-1) (k - 1) a = false) : endOf n k (.tuple [a, b]) = none := by
  unfold endOf
  split
  · rename_i i p e
    cases e
    refine if_neg fun z => ?_
    rw [show intD (-1) (k - 1) (.int i) = true from decide_eq_true ⟨by omega, by omega⟩] at h
    cases h
  · rfl
theorem endOf_no2 {n k i : Int} {b : PyData} (h : intD 0 (if i = -1 then n - 1 else 2) b = false) : endOf n k (.tuple [.int i, b]) = none := by
  unfold endOf
  split
  · rename_i i' p e
    cases e
    refine if_neg fun z => ?_
    rw [show intD 0 (if i = -1 then n - 1 else 2) (.int p) = true from decide_eq_true (by split <;> constructor <;> omega)] at h
    cases h
  · rfl
theorem endOf_yes {n k i p : Int} (h1 : -1 ≤ i ∧ i ≤ k - 1) (h2 : 0 ≤ p ∧ p ≤ if i = -1 then n - 1 else 2) : endOf n k (.tuple [.int i, .int p]) = some (i, p) := by
  refine if_pos ?_
  split at h2 <;> omega
section
variable {P : Program} {w : World} {K : PySem.W.Frag} {mg : Str → Option Value} {base : Heap}
abbrev s__law_is_end : Stmt := topS 37
theorem sc__law_is_end : FnScope ["end", "doors", "knots"] ["end", "doors", "knots"] (defScope s__law_is_end) := ⟨rfl, rfl, rfl, by decide +kernel, rfl, by decide +kernel, by decide +kernel⟩
def spLEnd : Sp := fun vs H Q _ => ∃ (v : V) (d : PyData) (n k : Int), vs = [v, .int n, .int k] ∧ DV H d v ∧ 0 ≤ k ∧ Q (.bl (endOf n k d).isSome) H
theorem ok_law_is_end (D : DefAt K mg "_law_is_end" s__law_is_end) (T : Bt mg) (u__law_is_int : Use P w K mg base "_law_is_int" 1 ["thing", "low", "high"] spIntWD) : Use P w K mg base "_law_is_end" 2 ["end", "doors", "knots"] spLEnd := by
  refine use_of D (fun f fd F => F.ok sc__law_is_end (fun vs H Q E h => ?_) (fun cdv A outer s H vs Q E hr h => ?_)) (fun _ _ _ _ _ _ us hl => match us, hl with | [_, _, _], _ => rfl)
  · obtain ⟨v, d, n, k, rfl, _⟩ := h
    rfl
  · obtain ⟨v, d, n, k, rfl, o, k0, q⟩ := h
    refine ⟨_, (pss_cons (ps_if (PW.pt (pw_or (pt_not (pt_val (pe_callB (k_isi (K := K) rfl) (by rfl) T.isinstance (by decide +kernel) (pa_cons (pv 0) (pa_cons (pe_bltn (v := .ty "tuple") (by rfl) T.tuple (by decide +kernel) rfl) pa_nil))))) (pw_or (pt_cmpR op_ne (pe_callB (k_len (K := K) rfl) (by rfl) T.len PySem.boot_len (pa_cons (pv 0) pa_nil)) pe_int (nomark _)) (pw_or1 (pt_not (pt_val (pe_use u__law_is_int (by decide) hr (by rfl) (pa_cons (pe_ix (k_ixt (K := K) rfl) (pv 0) pe_int (fun _ _ => rfl)) (pa_cons (pe_un un_neg pe_int) (pa_cons (pe_op op_sub (pv 2) pe_int) pa_nil)))))))))) (pss_one (ps_ret pe_bl)) pss_nil)
      (pss_one (ps_ret (pe_use u__law_is_int (by decide) hr (by rfl) (pa_cons (pe_ix (k_ixt (K := K) rfl) (pv 0) pe_int (fun _ _ => rfl)) (pa_cons pe_int (pa_cons (pe_ifExp (pt_cmpR op_eq (pe_ix (k_ixt (K := K) rfl) (pv 0) pe_int (fun _ _ => rfl)) (pe_un un_neg pe_int) (nomark _)) (pe_op op_sub (pv 1) pe_int) pe_int) pa_nil))))))), ?_⟩
    obtain ⟨t1, y1, e1⟩ := dv_ty (K := K) o (C := "tuple") (.inr (.inr (.inr rfl)))
    refine ⟨_, rfl, _, _, t1, _, _, rfl, .ty _, y1, e1, _, rfl, ?_⟩
    have none' : clsB "tuple" d = false → Q (.bl false) H := fun c => by
      cases d <;> first | exact q | cases c
    cases c : clsB "tuple" d with
    | false => exact iteT (iteT (none' c))
    | true =>
      refine iteF ?_
      cases d with
      | tuple ds =>
        obtain ⟨a, xs, rfl, e, hs⟩ := o.tup
        have ln := hs.len
        refine ⟨_, rfl, a, _, rfl, .inr (rdT e), rfl, ?_⟩
        by_cases c2 : ds.length = 2
        rotate_left
        · rw [endOf_len c2] at q
          refine ⟨true, congrArg V.bl (congrArg Bool.not (decide_eq_false fun z => c2 (by have := V.int.inj z; omega))), ?_⟩
          exact iteT (iteT q)
        · obtain ⟨d1, d2, rfl⟩ : ∃ d1 d2, ds = [d1, d2] := (match ds, c2 with | [d1, d2], _ => ⟨d1, d2, rfl⟩)
          obtain ⟨v1, vs1, rfl, h1, hs⟩ := hs.out
          obtain ⟨v2, vs2, rfl, h2, hs⟩ := hs.out
          obtain rfl := hs.end'
          refine ⟨false, rfl, iteF ?_⟩
          refine ⟨_, rfl, a, _, 0, v1, rfl, rfl, rdT e, rfl, ?_⟩
          refine ⟨1, rfl, _, rfl, k, 1, rfl, rfl, v1, d1, -1, k - 1, rfl, h1, _, rfl, ?_⟩
          cases ci : intD (-1) (k - 1) d1 with
          | false =>
            rw [endOf_no1 k0 ci] at q
            exact iteT q
          | true =>
            refine iteF ?_
            obtain ⟨i, rfl, i0, i1⟩ := intD_of ci
            obtain rfl : v1 = .int i := by simpa only [DV] using h1
            refine ⟨_, rfl, a, _, 1, v2, rfl, rfl, rdT e, rfl, _, rfl, a, _, 0, _, rfl, rfl, rdT e, rfl, 1, rfl, rfl, decide (i = -1), congrArg V.bl ?_, ?_⟩
            · by_cases c : i = -1
              · rw [decide_eq_true c, c]
                rfl
              · rw [decide_eq_false c]
                exact decide_eq_false fun z => c (V.int.inj z)
            have fin : ∀ m : Int, m = (if i = -1 then n - 1 else 2) → Q (.bl (intD 0 m d2)) H := fun m em => by
              subst em
              cases cj : intD 0 (if i = -1 then n - 1 else 2) d2 with
              | false =>
                rw [endOf_no2 cj] at q
                exact q
              | true =>
                obtain ⟨p, rfl, p0, p1⟩ := intD_of cj
                rw [endOf_yes ⟨i0, i1⟩ ⟨p0, p1⟩] at q
                exact q
            by_cases c : i = -1
            · rw [decide_eq_true c]
              exact iteT ⟨_, rfl, n, 1, rfl, rfl, v2, d2, 0, n - 1, rfl, h2, fin _ (if_pos c).symm⟩
            · rw [decide_eq_false c]
              exact iteF ⟨v2, d2, 0, 2, rfl, h2, fin _ (if_neg c).symm⟩
      | _ => cases c
abbrev s__law_fault : Stmt := topS 38
theorem sc__law_fault : FnScope ["value", "doors", "knots", "lines", "n", "met", "end"] ["value"] (defScope s__law_fault) := ⟨rfl, rfl, rfl, by decide +kernel, rfl, by decide +kernel, by decide +kernel⟩
def spLFault : Sp := fun vs H Q _ => ∃ (v : V) (d : PyData), vs = [v] ∧ DV H d v ∧ (∀ n ks ls, d = .tuple [n, .tuple ks, .tuple ls] → ks.length ≤ 100000 ∧ ls.length ≤ 100000) ∧ ∀ H' v', Same H H' → FaultV H' v' (faultD d) → Q v' H'
theorem ok_law_fault (D : DefAt K mg "_law_fault" s__law_fault) (T : Bt mg) (z_str : mg "str" = none) (u__law_is_int : Use P w K mg base "_law_is_int" 1 ["thing", "low", "high"] spIntWD) (u__law_is_end : Use P w K mg base "_law_is_end" 2 ["end", "doors", "knots"] spLEnd) : Use P w K mg base "_law_fault" 3 ["value"] spLFault := by
  refine use_of D (fun f fd F => F.ok sc__law_fault (fun vs H Q E h => ?_) (fun cdv A outer s H vs Q E hr h => ?_)) (fun _ _ _ _ _ _ us hl => match us, hl with | [_], _ => rfl)
  · obtain ⟨v, d, rfl, _⟩ := h
    rfl
  · obtain ⟨v, d, rfl, o, big, q⟩ := h
    refine ⟨_, (pss_cons (ps_if (PW.pt (pw_or (pt_not (pt_val (pe_callB (k_isi (K := K) rfl) (by rfl) T.isinstance (by decide +kernel) (pa_cons (pv 0) (pa_cons (pe_bltn (v := .ty "tuple") (by rfl) T.tuple (by decide +kernel) rfl) pa_nil))))) (pw_or (pt_cmpR op_ne (pe_callB (k_len (K := K) rfl) (by rfl) T.len PySem.boot_len (pa_cons (pv 0) pa_nil)) pe_int (nomark _)) (pw_or1 (pt_not (pt_val (pe_use u__law_is_int (by decide) hr (by rfl) (pa_cons (pe_ix (k_ixt (K := K) rfl) (pv 0) pe_int (fun _ _ => rfl)) (pa_cons pe_int (pa_cons pe_int pa_nil)))))))))) (pss_one (ps_ret (pe_tup (pa_cons pe_str (pa_cons pe_non pa_nil))))) pss_nil)
      (pss_cons (ps_asg (pv 0) (pg_tup rfl (pgs_cons (pg_name (i := 1) sc__law_fault.nd rfl (Or.inl rfl)) (pgs_cons (pg_name (i := 2) sc__law_fault.nd rfl (Or.inl rfl)) (pgs_cons (pg_name (i := 3) sc__law_fault.nd rfl (Or.inl rfl)) pgs_nil)))))
      (pss_cons (ps_if (PW.pt (pw_or (pt_not (pt_val (pe_callB (k_isi (K := K) rfl) (by rfl) T.isinstance (by decide +kernel) (pa_cons (pv 2) (pa_cons (pe_bltn (v := .ty "tuple") (by rfl) T.tuple (by decide +kernel) rfl) pa_nil))))) (pw_or (pt_not (pt_val (pe_callB (k_isi (K := K) rfl) (by rfl) T.isinstance (by decide +kernel) (pa_cons (pv 3) (pa_cons (pe_bltn (v := .ty "tuple") (by rfl) T.tuple (by decide +kernel) rfl) pa_nil))))) (pw_or (pt_cmpR op_gt (pe_callB (k_len (K := K) rfl) (by rfl) T.len PySem.boot_len (pa_cons (pv 2) pa_nil)) pe_int (nomark _)) (pw_or1 (pt_cmpR op_gt (pe_callB (k_len (K := K) rfl) (by rfl) T.len PySem.boot_len (pa_cons (pv 3) pa_nil)) pe_int (nomark _))))))) (pss_one (ps_ret (pe_tup (pa_cons pe_str (pa_cons pe_non pa_nil))))) pss_nil)
      (pss_cons (ps_for PassesOwn.never rfl (pi_range1 (by rfl) T.range (pa_cons (pe_callB (k_len (K := K) rfl) (by rfl) T.len PySem.boot_len (pa_cons (pv 2) pa_nil)) pa_nil)) (pg_name (i := 4) sc__law_fault.nd rfl (Or.inl rfl))
      (pss_one (ps_if (PW.pt (pw_or (pt_not (pt_val (pe_callB (k_isi (K := K) rfl) (by rfl) T.isinstance (by decide +kernel) (pa_cons (pe_ix (k_ixt (K := K) rfl) (pv 2) (pv 4) (fun _ _ => rfl)) (pa_cons (pe_bltn (v := .ty "str") (by rfl) z_str (by decide +kernel) rfl) pa_nil))))) (pw_or1 (pt_cmpR (k_notIn (K := K) rfl) (pe_ix (k_ixt (K := K) rfl) (pv 2) (pv 4) (fun _ _ => rfl)) (pe_lst (pa_cons pe_str (pa_cons pe_str pa_nil))) (by rfl))))) (pss_one (ps_ret (pe_tup (pa_cons pe_str (pa_cons (pv 4) pa_nil))))) pss_nil)))
      (pss_cons (ps_set (i := 5) sc__law_fault.nd rfl (Or.inl rfl) (pe_lst pa_nil))
      (pss_cons (ps_for PassesOwn.never rfl (pi_range1 (by rfl) T.range (pa_cons (pe_callB (k_len (K := K) rfl) (by rfl) T.len PySem.boot_len (pa_cons (pv 3) pa_nil)) pa_nil)) (pg_name (i := 4) sc__law_fault.nd rfl (Or.inl rfl))
      (pss_cons (ps_if (PW.pt (pw_or (pt_not (pt_val (pe_callB (k_isi (K := K) rfl) (by rfl) T.isinstance (by decide +kernel) (pa_cons (pe_ix (k_ixt (K := K) rfl) (pv 3) (pv 4) (fun _ _ => rfl)) (pa_cons (pe_bltn (v := .ty "tuple") (by rfl) T.tuple (by decide +kernel) rfl) pa_nil))))) (pw_or1 (pt_cmpR op_ne (pe_callB (k_len (K := K) rfl) (by rfl) T.len PySem.boot_len (pa_cons (pe_ix (k_ixt (K := K) rfl) (pv 3) (pv 4) (fun _ _ => rfl)) pa_nil)) pe_int (nomark _))))) (pss_one (ps_ret (pe_tup (pa_cons pe_str (pa_cons (pv 4) pa_nil))))) pss_nil)
      (pss_one (ps_for PassesOwn.never rfl (k_tup (K := K) rfl (pe_ix (k_ixt (K := K) rfl) (pv 3) (pv 4) (fun _ _ => rfl))) (pg_name (i := 6) sc__law_fault.nd rfl (Or.inl rfl))
      (pss_cons (ps_if (PW.pt (pw_or (pt_not (pt_val (pe_use u__law_is_end (by decide) hr (by rfl) (pa_cons (pv 6) (pa_cons (pv 1) (pa_cons (pe_callB (k_len (K := K) rfl) (by rfl) T.len PySem.boot_len (pa_cons (pv 2) pa_nil)) pa_nil)))))) (pw_or1 (pt_cmpR (k_inD (K := K) rfl (room65g hr)) (pv 6) (pv 5) (by rfl))))) (pss_one (ps_ret (pe_tup (pa_cons pe_str (pa_cons (pv 4) pa_nil))))) pss_nil)
      (pss_one (ps_expr (k_bm (K := K) rfl PySem.F.plainAttrs_list PySem.F.slot_list_append PySem.F.type_list_append mt_append (pv 5) (pa_cons (pv 6) pa_nil)))))))))
      (pss_one (ps_ret (pe_ifExp (pt_cmpR op_eq (pe_callB (k_len (K := K) rfl) (by rfl) T.len PySem.boot_len (pa_cons (pv 5) pa_nil)) (pe_op op_add (pv 1) (pe_op op_mulW pe_int (pe_callB (k_len (K := K) rfl) (by rfl) T.len PySem.boot_len (pa_cons (pv 2) pa_nil)))) (nomark _)) pe_non (pe_tup (pa_cons pe_str (pa_cons pe_non pa_nil)))))))))))), ?_⟩
    have noForm : formD d = false → ∀ t H', Same H H' → H' t = some (.tup [.str "form", .non]) → Q (.ref t) H' := fun c t H' s1 et => by
      refine q _ _ s1 ?_
      rw [faultD_form c]
      exact ⟨t, rfl, et⟩
    obtain ⟨t1, y1, e1⟩ := dv_ty (K := K) o (C := "tuple") (.inr (.inr (.inr rfl)))
    refine ⟨_, rfl, _, _, t1, _, _, rfl, .ty _, y1, e1, _, rfl, ?_⟩
    by_cases d3 : ∃ e1 e2 e3, d = .tuple [e1, e2, e3]
    rotate_left
    · have nf : formD d = false := formD_no fun ⟨n, ks, ls, e, _⟩ => d3 ⟨_, _, _, e⟩
      cases c : clsB "tuple" d with
      | false => refine iteT ?_; refine iteT ?_; exact ⟨by show 2 ≤ sizeLine; decide, fun t nt => noForm nf _ _ (same_new nt) upd_same⟩
      | true =>
        refine iteF ?_
        cases d with
        | tuple ds =>
          obtain ⟨a, xs, rfl, e, hs⟩ := o.tup
          have ln := hs.len
          refine ⟨_, rfl, a, _, rfl, .inr (rdT e), rfl, ?_⟩
          have c3 : ¬ ds.length = 3 := fun z => d3 (match ds, z with | [x, y, z], _ => ⟨x, y, z, rfl⟩)
          refine ⟨true, congrArg V.bl (congrArg Bool.not (decide_eq_false fun z => c3 (by have := V.int.inj z; omega))), ?_⟩
          refine iteT ?_; refine iteT ?_; exact ⟨by show 2 ≤ sizeLine; decide, fun t nt => noForm nf _ _ (same_new nt) upd_same⟩
        | _ => cases c
    obtain ⟨d1, d2, d3, rfl⟩ := d3
    obtain ⟨a, xs, rfl, ea, hs⟩ := o.tup
    obtain ⟨v1, vs1, rfl, h1, hs⟩ := hs.out
    obtain ⟨v2, vs2, rfl, h2, hs⟩ := hs.out
    obtain ⟨v3, vs3, rfl, h3, hs⟩ := hs.out
    obtain rfl := hs.end'
    refine iteF ⟨_, rfl, a, _, rfl, .inr (rdT ea), rfl, false, rfl, iteF ?_⟩
    refine ⟨_, rfl, a, _, 0, v1, rfl, rfl, rdT ea, rfl, v1, d1, 0, 40, rfl, h1, _, rfl, ?_⟩
    cases ci : intD 0 40 d1 with
    | false =>
      have nf : formD (.tuple [d1, d2, d3]) = false := formD_no fun ⟨n, ks, ls, e, z0, z1, _⟩ => by
        cases e
        rw [show intD 0 40 (.int n) = true from decide_eq_true ⟨z0, z1⟩] at ci
        cases ci
      refine iteT ?_; exact ⟨by show 2 ≤ sizeLine; decide, fun t nt => noForm nf _ _ (same_new nt) upd_same⟩
    | true =>
      refine iteF ?_
      obtain ⟨n, rfl, n0, n40⟩ := intD_of ci
      obtain rfl : v1 = .int n := by simpa only [DV] using h1
      refine ⟨_, rfl, a, _, rfl, rdT ea, rfl, _, _, rfl, _, _, rfl, _, [], rfl, rfl, ?_⟩
      obtain ⟨t2, y2, e2⟩ := dv_ty (K := K) h2 (C := "tuple") (.inr (.inr (.inr rfl)))
      obtain ⟨t3, y3, e3⟩ := dv_ty (K := K) h3 (C := "tuple") (.inr (.inr (.inr rfl)))
      refine ⟨_, rfl, _, _, t2, _, _, rfl, .ty _, y2, e2, _, rfl, ?_⟩
      cases c2 : clsB "tuple" d2 with
      | false =>
        have nf : formD (.tuple [.int n, d2, d3]) = false := formD_no fun ⟨n, ks, ls, e, _⟩ => by
          cases e
          cases c2
        refine iteT ?_; refine iteT ?_; exact ⟨by show 2 ≤ sizeLine; decide, fun t nt => noForm nf _ _ (same_new nt) upd_same⟩
      | true =>
      refine iteF ?_
      refine ⟨_, rfl, _, _, t3, _, _, rfl, .ty _, y3, e3, _, rfl, ?_⟩
      cases c3 : clsB "tuple" d3 with
      | false =>
        have nf : formD (.tuple [.int n, d2, d3]) = false := formD_no fun ⟨n, ks, ls, e, _⟩ => by
          cases e
          cases c3
        refine iteT ?_; refine iteT ?_; exact ⟨by show 2 ≤ sizeLine; decide, fun t nt => noForm nf _ _ (same_new nt) upd_same⟩
      | true =>
      refine iteF ?_
      obtain ⟨ks, rfl⟩ : ∃ ks, d2 = .tuple ks := by
        cases d2 with
        | tuple ds => exact ⟨ds, rfl⟩
        | _ => cases c2
      obtain ⟨ls, rfl⟩ : ∃ ks, d3 = .tuple ks := by
        cases d3 with
        | tuple ds => exact ⟨ds, rfl⟩
        | _ => cases c3
      obtain ⟨bk, bl⟩ := big _ ks ls rfl
      obtain ⟨ak, xk, rfl, ek, hk⟩ := h2.tup
      obtain ⟨al, xl, rfl, el, hl⟩ := h3.tup
      have kl := hk.len
      have ll := hl.len
      refine ⟨_, rfl, ak, _, rfl, .inr (rdT ek), _, 200, rfl, rfl, _, rfl, ?_⟩
      rw [kl]
      by_cases k200 : ks.length ≤ 200
      rotate_left
      · rw [decide_eq_true (show (200 : Int) < (ks.length : Int) by omega)]
        have nf : formD (.tuple [.int n, .tuple ks, .tuple ls]) = false := formD_no fun ⟨n, ks, ls, e, _, _, z, _⟩ => by
          cases e
          exact k200 z
        refine iteT ?_; refine iteT ?_; exact ⟨by show 2 ≤ sizeLine; decide, fun t nt => noForm nf _ _ (same_new nt) upd_same⟩
      rw [decide_eq_false (show ¬ (200 : Int) < (ks.length : Int) by omega)]
      refine iteF ?_
      refine ⟨_, rfl, al, _, rfl, .inr (rdT el), _, 320, rfl, rfl, _, rfl, ?_⟩
      rw [ll]
      by_cases l320 : ls.length ≤ 320
      rotate_left
      · rw [decide_eq_true (show (320 : Int) < (ls.length : Int) by omega)]
        have nf : formD (.tuple [.int n, .tuple ks, .tuple ls]) = false := formD_no fun ⟨n, ks, ls, e, _, _, _, z⟩ => by
          cases e
          exact l320 z
        refine iteT ?_; exact ⟨by show 2 ≤ sizeLine; decide, fun t nt => noForm nf _ _ (same_new nt) upd_same⟩
      rw [decide_eq_false (show ¬ (320 : Int) < (ls.length : Int) by omega)]
      refine iteF ?_
      have fE : faultD (.tuple [.int n, .tuple ks, .tuple ls]) = faultIn n ks ls := if_pos ⟨n0, n40, k200, l320⟩
      rw [fE] at q
      refine ⟨_, rfl, ak, _, rfl, .inr (rdT ek), _, rfl, by omega, by omega, for_range (lo := 0) (n := (((xk.length : Nat) : Int)).toNat)
        (fun i σ H1 => ∃ (y4 : Option V), σ = [some (.ref a), some (.int n), some (.ref ak), some (.ref al), y4, none, none] ∧ Same H H1 ∧ ∀ m, m < i → ∃ d, ks[m]? = some d ∧ sortB d = true)
        ⟨none, rfl, .refl H, fun m hm => absurd hm (Nat.not_lt_zero _)⟩ ?_ ?_⟩
      · rintro i σ H1 hi ⟨y4, rfl, s1, good⟩
        rw [Int.toNat_natCast] at hi
        rw [show (0 : Int) + ((i : Nat) : Int) = ((i : Nat) : Int) by omega]
        obtain ⟨v, hv⟩ : ∃ v, xk[i]? = some v := ⟨_, List.getElem?_eq_getElem hi⟩
        obtain ⟨d, hd, dv⟩ := hk.at hv
        have il := (List.getElem?_eq_some_iff.mp hd).1
        have dv1 := dv.mono s1
        obtain ⟨tt, yt, et⟩ := dv_ty (K := K) dv1 (C := "str") (.inr (.inr (.inl rfl)))
        refine ⟨_, rfl, _, rfl, ak, _, _, v, rfl, rfl, rdT (ek.mono s1), atI_of rfl hv, _, _, tt, _, _, rfl, .ty _, yt, et, _, rfl, ?_⟩
        have bad : sortB d = false → ∀ t H2, Same H1 H2 → H2 t = some (.tup [.str "knots", .int ((i : Nat) : Int)]) → Q (.ref t) H2 := fun cs t H2 s2 et => by
          refine q _ _ (s1.trans s2) ?_
          have b : badKnot 0 ks = some i := by
            rw [badKnot_at ks 0 i good, List.drop_eq_getElem_cons il]
            have e : ks[i] = d := Option.some.inj ((List.getElem?_eq_getElem il).symm.trans hd)
            rw [e]
            show (if sortB d = true then _ else some (0 + i)) = _
            rw [cs, Nat.zero_add]
            rfl
          have : faultIn n ks ls = some (("knots" : Str), some i) := by
            unfold faultIn
            rw [b]
          rw [this]
          exact ⟨t, rfl, et⟩
        cases cs : clsB "str" d with
        | false =>
          have nb : sortB d = false := by
            cases d <;> first | rfl | cases cs
          refine iteT ?_; refine iteT ?_; exact ⟨_, rfl, by show 2 ≤ sizeLine; decide, fun t nt => bad nb _ _ (same_new nt) upd_same⟩
        | true =>
          refine iteF ?_
          obtain ⟨x, rfl⟩ : ∃ x, d = .str x := by
            cases d with
            | str x => exact ⟨x, rfl⟩
            | _ => cases cs
          obtain rfl : v = .str x := by simpa only [DV] using dv
          refine ⟨_, rfl, _, rfl, ak, _, _, _, rfl, rfl, rdT (ek.mono s1), atI_of rfl hv, by show 2 ≤ sizeLine; decide, fun tp ntp => ?_⟩
          have sp := same_new (H := H1) (o := .lst [V.str "both", V.str "either"]) ntp
          refine ⟨tp, _, rfl, .inl (sqL upd_same), rfl, rfl, !sortB (.str x), ?_, ?_⟩
          · show V.bl (!L2.inV (V.str x) [V.str "both", V.str "either"]) = V.bl (!(decide (x = "both") || decide (x = "either")))
            show V.bl (!(("both" == x) || (("either" == x) || false))) = _
            congr 2
            rw [Bool.eq_iff_iff]
            simp only [Bool.or_eq_true, beq_iff_eq, decide_eq_true_eq, Bool.false_eq_true, or_false]
            exact ⟨fun h => h.imp Eq.symm Eq.symm, fun h => h.imp Eq.symm Eq.symm⟩
          cases sb : sortB (.str x) with
          | false =>
            refine iteT ?_
            exact ⟨_, rfl, by show 2 ≤ sizeLine; decide, fun t nt => bad sb _ _ (sp.trans (same_new nt)) upd_same⟩
          | true =>
            refine iteF ⟨_, rfl, s1.trans sp, fun m hm => ?_⟩
            rcases Nat.lt_or_ge m i with z | z
            · exact good m z
            · obtain rfl : m = i := by omega
              exact ⟨_, hd, sb⟩
      · rintro σ H1 ⟨y4, rfl, s1, good⟩
        rw [Int.toNat_natCast] at good
        have b : badKnot 0 ks = none := by
          rw [badKnot_at ks 0 ks.length (by rw [← kl]; exact good), List.drop_length]
          rfl
        refine ⟨by show 0 ≤ sizeLine; decide, fun M nM => ?_⟩
        have sM := s1.trans (same_new (o := .lst []) nM)
        refine ⟨_, rfl, al, _, rfl, .inr (rdT (el.mono sM)), _, rfl, by omega, by omega, for_range (lo := 0) (n := (((xl.length : Nat) : Int)).toNat)
          (fun i σ H2 => ∃ (y4 y6 : Option V) (seen : List En) (vs : List V), σ = [some (.ref a), some (.int n), some (.ref ak), some (.ref al), y4, some (.ref M), y6] ∧ Same H1 H2 ∧ H2 M = some (.lst vs) ∧ DVs H1 (seen.map endD) vs ∧ linesOf n ks.length [] 0 ls = linesOf n ks.length seen i (ls.drop i) ∧ seen.length = 2 * i)
          ⟨y4, none, [], [], rfl, same_new nM, upd_same, DVs.nil H1, rfl, rfl⟩ ?_ ?_⟩
        · rintro i σ H2 hi ⟨y4, y6, seen, vs, rfl, s2, eM, dM, run, sl⟩
          rw [Int.toNat_natCast] at hi
          rw [show (0 : Int) + ((i : Nat) : Int) = ((i : Nat) : Int) by omega]
          have s12 := s1.trans s2
          obtain ⟨v, hv⟩ : ∃ v, xl[i]? = some v := ⟨_, List.getElem?_eq_getElem hi⟩
          obtain ⟨d, hd, dv⟩ := hl.at hv
          have il := (List.getElem?_eq_some_iff.mp hd).1
          have dr : ls.drop i = d :: ls.drop (i + 1) := by
            rw [List.drop_eq_getElem_cons il]
            congr 1
            rw [List.getElem?_eq_getElem il] at hd
            exact Option.some.inj hd
          rw [dr] at run
          have wrong : lineOf n ks.length seen d = none → ∀ t H3, Same H1 H3 → H3 t = some (.tup [.str "lines", .int ((i : Nat) : Int)]) → Q (.ref t) H3 := fun e t H3 s3 et => by
            refine q _ _ (s1.trans s3) ?_
            have lr : linesOf n ks.length [] 0 ls = .inl i := by
              rw [run]
              unfold linesOf
              rw [e]
            have : faultIn n ks ls = some (("lines" : Str), some i) := by
              unfold faultIn
              rw [b]
              dsimp only
              rw [lr]
            rw [this]
            exact ⟨t, rfl, et⟩
          have dv2 := dv.mono s12
          obtain ⟨tt, yt, et⟩ := dv_ty (K := K) dv2 (C := "tuple") (.inr (.inr (.inr rfl)))
          refine ⟨_, rfl, _, rfl, al, _, _, v, rfl, rfl, rdT (el.mono s12), atI_of rfl hv, _, _, tt, _, _, rfl, .ty _, yt, et, _, rfl, ?_⟩
          cases c : clsB "tuple" d with
          | false =>
            have : lineOf n ks.length seen d = none := by
              unfold lineOf
              split
              · cases c
              · rfl
            refine iteT ?_; refine iteT ?_; exact ⟨_, rfl, by show 2 ≤ sizeLine; decide, fun t nt => wrong this _ _ (s2.trans (same_new nt)) upd_same⟩
          | true =>
            refine iteF ?_
            obtain ⟨ds, rfl⟩ : ∃ ds, d = .tuple ds := by
              cases d with
              | tuple ds => exact ⟨ds, rfl⟩
              | _ => cases c
            obtain ⟨eb, ys, rfl, reb, hy⟩ := dv.tup
            have yl := hy.len
            refine ⟨_, rfl, _, rfl, al, _, _, _, rfl, rfl, rdT (el.mono s12), atI_of rfl hv, eb, _, rfl, .inr (rdT (reb.mono s12)), rfl, ?_⟩
            by_cases c2 : ds.length = 2
            rotate_left
            · refine ⟨true, congrArg V.bl (congrArg Bool.not (decide_eq_false fun z => c2 (by have := V.int.inj z; omega))), ?_⟩
              have : lineOf n ks.length seen (.tuple ds) = none := if_neg c2
              refine iteT ?_; exact ⟨_, rfl, by show 2 ≤ sizeLine; decide, fun t nt => wrong this _ _ (s2.trans (same_new nt)) upd_same⟩
            refine ⟨false, congrArg V.bl (congrArg Bool.not (decide_eq_true (congrArg V.int (by omega)))), iteF ?_⟩
            have lE : lineOf n ks.length seen (.tuple ds) = collectE n ks.length seen ds := if_pos c2
            refine ⟨_, rfl, _, rfl, al, _, _, _, rfl, rfl, rdT (el.mono s12), atI_of rfl hv, eb, rfl, ⟨_, rdT (reb.mono s12)⟩, for_tup (K := K) (a := eb) (xs := ys)
              (fun j σ H3 => ∃ (y6 : Option V) (sj : List En) (ws : List V), σ = [some (.ref a), some (.int n), some (.ref ak), some (.ref al), some (.int ((i : Nat) : Int)), some (.ref M), y6] ∧ Same H1 H3 ∧ H3 M = some (.lst ws) ∧ DVs H1 (sj.map endD) ws ∧ collectE n ks.length seen ds = collectE n ks.length sj (ds.drop j) ∧ sj.length = seen.length + j)
              ⟨y6, seen, vs, rfl, s2, eM, dM, rfl, rfl⟩ (fun j σ H3 _ ⟨_, _, _, _, s3, _⟩ => rdT ((reb.mono s1).mono s3)) ?_ ?_⟩
            · rintro j ve σ H3 hj ⟨y6, sj, ws, rfl, s3, eM3, dM3, runj, sjl⟩
              obtain ⟨de, hde, dve⟩ := hy.at hj
              have jl : j < ds.length := (List.getElem?_eq_some_iff.mp hde).1
              have drj : ds.drop j = de :: ds.drop (j + 1) := by
                rw [List.drop_eq_getElem_cons jl]
                congr 1
                rw [List.getElem?_eq_getElem jl] at hde
                exact Option.some.inj hde
              rw [drj] at runj
              have s13 := s1.trans s3
              have dve1 := dve.mono s1
              have bad : collectE n ks.length sj (de :: ds.drop (j + 1)) = none → ∀ t H4, Same H3 H4 → H4 t = some (.tup [.str "lines", .int ((i : Nat) : Int)]) → Q (.ref t) H4 := fun e t H4 s4 et => wrong (by rw [lE, runj, e]) t H4 (s3.trans s4) et
              refine ⟨_, rfl, _, rfl, _, rfl, ak, _, rfl, .inr (rdT (ek.mono s13)), ve, de, n, ((xk.length : Nat) : Int), rfl, dve1.mono s3, by omega, _, rfl, ?_⟩
              rw [kl]
              cases hE : endOf n ks.length de with
              | none =>
                have cn : collectE n ks.length sj (de :: ds.drop (j + 1)) = none := by
                  unfold collectE
                  rw [hE]
                refine iteT ?_; refine iteT ?_; exact ⟨_, rfl, by show 2 ≤ sizeLine; decide, fun t nt => bad cn _ _ (same_new nt) upd_same⟩
              | some x =>
                refine iteF ?_
                obtain rfl : de = endD x := endOf_is hE
                refine ⟨_, rfl, _, rfl, in_ends eM3 (dM3.mono s3) (dve1.mono s3) ?_⟩
                refine ⟨_, rfl, ?_⟩
                by_cases m : x ∈ sj
                · rw [decide_eq_true m]
                  have cn : collectE n ks.length sj (endD x :: ds.drop (j + 1)) = none := by
                    unfold collectE
                    rw [hE]
                    exact if_pos m
                  refine iteT ?_; exact ⟨_, rfl, by show 2 ≤ sizeLine; decide, fun t nt => bad cn _ _ (same_new nt) upd_same⟩
                · rw [decide_eq_false m]
                  refine iteF ?_
                  have wl := dM3.len
                  rw [List.length_map] at wl
                  refine ⟨_, rfl, .inl ⟨rfl, _, sqL eM3⟩, _, rfl, M, _, ve, rfl, rfl, eM3, small_of (by omega), _, sj ++ [x], ws ++ [ve], rfl, same_mut s3 nM, upd_same, ?_, ?_, ?_⟩
                  · rw [List.map_append]
                    exact dM3.app (.cons dve1 (DVs.nil _))
                  · rw [runj]
                    conv => lhs; unfold collectE
                    rw [hE]
                    exact if_neg m
                  · rw [List.length_append, sjl]
                    show seen.length + j + 1 = _
                    omega
            · rintro σ H3 ⟨y6, sj, ws, rfl, s3, eM3, dM3, runj, sjl⟩
              rw [yl, List.drop_length] at runj
              refine ⟨_, _, sj, ws, rfl, s3, eM3, dM3, ?_, by omega⟩
              rw [run]
              have : lineOf n ks.length seen (.tuple ds) = some sj := by rw [lE, runj]; rfl
              show (match lineOf n ks.length seen (.tuple ds) with | none => Sum.inl i | some es => linesOf n ks.length es (i + 1) (ls.drop (i + 1))) = _
              rw [this]
        · rintro σ H2 ⟨y4, y6, seen, vs, rfl, s2, eM, dM, run, sl⟩
          rw [Int.toNat_natCast] at run sl
          rw [ll, List.drop_length] at run
          have lr : linesOf n ks.length [] 0 ls = .inr seen := run
          have sv : vs.length = 2 * ls.length := by
            have := dM.len
            rw [List.length_map] at this
            omega
          have f : faultIn n ks ls = if 2 * (ls.length : Int) = n + 3 * (ks.length : Int) then none else some (("ends" : Str), none) := by
            unfold faultIn
            rw [b]
            dsimp only
            rw [lr]
          rw [f] at q
          have s12 := s1.trans s2
          refine ⟨_, rfl, M, _, rfl, .inl (sqL eM), ?_⟩
          refine ⟨_, rfl, _, rfl, ak, _, rfl, .inr (rdT (ek.mono s12)), _, _, rfl, rfl, wide_mul (a := 4) (b := 12) (by decide) (by omega) (by decide) (by decide) (by decide), _, _, rfl, rfl, rfl, ?_⟩
          rw [kl, sv]
          by_cases e : 2 * (ls.length : Int) = n + 3 * (ks.length : Int)
          · rw [if_pos e] at q
            refine ⟨true, congrArg V.bl (decide_eq_true (congrArg V.int (by omega))), iteT ?_⟩
            exact q _ _ s12 rfl
          · rw [if_neg e] at q
            refine ⟨false, congrArg V.bl (decide_eq_false fun z => e (by have := V.int.inj z; omega)), iteF ⟨by show 2 ≤ sizeLine; decide, fun t nt => ?_⟩⟩
            exact q _ _ (s12.trans (same_new nt)) ⟨t, rfl, upd_same⟩
end
end KQ
/-! an order of nothing, or of more -/
namespace KQ
open PySem PySem.Spec PyProof.Rows L2 KR KM StX
section
variable {P : Program} {w : World} {K : PySem.W.Frag} {mg : Str → Option Value} {base : Heap}
def spOrder0 : Sp := fun vs H Q _ => ∃ m c g b many, vs = [.ref m, .int many] ∧ MS H m c g b ∧ b ≤ 100000 ∧ 0 ≤ many ∧ many ≤ 64 ∧
  ∀ H' l (ds : List Int), Kept H H' m g → MS H' m c g (b + many) → H' l = some (.lst (ds.map V.int)) → H l = none → ds.length = many.toNat → ds.Nodup → (∀ d ∈ ds, 0 ≤ d ∧ d < many) → Q (.ref l) H'
theorem ok_order0 (D : DefAt K mg "_law_order" s__law_order) (T : Bt mg) (u__law_draw : Use P w K mg base "_law_draw" 2 ["m", "limit"] spDraw) : Use P w K mg base "_law_order" 3 ["m", "many"] spOrder0 := by
  refine use_of D (fun f fd F => F.ok sc__law_order (fun vs H Q E h => ?_) (fun cdv A outer s H vs Q E hr h => ?_)) (fun _ _ _ _ _ _ us hl => match us, hl with | [_, _], _ => rfl)
  · obtain ⟨m, c, g, b, many, rfl, _⟩ := h
    rfl
  · obtain ⟨m, c, g, b, many, rfl, ms, hb, m1, m2, q⟩ := h
    refine ⟨_, (pss_cons (ps_set (i := 2) sc__law_order.nd rfl (Or.inr rfl) (pe_listRg rfl (by rfl) T.list (prg_1 (by rfl) T.range (pv 1))))
      (pss_one (ps_ret (pe_lc (own := [("turn", 3)]) rfl sc__law_order.nd (pi_range1 (by rfl) T.range (pa_cons (pv 1) pa_nil)) (blkOk_by (N := ["m", "many", "left", "turn"]) (sc := defScope s__law_order) (by decide +kernel)) (fun _ _ _ _ _ => (pg_name (i := 3) sc__law_order.nd rfl (Or.inl rfl))) (fun _ _ _ _ _ => pts_nil) (fun _ _ _ _ _ => (k_bm (K := K) rfl PySem.F.plainAttrs_list PySem.F.slot_list_pop PySem.F.type_list_pop mt_popAt (pv 2) (pa_cons (pe_use u__law_draw (by decide) hr (by rfl) (pa_cons (pv 0) (pa_cons (pe_callB (k_len (K := K) rfl) (by rfl) T.len PySem.boot_len (pa_cons (pv 2) pa_nil)) pa_nil))) pa_nil))))))), ?_⟩
    obtain ⟨mn, rfl⟩ : ∃ n : Nat, many = (n : Int) := ⟨many.toNat, by omega⟩
    refine ⟨_, rfl, _, rfl, RgOk.of_le (by omega) (by omega) (by omega) (by omega), fun l nl => ?_⟩
    rw [rgV_hv]
    refine ⟨_, rfl, _, rfl, by omega, by omega, fun L nL => ?_⟩
    have lL : l ≠ L := fun e => by rw [← e, upd_same] at nL; cases nL
    have nL0 : H L = none := (same_new nl).free nL
    have ms1 : MS (upd (upd H l (.lst (hv (List.range mn)))) L (.lst [])) m c g b := (ms.mono (same_new nl)).mono (same_new nL)
    refine lc_range (fun i H1 => Kept H H1 m g ∧ MS H1 m c g (b + (i : Nat)) ∧ ∃ os ls : List Nat, H1 l = some (.lst (hv ls)) ∧ H1 L = some (.lst (hv os)) ∧ os.length = i ∧ (os ++ ls).Perm (List.range mn))
      ⟨kept_mut (Kept.of (same_new nl)) nL0, by simpa using ms1, [], List.range mn, by rw [upd_ne lL, upd_same], by rw [upd_same]; rfl, rfl, List.Perm.refl _⟩ ?_ ?_
    · rintro i H1 hi ⟨kp, ms2, os, ls, el, eL, ol, pm⟩
      have hlen : ls.length = mn - i := by
        have := pm.length_eq
        rw [List.length_append, ol, List.length_range] at this
        omega
      have himn : i < mn := by omega
      refine ⟨rfl, _, rfl, .inl ⟨rfl, _, .inl (.inl el)⟩, _, rfl, _, rfl, l, _, rfl, .inl (sqL el), m, c, g, _, _, rfl, ms2, by omega, ?_, ?_, fun H2 d k2 ms3 d0 d1 => ?_⟩
      · unfold hv
        rw [List.length_map]
        omega
      · unfold hv
        rw [List.length_map]
        omega
      have hvl : (hv ls).length = ls.length := by unfold hv; rw [List.length_map]
      rw [hvl] at d1
      obtain ⟨x, hx⟩ : ∃ x, ls[d.toNat]? = some x := ⟨_, List.getElem?_eq_getElem (by omega)⟩
      have lm : l ≠ m ∧ l ≠ g := by
        have := ms.ne nl
        exact ⟨this.1, this.2.2⟩
      have Lm : L ≠ m ∧ L ≠ g := by
        have := ms.ne nL0
        exact ⟨this.1, this.2.2⟩
      have el2 := k2 l _ el lm.1 lm.2
      have eL2 := k2 L _ eL Lm.1 Lm.2
      refine ⟨l, hv ls, d, d.toNat, .int ((x : Nat) : Int), rfl, rfl, el2, by omega, by omega, ?_, at_map hx, ?_⟩
      · have := (ixN_seq (ixN_of (n := ls.length) d0 d1)).1
        rw [hvl]
        exact this
      refine ⟨_, by rw [upd_ne lL.symm]; exact eL2, ?_, ?_⟩
      · unfold hv
        rw [List.length_map]
        exact small_of (by omega)
      refine ⟨kept_mut (kept_mut (kp.trans k2) nl) nL0, ?_, os ++ [x], ls.eraseIdx d.toNat, ?_, ?_, ?_, ?_⟩
      · have := ms3
        have n1 := ms.ne nl
        have n2 := ms.ne nL0
        rw [show b + ((i + 1 : Nat) : Int) = b + (i : Nat) + 1 by omega]
        exact (ms3.put n1.1 n1.2.1 n1.2.2).put n2.1 n2.2.1 n2.2.2
      · rw [upd_ne lL, upd_same]
        unfold hv
        rw [erase_map]
      · rw [upd_same]
        unfold hv
        rw [List.map_append]
        rfl
      · rw [List.length_append, ol]
        rfl
      · rw [List.append_assoc]
        exact (List.Perm.append_left os (erase_perm hx)).trans pm
    · rintro H1 ⟨kp, ms2, os, ls, el, eL, ol, pm⟩
      have l0 : ls = [] := by
        have := pm.length_eq
        rw [List.length_append, ol, List.length_range] at this
        exact List.length_eq_zero_iff.mp (by omega)
      subst l0
      rw [List.append_nil] at pm
      rw [show ((((mn : Nat) : Int)).toNat : Nat) = mn by omega] at ms2
      refine q H1 L (os.map fun x => ((x : Nat) : Int)) kp ms2 ?_ nL0 ?_ ?_ ?_
      · rw [eL, List.map_map]
        rfl
      · rw [List.length_map, ol]
      · exact List.pairwise_map.mpr ((pm.nodup_iff.mpr List.nodup_range).imp fun h e => h (by omega))
      · intro d hd
        obtain ⟨x, hx, rfl⟩ := List.mem_map.mp hd
        have := List.mem_range.mp (pm.mem_iff.mp hx)
        omega
end
end KQ
/-! min and max of two rows: told one by one, in a tuple, in a list -/
namespace PySem
open Sem (wp)
open PySem.Spec PyProof.Rows PySem.W PySem.SeqAt PySem.Calls
section
variable {prog : Program} {w : World} {A : Around} {E : Value → Shared → Prop} {s : Shared}
theorem call_min_twoH {a b : Value} {Q : Value → Shared → Prop}
    (h : wpAny (model prog w) A.in1 (pyIter (.ref s.heap.objs.size)) (fun it s₂ => ∃ I fp wr G n P St H bt, it = .ref I ∧ WalksS prog w A.in1 I fp wr G n P St ∧ St 0 s₂ ∧ (∀ b ∈ fp, b < s₂.heap.objs.size) ∧ 0 < n ∧
      (∀ b o, H.get? b = some o → b ∉ wr) ∧ (∀ b o, H.get? b = some o → s₂.heap.get? b = some o) ∧ CmpIn prog w A.in1 .Lt H P bt ∧ ∀ v s', P (argBest bt (n - 1)) v → Moved wr G s₂ s' → Q v s') E
      { s with heap := s.heap.push { cls := .type "tuple", data := .seq #[a, b] } }) :
    wpAny (model prog w) A (call (.builtin "min") [a, b]) Q E s := by
  have hname : (toString "min" ++ toString ".loop" : String) = "min.loop" := by decide
  refine call_function_tree F.kind_min F.plain_min F.entry_min (F.args_min2 _ _) ?_
  show wpAny _ A.in1 (Builtin.Builtins.bindParams "min" ["key", "default"] 0 ⟨[], []⟩ >>= _) _ _ s
  refine wpAny_bind (wpAny_of_eq (show Builtin.Builtins.bindParams "min" ["key", "default"] 0 ⟨[], []⟩ = pure [none, none] from rfl) ?_)
  show wpAny _ A.in1 (newTuple [a, b] >>= _) _ _ s
  refine wpAny_bind (wpAny_newObj_type ?_)
  refine wpAny_bind (wpAny_mono h (fun it s₂ h₂ => ?_) fun _ _ e => e)
  obtain ⟨I, fp, wr, G, n, P, St, H, bt, rfl, W, hst, hfp, hn, hw, hkeep, hcmp, hQ⟩ := h₂
  refine wpAny_bind (wpAny_newObj_type ?_)
  have hSf : s₂.heap.objs.size ∉ fp := fun hm => Nat.lt_irrefl _ (hfp _ hm)
  rw [hname]
  refine wpAny_pure ⟨plainId_quiet F.plain_min_loop _, codeAny_min_loop_firstH W H hw bt hcmp s₂.heap.objs.size hSf (fresh_in hkeep) _ hn (fun b o e => Heap.get?_push_of_some _ (hkeep b o e)) (W.frame 0 s₂ _ s₂.toks hst (Nat.le_refl _) fun b _ o e => Heap.get?_push_of_some _ e) (Heap.get?_push_size _ rfl) fun v s' hP hm => ?_⟩
  exact hQ v s' hP (Moved.drop_new (tk := s₂.toks) hm (Nat.le_refl _))
theorem call_max_twoH {a b : Value} {Q : Value → Shared → Prop}
    (h : wpAny (model prog w) A.in1 (pyIter (.ref s.heap.objs.size)) (fun it s₂ => ∃ I fp wr G n P St H bt, it = .ref I ∧ WalksS prog w A.in1 I fp wr G n P St ∧ St 0 s₂ ∧ (∀ b ∈ fp, b < s₂.heap.objs.size) ∧ 0 < n ∧
      (∀ b o, H.get? b = some o → b ∉ wr) ∧ (∀ b o, H.get? b = some o → s₂.heap.get? b = some o) ∧ CmpIn prog w A.in1 .Gt H P bt ∧ ∀ v s', P (argBest bt (n - 1)) v → Moved wr G s₂ s' → Q v s') E
      { s with heap := s.heap.push { cls := .type "tuple", data := .seq #[a, b] } }) :
    wpAny (model prog w) A (call (.builtin "max") [a, b]) Q E s := by
  have hname : (toString "max" ++ toString ".loop" : String) = "max.loop" := by decide
  refine call_function_tree F.kind_max F.plain_max F.entry_max (F.args_max2 _ _) ?_
  show wpAny _ A.in1 (Builtin.Builtins.bindParams "max" ["key", "default"] 0 ⟨[], []⟩ >>= _) _ _ s
  refine wpAny_bind (wpAny_of_eq (show Builtin.Builtins.bindParams "max" ["key", "default"] 0 ⟨[], []⟩ = pure [none, none] from rfl) ?_)
  show wpAny _ A.in1 (newTuple [a, b] >>= _) _ _ s
  refine wpAny_bind (wpAny_newObj_type ?_)
  refine wpAny_bind (wpAny_mono h (fun it s₂ h₂ => ?_) fun _ _ e => e)
  obtain ⟨I, fp, wr, G, n, P, St, H, bt, rfl, W, hst, hfp, hn, hw, hkeep, hcmp, hQ⟩ := h₂
  refine wpAny_bind (wpAny_newObj_type ?_)
  have hSf : s₂.heap.objs.size ∉ fp := fun hm => Nat.lt_irrefl _ (hfp _ hm)
  rw [hname]
  refine wpAny_pure ⟨plainId_quiet F.plain_max_loop _, codeAny_max_loop_firstH W H hw bt hcmp s₂.heap.objs.size hSf (fresh_in hkeep) _ hn (fun b o e => Heap.get?_push_of_some _ (hkeep b o e)) (W.frame 0 s₂ _ s₂.toks hst (Nat.le_refl _) fun b _ o e => Heap.get?_push_of_some _ e) (Heap.get?_push_size _ rfl) fun v s' hP hm => ?_⟩
  exact hQ v s' hP (Moved.drop_new (tk := s₂.toks) hm (Nat.le_refl _))
theorem pick2 {a b v : Value} {f : Nat → Nat → Bool} (h : (#[a, b] : Array Value)[argBest f (2 - 1)]? = some v) : v = if f 1 0 = true then b else a := by
  have e : argBest f (2 - 1) = if f 1 0 = true then 1 else 0 := rfl
  rw [e] at h
  cases c : f 1 0 with
  | true =>
    rw [c] at h
    exact (Option.some.inj h).symm
  | false =>
    rw [c] at h
    exact (Option.some.inj h).symm
variable {l : Addr} {a b : Value} {x y : PyData} {as : List Addr} {Q : Value → Shared → Prop}
theorem min_tup2 (hh : A.handled = none) (hl : s.heap.IsTuple l #[a, b]) (hr : ReadsAll s.heap [a, b] [x, y] as) (ha : AlikeAll [x, y]) (hu : A.units + 1 + PyData.depthAll [x, y] < cLine)
    (h : ∀ h' tk, (∀ b o, s.heap.get? b = some o → h'.get? b = some o) → Q (if dataLt y x = true then b else a) { s with heap := h', toks := tk }) : wpAny (model prog w) A (call (.builtin "min") [.ref l]) Q E s := by
  refine call_min_walkH (iter_tupleW (A := A.in1) hh hl fun s₂ e W st hfp hw hk => ?_)
  refine ⟨_, _, _, _, _, _, _, s.heap, _, rfl, W, st, hfp, (by show 0 < 2; decide), hw, hk, cmpIn_lt (A := A.in1) (vs := #[a, b]) hr ha (by show A.units + 1 + _ < _; exact hu), fun v s' hP m => ?_⟩
  obtain ⟨h', tk, rfl, hk'⟩ := moved_old e rfl m
  rw [pick2 hP]
  exact h h' tk hk'
theorem max_tup2 (hh : A.handled = none) (hl : s.heap.IsTuple l #[a, b]) (hr : ReadsAll s.heap [a, b] [x, y] as) (ha : AlikeAll [x, y]) (hu : A.units + 1 + PyData.depthAll [x, y] < cLine)
    (h : ∀ h' tk, (∀ b o, s.heap.get? b = some o → h'.get? b = some o) → Q (if dataLt x y = true then b else a) { s with heap := h', toks := tk }) : wpAny (model prog w) A (call (.builtin "max") [.ref l]) Q E s := by
  refine call_max_walkH (iter_tupleW (A := A.in1) hh hl fun s₂ e W st hfp hw hk => ?_)
  refine ⟨_, _, _, _, _, _, _, s.heap, _, rfl, W, st, hfp, (by show 0 < 2; decide), hw, hk, cmpIn_gt (A := A.in1) (vs := #[a, b]) hr ha (by show A.units + 1 + _ < _; exact hu), fun v s' hP m => ?_⟩
  obtain ⟨h', tk, rfl, hk'⟩ := moved_old e rfl m
  rw [pick2 hP]
  exact h h' tk hk'
theorem min_lst2 (hh : A.handled = none) (hl : s.heap.IsList l #[a, b]) (hr : ReadsAll s.heap [a, b] [x, y] as) (ha : AlikeAll [x, y]) (hu : A.units + 1 + PyData.depthAll [x, y] < cLine)
    (h : ∀ h' tk, (∀ b o, s.heap.get? b = some o → h'.get? b = some o) → Q (if dataLt y x = true then b else a) { s with heap := h', toks := tk }) : wpAny (model prog w) A (call (.builtin "min") [.ref l]) Q E s := by
  refine call_min_walkH (iter_listW (A := A.in1) hh hl fun s₂ e W st hfp hw hk => ?_)
  refine ⟨_, _, _, _, _, _, _, s.heap, _, rfl, W, st, hfp, (by show 0 < 2; decide), hw, hk, cmpIn_lt (A := A.in1) (vs := #[a, b]) hr ha (by show A.units + 1 + _ < _; exact hu), fun v s' hP m => ?_⟩
  obtain ⟨h', tk, rfl, hk'⟩ := moved_old e rfl m
  rw [pick2 hP]
  exact h h' tk hk'
theorem max_lst2 (hh : A.handled = none) (hl : s.heap.IsList l #[a, b]) (hr : ReadsAll s.heap [a, b] [x, y] as) (ha : AlikeAll [x, y]) (hu : A.units + 1 + PyData.depthAll [x, y] < cLine)
    (h : ∀ h' tk, (∀ b o, s.heap.get? b = some o → h'.get? b = some o) → Q (if dataLt x y = true then b else a) { s with heap := h', toks := tk }) : wpAny (model prog w) A (call (.builtin "max") [.ref l]) Q E s := by
  refine call_max_walkH (iter_listW (A := A.in1) hh hl fun s₂ e W st hfp hw hk => ?_)
  refine ⟨_, _, _, _, _, _, _, s.heap, _, rfl, W, st, hfp, (by show 0 < 2; decide), hw, hk, cmpIn_gt (A := A.in1) (vs := #[a, b]) hr ha (by show A.units + 1 + _ < _; exact hu), fun v s' hP m => ?_⟩
  obtain ⟨h', tk, rfl, hk'⟩ := moved_old e rfl m
  rw [pick2 hP]
  exact h h' tk hk'
theorem min_arg2 (hh : A.handled = none) (hr : ReadsAll s.heap [a, b] [x, y] as) (ha : AlikeAll [x, y]) (hu : A.units + 1 + PyData.depthAll [x, y] < cLine)
    (h : ∀ h' tk, (∀ b o, s.heap.get? b = some o → h'.get? b = some o) → Q (if dataLt y x = true then b else a) { s with heap := h', toks := tk }) : wpAny (model prog w) A (call (.builtin "min") [a, b]) Q E s := by
  have hT : (s.heap.push { cls := .type "tuple", data := .seq #[a, b] }).IsTuple s.heap.objs.size #[a, b] := ⟨_, Heap.get?_push_size _ rfl, rfl, 0, rfl⟩
  refine call_min_twoH (iter_tupleW (A := A.in1) (s := { s with heap := s.heap.push { cls := .type "tuple", data := .seq #[a, b] } }) hh hT fun s₂ e W st hfp hw hk => ?_)
  have hr2 : ReadsAll (s.heap.push { cls := .type "tuple", data := .seq #[a, b] }) [a, b] [x, y] as := ReadsAll.keeps (fun _ _ e => Heap.get?_push_of_some _ e) hr
  refine ⟨_, _, _, _, _, _, _, s.heap.push { cls := .type "tuple", data := .seq #[a, b] }, _, rfl, W, st, hfp, (by show 0 < 2; decide), hw, hk, cmpIn_lt (A := A.in1) (vs := #[a, b]) (s := { s with heap := s.heap.push { cls := .type "tuple", data := .seq #[a, b] } }) hr2 ha (by show A.units + 1 + _ < _; exact hu), fun v s' hP m => ?_⟩
  obtain ⟨h', tk, rfl, hk'⟩ := moved_old e rfl m
  rw [pick2 hP]
  exact h h' tk fun b o eb => hk' b o (Heap.get?_push_of_some _ eb)
theorem max_arg2 (hh : A.handled = none) (hr : ReadsAll s.heap [a, b] [x, y] as) (ha : AlikeAll [x, y]) (hu : A.units + 1 + PyData.depthAll [x, y] < cLine)
    (h : ∀ h' tk, (∀ b o, s.heap.get? b = some o → h'.get? b = some o) → Q (if dataLt x y = true then b else a) { s with heap := h', toks := tk }) : wpAny (model prog w) A (call (.builtin "max") [a, b]) Q E s := by
  have hT : (s.heap.push { cls := .type "tuple", data := .seq #[a, b] }).IsTuple s.heap.objs.size #[a, b] := ⟨_, Heap.get?_push_size _ rfl, rfl, 0, rfl⟩
  refine call_max_twoH (iter_tupleW (A := A.in1) (s := { s with heap := s.heap.push { cls := .type "tuple", data := .seq #[a, b] } }) hh hT fun s₂ e W st hfp hw hk => ?_)
  have hr2 : ReadsAll (s.heap.push { cls := .type "tuple", data := .seq #[a, b] }) [a, b] [x, y] as := ReadsAll.keeps (fun _ _ e => Heap.get?_push_of_some _ e) hr
  refine ⟨_, _, _, _, _, _, _, s.heap.push { cls := .type "tuple", data := .seq #[a, b] }, _, rfl, W, st, hfp, (by show 0 < 2; decide), hw, hk, cmpIn_gt (A := A.in1) (vs := #[a, b]) (s := { s with heap := s.heap.push { cls := .type "tuple", data := .seq #[a, b] } }) hr2 ha (by show A.units + 1 + _ < _; exact hu), fun v s' hP m => ?_⟩
  obtain ⟨h', tk, rfl, hk'⟩ := moved_old e rfl m
  rw [pick2 hP]
  exact h h' tk fun b o eb => hk' b o (Heap.get?_push_of_some _ eb)
end
end PySem
namespace KQ
open PySem PySem.Spec PyProof.Rows L2 KR KM StX PySem.W
theorem dpAll_intsG {K : PySem.W.Frag} {H : Hp} : ∀ xs : List Int, DpAll K H (xs.map V.int) (xs.map PyData.int)
  | [] => .nil
  | x :: r => .cons (.int x) (dpAll_intsG r)
/-- the two rows that min and max look at: told, in a tuple, in a list -/
def TwoR (K : PySem.W.Frag) (H : Hp) (vs : List V) (t1 t2 : Addr) (r s : List Int) : Prop :=
  (vs = [.ref t1, .ref t2] ∨ ∃ l, vs = [.ref l] ∧ (SqT K H l [.ref t1, .ref t2] ∨ SqL K H l [.ref t1, .ref t2])) ∧ SqT K H t1 (r.map V.int) ∧ SqT K H t2 (s.map V.int)
def rMnE (K : PySem.W.Frag) : List V → Hp → VK → Prop := fun vs H Q => ∃ t1 t2 r s, TwoR K H vs t1 t2 r s ∧ Q (.ref (if dataLt (rowD s) (rowD r) = true then t2 else t1)) H
def rMxE (K : PySem.W.Frag) : List V → Hp → VK → Prop := fun vs H Q => ∃ t1 t2 r s, TwoR K H vs t1 t2 r s ∧ Q (.ref (if dataLt (rowD r) (rowD s) = true then t2 else t1)) H
theorem alike_two (r s : List Int) : AlikeAll [rowD r, rowD s] := by
  have al : ∀ u v : List Int, alike (rowD u) (rowD v) = true := fun u v => by
    show alike (.tuple _) (.tuple _) = true
    rw [alike]
    exact alike_ints u v
  refine ⟨fun x hx y hy => ?_, fun x hx => ?_⟩
  · rcases List.mem_cons.mp hx with rfl | hx
    · rcases List.mem_cons.mp hy with rfl | hy
      · exact al _ _
      · obtain rfl := List.mem_singleton.mp hy
        exact al _ _
    · obtain rfl := List.mem_singleton.mp hx
      rcases List.mem_cons.mp hy with rfl | hy
      · exact al _ _
      · obtain rfl := List.mem_singleton.mp hy
        exact al _ _
  · rcases List.mem_cons.mp hx with rfl | hx
    · exact fun h => by cases h
    · obtain rfl := List.mem_singleton.mp hx
      exact fun h => by cases h
theorem depth_two (r s : List Int) : PyData.depthAll [rowD r, rowD s] ≤ 1 := depth_rowsG [r, s]
section
variable {X : Cx} {K : PySem.W.Frag}
theorem k_mnE (hK : X.K = K) (hc : X.calm = true) (hu : X.A.units + 64 < cLine) : CallR X (.builtin "min") (rMnE K) := by
  subst hK
  intro pins st σ H vs us Q I rv h
  obtain ⟨t1, t2, r, s, ⟨hv, h1, h2⟩, q⟩ := h
  obtain ⟨as1, r1⟩ := Dp.reads I (rowD r) (.ref t1) (.ref t1) (.tup h1 (dpAll_intsG r)) rfl
  obtain ⟨as2, r2⟩ := Dp.reads I (rowD s) (.ref t2) (.ref t2) (.tup h2 (dpAll_intsG s)) rfl
  have rr := ReadsAll.cons r1 (ReadsAll.cons r2 ReadsAll.nil)
  have dd := depth_two r s
  have fin : ∀ h' tk, (∀ b o, st.heap.get? b = some o → h'.get? b = some o) → EP X pins σ Q (if dataLt (rowD s) (rowD r) = true then .ref t2 else .ref t1) { st with heap := h', toks := tk } := fun h' tk k => ⟨_, H, I.kept k, by
    cases dataLt (rowD s) (rowD r) <;> rfl, q⟩
  rcases hv with rfl | ⟨l, rfl, hl | hl⟩
  · obtain ⟨u, v, rfl, ru, rw'⟩ := vals2 rv
    cases ru
    cases rw'
    exact min_arg2 (I.ok.hd hc) rr (alike_two r s) (by omega) fin
  · obtain ⟨u, rfl, ru⟩ := vals1 rv
    cases ru
    obtain ⟨its, rits, hits, _⟩ := I.tuple hl
    obtain ⟨u, v, rfl, ru, rw'⟩ := vals2 rits
    cases ru
    cases rw'
    exact min_tup2 (I.ok.hd hc) hits rr (alike_two r s) (by omega) fin
  · obtain ⟨u, rfl, ru⟩ := vals1 rv
    cases ru
    obtain ⟨its, rits, hits, _⟩ := I.list hl
    obtain ⟨u, v, rfl, ru, rw'⟩ := vals2 rits
    cases ru
    cases rw'
    exact min_lst2 (I.ok.hd hc) hits.isList rr (alike_two r s) (by omega) fin
theorem k_mxE (hK : X.K = K) (hc : X.calm = true) (hu : X.A.units + 64 < cLine) : CallR X (.builtin "max") (rMxE K) := by
  subst hK
  intro pins st σ H vs us Q I rv h
  obtain ⟨t1, t2, r, s, ⟨hv, h1, h2⟩, q⟩ := h
  obtain ⟨as1, r1⟩ := Dp.reads I (rowD r) (.ref t1) (.ref t1) (.tup h1 (dpAll_intsG r)) rfl
  obtain ⟨as2, r2⟩ := Dp.reads I (rowD s) (.ref t2) (.ref t2) (.tup h2 (dpAll_intsG s)) rfl
  have rr := ReadsAll.cons r1 (ReadsAll.cons r2 ReadsAll.nil)
  have dd := depth_two r s
  have fin : ∀ h' tk, (∀ b o, st.heap.get? b = some o → h'.get? b = some o) → EP X pins σ Q (if dataLt (rowD r) (rowD s) = true then .ref t2 else .ref t1) { st with heap := h', toks := tk } := fun h' tk k => ⟨_, H, I.kept k, by
    cases dataLt (rowD r) (rowD s) <;> rfl, q⟩
  rcases hv with rfl | ⟨l, rfl, hl | hl⟩
  · obtain ⟨u, v, rfl, ru, rw'⟩ := vals2 rv
    cases ru
    cases rw'
    exact max_arg2 (I.ok.hd hc) rr (alike_two r s) (by omega) fin
  · obtain ⟨u, rfl, ru⟩ := vals1 rv
    cases ru
    obtain ⟨its, rits, hits, _⟩ := I.tuple hl
    obtain ⟨u, v, rfl, ru, rw'⟩ := vals2 rits
    cases ru
    cases rw'
    exact max_tup2 (I.ok.hd hc) hits rr (alike_two r s) (by omega) fin
  · obtain ⟨u, rfl, ru⟩ := vals1 rv
    cases ru
    obtain ⟨its, rits, hits, _⟩ := I.list hl
    obtain ⟨u, v, rfl, ru, rw'⟩ := vals2 rits
    cases ru
    cases rw'
    exact max_lst2 (I.ok.hd hc) hits.isList rr (alike_two r s) (by omega) fin
end
end KQ
namespace KQ
open PySem PySem.Spec PyProof.Rows L2 KR KM StX
section
variable {P : Program} {w : World} {K : PySem.W.Frag} {mg : Str → Option Value} {base : Heap}
def spOfA : Sp := fun vs H Q _ => ∃ (m c g : Addr) (b : Int) (l : Addr) (xs : List V), vs = [.ref m, .ref l] ∧ MS H m c g b ∧ b ≤ 1000000 ∧ H l = some (.lst xs) ∧ l ≠ g ∧ xs ≠ [] ∧ xs.length ≤ 1000000 ∧
  ∀ H' x, Kept H H' m g → MS H' m c g (b + 1) → x ∈ xs → Q x H'
theorem ok_ofA (D : DefAt K mg "_law_of" s__law_of) (T : Bt mg) (u__law_draw : Use P w K mg base "_law_draw" 2 ["m", "limit"] spDraw) : Use P w K mg base "_law_of" 3 ["m", "some"] spOfA := by
  refine use_of D (fun f fd F => F.ok sc__law_of (fun vs H Q E h => ?_) (fun cdv A outer s H vs Q E hr h => ?_)) (fun _ _ _ _ _ _ us hl => match us, hl with | [_, _], _ => rfl)
  · obtain ⟨m, c, g, b, l, xs, rfl, _⟩ := h
    rfl
  · obtain ⟨m, c, g, b, l, xs, rfl, ms, hb, el, lg, ne, hle, q⟩ := h
    refine ⟨_, (pss_one (ps_ret (pe_ix (k_ixl (K := K) rfl) (pv 1) (pe_use u__law_draw (by decide) hr (by rfl) (pa_cons (pv 0) (pa_cons (pe_callB (k_len (K := K) rfl) (by rfl) T.len PySem.boot_len (pa_cons (pv 1) pa_nil)) pa_nil))) (fun _ _ => rfl)))), ?_⟩
    have lm : l ≠ m := by
      obtain ⟨cs, gs, k, h1, h2, h3, r⟩ := ms
      intro e
      rw [e, h1] at el
      cases el
    have pos := List.length_pos_iff.mpr ne
    refine ⟨_, rfl, _, rfl, _, rfl, l, _, rfl, .inl (sqL el), m, c, g, b, _, rfl, ms, hb, by omega, by omega, fun H1 d k1 ms1 d0 d1 => ?_⟩
    obtain ⟨x, hx⟩ := at_some (xs := xs) (i := d.toNat) (by omega)
    exact ⟨l, _, d, x, rfl, rfl, sqL (k1 _ _ el lm lg), atI_of (j := d.toNat) (by omega) hx, q H1 x k1 ms1 (List.mem_of_getElem? hx)⟩
end
end KQ
namespace KQ
open PySem PySem.Spec PyProof.Rows L2 KR KM StX
section
variable {P : Program} {w : World} {K : PySem.W.Frag} {mg : Str → Option Value} {base : Heap}
abbrev s__law_any_piece : Stmt := topS 31
theorem sc__law_any_piece : FnScope ["m", "doors", "most", "knots", "ends", "knot", "order", "lines", "n", "one", "two", "turn", "door"] ["m", "doors", "most"] (defScope s__law_any_piece) := ⟨rfl, rfl, rfl, by decide +kernel, rfl, by decide +kernel, by decide +kernel⟩
def spAnyP : Sp := fun vs H Q _ => ∃ (m c g : Addr) (b doors : Int), vs = [.ref m, .int doors, .int 4] ∧ MS H m c g b ∧ b ≤ 90000 ∧ 0 ≤ doors ∧ doors ≤ 4 ∧
  ∀ H' v xs zs, Kept H H' m g → MS H' m c g (b + 200) → PieceB (Out m g H') v doors xs zs → xs.length ≤ 5 → zs.length ≤ 12 → Q v H'
theorem ok_any_piece (D : DefAt K mg "_law_any_piece" s__law_any_piece) (T : Bt mg) (u__law_draw : Use P w K mg base "_law_draw" 2 ["m", "limit"] spDraw) (u__law_of : Use P w K mg base "_law_of" 3 ["m", "some"] spOfA) (u__law_order : Use P w K mg base "_law_order" 3 ["m", "many"] spOrder0) : Use P w K mg base "_law_any_piece" 4 ["m", "doors", "most"] spAnyP := by
  refine use_of D (fun f fd F => F.ok sc__law_any_piece (fun vs H Q E h => ?_) (fun cdv A outer s H vs Q E hr h => ?_)) (fun _ _ _ _ _ _ us hl => match us, hl with | [_, _, _], _ => rfl)
  · obtain ⟨m, c, g, b, doors, rfl, _⟩ := h
    rfl
  · obtain ⟨m, c, g, b, doors, rfl, ms, hb, d0, d4, q⟩ := h
    refine ⟨_, (pss_cons (ps_setLc (i := 3) (own := [("turn", 11)]) rfl sc__law_any_piece.nd rfl rfl (sw_true rfl rfl rfl (by decide +kernel)) (pi_range1 (by rfl) T.range (pa_cons (pe_use u__law_draw (by decide) hr (by rfl) (pa_cons (pv 0) (pa_cons (pe_op op_add (pv 2) pe_int) pa_nil))) pa_nil)) (blkOk_by (N := ["m", "doors", "most", "knots", "ends", "knot", "order", "lines", "n", "one", "two", "turn", "door"]) (sc := defScope s__law_any_piece) (by decide +kernel)) (fun _ _ _ _ _ => (pg_name (i := 11) sc__law_any_piece.nd rfl (Or.inl rfl))) (fun _ _ _ _ _ => pts_nil) (fun _ _ _ _ _ => (pe_use u__law_of (by decide) hr (by rfl) (pa_cons (pv 0) (pa_cons (pe_lst (pa_cons pe_str (pa_cons pe_str pa_nil))) pa_nil)))))
      (pss_cons (ps_if (pt_cmpR op_eq (pe_op op_modN (pe_callTy call_int1 (by rfl) T.int (by decide +kernel) (pa_cons (pe_op op_add (pe_op op_mulW pe_int (pe_callB (k_len (K := K) rfl) (by rfl) T.len PySem.boot_len (pa_cons (pv 3) pa_nil))) (pv 1)) pa_nil)) pe_int) pe_int (nomark _)) (pss_one (ps_expr (k_bm (K := K) rfl PySem.F.plainAttrs_list PySem.F.slot_list_append PySem.F.type_list_append mt_append (pv 3) (pa_cons (pe_use u__law_of (by decide) hr (by rfl) (pa_cons (pv 0) (pa_cons (pe_lst (pa_cons pe_str (pa_cons pe_str pa_nil))) pa_nil))) pa_nil)))) pss_nil)
      (pss_cons (ps_setLc (i := 4) (own := [("door", 12)]) rfl sc__law_any_piece.nd rfl rfl (sw_true rfl rfl rfl (by decide +kernel)) (pi_range1 (by rfl) T.range (pa_cons (pv 1) pa_nil)) (blkOk_by (N := ["m", "doors", "most", "knots", "ends", "knot", "order", "lines", "n", "one", "two", "turn", "door"]) (sc := defScope s__law_any_piece) (by decide +kernel)) (fun _ _ _ _ _ => (pg_name (i := 12) sc__law_any_piece.nd rfl (Or.inl rfl))) (fun _ _ _ _ _ => pts_nil) (fun _ _ _ _ _ => (pe_tup (pa_cons (pe_un un_neg pe_int) (pa_cons (pv 12) pa_nil)))))
      (pss_cons (ps_for PassesOwn.never rfl (pi_range1 (by rfl) T.range (pa_cons (pe_callB (k_len (K := K) rfl) (by rfl) T.len PySem.boot_len (pa_cons (pv 3) pa_nil)) pa_nil)) (pg_name (i := 5) sc__law_any_piece.nd rfl (Or.inl rfl))
      (pss_one (ps_expr (k_bm (K := K) rfl PySem.F.plainAttrs_list PySem.F.slot_list_extend PySem.F.type_list_extend mt_extend (pv 4) (pa_cons (pe_lst (pa_cons (pe_tup (pa_cons (pv 5) (pa_cons pe_int pa_nil))) (pa_cons (pe_tup (pa_cons (pv 5) (pa_cons pe_int pa_nil))) (pa_cons (pe_tup (pa_cons (pv 5) (pa_cons pe_int pa_nil))) pa_nil)))) pa_nil)))))
      (pss_cons (ps_set (i := 6) sc__law_any_piece.nd rfl (Or.inl rfl) (pe_use u__law_order (by decide) hr (by rfl) (pa_cons (pv 0) (pa_cons (pe_callB (k_len (K := K) rfl) (by rfl) T.len PySem.boot_len (pa_cons (pv 4) pa_nil)) pa_nil))))
      (pss_cons (ps_set (i := 7) sc__law_any_piece.nd rfl (Or.inl rfl) (pe_lst pa_nil))
      (pss_cons (ps_for PassesOwn.never rfl (pi_range3 (by rfl) T.range (pa_cons pe_int (pa_cons (pe_callB (k_len (K := K) rfl) (by rfl) T.len PySem.boot_len (pa_cons (pv 4) pa_nil)) (pa_cons pe_int pa_nil)))) (pg_name (i := 8) sc__law_any_piece.nd rfl (Or.inl rfl))
      (pss_cons (ps_par (i := 9) (j := 10) rfl sc__law_any_piece.nd rfl rfl (by decide) rfl rfl (pa_cons (pe_ix (k_ixl (K := K) rfl) (pv 4) (pe_ix (k_ixl (K := K) rfl) (pv 6) (pv 8) (fun _ _ => rfl)) (fun _ _ => rfl)) (pa_cons (pe_ix (k_ixl (K := K) rfl) (pv 4) (pe_ix (k_ixl (K := K) rfl) (pv 6) (pe_op op_add (pv 8) pe_int) (fun _ _ => rfl)) (fun _ _ => rfl)) pa_nil)) (by rfl))
      (pss_one (ps_expr (k_bm (K := K) rfl PySem.F.plainAttrs_list PySem.F.slot_list_append PySem.F.type_list_append mt_append (pv 7) (pa_cons (pe_tup (pa_cons (pe_callB (k_mnE (K := K) rfl rfl hr.units) (by rfl) T.min (by decide +kernel) (pa_cons (pv 9) (pa_cons (pv 10) pa_nil))) (pa_cons (pe_callB (k_mxE (K := K) rfl rfl hr.units) (by rfl) T.max (by decide +kernel) (pa_cons (pv 9) (pa_cons (pv 10) pa_nil))) pa_nil))) pa_nil))))))
      (pss_one (ps_ret (pe_tup (pa_cons (pv 1) (pa_cons (pe_callTy (k_tupB (K := K) rfl) (by rfl) T.tuple (by decide +kernel) (pa_cons (pv 3) pa_nil)) (pa_cons (pe_callTy (k_tupB (K := K) rfl) (by rfl) T.tuple (by decide +kernel) (pa_cons (pe_callB (k_sortNI (K := K) rfl hr.units) (by rfl) T.sorted (by decide +kernel) (pa_cons (pv 7) pa_nil)) pa_nil)) pa_nil))))))))))))), ?_⟩
    refine ⟨_, rfl, _, rfl, 4, 1, rfl, rfl, m, c, g, b, 5, rfl, ms, by omega, by decide, by decide, fun H1 k k1 ms1 k0 k5 => ?_⟩
    refine ⟨_, rfl, by omega, by omega, fun L nL => ?_⟩
    have msL := ms1.mono (same_new (o := .lst []) nL)
    have Ln := ms1.ne nL
    refine lc_range (fun i H2 => Kept H1 H2 m g ∧ MS H2 m c g (b + 1 + (i : Nat)) ∧ ∃ xs : List Str, H2 L = some (.lst (xs.map V.str)) ∧ xs.length = i)
      ⟨Kept.of (same_new nL), by simpa using msL, [], upd_same, rfl⟩ ?_ ?_
    · rintro i H2 hi ⟨k2, ms2, xs, eL, xl⟩
      refine ⟨rfl, _, rfl, by show 2 ≤ sizeLine; decide, fun p np => ?_⟩
      have sp := same_new (H := H2) (o := .lst [V.str "both", V.str "either"]) np
      have pn := ms2.ne np
      refine ⟨m, c, g, _, p, [V.str "both", V.str "either"], rfl, ms2.mono sp, by omega, upd_same, pn.2.2, (fun z => by cases z), by show 2 ≤ _; decide, fun H3 x k3 ms3 hx => ?_⟩
      obtain ⟨y, rfl⟩ : ∃ y : Str, x = .str y := by
        rcases List.mem_cons.mp hx with rfl | hx
        · exact ⟨_, rfl⟩
        · obtain rfl := List.mem_singleton.mp hx
          exact ⟨_, rfl⟩
      have k23 := (Kept.of sp).trans k3
      have eL3 := k23 _ _ eL Ln.1 Ln.2.2
      refine ⟨_, eL3, ?_, kept_mut (k2.trans k23) nL, ?_, xs ++ [y], ?_, by rw [List.length_append, xl]; rfl⟩
      · rw [List.length_map]
        exact small_of (by omega)
      · rw [show b + 1 + ((i + 1 : Nat) : Int) = b + 1 + (i : Nat) + 1 by omega]
        exact ms3.put Ln.1 Ln.2.1 Ln.2.2
      · rw [upd_same, List.map_append]
        rfl
    · rintro H2 ⟨k2, ms2, xs, eL, xl⟩
      have Ln2 := Ln
      have k4 : xs.length ≤ 4 := by omega
      refine gNG ?_
      dsimp only
      refine seq_cutG (t := tIfS _ _ _) (fun σ' H' => σ' = [some (.ref m), some (.int doors), some (.int 4), some (.ref L), none, none, none, none, none, none, none, none, none] ∧ Kept H1 H' m g ∧ MS H' m c g (b + 7) ∧ ∃ xs : List Str, H' L = some (.lst (xs.map V.str)) ∧ xs.length ≤ 5 ∧ (3 * (xs.length : Int) + doors) % 2 = 0) (fun kk hk => ?_) ?_
      · have hm : (3 * (xs.length : Int) + doors).fmod 2 = (3 * (xs.length : Int) + doors) % 2 := Int.fmod_eq_emod_of_nonneg _ (by decide)
        refine ⟨_, rfl, L, _, rfl, .inl (sqL eL), _, _, rfl, rfl, wide_mul (a := 4) (b := 12) (by decide) (by rw [List.length_map]; omega) (by decide) (by decide) (by decide), _, rfl, _, _, rfl, rfl, .inl ⟨_, rfl, _, _, rfl, rfl, (by show (2 : Int) ≠ 0; decide), ?_⟩⟩
        rw [List.length_map]
        dsimp only
        rw [hm]
        by_cases od : (3 * (xs.length : Int) + doors) % 2 = 1
        · refine ⟨rfl, true, congrArg V.bl (decide_eq_true (congrArg V.int od)), iteT ?_⟩
          refine ⟨_, rfl, .inl ⟨rfl, _, sqL eL⟩, _, rfl, by show 2 ≤ sizeLine; decide, fun p np => ?_⟩
          have sp := same_new (H := H2) (o := .lst [V.str "both", V.str "either"]) np
          have pn := ms2.ne np
          refine ⟨m, c, g, _, p, [V.str "both", V.str "either"], rfl, ms2.mono sp, by omega, upd_same, pn.2.2, (fun z => by cases z), by show 2 ≤ _; decide, fun H3 x k3 ms3 hx => ?_⟩
          obtain ⟨y, rfl⟩ : ∃ y : Str, x = .str y := by
            rcases List.mem_cons.mp hx with rfl | hx
            · exact ⟨_, rfl⟩
            · obtain rfl := List.mem_singleton.mp hx
              exact ⟨_, rfl⟩
          have k23 := (Kept.of sp).trans k3
          have eL3 := k23 _ _ eL Ln.1 Ln.2.2
          refine ⟨L, _, _, rfl, rfl, eL3, ?_, ?_⟩
          · rw [List.length_map]
            exact small_of (by omega)
          refine hk _ _ ⟨rfl, kept_mut (k2.trans k23) nL, (ms3.put Ln.1 Ln.2.1 Ln.2.2).le (by omega), xs ++ [y], ?_, by rw [List.length_append]; show xs.length + 1 ≤ 5; omega, ?_⟩
          · rw [upd_same, List.map_append]
            rfl
          · rw [List.length_append]
            show (3 * ((xs.length + 1 : Nat) : Int) + doors) % 2 = 0
            omega
        · refine ⟨rfl, false, congrArg V.bl (decide_eq_false fun z => od (V.int.inj z)), iteF ?_⟩
          exact hk _ _ ⟨rfl, k2, ms2.le (by omega), xs, eL, by omega, by omega⟩
      clear k4 eL xl ms2 k2
      clear xs H2
      rintro σ H2 ⟨rfl, k2, ms2, xs, eL, xl, even⟩
      refine ⟨_, rfl, _, rfl, by omega, by omega, fun el nE => ?_⟩
      have Ene := ms2.ne nE
      have LE : L ≠ el := ne_of_none eL nE
      refine lc_range (fun i H3 => Same H2 H3 ∧ EndsL H3 el ((List.range i).map fun j : Nat => ((-1 : Int), ((j : Nat) : Int)))) ⟨same_new nE, [], upd_same, Its.nil⟩ ?_ ?_
      · rintro i H3 hi ⟨s3, ts, eE, its⟩
        refine ⟨rfl, _, rfl, _, rfl, by show 2 ≤ sizeLine; decide, fun t nt => ?_⟩
        have st := same_new (H := H3) (o := .tup [.int (-1), .int (0 + ((i : Nat) : Int))]) nt
        have te : TI (upd H3 t (.tup [.int (-1), .int (0 + ((i : Nat) : Int))])) t (rowE ((-1 : Int), ((i : Nat) : Int))) := .inl (by rw [upd_same, Int.zero_add]; rfl)
        refine ⟨_, st _ _ eE, ?_, same_mut (s3.trans st) nE, ?_⟩
        · have := its.1
          rw [List.length_map, List.length_map, List.length_range] at this
          rw [List.length_map]
          exact small_of (by omega)
        · rw [List.range_succ, List.map_append]
          exact ends_app (us := [t]) (st _ _ eE) (its.mono st) (its_one te)
      · rintro H3 ⟨s3, ends⟩
        refine gNG ?_
        dsimp only
        have ms3 := ms2.mono s3
        have eL3 := s3 _ _ eL
        have k3 := k2.trans (Kept.of s3)
        refine ⟨_, rfl, L, _, rfl, .inl (sqL eL3), _, rfl, by omega, by rw [List.length_map]; omega, for_range (lo := 0) (n := ((((xs.map V.str).length : Nat) : Int)).toNat)
          (fun i σ H4 => ∃ (y5 : Option V) (es : List En), σ = [some (.ref m), some (.int doors), some (.int 4), some (.ref L), some (.ref el), y5, none, none, none, none, none, none, none] ∧ Kept H1 H4 m g ∧ MS H4 m c g (b + 7) ∧ H4 L = some (.lst (xs.map V.str)) ∧ EndsL H4 el es ∧ (es.length : Int) = doors + 3 * (i : Nat))
          ⟨none, _, rfl, k3, ms3, eL3, ends, by rw [List.length_map, List.length_range]; omega⟩ ?_ ?_⟩
        · rintro i σ H4 hi ⟨y5, es, rfl, k4, ms4, eL4, ⟨ts, eE, its⟩, le⟩
          rw [Int.toNat_natCast, List.length_map] at hi
          refine ⟨_, rfl, .inl ⟨rfl, _, sqL eE⟩, _, rfl, by show 2 ≤ sizeLine; decide, fun t1 n1 => ?_⟩
          have s1 := same_new (H := H4) (o := .tup [.int (0 + ((i : Nat) : Int)), .int 0]) n1
          have e1 := upd_same (H := H4) (a := t1) (o := HO.tup [.int (0 + ((i : Nat) : Int)), .int 0])
          generalize upd H4 t1 (.tup [.int (0 + ((i : Nat) : Int)), .int 0]) = H5 at s1 e1 ⊢
          refine ⟨_, rfl, by show 2 ≤ sizeLine; decide, fun t2 n2 => ?_⟩
          have s2 := same_new (H := H5) (o := .tup [.int (0 + ((i : Nat) : Int)), .int 1]) n2
          have e2 := upd_same (H := H5) (a := t2) (o := HO.tup [.int (0 + ((i : Nat) : Int)), .int 1])
          generalize upd H5 t2 (.tup [.int (0 + ((i : Nat) : Int)), .int 1]) = H6 at s2 e2 ⊢
          refine ⟨_, rfl, by show 2 ≤ sizeLine; decide, fun t3 n3 => ?_⟩
          have s3 := same_new (H := H6) (o := .tup [.int (0 + ((i : Nat) : Int)), .int 2]) n3
          have e3 := upd_same (H := H6) (a := t3) (o := HO.tup [.int (0 + ((i : Nat) : Int)), .int 2])
          generalize upd H6 t3 (.tup [.int (0 + ((i : Nat) : Int)), .int 2]) = H7 at s3 e3 ⊢
          refine ⟨by show 3 ≤ sizeLine; decide, fun p np => ?_⟩
          have s4 := same_new (H := H7) (o := .lst [.ref t1, .ref t2, .ref t3]) np
          have e4 := upd_same (H := H7) (a := p) (o := HO.lst [.ref t1, .ref t2, .ref t3])
          generalize upd H7 p (.lst [.ref t1, .ref t2, .ref t3]) = H8 at s4 e4 ⊢
          have s48 := s1.trans (s2.trans (s3.trans s4))
          have j : Its H8 [t1, t2, t3] ([(0 + ((i : Nat) : Int), 0), (0 + ((i : Nat) : Int), 1), (0 + ((i : Nat) : Int), 2)].map rowE) := by
            refine (its_one ?_).app ((its_one ?_).app (its_one ?_))
            · exact .inl (s4 _ _ (s3 _ _ (s2 _ _ e1)))
            · exact .inl (s4 _ _ (s3 _ _ e2))
            · exact .inl (s4 _ _ e3)
          have lt := its.1
          rw [List.length_map] at lt
          have x5 : xs.length ≤ 5 := xl
          refine ⟨el, p, _, _, rfl, rfl, s48 _ _ eE, e4, ?_, ?_⟩
          · rw [List.length_map]
            exact Nat.le_of_lt (small_of (by show ts.length + 3 ≤ _; omega))
          refine ⟨_, es ++ [(0 + ((i : Nat) : Int), 0), (0 + ((i : Nat) : Int), 1), (0 + ((i : Nat) : Int), 2)], rfl, kept_mut (k4.trans (Kept.of s48)) (kept_free k2 nE Ene.1 Ene.2.2), (ms4.mono s48).put Ene.1 Ene.2.1 Ene.2.2, ?_, ends_app (us := [t1, t2, t3]) (s48 _ _ eE) (its.mono s48) j, ?_⟩
          · rw [upd_ne LE]
            exact s48 _ _ eL4
          · rw [List.length_append]
            show ((es.length + 3 : Nat) : Int) = doors + 3 * ((i + 1 : Nat) : Int)
            omega
        · rintro σ H4 ⟨y5, es, rfl, k4, ms4, eL4, ends4, le⟩
          rw [Int.toNat_natCast, List.length_map] at le
          obtain ⟨ts, eE, its⟩ := ends4
          have lt := its.1
          rw [List.length_map] at lt
          refine ⟨_, rfl, _, rfl, el, _, rfl, .inl (sqL eE), m, c, g, b + 7, _, rfl, ms4, by omega, by omega, by rw [List.length_map]; omega, fun H5 o ds k5' ms5 eo no dl dn dr => ?_⟩
          rw [List.length_map] at ms5 dl dr
          rw [Int.toNat_natCast] at dl
          have on := ms4.ne no
          refine gNG ?_
          dsimp only
          refine ⟨by show 0 ≤ sizeLine; decide, fun M nM => ?_⟩
          have Mn := ms5.ne nM
          have sM := same_new (H := H5) (o := .lst []) nM
          have eE5 := k5' _ _ eE Ene.1 Ene.2.2
          have eL5 := k5' _ _ eL4 Ln.1 Ln.2.2
          have its5 : Its H5 ts (es.map rowE) := ⟨its.1, fun j t ht => by
            obtain ⟨x, a, b⟩ := its.2 j t ht
            exact ⟨x, a, k5'.ti ms4 b⟩⟩
          obtain ⟨hf, hh⟩ : ∃ hf : Nat, es.length = 2 * hf := ⟨es.length / 2, by omega⟩
          have k15 := k4.trans k5'
          have rows : ∀ j, j < es.length → ∃ t x, (ts.map V.ref)[j]? = some (.ref t) ∧ TI H5 t (rowE x) := fun j hj => by
            obtain ⟨t, e, r⟩ := its_ref its5 (i := j) (by rw [List.length_map]; exact hj)
            rw [List.getElem_map] at r
            exact ⟨t, _, e, r⟩
          have lm : (((ts.map V.ref).length : Nat) : Int) = 2 * ((hf : Nat) : Int) := by
            rw [List.length_map]
            omega
          refine ⟨_, rfl, el, _, rfl, .inl (sqL (sM _ _ eE5)), 0, 2 * ((hf : Nat) : Int), 2, hf, ?_, rg_two (by omega), for_rangeC (lo := 0) (c := 2) (n := hf)
            (fun i σ H6 => ∃ (y5 y8 y9 y10 : Option V) (ls : List LA), σ = [some (.ref m), some (.int doors), some (.int 4), some (.ref L), some (.ref el), y5, some (.ref o), some (.ref M), y8, y9, y10, none, none] ∧ Same H5 H6 ∧ H6 M = some (.lst (ls.map fun x => V.ref x.2)) ∧ (∀ x ∈ ls, TL H6 x.2 x.1 ∧ ∃ z, x.1 = lotZ z) ∧ ls.length = i)
            ⟨y5, none, none, none, [], rfl, sM, upd_same, (fun x hx => by cases hx), rfl⟩ ?_ ?_⟩
          · rw [lm]
          · rintro i σ H6 hi ⟨y5, y8, y9, y10, ls, rfl, s6, eM, ht, ll⟩
            have eo6 := s6 _ _ eo
            have eE6 := s6 _ _ eE5
            obtain ⟨a1, ha1⟩ : ∃ a1, ds[2 * i]? = some a1 := ⟨_, List.getElem?_eq_getElem (by omega)⟩
            obtain ⟨a2, ha2⟩ : ∃ a2, ds[2 * i + 1]? = some a2 := ⟨_, List.getElem?_eq_getElem (by omega)⟩
            have r1 := dr a1 (List.mem_of_getElem? ha1)
            have r2 := dr a2 (List.mem_of_getElem? ha2)
            obtain ⟨t1, x1, g1, i1⟩ := rows a1.toNat (by omega)
            obtain ⟨t2, x2, g2, i2⟩ := rows a2.toNat (by omega)
            have i16 := i1.mono s6
            have i26 := i2.mono s6
            have sq1 : SqT K H6 t1 ((rowE x1).map V.int) := rdT i16
            have sq2 : SqT K H6 t2 ((rowE x2).map V.int) := rdT i26
            refine ⟨_, rfl, _, rfl, _, rfl, o, _, _, _, rfl, rfl, sqL eo6, atI_of (j := 2 * i) (by omega) (at_map ha1), el, _, _, _, rfl, rfl, sqL eE6, atI_of (j := a1.toNat) (by omega) g1, ?_⟩
            refine ⟨_, rfl, _, rfl, _, rfl, _, 1, rfl, rfl, o, _, _, _, rfl, rfl, sqL eo6, atI_of (j := 2 * i + 1) (by omega) (at_map ha2), el, _, _, _, rfl, rfl, sqL eE6, atI_of (j := a2.toNat) (by omega) g2, ?_⟩
            refine ⟨_, _, rfl, ?_⟩
            refine ⟨_, rfl, .inl ⟨rfl, _, sqL eM⟩, _, rfl, _, rfl, t1, t2, _, _, ⟨.inl rfl, sq1, sq2⟩, ?_⟩
            refine ⟨_, rfl, _, rfl, t1, t2, _, _, ⟨.inl rfl, sq1, sq2⟩, by show 2 ≤ sizeLine; decide, fun t nt => ?_⟩
            have c1 := ti_if (PySem.W.dataLt (rowD (rowE x2)) (rowD (rowE x1))) i16 i26
            have c2 := ti_if (PySem.W.dataLt (rowD (rowE x1)) (rowD (rowE x2))) i16 i26
            generalize (if PySem.W.dataLt (rowD (rowE x2)) (rowD (rowE x1)) = true then t2 else t1) = u1 at c1 nt ⊢
            generalize (if PySem.W.dataLt (rowD (rowE x2)) (rowD (rowE x1)) = true then x2 else x1) = w1 at c1
            generalize (if PySem.W.dataLt (rowD (rowE x1)) (rowD (rowE x2)) = true then t2 else t1) = u2 at c2 nt ⊢
            generalize (if PySem.W.dataLt (rowD (rowE x1)) (rowD (rowE x2)) = true then x2 else x1) = w2 at c2
            obtain ⟨e1, e2⟩ := lots_app eM (fun x hx => (ht x hx).1) nt c1 c2
            refine ⟨M, _, _, rfl, rfl, e1, ?_, ?_⟩
            · rw [List.length_map]
              exact small_of (by omega)
            refine ⟨_, _, _, _, ls ++ [([rowE w1, rowE w2], t)], rfl, same_mut (s6.trans (same_new nt)) nM, ?_, fun x hx => ⟨e2 _ x hx, ?_⟩, by rw [List.length_append, ll]; rfl⟩
            · rw [upd_same, List.map_append]
              rfl
            · rcases List.mem_append.mp hx with hx | hx
              · exact (ht x hx).2
              · obtain rfl := List.mem_singleton.mp hx
                exact ⟨(w1, w2), rfl⟩
          · rintro σ H6 ⟨y5, y8, y9, y10, ls, rfl, s6, eM, ht, ll⟩
            have eL6 := s6 _ _ eL5
            refine ⟨_, rfl, _, rfl, L, _, rfl, sqL eL6, fun tk ok ntk dok => ?_⟩
            have sk := same_new (H := H6) (o := .frz ok (.tup (xs.map V.str))) ntk
            have ek := upd_same (H := H6) (a := tk) (o := HO.frz ok (.tup (xs.map V.str)))
            generalize upd H6 tk (.frz ok (.tup (xs.map V.str))) = H7 at sk ek ⊢
            have eM7 := sk _ _ eM
            have ht7 : ∀ x ∈ ls, TL H7 x.2 x.1 := fun x hx => (ht x hx).1.mono sk
            refine ⟨_, rfl, sort_lots eM7 ht7 (fun x hx => ?_) fun p np => ?_⟩
            · obtain ⟨z, e⟩ := (ht x hx).2
              rw [e]
              exact fun h => by cases h
            have sp := same_new (H := H7) (o := .lst ((ls.mergeSort leN).map fun x => V.ref x.2)) np
            have ep := upd_same (H := H7) (a := p) (o := HO.lst ((ls.mergeSort leN).map fun x => V.ref x.2))
            generalize upd H7 p (.lst ((ls.mergeSort leN).map fun x => V.ref x.2)) = H8 at sp ep ⊢
            have ds8 := dvs_sorted fun x hx => (ht7 x hx).mono sp
            obtain ⟨zs, zl, ez⟩ := lines_sorted fun x hx => (ht x hx).2
            rw [ez] at ds8
            refine ⟨p, _, rfl, sqL ep, fun tl ol ntl dol => ?_⟩
            have st := same_new (H := H8) (o := .frz ol (.tup ((ls.mergeSort leN).map fun x => V.ref x.2))) ntl
            have et := upd_same (H := H8) (a := tl) (o := HO.frz ol (.tup ((ls.mergeSort leN).map fun x => V.ref x.2)))
            generalize upd H8 tl (.frz ol (.tup ((ls.mergeSort leN).map fun x => V.ref x.2))) = H9 at st et ⊢
            refine ⟨by show 3 ≤ sizeLine; decide, fun r nr => ?_⟩
            have sr := same_new (H := H9) (o := .tup [.int doors, .ref tk, .ref tl]) nr
            have er := upd_same (H := H9) (a := r) (o := HO.tup [.int doors, .ref tk, .ref tl])
            generalize upd H9 r (.tup [.int doors, .ref tk, .ref tl]) = H10 at sr er ⊢
            have s7 := sp.trans (st.trans sr)
            have s510 := s6.trans (sk.trans s7)
            have ms10 := ms5.mono s510
            have ek10 := s7 _ _ ek
            have dl9 : DVs (Out m g H10) (zs.map lineD) ((ls.mergeSort leN).map fun x => V.ref x.2) := by
              have := dvs_sorted fun x hx => out_tl ms10 ((ht7 x hx).mono s7)
              rwa [ez] at this
            refine q H10 (.ref r) xs zs (k1.trans (k15.trans (Kept.of s510))) (ms10.le (by omega)) ⟨r, tk, .ref tl, rfl, out_rd ms10 (.inl er), out_rd ms10 (.inr ⟨ok, ek10⟩), out_bare ms10 ⟨ok, _, ek10, dok⟩, DV.of_tup (out_rd ms10 (.inr ⟨ol, sr _ _ et⟩)) dl9⟩ xl (by omega)
end
end KQ
namespace KQ
open PySem PySem.Spec PyProof.Rows L2 KR KM StX
def eN (e : Nat × Nat) : En := ((e.1 : Int), (e.2 : Int))
def KeptA (H H' : Hp) (as : List Addr) : Prop := ∀ a u, H a = some u → a ∉ as → H' a = some u
theorem KeptA.trans {H H' H'' : Hp} {as : List Addr} (h : KeptA H H' as) (k : KeptA H' H'' as) : KeptA H H'' as := fun a u e n => k a u (h a u e n) n
theorem KeptA.of {H H' : Hp} {as : List Addr} (s : Same H H') : KeptA H H' as := fun a u e _ => s a u e
theorem KeptA.put {H : Hp} {as : List Addr} {a : Addr} {o : HO} (h : a ∈ as) : KeptA H (upd H a o) as := fun b u e n => by
  have : b ≠ a := fun z => n (by rw [z]; exact h)
  rw [upd_ne this]
  exact e
theorem LinesAt.lst {H : Hp} {L a : Addr} {as : List Addr} {ls : Lns} (h : LinesAt H L as ls) (m : a ∈ as) : ∃ vs, H a = some (.lst vs) := by
  obtain ⟨i, hi⟩ := List.mem_iff_getElem?.mp m
  have il := (List.getElem?_eq_some_iff.mp hi).1
  obtain ⟨vs, e, _⟩ := h.at_ i a _ hi (List.getElem?_eq_getElem (by rw [← h.len]; exact il))
  exact ⟨vs, e⟩
theorem LinesAt.ti {H H' : Hp} {L t : Addr} {as : List Addr} {ls : Lns} {r : List Int} (h : LinesAt H L as ls) (k : KeptA H H' as) (ht : TI H t r) : TI H' t r := by
  have n : t ∉ as := fun m => by
    obtain ⟨vs, e⟩ := h.lst m
    exact (show Rd H t _ from ht).ne e (fun _ z => by cases z) (fun _ _ z => by cases z) rfl
  rcases (show Rd H t _ from ht) with z | ⟨o, z⟩
  · exact .inl (k _ _ z n)
  · exact .inr ⟨o, k _ _ z n⟩
/-- a piece just told -/
def FinV (H : Hp) (v : V) (n : Int) (xs : List Str) (most : Nat) : Prop := ∃ (a ak tl : Addr) (ls : List LA), v = .ref a ∧ Rd H a (.tup [.int n, .ref ak, .ref tl]) ∧ Rd H ak (.tup (xs.map V.str)) ∧ Bare H ak ∧ Rd H tl (.tup ((ls.mergeSort leN).map fun x => V.ref x.2)) ∧ (∀ x ∈ ls, TL H x.2 x.1 ∧ ∃ z, x.1 = lotZ z) ∧ ls.length ≤ most
section
variable {P : Program} {w : World} {K : PySem.W.Frag} {mg : Str → Option Value} {base : Heap}
abbrev s__law_finished : Stmt := topS 36
theorem sc__law_finished : FnScope ["lines", "ends", "knots", "door", "end", "told", "line"] ["lines", "ends", "knots"] (defScope s__law_finished) := ⟨rfl, rfl, rfl, by decide +kernel, rfl, by decide +kernel, by decide +kernel⟩
def spFin : Sp := fun vs H Q _ => ∃ (L el kn : Addr) (as ts : List Addr) (ls : Lns) (es : List (Nat × Nat)) (xs : List Str), vs = [.ref L, .ref el, .ref kn] ∧ LinesAt H L as ls ∧ GoodL ls es ∧ H el = some (.lst (ts.map V.ref)) ∧ Its H ts ((es.map eN).map rowE) ∧ H kn = some (.lst (xs.map V.str)) ∧ el ∉ as ∧ kn ∉ as ∧ ls.length ≤ 40 ∧ xs.length ≤ 100 ∧
  ∀ H' v, KeptA H H' as → FinV H' v es.length xs ls.length → Q v H'
theorem ok_finished (D : DefAt K mg "_law_finished" s__law_finished) (T : Bt mg) : Use P w K mg base "_law_finished" 1 ["lines", "ends", "knots"] spFin := by
  refine use_of D (fun f fd F => F.ok sc__law_finished (fun vs H Q E h => ?_) (fun cdv A outer s H vs Q E hr h => ?_)) (fun _ _ _ _ _ _ us hl => match us, hl with | [_, _, _], _ => rfl)
  · obtain ⟨L, el, kn, as, ts, ls, es, xs, rfl, _⟩ := h
    rfl
  · obtain ⟨L, el, kn, as, ts, ls, es, xs, rfl, la, gd, ee, its, ek, nel, nkn, l40, x100, q⟩ := h
    refine ⟨_, (pss_cons (ps_for PassesOwn.never rfl (k_enum (K := K) rfl (by rfl) T.enumerate (pa_cons (pv 1) pa_nil)) (pg_tup rfl (pgs_cons (pg_name (i := 3) sc__law_finished.nd rfl (Or.inl rfl)) (pgs_cons (pg_name (i := 4) sc__law_finished.nd rfl (Or.inl rfl)) pgs_nil)))
      (pss_one (ps_asg (pe_tup (pa_cons (pe_un un_neg pe_int) (pa_cons (pv 3) pa_nil))) (pg_sub (pe_ix (k_ixl (K := K) rfl) (pv 0) (pe_ix (k_ixt (K := K) rfl) (pv 4) pe_int (fun _ _ => rfl)) (fun _ _ => rfl)) (pe_ix (k_ixt (K := K) rfl) (pv 4) pe_int (fun _ _ => rfl)) set_list))))
      (pss_cons (ps_setLc (i := 5) (own := [("line", 6)]) rfl sc__law_finished.nd rfl rfl (sw_true rfl rfl rfl (by decide +kernel)) (k_list (K := K) rfl (pv 0)) (blkOk_by (N := ["lines", "ends", "knots", "door", "end", "told", "line"]) (sc := defScope s__law_finished) (by decide +kernel)) (fun _ _ _ _ _ => (pg_name (i := 6) sc__law_finished.nd rfl (Or.inl rfl))) (fun _ _ _ _ _ => (pts_one (pt_cmpR (k_neD (K := K) rfl hr.units) (pv 6) (pe_lst pa_nil) (nomark _)))) (fun _ _ _ _ _ => (pe_tup (pa_cons (pe_callB (k_mnE (K := K) rfl rfl hr.units) (by rfl) T.min (by decide +kernel) (pa_cons (pv 6) pa_nil)) (pa_cons (pe_callB (k_mxE (K := K) rfl rfl hr.units) (by rfl) T.max (by decide +kernel) (pa_cons (pv 6) pa_nil)) pa_nil)))))
      (pss_one (ps_ret (pe_tup (pa_cons (pe_callB (k_len (K := K) rfl) (by rfl) T.len PySem.boot_len (pa_cons (pv 1) pa_nil)) (pa_cons (pe_callTy (k_tupB (K := K) rfl) (by rfl) T.tuple (by decide +kernel) (pa_cons (pv 2) pa_nil)) (pa_cons (pe_callTy (k_tupB (K := K) rfl) (by rfl) T.tuple (by decide +kernel) (pa_cons (pe_callB (k_sortNI (K := K) rfl hr.units) (by rfl) T.sorted (by decide +kernel) (pa_cons (pv 5) pa_nil)) pa_nil)) pa_nil)))))))), ?_⟩
    have tsl : ts.length = es.length := by
      have := its.1
      rw [List.length_map, List.length_map] at this
      exact this
    refine ⟨_, rfl, el, _, rfl, sqL ee, for_enumL (K := K) (a := el) (xs := ts.map V.ref)
      (fun i σ H1 => ∃ (y3 y4 : Option V) (ls' : Lns), σ = [some (.ref L), some (.ref el), some (.ref kn), y3, y4, none, none] ∧ KeptA H H1 as ∧ LinesAt H1 L as ls' ∧ GoodL ls' (es.drop i) ∧ ls'.length = ls.length)
      ⟨none, none, ls, rfl, KeptA.of (.refl H), la, gd, rfl⟩ (fun i σ H1 ⟨_, _, _, _, k1, _⟩ => sqL (k1 _ _ ee nel)) ?_ ?_⟩
    · rintro i v T1 σ H1 hv ⟨y3, y4, ls', rfl, k1, la1, gd1, ll⟩ nT
      obtain ⟨t, ht, rfl⟩ := map_at hv
      obtain ⟨rw', hrw, tr⟩ := its.2 i t ht
      obtain ⟨eI, heI, rfl⟩ := map_at hrw
      obtain ⟨e, he, rfl⟩ := map_at heI
      have il := (List.getElem?_eq_some_iff.mp he).1
      have tr1 := la.ti k1 tr
      have dr : es.drop i = e :: es.drop (i + 1) := by
        rw [List.drop_eq_getElem_cons il]
        congr 1
        rw [List.getElem?_eq_getElem il] at he
        exact Option.some.inj he
      rw [dr] at gd1
      obtain ⟨l, hl, hop⟩ := (gd1.op e).mp List.mem_cons_self
      have sT := same_new (H := H1) (o := .tup [V.int ((i : Nat) : Int), .ref t]) nT
      have eT := upd_same (H := H1) (a := T1) (o := HO.tup [V.int ((i : Nat) : Int), .ref t])
      generalize upd H1 T1 (.tup [V.int ((i : Nat) : Int), .ref t]) = H2 at sT eT ⊢
      refine ⟨T1, _, rfl, .inl (.inl eT), rfl, _, _, rfl, _, [], rfl, rfl, ?_⟩
      refine ⟨1, rfl, _, rfl, by show 2 ≤ sizeLine; decide, fun t2 n2 => ?_⟩
      have s2 := same_new (H := H2) (o := .tup [V.int (-1), V.int ((i : Nat) : Int)]) n2
      have e2 := upd_same (H := H2) (a := t2) (o := HO.tup [V.int (-1), V.int ((i : Nat) : Int)])
      generalize upd H2 t2 (.tup [V.int (-1), V.int ((i : Nat) : Int)]) = H3 at s2 e2 ⊢
      have s13 := sT.trans s2
      have la3 := la1.mono s13
      have tr3 : SqT K H3 t ((rowE (eN e)).map V.int) := rdT (tr1.mono s13)
      have iL : e.1 < ls'.length := (List.getElem?_eq_some_iff.mp hl).1
      obtain ⟨a, ha⟩ : ∃ a, as[e.1]? = some a := ⟨_, List.getElem?_eq_getElem (by rw [la3.len]; exact iL)⟩
      obtain ⟨vs, ea, pv⟩ := la3.at_ _ a l ha hl
      have sl : e.2 < vs.length := by
        rw [← pv.1]
        exact (List.getElem?_eq_some_iff.mp hop).1
      refine ⟨_, rfl, _, rfl, t, _, 0, .int ((e.1 : Nat) : Int), rfl, rfl, tr3, rfl, L, _, _, .ref a, rfl, rfl, sqL la3.el, atI_of rfl (at_map ha), ?_⟩
      refine ⟨_, rfl, t, _, 1, .int ((e.2 : Nat) : Int), rfl, rfl, tr3, rfl, ?_⟩
      have hx : L2.ixN vs.length ((e.2 : Nat) : Int) = some e.2 := ixN_nat rfl sl
      refine ⟨a, vs, _, e.2, rfl, rfl, ea, hx, ?_⟩
      have pe : plV H3 (some (-1, ((i : Nat) : Int))) (.ref t2) := ⟨t2, rfl, .inl e2⟩
      refine ⟨_, _, setP ls' e.1 e.2 (some (-1, ((i : Nat) : Int))), rfl, (k1.trans (KeptA.of s13)).trans (KeptA.put (List.mem_of_getElem? ha)), la3.set ha hl ea pv pe, ?_, ?_⟩
      · have := gd1.fill (i := e.1) (s := e.2) (x := (-1, ((i : Nat) : Int)))
        rwa [show (e.1, e.2) = e from rfl, filter_tail gd1.nd] at this
      · rw [setP_at hl, List.length_set]
        exact ll
    · rintro σ H1 ⟨y3, y4, ls', rfl, k1, la1, gd1, ll⟩
      rw [List.length_map, tsl, List.drop_length] at gd1
      refine ⟨_, rfl, L, rfl, ⟨_, sqL la1.el⟩, fun M nM => ?_⟩
      refine lc_list (K := K) (a := L) (xs := as.map V.ref) (fun k H2 => Same H1 H2 ∧ ∃ lm : List LA, H2 M = some (.lst (lm.map fun x => V.ref x.2)) ∧ (∀ x ∈ lm, TL H2 x.2 x.1 ∧ ∃ z, x.1 = lotZ z) ∧ lm.length ≤ k)
        ⟨same_new nM, [], upd_same, (fun x hx => by cases hx), Nat.le_refl _⟩ (fun k H2 _ ⟨s2, _⟩ => sqL (s2 _ _ la1.el)) ?_ ?_
      · rintro k v H2 hk ⟨s2, lm, eM, hm, lk⟩
        obtain ⟨a, ha, rfl⟩ := map_at hk
        have kl := (List.getElem?_eq_some_iff.mp ha).1
        have la2 := la1.mono s2
        obtain ⟨l, hl⟩ : ∃ l, ls'[k]? = some l := ⟨_, List.getElem?_eq_getElem (by rw [← la2.len]; exact kl)⟩
        obtain ⟨vs, ea, pv⟩ := la2.at_ k a l ha hl
        refine ⟨rfl, _, rfl, by show 0 ≤ sizeLine; decide, fun p np => ?_⟩
        have sp := same_new (H := H2) (o := .lst []) np
        have ep := upd_same (H := H2) (a := p) (o := HO.lst [])
        generalize upd H2 p (.lst []) = H3 at sp ep ⊢
        have ea3 := sp _ _ ea
        by_cases c : l = []
        · subst c
          have v0 : vs = [] := List.length_eq_zero_iff.mp pv.1.symm
          subst v0
          refine ⟨.list [], .list [], .lst (sqL ea3) .nil, .lst (sqL ep) .nil, rfl, rfl, false, rfl, ?_⟩
          exact iteF ⟨s2.trans sp, lm, sp _ _ eM, fun x hx => ⟨(hm x hx).1.mono sp, (hm x hx).2⟩, by omega⟩
        · obtain ⟨x, y, rfl⟩ := gd1.done (List.mem_of_getElem? hl) c
          obtain ⟨v1, e1, t1, rfl, i1⟩ := pv.2 0 (some x) rfl
          obtain ⟨v2, e2, t2, rfl, i2⟩ := pv.2 1 (some y) rfl
          have vs2 : vs = [.ref t1, .ref t2] := by
            have l2 : vs.length = 2 := pv.1.symm
            match vs, l2, e1, e2 with
            | [_, _], _, rfl, rfl => rfl
          subst vs2
          have j1 := i1.mono sp
          have j2 := i2.mono sp
          have sq1 : SqT K H3 t1 ((rowE x).map V.int) := rdT j1
          have sq2 : SqT K H3 t2 ((rowE y).map V.int) := rdT j2
          refine ⟨.list ([rowE x, rowE y].map rowD), .list [], .lst (sqL ea3) (.cons (.tup sq1 (dpAll_ints _)) (.cons (.tup sq2 (dpAll_ints _)) .nil)), .lst (sqL ep) .nil, shaped_rowsG _, rfl, true, rfl, ?_⟩
          refine iteT ⟨_, rfl, t1, t2, _, _, ⟨.inr ⟨a, rfl, .inr (sqL ea3)⟩, sq1, sq2⟩, ?_⟩
          refine ⟨_, rfl, t1, t2, _, _, ⟨.inr ⟨a, rfl, .inr (sqL ea3)⟩, sq1, sq2⟩, by show 2 ≤ sizeLine; decide, fun t nt => ?_⟩
          have c1 := ti_if (PySem.W.dataLt (rowD (rowE y)) (rowD (rowE x))) j1 j2
          have c2 := ti_if (PySem.W.dataLt (rowD (rowE x)) (rowD (rowE y))) j1 j2
          generalize (if PySem.W.dataLt (rowD (rowE y)) (rowD (rowE x)) = true then t2 else t1) = u1 at c1 nt ⊢
          generalize (if PySem.W.dataLt (rowD (rowE y)) (rowD (rowE x)) = true then y else x) = w1 at c1
          generalize (if PySem.W.dataLt (rowD (rowE x)) (rowD (rowE y)) = true then t2 else t1) = u2 at c2 nt ⊢
          generalize (if PySem.W.dataLt (rowD (rowE x)) (rowD (rowE y)) = true then y else x) = w2 at c2
          obtain ⟨q1, q2⟩ := lots_app (sp _ _ eM) (fun x hx => (hm x hx).1.mono sp) nt c1 c2
          refine ⟨_, q1, ?_, same_mut ((s2.trans sp).trans (same_new nt)) nM, lm ++ [([rowE w1, rowE w2], t)], ?_, fun x hx => ⟨q2 _ x hx, ?_⟩, by rw [List.length_append]; show lm.length + 1 ≤ _; omega⟩
          · rw [List.length_map]
            have := la1.len
            exact small_of (by omega)
          · rw [upd_same, List.map_append]
            rfl
          · rcases List.mem_append.mp hx with hx | hx
            · exact (hm x hx).2
            · obtain rfl := List.mem_singleton.mp hx
              exact ⟨(w1, w2), rfl⟩
      · rintro H2 ⟨s2, lm, eM, hm, lk⟩
        rw [List.length_map, la1.len, ll] at lk
        refine gNG ?_
        dsimp only
        have kA2 := k1.trans (KeptA.of s2)
        refine ⟨_, rfl, el, _, rfl, .inl (sqL (kA2 _ _ ee nel)), _, rfl, kn, _, rfl, sqL (kA2 _ _ ek nkn), fun tk ok ntk dok => ?_⟩
        have sk := same_new (H := H2) (o := .frz ok (.tup (xs.map V.str))) ntk
        have ekk := upd_same (H := H2) (a := tk) (o := HO.frz ok (.tup (xs.map V.str)))
        generalize upd H2 tk (.frz ok (.tup (xs.map V.str))) = H3 at sk ekk ⊢
        refine ⟨_, rfl, sort_lots (sk _ _ eM) (fun x hx => (hm x hx).1.mono sk) (fun x hx => ?_) fun p np => ?_⟩
        · obtain ⟨z, e⟩ := (hm x hx).2
          rw [e]
          exact fun h => by cases h
        have sp := same_new (H := H3) (o := .lst ((lm.mergeSort leN).map fun x => V.ref x.2)) np
        have ep := upd_same (H := H3) (a := p) (o := HO.lst ((lm.mergeSort leN).map fun x => V.ref x.2))
        generalize upd H3 p (.lst ((lm.mergeSort leN).map fun x => V.ref x.2)) = H4 at sp ep ⊢
        refine ⟨p, _, rfl, sqL ep, fun tl ol ntl dol => ?_⟩
        have st := same_new (H := H4) (o := .frz ol (.tup ((lm.mergeSort leN).map fun x => V.ref x.2))) ntl
        have et := upd_same (H := H4) (a := tl) (o := HO.frz ol (.tup ((lm.mergeSort leN).map fun x => V.ref x.2)))
        generalize upd H4 tl (.frz ol (.tup ((lm.mergeSort leN).map fun x => V.ref x.2))) = H5 at st et ⊢
        rw [List.length_map, tsl]
        refine ⟨by show 3 ≤ sizeLine; decide, fun r nr => ?_⟩
        have sr := same_new (H := H5) (o := .tup [.int ((es.length : Nat) : Int), .ref tk, .ref tl]) nr
        have er := upd_same (H := H5) (a := r) (o := HO.tup [.int ((es.length : Nat) : Int), .ref tk, .ref tl])
        generalize upd H5 r (.tup [.int ((es.length : Nat) : Int), .ref tk, .ref tl]) = H6 at sr er ⊢
        have s36 := sp.trans (st.trans sr)
        have ek6 := s36 _ _ ekk
        exact q H6 (.ref r) (kA2.trans (KeptA.of (sk.trans s36))) ⟨r, tk, tl, lm, rfl, .inl er, .inr ⟨ok, ek6⟩, ⟨ok, _, ek6, dok⟩, .inr ⟨ol, sr _ _ et⟩, fun x hx => ⟨(hm x hx).1.mono (sk.trans s36), (hm x hx).2⟩, lk⟩
end
end KQ
namespace KQ
open PySem PySem.Spec PyProof.Rows L2 KR KM StX
theorem set_at {α : Type} {l : List α} {k : Nat} {e : α} (h : l[k]? = some e) : l.set k e = l := by
  apply List.ext_getElem?
  intro j
  by_cases z : k = j
  · subst z
    rw [List.getElem?_set_self (List.getElem?_eq_some_iff.mp h).1, h]
  · rw [List.getElem?_set_ne z]
theorem LinesAt.keptR {H H' : Hp} {L rl : Addr} {xs : List V} {as : List Addr} {ls : Lns} (h : LinesAt H L as ls) (k : KeptA H H' [rl]) (er : H rl = some (.lst xs)) (n1 : rl ∉ as) (n2 : rl ≠ L) : LinesAt H' L as ls := by
  refine ⟨k _ _ h.el (by simpa using n2.symm), h.nd, h.ne, h.len, fun i a l ha hl => ?_⟩
  obtain ⟨vs, e, p⟩ := h.at_ i a l ha hl
  have ar : a ≠ rl := fun z => n1 (z ▸ List.mem_of_getElem? ha)
  refine ⟨vs, k _ _ e (by simpa using ar), p.mono fun t r ht => ?_⟩
  have n : t ≠ rl := (show Rd H t _ from ht).ne er (fun _ z => by cases z) (fun _ _ z => by cases z)
  rcases (show Rd H t _ from ht) with z | ⟨o, z⟩
  · exact .inl (k _ _ z (by simpa using n))
  · exact .inr ⟨o, k _ _ z (by simpa using n)⟩
/-- a line is wiped: an empty list in its stead -/
theorem LinesAt.wipe {H : Hp} {L z : Addr} {as : List Addr} {ls : Lns} (h : LinesAt H L as ls) {i : Nat} (nz : H z = none) :
    LinesAt (upd (upd H z (.lst [])) L (.lst ((as.map V.ref).set i (.ref z)))) L (as.set i z) (ls.set i []) := by
  have zL : L ≠ z := ne_of_none h.el nz
  have zas : z ∉ as := fun m => by
    obtain ⟨vs, e⟩ := h.lst m
    rw [nz] at e
    cases e
  have eL : (upd H z (.lst [])) L = some (.lst (as.map V.ref)) := same_new nz _ _ h.el
  have mem : ∀ b, b ∈ as.set i z → b ∈ as ∨ b = z := fun b hb => List.mem_or_eq_of_mem_set hb
  refine ⟨by rw [upd_same, List.map_set], ?_, fun m => ?_, by rw [List.length_set, List.length_set]; exact h.len, fun j b l hb hl => ?_⟩
  · rw [List.Nodup, List.pairwise_iff_getElem]
    intro p q hp hq pq
    rw [List.length_set] at hp hq
    rw [List.getElem_set, List.getElem_set]
    have base := (List.pairwise_iff_getElem.mp h.nd) p q hp hq pq
    split
    · split
      · omega
      · exact fun w => zas (w ▸ List.getElem_mem _)
    · split
      · exact fun w => zas (w ▸ List.getElem_mem _)
      · exact base
  · rcases mem L m with w | w
    · exact h.ne w
    · exact zL w
  · by_cases w : i = j
    · subst w
      have il := (List.getElem?_eq_some_iff.mp hb).1
      rw [List.length_set] at il
      rw [List.getElem?_set_self il] at hb
      cases hb
      rw [List.getElem?_set_self (by rw [← h.len]; exact il)] at hl
      cases hl
      exact ⟨[], by rw [upd_ne zL.symm, upd_same], rfl, fun s p hp => by cases hp⟩
    · rw [List.getElem?_set_ne w] at hb hl
      obtain ⟨vs, e, p⟩ := h.at_ j b l hb hl
      have bL : b ≠ L := fun x => h.ne (x ▸ List.mem_of_getElem? hb)
      exact ⟨vs, by rw [upd_ne bL]; exact same_new nz _ _ e, p.mono fun t r ht => ti_upd eL (ht.mono (same_new nz))⟩
theorem cur_succ {α : Type} {f : α → α} {rest : List α} {k : Nat} {e : α} (h : rest[k]? = some e) : ((rest.take k).map f ++ rest.drop k).set k (f e) = (rest.take (k + 1)).map f ++ rest.drop (k + 1) := by
  have kl := (List.getElem?_eq_some_iff.mp h).1
  have d : rest.drop k = e :: rest.drop (k + 1) := by
    rw [List.drop_eq_getElem_cons kl]
    congr 1
    rw [List.getElem?_eq_getElem kl] at h
    exact Option.some.inj h
  have al : ((rest.take k).map f).length = k := by
    rw [List.length_map, List.length_take]
    omega
  rw [d, List.set_append_right _ _ (by omega), al, Nat.sub_self, take_snoc h, List.map_append, List.append_assoc]
  rfl
theorem cur_at {α : Type} {f : α → α} {rest : List α} {k : Nat} {e : α} (h : rest[k]? = some e) : ((rest.take k).map f ++ rest.drop k)[k]? = some e := by
  have kl := (List.getElem?_eq_some_iff.mp h).1
  have al : ((rest.take k).map f).length = k := by
    rw [List.length_map, List.length_take]
    omega
  rw [List.getElem?_append_right (by omega), al, Nat.sub_self, List.getElem?_drop]
  exact h
theorem its_set {H : Hp} {ts : List Addr} {rows : List (List Int)} {k : Nat} {t : Addr} {r : List Int} (h : Its H ts rows) (ht : TI H t r) : Its H (ts.set k t) (rows.set k r) := by
  refine ⟨by rw [List.length_set, List.length_set, h.1], fun i u hu => ?_⟩
  by_cases z : k = i
  · subst z
    have kl : k < ts.length := by
      have := (List.getElem?_eq_some_iff.mp hu).1
      rwa [List.length_set] at this
    rw [List.getElem?_set_self kl] at hu
    cases hu
    exact ⟨r, List.getElem?_set_self (by rw [← h.1]; exact kl), ht⟩
  · rw [List.getElem?_set_ne z] at hu
    obtain ⟨xs, a, b⟩ := h.2 i u hu
    exact ⟨xs, by rw [List.getElem?_set_ne z]; exact a, b⟩
theorem eN_inj {a b : Nat × Nat} (h : eN a = eN b) : a = b := by
  have h1 : ((a.1 : Nat) : Int) = b.1 := congrArg Prod.fst h
  have h2 : ((a.2 : Nat) : Int) = b.2 := congrArg Prod.snd h
  exact Prod.ext (by omega) (by omega)
section
variable {P : Program} {w : World} {K : PySem.W.Frag} {mg : Str → Option Value} {base : Heap}
abbrev s__law_tie_lines : Stmt := topS 35
theorem sc__law_tie_lines : FnScope ["lines", "rest", "one", "two", "far", "other", "n"] ["lines", "rest", "one", "two"] (defScope s__law_tie_lines) := ⟨rfl, rfl, rfl, by decide +kernel, rfl, by decide +kernel, by decide +kernel⟩
def spTieL : Sp := fun vs H Q _ => ∃ (L rl t1 t2 : Addr) (as ts : List Addr) (ls : Lns) (one two : Nat × Nat) (rest : List (Nat × Nat)) (l l1 : List Pl) (other : Pl), vs = [.ref L, .ref rl, .ref t1, .ref t2] ∧ LinesAt H L as ls ∧ TI H t1 (rowE (eN one)) ∧ TI H t2 (rowE (eN two)) ∧ H rl = some (.lst (ts.map V.ref)) ∧ Its H ts ((rest.map eN).map rowE) ∧ rl ∉ as ∧ rl ≠ L ∧
  ls[two.1]? = some l ∧ l[1 - two.2]? = some other ∧ two.2 < 2 ∧ ls[one.1]? = some l1 ∧ one.2 < l1.length ∧ rest.length ≤ 60 ∧
  ∀ H' as' ts', KeptA H H' (L :: rl :: as) → LinesAt H' L as' ((setP ls one.1 one.2 other).set two.1 []) → H' rl = some (.lst (ts'.map V.ref)) → Its H' ts' (((rest.map fun e => if e = (two.1, 1 - two.2) then one else e).map eN).map rowE) → (∀ a ∈ as', a ∈ as ∨ H a = none) → Q .non H'
theorem ok_tie_lines (D : DefAt K mg "_law_tie_lines" s__law_tie_lines) (T : Bt mg) : Use P w K mg base "_law_tie_lines" 1 ["lines", "rest", "one", "two"] spTieL := by
  refine use_of D (fun f fd F => F.ok sc__law_tie_lines (fun vs H Q E h => ?_) (fun cdv A outer s H vs Q E hr h => ?_)) (fun _ _ _ _ _ _ us hl => match us, hl with | [_, _, _, _], _ => rfl)
  · obtain ⟨L, rl, t1, t2, as, ts, ls, one, two, rest, l, l1, other, rfl, _⟩ := h
    rfl
  · obtain ⟨L, rl, t1, t2, as, ts, ls, one, two, rest, l, l1, other, rfl, la, i1, i2, er, its, nra, nrL, hl, ho, w2, hl1, ol, r60, q⟩ := h
    refine ⟨_, (pss_cons (ps_par (i := 4) (j := 5) rfl sc__law_tie_lines.nd rfl rfl (by decide) rfl rfl (pa_cons (pe_tup (pa_cons (pe_ix (k_ixt (K := K) rfl) (pv 3) pe_int (fun _ _ => rfl)) (pa_cons (pe_op op_sub pe_int (pe_ix (k_ixt (K := K) rfl) (pv 3) pe_int (fun _ _ => rfl))) pa_nil))) (pa_cons (pe_ix (k_ixl (K := K) rfl) (pe_ix (k_ixl (K := K) rfl) (pv 0) (pe_ix (k_ixt (K := K) rfl) (pv 3) pe_int (fun _ _ => rfl)) (fun _ _ => rfl)) (pe_op op_sub pe_int (pe_ix (k_ixt (K := K) rfl) (pv 3) pe_int (fun _ _ => rfl))) (fun _ _ => rfl)) pa_nil)) (by rfl))
      (pss_cons (ps_asg (pv 5) (pg_sub (pe_ix (k_ixl (K := K) rfl) (pv 0) (pe_ix (k_ixt (K := K) rfl) (pv 2) pe_int (fun _ _ => rfl)) (fun _ _ => rfl)) (pe_ix (k_ixt (K := K) rfl) (pv 2) pe_int (fun _ _ => rfl)) set_list))
      (pss_cons (ps_for PassesOwn.never rfl (pi_range1 (by rfl) T.range (pa_cons (pe_callB (k_len (K := K) rfl) (by rfl) T.len PySem.boot_len (pa_cons (pv 1) pa_nil)) pa_nil)) (pg_name (i := 6) sc__law_tie_lines.nd rfl (Or.inl rfl))
      (pss_one (ps_if (pt_cmpR (k_eqD (K := K) rfl hr.units) (pe_ix (k_ixl (K := K) rfl) (pv 1) (pv 6) (fun _ _ => rfl)) (pv 4) (nomark _)) (pss_one (ps_asg (pv 2) (pg_sub (pv 1) (pv 6) set_list))) pss_nil)))
      (pss_one (ps_asg (pe_lst pa_nil) (pg_sub (pv 0) (pe_ix (k_ixt (K := K) rfl) (pv 3) pe_int (fun _ _ => rfl)) set_list)))))), ?_⟩
    have sq2 : SqT K H t2 ((rowE (eN two)).map V.int) := rdT i2
    refine ⟨_, rfl, t2, _, 0, .int ((two.1 : Nat) : Int), rfl, rfl, sq2, rfl, ?_⟩
    refine ⟨_, rfl, t2, _, 1, .int ((two.2 : Nat) : Int), rfl, rfl, sq2, rfl, 1, _, rfl, rfl, by show 2 ≤ sizeLine; decide, fun f1 nf => ?_⟩
    have sf := same_new (H := H) (o := .tup [V.int ((two.1 : Nat) : Int), V.int (1 - ((two.2 : Nat) : Int))]) nf
    have ef := upd_same (H := H) (a := f1) (o := HO.tup [V.int ((two.1 : Nat) : Int), V.int (1 - ((two.2 : Nat) : Int))])
    generalize upd H f1 (.tup [V.int ((two.1 : Nat) : Int), V.int (1 - ((two.2 : Nat) : Int))]) = H1 at sf ef ⊢
    have la1 := la.mono sf
    obtain ⟨a2, ha2⟩ : ∃ a, as[two.1]? = some a := ⟨_, List.getElem?_eq_getElem (by rw [la.len]; exact (List.getElem?_eq_some_iff.mp hl).1)⟩
    obtain ⟨v2, ea2, pv2⟩ := la1.at_ _ a2 l ha2 hl
    obtain ⟨vo, hvo, pvo⟩ := pv2.2 _ _ ho
    have sq21 : SqT K H1 t2 ((rowE (eN two)).map V.int) := rdT (i2.mono sf)
    have sq11 : SqT K H1 t1 ((rowE (eN one)).map V.int) := rdT (i1.mono sf)
    refine ⟨_, rfl, _, rfl, t2, _, 0, .int ((two.1 : Nat) : Int), rfl, rfl, sq21, rfl, L, _, _, .ref a2, rfl, rfl, sqL la1.el, atI_of rfl (at_map ha2), ?_⟩
    refine ⟨_, rfl, t2, _, 1, .int ((two.2 : Nat) : Int), rfl, rfl, sq21, rfl, 1, _, rfl, rfl, a2, _, _, vo, rfl, rfl, sqL ea2, atI_of (j := 1 - two.2) (by omega) hvo, ?_⟩
    refine ⟨_, _, rfl, ?_⟩
    obtain ⟨a1, ha1⟩ : ∃ a, as[one.1]? = some a := ⟨_, List.getElem?_eq_getElem (by rw [la.len]; exact (List.getElem?_eq_some_iff.mp hl1).1)⟩
    obtain ⟨v1, ea1, pv1⟩ := la1.at_ _ a1 l1 ha1 hl1
    refine ⟨_, rfl, _, rfl, _, rfl, t1, _, 0, .int ((one.1 : Nat) : Int), rfl, rfl, sq11, rfl, L, _, _, .ref a1, rfl, rfl, sqL la1.el, atI_of rfl (at_map ha1), ?_⟩
    refine ⟨_, rfl, t1, _, 1, .int ((one.2 : Nat) : Int), rfl, rfl, sq11, rfl, a1, v1, _, one.2, rfl, rfl, ea1, ixN_nat rfl (by rw [← pv1.1]; exact ol), ?_⟩
    have la2 := la1.set (s := one.2) ha1 hl1 ea1 pv1 pvo
    have kA : KeptA H1 (upd H1 a1 (.lst (v1.set one.2 vo))) as := KeptA.put (List.mem_of_getElem? ha1)
    have i1' := la1.ti kA (i1.mono sf)
    have i2' := la1.ti kA (i2.mono sf)
    have fe : (eN (two.1, 1 - two.2)).2 = 1 - ((two.2 : Nat) : Int) := by
      show (((1 - two.2 : Nat) : Nat) : Int) = _
      omega
    have if' : TI (upd H1 a1 (.lst (v1.set one.2 vo))) f1 (rowE (eN (two.1, 1 - two.2))) := la1.ti kA (.inl (by
      rw [ef]
      show _ = some (HO.tup [V.int (eN (two.1, 1 - two.2)).1, V.int (eN (two.1, 1 - two.2)).2])
      rw [fe]
      rfl))
    have er2 := kA _ _ (sf _ _ er) nra
    have its2 : Its (upd H1 a1 (.lst (v1.set one.2 vo))) ts ((rest.map eN).map rowE) := ⟨its.1, fun j t ht => by
      obtain ⟨r, a, b⟩ := its.2 j t ht
      exact ⟨r, a, la1.ti kA (b.mono sf)⟩⟩
    have kA0 : KeptA H (upd H1 a1 (.lst (v1.set one.2 vo))) as := (KeptA.of sf).trans kA
    generalize upd H1 a1 (.lst (v1.set one.2 vo)) = H2 at la2 i1' i2' if' er2 its2 kA0 ⊢
    have tsl : ts.length = rest.length := by
      have := its.1
      rw [List.length_map, List.length_map] at this
      exact this
    refine ⟨_, rfl, rl, _, rfl, .inl (sqL er2), _, rfl, by omega, by rw [List.length_map]; omega, for_range (lo := 0) (n := ((((ts.map V.ref).length : Nat) : Int)).toNat)
      (fun k σ H3 => ∃ (y6 : Option V) (ts' : List Addr), σ = [some (.ref L), some (.ref rl), some (.ref t1), some (.ref t2), some (.ref f1), some vo, y6] ∧ KeptA H2 H3 [rl] ∧ H3 rl = some (.lst (ts'.map V.ref)) ∧ Its H3 ts' ((((rest.take k).map fun e => if e = (two.1, 1 - two.2) then one else e) ++ rest.drop k).map eN |>.map rowE))
      ⟨none, ts, rfl, KeptA.of (.refl H2), er2, its2⟩ ?_ ?_⟩
    · rintro k σ H3 hk ⟨y6, ts', rfl, k3, er3, its3⟩
      rw [Int.toNat_natCast, List.length_map] at hk
      rw [show (0 : Int) + ((k : Nat) : Int) = ((k : Nat) : Int) by omega]
      obtain ⟨e, he⟩ : ∃ e, rest[k]? = some e := ⟨_, List.getElem?_eq_getElem (by omega)⟩
      have tiR : ∀ {t : Addr} {r : List Int}, TI H2 t r → TI H3 t r := fun {t r} h => by
        have n : t ≠ rl := (show Rd H2 t _ from h).ne er2 (fun _ z => by cases z) (fun _ _ z => by cases z)
        rcases (show Rd H2 t _ from h) with z | ⟨o, z⟩
        · exact .inl (k3 _ _ z (by simpa using n))
        · exact .inr ⟨o, k3 _ _ z (by simpa using n)⟩
      have l3 := its3.1
      rw [List.length_map, List.length_map, List.length_append, List.length_map, List.length_take, List.length_drop] at l3
      obtain ⟨u, hu⟩ : ∃ u, ts'[k]? = some u := ⟨_, List.getElem?_eq_getElem (by omega)⟩
      obtain ⟨r, hr2, ur⟩ := its3.2 k u hu
      have hrow : r = rowE (eN e) := by
        have := at_map (f := rowE) (at_map (f := eN) (cur_at (f := fun e => if e = (two.1, 1 - two.2) then one else e) he))
        rw [this] at hr2
        exact (Option.some.inj hr2).symm
      subst hrow
      have fr := tiR if'
      have or3 := tiR i1'
      have sqU : SqT K H3 u ((rowE (eN e)).map V.int) := rdT ur
      have sqF : SqT K H3 f1 ((rowE (eN (two.1, 1 - two.2))).map V.int) := rdT fr
      refine ⟨_, rfl, _, rfl, rl, _, _, .ref u, rfl, rfl, sqL er3, atI_of rfl (at_map hu), _, rfl, rowD (rowE (eN e)), rowD (rowE (eN (two.1, 1 - two.2))), .tup sqU (dpAll_ints _), .tup sqF (dpAll_ints _), shaped_rowG _, shaped_rowG _, ?_⟩
      have ev : PyData.eqv (rowD (rowE (eN e))) (rowD (rowE (eN (two.1, 1 - two.2)))) = decide (rowE (eN e) = rowE (eN (two.1, 1 - two.2))) := eqv_ints _ _
      rw [ev]
      by_cases c : e = (two.1, 1 - two.2)
      · rw [decide_eq_true (by rw [c])]
        refine ⟨true, rfl, iteT ?_⟩
        refine ⟨_, rfl, _, rfl, _, rfl, rl, _, _, k, rfl, rfl, er3, ixN_nat rfl (by rw [List.length_map]; omega), ?_⟩
        refine ⟨_, ts'.set k t1, rfl, k3.trans (KeptA.put (List.mem_singleton.mpr rfl)), by rw [upd_same, List.map_set], ?_⟩
        have := its_set (k := k) its3 or3
        rw [← cur_succ (f := fun e => if e = (two.1, 1 - two.2) then one else e) he, if_pos c, List.map_set, List.map_set]
        exact this.put er3
      · rw [decide_eq_false fun z => c (eN_inj (rowE_inj z))]
        refine ⟨false, rfl, iteF ⟨_, ts', rfl, k3, er3, ?_⟩⟩
        rw [← cur_succ (f := fun e => if e = (two.1, 1 - two.2) then one else e) he, if_neg c, set_at (cur_at he)]
        exact its3
    · rintro σ H3 ⟨y6, ts', rfl, k3, er3, its3⟩
      rw [Int.toNat_natCast, List.length_map, tsl, List.take_length, List.drop_length, List.append_nil] at its3
      have la3 := la2.keptR k3 er2 nra nrL
      have i23 : TI H3 t2 (rowE (eN two)) := by
        have n : t2 ≠ rl := (show Rd H2 t2 _ from i2').ne er2 (fun _ z => by cases z) (fun _ _ z => by cases z)
        rcases (show Rd H2 t2 _ from i2') with z | ⟨o, z⟩
        · exact .inl (k3 _ _ z (by simpa using n))
        · exact .inr ⟨o, k3 _ _ z (by simpa using n)⟩
      refine ⟨by show 0 ≤ sizeLine; decide, fun z nz => ?_⟩
      have sz := same_new (H := H3) (o := .lst []) nz
      have sq2z : SqT K (upd H3 z (.lst [])) t2 ((rowE (eN two)).map V.int) := rdT (i23.mono sz)
      have eLz := sz _ _ la3.el
      have l2 : two.1 < as.length := by
        rw [la.len]
        exact (List.getElem?_eq_some_iff.mp hl).1
      refine ⟨_, rfl, _, rfl, t2, _, 0, .int ((two.1 : Nat) : Int), rfl, rfl, sq2z, rfl, L, _, _, two.1, rfl, rfl, eLz, ixN_nat rfl (by rw [List.length_map]; exact l2), ?_⟩
      refine q _ (as.set two.1 z) ts' ?_ (la3.wipe nz) (by rw [upd_ne nrL]; exact sz _ _ er3) ((its3.mono sz).put eLz) fun a ha => ?_
      · intro b u hb nb
        simp only [List.mem_cons, not_or] at nb
        rw [upd_ne nb.1]
        exact sz _ _ (k3 _ _ (kA0 _ _ hb nb.2.2) (by simpa using nb.2.1))
      · rcases List.mem_or_eq_of_mem_set ha with w | rfl
        · exact .inl w
        · refine .inr ?_
          cases h0 : H a with
          | none => rfl
          | some u =>
            have na : a ∉ as := fun m => by
              obtain ⟨vs, e⟩ := la3.lst m
              rw [nz] at e
              cases e
            have nr : a ≠ rl := fun w => by
              rw [w, er3] at nz
              cases nz
            rw [k3 _ _ (kA0 _ _ h0 na) (by simpa using nr)] at nz
            cases nz
end
end KQ
namespace KQ
open PySem PySem.Spec PyProof.Rows L2 KR KM StX
section
variable {P : Program} {w : World} {K : PySem.W.Frag} {mg : Str → Option Value} {base : Heap}
abbrev s__law_with : Stmt := topS 39
theorem sc__law_with : FnScope ["row", "place", "thing"] ["row", "place", "thing"] (defScope s__law_with) := ⟨rfl, rfl, rfl, by decide +kernel, rfl, by decide +kernel, by decide +kernel⟩
def spWith : Sp := fun vs H Q _ => ∃ (a : Addr) (xs : List V) (i : Nat) (x : V), vs = [.ref a, .int (i : Nat), x] ∧ Rd H a (.tup xs) ∧ i < xs.length ∧ xs.length ≤ 90000 ∧ ∀ H' p, Same H H' → Rd H' p (.tup (xs.take i ++ [x] ++ xs.drop (i + 1))) → Q (.ref p) H'
theorem ok_with (D : DefAt K mg "_law_with" s__law_with) (T : Bt mg) : Use P w K mg base "_law_with" 1 ["row", "place", "thing"] spWith := by
  refine use_of D (fun f fd F => F.ok sc__law_with (fun vs H Q E h => ?_) (fun cdv A outer s H vs Q E hr h => ?_)) (fun _ _ _ _ _ _ us hl => match us, hl with | [_, _, _], _ => rfl)
  · obtain ⟨a, xs, i, x, rfl, _⟩ := h
    rfl
  · obtain ⟨a, xs, i, x, rfl, ea, il, big, q⟩ := h
    refine ⟨_, (pss_one (ps_ret (pe_op (k_catR (K := K) rfl) (pe_op (k_catR (K := K) rfl) (pe_slice (k_slR (K := K) rfl) (pv 0) po_none (po_some (pv 1))) (pe_tup (pa_cons (pv 2) pa_nil))) (pe_slice (k_slR (K := K) rfl) (pv 0) (po_some (pe_op op_add (pv 1) pe_int)) po_none)))), ?_⟩
    have cut1 : cutV xs none (some ((i : Nat) : Int)) = xs.take i := by
      unfold cutV
      rw [HT.sIx_none, HT.sIx_nat, Nat.min_eq_left (by omega), List.drop_zero, Nat.sub_zero]
    have cut2 : cutV xs (some (((i + 1 : Nat) : Nat) : Int)) none = xs.drop (i + 1) := by
      unfold cutV
      rw [HT.sIx_none, HT.sIx_nat, Nat.min_eq_left (by omega), ← List.length_drop, List.take_length]
    refine ⟨_, rfl, _, rfl, _, rfl, .inr ⟨a, xs, rfl, ea, fun H1 p1 s1 e1 => ?_⟩⟩
    refine ⟨_, rfl, by show 1 ≤ sizeLine; decide, fun t nt => ?_⟩
    have st := same_new (H := H1) (o := .tup [x]) nt
    have et := upd_same (H := H1) (a := t) (o := HO.tup [x])
    generalize upd H1 t (.tup [x]) = H2 at st et ⊢
    rw [cut1] at e1
    refine .inr ⟨p1, t, _, _, rfl, rfl, e1.mono st, .inl et, by rw [List.length_take]; show min i xs.length + 1 ≤ _; omega, fun H3 p3 s3 e3 => ?_⟩
    refine ⟨_, rfl, _, rfl, i, 1, rfl, rfl, _, rfl, .inr ⟨a, xs, rfl, ((ea.mono s1).mono st).mono s3, fun H4 p4 s4 e4 => ?_⟩⟩
    rw [show ((i : Nat) : Int) + 1 = ((i + 1 : Nat) : Int) by omega, cut2] at e4
    refine .inr ⟨p3, p4, _, _, rfl, rfl, e3.mono s4, e4, ?_, fun H5 p5 s5 e5 => q H5 p5 ((s1.trans st).trans (s3.trans (s4.trans s5))) e5⟩
    rw [List.length_append, List.length_take, List.length_drop]
    show min i xs.length + 1 + (xs.length - (i + 1)) ≤ _
    omega
abbrev s__law_is_shaped : Stmt := topS 41
theorem sc__law_is_shaped : FnScope ["value", "line"] ["value"] (defScope s__law_is_shaped) := ⟨rfl, rfl, rfl, by decide +kernel, rfl, by decide +kernel, by decide +kernel⟩
def Shaped (d : PyData) : Prop := ∃ n ks ls, d = .tuple [.int n, .tuple ks, .tuple ls] ∧ 0 ≤ n ∧ n ≤ 40 ∧ ls.length ≤ 320 ∧ ∀ l ∈ ls, ∃ a b, l = .tuple [a, b]
def spShaped : Sp := fun vs H Q _ => ∃ (v : V) (d : PyData), vs = [v] ∧ DV H d v ∧ (∀ n ks ls, d = .tuple [n, .tuple ks, .tuple ls] → ks.length ≤ 100000 ∧ ls.length ≤ 100000) ∧ ∀ H' c, Same H H' → (c = true → Shaped d) → Q (.bl c) H'
theorem ok_is_shaped (D : DefAt K mg "_law_is_shaped" s__law_is_shaped) (T : Bt mg) (u__law_is_int : Use P w K mg base "_law_is_int" 1 ["thing", "low", "high"] spIntWD) : Use P w K mg base "_law_is_shaped" 2 ["value"] spShaped := by
  refine use_of D (fun f fd F => F.ok sc__law_is_shaped (fun vs H Q E h => ?_) (fun cdv A outer s H vs Q E hr h => ?_)) (fun _ _ _ _ _ _ us hl => match us, hl with | [_], _ => rfl)
  · obtain ⟨v, d, rfl, _⟩ := h
    rfl
  · obtain ⟨v, d, rfl, o, big, q⟩ := h
    refine ⟨_, (pss_cons (ps_if (PW.pt (pw_or (pt_not (pt_val (pe_callB (k_isi (K := K) rfl) (by rfl) T.isinstance (by decide +kernel) (pa_cons (pv 0) (pa_cons (pe_bltn (v := .ty "tuple") (by rfl) T.tuple (by decide +kernel) rfl) pa_nil))))) (pw_or (pt_cmpR op_ne (pe_callB (k_len (K := K) rfl) (by rfl) T.len PySem.boot_len (pa_cons (pv 0) pa_nil)) pe_int (nomark _)) (pw_or (pt_not (pt_val (pe_callB (k_isi (K := K) rfl) (by rfl) T.isinstance (by decide +kernel) (pa_cons (pe_ix (k_ixt (K := K) rfl) (pv 0) pe_int (fun _ _ => rfl)) (pa_cons (pe_bltn (v := .ty "tuple") (by rfl) T.tuple (by decide +kernel) rfl) pa_nil))))) (pw_or1 (pt_not (pt_val (pe_callB (k_isi (K := K) rfl) (by rfl) T.isinstance (by decide +kernel) (pa_cons (pe_ix (k_ixt (K := K) rfl) (pv 0) pe_int (fun _ _ => rfl)) (pa_cons (pe_bltn (v := .ty "tuple") (by rfl) T.tuple (by decide +kernel) rfl) pa_nil)))))))))) (pss_one (ps_ret pe_bl)) pss_nil)
      (pss_cons (ps_if (PW.pt (pw_or (pt_not (pt_val (pe_use u__law_is_int (by decide) hr (by rfl) (pa_cons (pe_ix (k_ixt (K := K) rfl) (pv 0) pe_int (fun _ _ => rfl)) (pa_cons pe_int (pa_cons pe_int pa_nil)))))) (pw_or1 (pt_cmpR op_gt (pe_callB (k_len (K := K) rfl) (by rfl) T.len PySem.boot_len (pa_cons (pe_ix (k_ixt (K := K) rfl) (pv 0) pe_int (fun _ _ => rfl)) pa_nil)) pe_int (nomark _))))) (pss_one (ps_ret pe_bl)) pss_nil)
      (pss_one (ps_ret (pe_cmpR (k_eqD (K := K) rfl hr.units) (pe_lc (own := [("line", 1)]) rfl sc__law_is_shaped.nd (k_tup (K := K) rfl (pe_ix (k_ixt (K := K) rfl) (pv 0) pe_int (fun _ _ => rfl))) (blkOk_by (N := ["value", "line"]) (sc := defScope s__law_is_shaped) (by decide +kernel)) (fun _ _ _ _ _ => (pg_name (i := 1) sc__law_is_shaped.nd rfl (Or.inl rfl))) (fun _ _ _ _ _ => (pts_one (PW.pt (pw_or (pt_not (pt_val (pe_callB (k_isi (K := K) rfl) (by rfl) T.isinstance (by decide +kernel) (pa_cons (pv 1) (pa_cons (pe_bltn (v := .ty "tuple") (by rfl) T.tuple (by decide +kernel) rfl) pa_nil))))) (pw_or1 (pt_cmpR op_ne (pe_callB (k_len (K := K) rfl) (by rfl) T.len PySem.boot_len (pa_cons (pv 1) pa_nil)) pe_int (nomark _))))))) (fun _ _ _ _ _ => pe_int)) (pe_lst pa_nil) (nomark _)))))), ?_⟩
    have no : Q (.bl false) H := q H false (.refl H) fun z => by cases z
    obtain ⟨t1, y1, e1⟩ := dv_ty (K := K) o (C := "tuple") (.inr (.inr (.inr rfl)))
    refine ⟨_, rfl, _, _, t1, _, _, rfl, .ty _, y1, e1, _, rfl, ?_⟩
    cases c : clsB "tuple" d with
    | false => exact iteT (iteT no)
    | true =>
    refine iteF ?_
    obtain ⟨ds, rfl⟩ : ∃ ds, d = .tuple ds := by
      cases d with
      | tuple ds => exact ⟨ds, rfl⟩
      | _ => cases c
    obtain ⟨a, xs, rfl, ea, hs⟩ := o.tup
    have ln := hs.len
    refine ⟨_, rfl, a, _, rfl, .inr (rdT ea), rfl, ?_⟩
    by_cases cl : ds.length = 3
    rotate_left
    · refine ⟨true, congrArg V.bl (congrArg Bool.not (decide_eq_false fun z => cl (by have := V.int.inj z; omega))), ?_⟩
      exact iteT (iteT no)
    obtain ⟨d1, d2, d3, rfl⟩ : ∃ d1 d2 d3, ds = [d1, d2, d3] := match ds, cl with | [x, y, z], _ => ⟨x, y, z, rfl⟩
    obtain ⟨v1, vs1, rfl, h1, hs⟩ := hs.out
    obtain ⟨v2, vs2, rfl, h2, hs⟩ := hs.out
    obtain ⟨v3, vs3, rfl, h3, hs⟩ := hs.out
    obtain rfl := hs.end'
    refine ⟨false, rfl, iteF ?_⟩
    obtain ⟨t2, y2, e2⟩ := dv_ty (K := K) h2 (C := "tuple") (.inr (.inr (.inr rfl)))
    obtain ⟨t3, y3, e3⟩ := dv_ty (K := K) h3 (C := "tuple") (.inr (.inr (.inr rfl)))
    refine ⟨_, rfl, a, _, 1, v2, rfl, rfl, rdT ea, rfl, _, _, t2, _, _, rfl, .ty _, y2, e2, _, rfl, ?_⟩
    cases c2 : clsB "tuple" d2 with
    | false => exact iteT (iteT no)
    | true =>
    refine iteF ?_
    refine ⟨_, rfl, a, _, 2, v3, rfl, rfl, rdT ea, rfl, _, _, t3, _, _, rfl, .ty _, y3, e3, _, rfl, ?_⟩
    cases c3 : clsB "tuple" d3 with
    | false => exact iteT no
    | true =>
    refine iteF ?_
    obtain ⟨ks, rfl⟩ : ∃ ks, d2 = .tuple ks := by
      cases d2 with
      | tuple ds => exact ⟨ds, rfl⟩
      | _ => cases c2
    obtain ⟨ls, rfl⟩ : ∃ ks, d3 = .tuple ks := by
      cases d3 with
      | tuple ds => exact ⟨ds, rfl⟩
      | _ => cases c3
    obtain ⟨bk, bl⟩ := big _ ks ls rfl
    obtain ⟨al, xl, rfl, el, hl⟩ := h3.tup
    have ll := hl.len
    refine ⟨_, rfl, a, _, 0, v1, rfl, rfl, rdT ea, rfl, v1, d1, 0, 40, rfl, h1, _, rfl, ?_⟩
    cases ci : intD 0 40 d1 with
    | false => exact iteT (iteT no)
    | true =>
    obtain ⟨n, rfl, n0, n40⟩ := intD_of ci
    refine iteF ?_
    refine ⟨_, rfl, a, _, 2, _, rfl, rfl, rdT ea, rfl, al, _, rfl, .inr (rdT el), _, 320, rfl, rfl, _, rfl, ?_⟩
    by_cases l320 : ls.length ≤ 320
    rotate_left
    · rw [decide_eq_true (show (320 : Int) < ((xl.length : Nat) : Int) by omega)]
      exact iteT no
    rw [decide_eq_false (show ¬ (320 : Int) < ((xl.length : Nat) : Int) by omega)]
    refine iteF ?_
    refine ⟨_, rfl, a, _, 2, _, rfl, rfl, rdT ea, rfl, al, rfl, ⟨_, rdT el⟩, fun M nM => ?_⟩
    refine lc_tup (K := K) (a := al) (xs := xl) (fun k H1 => Same H H1 ∧ ∃ r, H1 M = some (.lst ((List.replicate r (1 : Int)).map V.int)) ∧ r ≤ k ∧ (r = 0 → ∀ l ∈ ls.take k, ∃ a b, l = .tuple [a, b]))
      ⟨same_new nM, 0, upd_same, Nat.le_refl _, fun _ l hl => by cases hl⟩ (fun k H1 _ ⟨s1, _⟩ => rdT (el.mono s1)) ?_ ?_
    · rintro k v H1 hk ⟨s1, r, eM, rk, good⟩
      obtain ⟨d, hd, dv⟩ := hl.at hk
      have kl : k < ls.length := (List.getElem?_eq_some_iff.mp hd).1
      have dv1 := dv.mono s1
      obtain ⟨tt, yt, et⟩ := dv_ty (K := K) dv1 (C := "tuple") (.inr (.inr (.inr rfl)))
      have app : ∀ b : Bool, (b = false → ∃ x y, d = .tuple [x, y]) → (if b = true then ∃ acc, H1 M = some (.lst acc) ∧ acc.length < sizeLine ∧ Same H (upd H1 M (.lst (acc ++ [V.int 1]))) ∧ ∃ r, upd H1 M (.lst (acc ++ [V.int 1])) M = some (.lst ((List.replicate r (1 : Int)).map V.int)) ∧ r ≤ k + 1 ∧ (r = 0 → ∀ l ∈ ls.take (k + 1), ∃ a b, l = .tuple [a, b]) else Same H H1 ∧ ∃ r, H1 M = some (.lst ((List.replicate r (1 : Int)).map V.int)) ∧ r ≤ k + 1 ∧ (r = 0 → ∀ l ∈ ls.take (k + 1), ∃ a b, l = .tuple [a, b])) := fun b hb => by
        cases b with
        | true =>
          rw [if_pos rfl]
          refine ⟨_, eM, ?_, same_mut s1 nM, r + 1, ?_, Nat.succ_le_succ rk, fun z => by cases z⟩
          · rw [List.length_map, List.length_replicate]
            exact small_of (by omega)
          · rw [upd_same, List.replicate_succ', List.map_append]
            rfl
        | false =>
          rw [if_neg (by decide)]
          refine ⟨s1, r, eM, Nat.le_succ_of_le rk, fun z l hl2 => ?_⟩
          rw [take_snoc hd] at hl2
          rcases List.mem_append.mp hl2 with hl2 | hl2
          · exact good z l hl2
          · obtain rfl := List.mem_singleton.mp hl2
            exact hb rfl
      refine ⟨rfl, _, rfl, _, _, tt, _, _, rfl, .ty _, yt, et, _, rfl, ?_⟩
      cases c : clsB "tuple" d with
      | false =>
        refine iteT ?_
        exact app true fun z => by cases z
      | true =>
        refine iteF ?_
        obtain ⟨ds, rfl⟩ : ∃ ks, d = .tuple ks := by
          cases d with
          | tuple ds => exact ⟨ds, rfl⟩
          | _ => cases c
        obtain ⟨b, ys, rfl, eb, hy⟩ := dv1.tup
        have yl := hy.len
        refine ⟨_, rfl, b, _, rfl, .inr (rdT eb), rfl, ?_⟩
        by_cases c2 : ds.length = 2
        · refine ⟨false, congrArg V.bl (congrArg Bool.not (decide_eq_true (congrArg V.int (by omega)))), ?_⟩
          exact app false fun _ => match ds, c2 with | [x, y], _ => ⟨x, y, rfl⟩
        · refine ⟨true, congrArg V.bl (congrArg Bool.not (decide_eq_false fun z => c2 (by have := V.int.inj z; omega))), ?_⟩
          exact app true fun z => by cases z
    · rintro H1 ⟨s1, r, eM, rk, good⟩
      rw [ll, List.take_length] at good
      refine ⟨Nat.zero_le _, fun p np => ?_⟩
      have sp := same_new (H := H1) (o := .lst []) np
      refine ⟨.list ((List.replicate r (1 : Int)).map PyData.int), .list [], .lst (sqL (sp _ _ eM)) (dpAll_ints _), .lst (sqL (xs := []) upd_same) .nil, shaped_ints _, rfl, ?_⟩
      refine q _ _ (s1.trans sp) fun z => ⟨n, ks, ls, rfl, n0, n40, l320, good ?_⟩
      cases r with
      | zero => rfl
      | succ r => cases z
end
end KQ
/-! a tuple, empty or not, taken many times -/
namespace KR
open PySem PySem.Spec PyProof.Rows L2 KM KQ
section
variable {X : Cx}
theorem tuple_mul0 (l : Addr) (n : Nat) (sl : Array (Option Value)) (dd : Option Addr) (k : Int) (u : Tok) (c0 : (decide (k < -(2 ^ 63)) || decide (k ≥ 2 ^ 63)) = false) :
    Meets (Builtin.«tuple.__mul__» ⟨[.ref l, .int k u], []⟩) (fun _ R s => s.heap.get? l = some { cls := .type "tuple", dict := dd, data := .seq #[] n, slots := sl } ∧ R (.ok (.ret (Value.ref l))) s) :=
  .of_wp fun prog w A R s h => by
    obtain ⟨hp, g, d, tk, os⟩ := s
    obtain ⟨hl, h⟩ := h
    have f1 := AutoSeq1.idx_int
    wp_walk using wpAny_loadPart' hl
    repeat (first
      | (refine wpAny_ite_false (decide_eq_false (by rw [c0]; exact Bool.false_ne_true)) ?_; wp_walk using wpAny_loadPart' hl))
    exact ⟨_, rfl, h⟩
def rRepTG (K : PySem.W.Frag) : R2 := fun x y H Q => ∃ l k xs, x = .ref l ∧ y = .int k ∧ SqT K H l xs ∧ 2 ≤ k ∧ k ≤ 1000 ∧ xs.length ≤ 1000 ∧ (xs = [] → Q (.ref l) H) ∧ (xs ≠ [] → ∀ p, H p = none → Q (.ref p) (upd H p (.tup (List.replicate k.toNat xs).flatten)))
theorem k_repTG {K : PySem.W.Frag} (hK : X.K = K) : OpR X (binaryOp .Mult) (rRepTG K) := by
  subst hK
  intro pins s σ H x y v u Q I rx ry h
  obtain ⟨l, k, xs, rfl, rfl, hl, h1, h2, hz, q0, q1⟩ := h
  by_cases e : xs = []
  · subst e
    cases rx
    obtain ⟨t, rfl⟩ := ry
    obtain ⟨its, r, ⟨⟨cls, dd, data, sl⟩, ho, hc, n, hd⟩, hs⟩ := I.tuple hl
    cases r
    simp only at hc hd
    subst hc hd
    have c0 : (decide (k < -(2 ^ 63)) || decide (k ≥ 2 ^ 63)) = false := by
      rw [decide_eq_false (by omega), decide_eq_false (by omega)] <;> rfl
    refine wpAny_binaryOp_repeat_ref (T := "tuple") (U := "int") (by decide) ⟨_, ho, rfl⟩ (fun s' => typeIs_int s' k t) noFill_tuple_mul F.fills_int_mul F.slot_int_rmul repeat_tuple F.slot_int_index.lookup
      (call_meets F.slot_int_rmul (typeIs_int s k t) F.entry_int_rmul (F.args_int_rmul_2 _ _) (int_rmul_tuple k t l #[] n dd sl)
        ⟨ho, rfl, ⟨_, ho, rfl⟩, call_meets F.slot_tuple_mul ⟨_, ho, rfl⟩ F.entry_tuple_mul (F.args_tuple_mul_2 _ _) (tuple_mul0 l n sl dd k t c0) ⟨ho, ?_⟩⟩)
    exact ⟨.ref l, H, I, rfl, q0 rfl⟩
  · exact op_repT pins s σ H _ _ v u Q I rx ry ⟨l, k, xs, rfl, rfl, hl, e, h1, h2, hz, q1 e⟩
end
end KR
/-! a def of the text called in a try's body -/
namespace KR
open PySem PySem.Spec PyProof.Rows L2
def tCallW (sp : Sp) (W : WX) (t : TA) : TE := fun σ H Q => t σ H fun vs H1 => sp vs H1 Q (fun cls d H' => W cls d σ H')
section
variable {X : Cx} {k j : Nat} {ps : List Str} {sp : Sp} {W : WX} {x : Str} {p pos : Pos} {e : Expr} {es : List Expr} {t : TA}
theorem pe_usexW (u : UseX X.prog X.w X.K X.mg X.base x j ps sp) (tk : Takes X W) (le : j ≤ k) (hr : Room k X.A) (hg : Gl X x) (ha : PA X (e :: es) t)
    (hdb : (x == ("__debug__" : Str)) = false := by decide) (he : starEach (e :: es) X.env = (false, eval e X.env) :: starEach es X.env := by rfl)
    (hpl : (backTo pos (starEach es X.env)).any (·.1) = false := by rfl) : PE X (.Call (.Name x p) (e :: es) [] pos) (tCallW sp W t) := by
  obtain ⟨f, fd, F, hm, kp, b⟩ := u
  refine ⟨fun pins s σ H Q I h => ?_⟩
  refine wpAny_Call_Name_kw (ld_glob I hg hm ?_ hdb)
  refine PySem.W.callWith_K (h₀ := X.base) I.ok.mod.kin kp (thn (ha.run pos pins s σ _ _ I h) fun us s2 ⟨vs, H2, I2, r, q⟩ => ⟨I2.kIn, ?_⟩) he hpl
  have q' : sp (vs ++ []) H2 Q (fun cls d H' => W cls d σ H') := by rw [List.append_nil]; exact q
  refine run_fnSD (E := fun σ cls d H' => W cls d σ H') (dvs := []) (ds := []) F (hr.mono le) b .nil (fun pins H s e s' I c => ?_) I2 r q'
  exact tk e s' (XE.of_call I (fun _ _ _ h => h) c)
end
end KR
namespace KQ
open PySem PySem.Spec PyProof.Rows L2 KR KM StX
section
variable {P : Program} {w : World} {K : PySem.W.Frag} {mg : Str → Option Value} {base : Heap}
def spOfR : Sp := fun vs H Q _ => ∃ (m c g : Addr) (b : Int) (l : Addr) (xs : List V), vs = [.ref m, .ref l] ∧ MS H m c g b ∧ b ≤ 1000000 ∧ Rd H l (.tup xs) ∧ xs ≠ [] ∧ xs.length ≤ 1000000 ∧
  ∀ H' x, Kept H H' m g → MS H' m c g (b + 1) → x ∈ xs → Q x H'
theorem ok_ofR (D : DefAt K mg "_law_of" s__law_of) (T : Bt mg) (u__law_draw : Use P w K mg base "_law_draw" 2 ["m", "limit"] spDraw) : Use P w K mg base "_law_of" 3 ["m", "some"] spOfR := by
  refine use_of D (fun f fd F => F.ok sc__law_of (fun vs H Q E h => ?_) (fun cdv A outer s H vs Q E hr h => ?_)) (fun _ _ _ _ _ _ us hl => match us, hl with | [_, _], _ => rfl)
  · obtain ⟨m, c, g, b, l, xs, rfl, _⟩ := h
    rfl
  · obtain ⟨m, c, g, b, l, xs, rfl, ms, hb, el, ne, hle, q⟩ := h
    refine ⟨_, (pss_one (ps_ret (pe_ix (k_ixt (K := K) rfl) (pv 1) (pe_use u__law_draw (by decide) hr (by rfl) (pa_cons (pv 0) (pa_cons (pe_callB (k_len (K := K) rfl) (by rfl) T.len PySem.boot_len (pa_cons (pv 1) pa_nil)) pa_nil))) (fun _ _ => rfl)))), ?_⟩
    have pos := List.length_pos_iff.mpr ne
    refine ⟨_, rfl, _, rfl, _, rfl, l, _, rfl, .inr (rdT el), m, c, g, b, _, rfl, ms, hb, by omega, by omega, fun H1 d k1 ms1 d0 d1 => ?_⟩
    obtain ⟨x, hx⟩ := at_some (xs := xs) (i := d.toNat) (by omega)
    have el1 : Rd H1 l (.tup xs) := ((out_rd ms el).mono (out_kept k1)).mono (out_same m g H1)
    exact ⟨l, _, d, x, rfl, rfl, rdT el1, atI_of (j := d.toNat) (by omega) hx, q H1 x k1 ms1 (List.mem_of_getElem? hx)⟩
abbrev s__law_bent : Stmt := topS 40
theorem sc__law_bent : FnScope ["m", "piece", "doors", "knots", "lines", "pick", "spot", "one", "two", "odd", "order", "n"] ["m", "piece"] (defScope s__law_bent) := ⟨rfl, rfl, rfl, by decide +kernel, rfl, by decide +kernel, by decide +kernel⟩
def spBent : Sp := fun vs H Q _ => ∃ (m c g : Addr) (b : Int) (k : Nat) (a ak al : Addr) (n : Int) (xk xl : List V) (ks ls : List PyData), vs = [.ref m, .ref a] ∧ MS H m c g b ∧ b ≤ 90000 ∧ Bi (Out m g H) a ak al n xk xl ks ls ∧ 0 ≤ n ∧ n ≤ 40 ∧ ks.length ≤ k ∧ 200 ≤ k ∧ k ≤ 1000 ∧ ls.length ≤ 13 ∧ (∀ l ∈ ls, ∃ p q, l = .tuple [p, q]) ∧
  ∀ H' d v, Kept H H' m g → MS H' m c g (b + 40) → ValG (k + 1) (Out m g H') d v → Q v H'
theorem ok_bent (D : DefAt K mg "_law_bent" s__law_bent) (T : Bt mg) (u__law_draw : Use P w K mg base "_law_draw" 2 ["m", "limit"] spDraw) (u__law_of : Use P w K mg base "_law_of" 3 ["m", "some"] spOfA) (u__law_ofT : Use P w K mg base "_law_of" 3 ["m", "some"] spOfR) (u__law_order : Use P w K mg base "_law_order" 3 ["m", "many"] spOrder0)
    (u__law_with : Use P w K mg base "_law_with" 1 ["row", "place", "thing"] spWith) : Use P w K mg base "_law_bent" 4 ["m", "piece"] spBent := by
  refine use_of D (fun f fd F => F.ok sc__law_bent (fun vs H Q E h => ?_) (fun cdv A outer s H vs Q E hr h => ?_)) (fun _ _ _ _ _ _ us hl => match us, hl with | [_, _], _ => rfl)
  · obtain ⟨m, c, g, b, k, a, ak, al, n, xk, xl, ks, ls, rfl, _⟩ := h
    rfl
  · obtain ⟨m, c, g, b, k, a, ak, al, n, xk, xl, ks, ls, rfl, ms, hb, bi, n0, n40, kk, k200, k1000, l12, pairs, q⟩ := h
    refine ⟨_, (pss_cons (ps_asg (pv 1) (pg_tup rfl (pgs_cons (pg_name (i := 2) sc__law_bent.nd rfl (Or.inl rfl)) (pgs_cons (pg_name (i := 3) sc__law_bent.nd rfl (Or.inl rfl)) (pgs_cons (pg_name (i := 4) sc__law_bent.nd rfl (Or.inr rfl)) pgs_nil)))))
      (pss_cons (ps_par (i := 5) (j := 6) rfl sc__law_bent.nd rfl rfl (by decide) rfl rfl (pa_cons (pe_use u__law_draw (by decide) hr (by rfl) (pa_cons (pv 0) (pa_cons pe_int pa_nil))) (pa_cons (pe_use u__law_draw (by decide) hr (by rfl) (pa_cons (pv 0) (pa_cons (pe_callB (call_max2 rfl) (by rfl) T.max (by decide +kernel) (pa_cons pe_int (pa_cons (pe_callB (k_len (K := K) rfl) (by rfl) T.len PySem.boot_len (pa_cons (pv 4) pa_nil)) pa_nil))) pa_nil))) pa_nil)) (by rfl))
      (pss_cons (ps_if (pt_cmpR op_eq (pv 5) pe_int (nomark _)) (pss_one (ps_ret (pe_tup (pa_cons (pe_use u__law_of (by decide) hr (by rfl) (pa_cons (pv 0) (pa_cons (pe_lst (pa_cons (pe_op op_add (pv 2) pe_int) (pa_cons (pe_un un_neg pe_int) (pa_cons pe_int (pa_cons pe_non (pa_cons pe_bl (pa_cons pe_str pa_nil))))))) pa_nil))) (pa_cons (pv 3) (pa_cons (pv 4) pa_nil)))))) pss_nil)
      (pss_cons (ps_if (pt_cmpR op_eq (pv 5) pe_int (nomark _)) (pss_one (ps_ret (pe_tup (pa_cons (pv 2) (pa_cons (pe_op op_catC (pv 3) (pe_tupB (pa_cons (pe_use u__law_of (by decide) hr (by rfl) (pa_cons (pv 0) (pa_cons (pe_lst (pa_cons pe_str (pa_cons pe_str (pa_cons pe_non (pa_cons (pe_lst (pa_cons pe_str pa_nil)) (pa_cons pe_str (pa_cons pe_int pa_nil))))))) pa_nil))) pa_nil))) (pa_cons (pv 4) pa_nil)))))) pss_nil)
      (pss_cons (ps_if (pt_cmpR op_eq (pv 5) pe_int (nomark _)) (pss_one (ps_ret (pe_use u__law_of (by decide) hr (by rfl) (pa_cons (pv 0) (pa_cons (pe_lst (pa_cons pe_non (pa_cons (pe_tup pa_nil) (pa_cons (pe_tup (pa_cons (pv 2) (pa_cons (pv 3) pa_nil))) (pa_cons (pe_callTy (k_listOf (K := K) rfl) (by rfl) T.list (by decide +kernel) (pa_cons (pv 1) pa_nil)) (pa_cons (pe_tup (pa_cons (pv 2) (pa_cons (pe_callTy (k_listOf (K := K) rfl) (by rfl) T.list (by decide +kernel) (pa_cons (pv 3) pa_nil)) (pa_cons (pv 4) pa_nil)))) (pa_cons (pe_tup (pa_cons (pv 2) (pa_cons (pv 3) (pa_cons (pe_callTy (k_listOf (K := K) rfl) (by rfl) T.list (by decide +kernel) (pa_cons (pv 4) pa_nil)) pa_nil)))) (pa_cons (pe_tup (pa_cons (pv 2) (pa_cons (pv 3) (pa_cons (pv 4) (pa_cons pe_int pa_nil))))) (pa_cons (pe_tup (pa_cons (pv 2) (pa_cons (pe_op (k_repTG (K := K) rfl) (pe_tup (pa_cons pe_str pa_nil)) pe_int) (pa_cons (pv 4) pa_nil)))) (pa_cons (pe_tup (pa_cons (pv 2) (pa_cons (pv 3) (pa_cons (pe_op (k_repTG (K := K) rfl) (pv 4) pe_int) pa_nil)))) pa_nil)))))))))) pa_nil))))) pss_nil)
      (pss_cons (ps_if (PW.pt (pw_or (pt_cmpR op_eq (pe_callB (k_len (K := K) rfl) (by rfl) T.len PySem.boot_len (pa_cons (pv 4) pa_nil)) pe_int (nomark _)) (pw_or1 (pt_cmpR op_eq (pv 5) pe_int (nomark _))))) (pss_one (ps_ret (pe_tup (pa_cons (pv 2) (pa_cons (pv 3) (pa_cons (pe_slice (k_slR (K := K) rfl) (pv 4) (po_some pe_int) po_none) pa_nil)))))) pss_nil)
      (pss_cons (ps_asg (pe_ix (k_ixt (K := K) rfl) (pv 4) (pv 6) (fun _ _ => rfl)) (pg_tup rfl (pgs_cons (pg_name (i := 7) sc__law_bent.nd rfl (Or.inl rfl)) (pgs_cons (pg_name (i := 8) sc__law_bent.nd rfl (Or.inl rfl)) pgs_nil))))
      (pss_cons (ps_if (pt_cmpR op_eq (pv 5) pe_int (nomark _)) (pss_cons (ps_set (i := 9) sc__law_bent.nd rfl (Or.inl rfl) (pe_use u__law_of (by decide) hr (by rfl) (pa_cons (pv 0) (pa_cons (pe_lst (pa_cons (pe_tup (pa_cons (pe_un un_neg pe_int) (pa_cons (pv 2) pa_nil))) (pa_cons (pe_tup (pa_cons (pe_callB (k_len (K := K) rfl) (by rfl) T.len PySem.boot_len (pa_cons (pv 3) pa_nil)) (pa_cons pe_int pa_nil))) (pa_cons (pe_tup (pa_cons pe_int (pa_cons pe_int pa_nil))) (pa_cons (pe_tup (pa_cons pe_bl (pa_cons pe_int pa_nil))) (pa_cons (pe_lst (pa_cons pe_int (pa_cons pe_int pa_nil))) (pa_cons pe_non (pa_cons (pe_tup (pa_cons pe_int pa_nil)) (pa_cons (pe_tup (pa_cons (pe_un un_neg pe_int) (pa_cons pe_bl pa_nil))) (pa_cons (pe_tup (pa_cons (pe_un un_neg pe_int) (pa_cons pe_int pa_nil))) pa_nil)))))))))) pa_nil))))
      (pss_one (ps_ret (pe_tup (pa_cons (pv 2) (pa_cons (pv 3) (pa_cons (pe_use u__law_with (by decide) hr (by rfl) (pa_cons (pv 4) (pa_cons (pv 6) (pa_cons (pe_tup (pa_cons (pv 7) (pa_cons (pv 9) pa_nil))) pa_nil)))) pa_nil))))))) pss_nil)
      (pss_cons (ps_if (pt_cmpR op_eq (pv 5) pe_int (nomark _)) (pss_one (ps_ret (pe_tup (pa_cons (pv 2) (pa_cons (pv 3) (pa_cons (pe_use u__law_with (by decide) hr (by rfl) (pa_cons (pv 4) (pa_cons (pv 6) (pa_cons (pe_use u__law_of (by decide) hr (by rfl) (pa_cons (pv 0) (pa_cons (pe_lst (pa_cons (pe_tup (pa_cons (pv 7) (pa_cons (pv 7) pa_nil))) (pa_cons (pe_tup (pa_cons (pv 7) pa_nil)) (pa_cons (pe_lst (pa_cons (pv 7) (pa_cons (pv 8) pa_nil))) (pa_cons pe_non (pa_cons (pe_tup (pa_cons (pv 7) (pa_cons (pv 8) (pa_cons (pv 7) pa_nil)))) pa_nil)))))) pa_nil))) pa_nil)))) pa_nil)))))) pss_nil)
      (pss_cons (ps_if (pt_cmpR op_eq (pv 5) pe_int (nomark _)) (pss_one (ps_ret (pe_tup (pa_cons (pv 2) (pa_cons (pv 3) (pa_cons (pe_use u__law_with (by decide) hr (by rfl) (pa_cons (pv 4) (pa_cons (pv 6) (pa_cons (pe_tup (pa_cons (pv 7) (pa_cons (pe_ix (k_ixt (K := K) rfl) (pe_use u__law_ofT (by decide) hr (by rfl) (pa_cons (pv 0) (pa_cons (pv 4) pa_nil))) pe_int (fun _ _ => rfl)) pa_nil))) pa_nil)))) pa_nil)))))) pss_nil)
      (pss_cons (ps_if (pt_cmpR op_eq (pv 5) pe_int (nomark _)) (pss_cons (ps_set (i := 10) sc__law_bent.nd rfl (Or.inl rfl) (pe_use u__law_order (by decide) hr (by rfl) (pa_cons (pv 0) (pa_cons (pe_callB (k_len (K := K) rfl) (by rfl) T.len PySem.boot_len (pa_cons (pv 4) pa_nil)) pa_nil))))
      (pss_one (ps_ret (pe_tup (pa_cons (pv 2) (pa_cons (pv 3) (pa_cons (pe_callTy (k_tupB (K := K) rfl) (by rfl) T.tuple (by decide +kernel) (pa_cons (pe_lc (own := [("n", 11)]) rfl sc__law_bent.nd (k_list (K := K) rfl (pv 10)) (blkOk_by (N := ["m", "piece", "doors", "knots", "lines", "pick", "spot", "one", "two", "odd", "order", "n"]) (sc := defScope s__law_bent) (by decide +kernel)) (fun _ _ _ _ _ => (pg_name (i := 11) sc__law_bent.nd rfl (Or.inl rfl))) (fun _ _ _ _ _ => pts_nil) (fun _ _ _ _ _ => (pe_ifExp (pt_cmpR op_eq (pe_use u__law_draw (by decide) hr (by rfl) (pa_cons (pv 0) (pa_cons pe_int pa_nil))) pe_int (nomark _)) (pe_revT (K := K) rfl (pe_ix (k_ixt (K := K) rfl) (pv 4) (pv 11) (fun _ _ => rfl))) (pe_ix (k_ixt (K := K) rfl) (pv 4) (pv 11) (fun _ _ => rfl))))) pa_nil)) pa_nil))))))) pss_nil)
      (pss_one (ps_ret (pv 1)))))))))))))), ?_⟩
    have ll := bi.dl.len
    have kl := bi.dk.len
    refine ⟨_, rfl, a, _, rfl, rdT (bi.ra.mono (out_same m g H)), rfl, _, _, rfl, _, _, rfl, _, [], rfl, rfl, ?_⟩
    refine ⟨_, rfl, m, c, g, b, 9, rfl, ms, by omega, by decide, by decide, fun H1 pick k1 ms1 pk0 pk9 => ?_⟩
    have bi1 := bi.mono (out_kept k1)
    refine ⟨_, rfl, _, rfl, al, _, rfl, .inr (rdT (bi1.rl.mono (out_same m g H1))), 1, _, rfl, m, c, g, _, _, rfl, ms1, by omega, by split <;> omega, by split <;> omega, fun H2 spot k2 ms2 sp0 sp1 => ?_⟩
    have bi2 := bi1.mono (out_kept k2)
    have k12 := k1.trans k2
    clear bi1 ms1
    refine ⟨_, _, rfl, ?_⟩
    have fin : ∀ H' d v, Kept H2 H' m g → MS H' m c g (b + 40) → ValG (k + 1) (Out m g H') d v → Q v H' := fun H' d v k' => q H' d v (k12.trans k')
    clear q k1 k2 k12 bi ms
    by_cases p0 : pick = 0
    · refine ⟨_, rfl, rfl, true, congrArg V.bl (decide_eq_true (congrArg V.int p0)), iteT ?_⟩
      refine ⟨_, rfl, _, rfl, n, 1, rfl, rfl, 1, rfl, by show 6 ≤ sizeLine; decide, fun p np => ?_⟩
      have sp := same_new (H := H2) (o := .lst [V.int (n + 1), V.int (-1), V.int 41, V.non, V.bl true, V.str "1"]) np
      have pn := ms2.ne np
      refine ⟨m, c, g, _, p, [V.int (n + 1), V.int (-1), V.int 41, V.non, V.bl true, V.str "1"], rfl, ms2.mono sp, by omega, upd_same, pn.2.2, (fun z => by cases z), by show 6 ≤ _; decide, fun H3 x k3 ms3 hx => ?_⟩
      have k23 := (Kept.of sp).trans k3
      refine ⟨_, rfl, _, rfl, by show 3 ≤ sizeLine; decide, fun t nt => ?_⟩
      have st := same_new (H := H3) (o := .tup [x, .ref ak, .ref al]) nt
      have bi4 := (bi2.mono (out_kept k23)).mono (out_mono st)
      have ot := out_new (o := .tup [x, .ref ak, .ref al]) ms3 nt
      obtain ⟨e, he⟩ : ∃ e, DV (Out m g (upd H3 t (.tup [x, .ref ak, .ref al]))) e x := by
        simp only [List.mem_cons, List.not_mem_nil, or_false] at hx
        rcases hx with rfl | rfl | rfl | rfl | rfl | rfl
        · exact ⟨_, DV.of_int _ _⟩
        · exact ⟨_, DV.of_int _ _⟩
        · exact ⟨_, DV.of_int _ _⟩
        · exact ⟨_, DV.of_none _⟩
        · exact ⟨_, DV.of_bool _ _⟩
        · exact ⟨_, DV.of_str _ _⟩
      exact fin _ _ _ (k23.trans (Kept.of st)) ((ms3.mono st).le (by omega)) (ValG.three (.inl ot) he (DV.of_tup bi4.rk bi4.dk) (DV.of_tup bi4.rl bi4.dl) bi4.bk (by omega) (.inl l12))
    refine ⟨_, rfl, rfl, false, congrArg V.bl (decide_eq_false fun z => p0 (V.int.inj z)), iteF ?_⟩
    by_cases p1 : pick = 1
    · refine ⟨_, rfl, rfl, true, congrArg V.bl (decide_eq_true (congrArg V.int p1)), iteT ?_⟩
      refine ⟨_, rfl, _, rfl, _, rfl, by show 1 ≤ sizeLine; decide, fun p1 np1 => ?_⟩
      have sp1 := same_new (H := H2) (o := .lst [V.str "either"]) np1
      have ep1 := upd_same (H := H2) (a := p1) (o := HO.lst [V.str "either"])
      have pn1 := ms2.ne np1
      generalize upd H2 p1 (.lst [V.str "either"]) = H3 at sp1 ep1 ⊢
      have ms3 := ms2.mono sp1
      refine ⟨by show 6 ≤ sizeLine; decide, fun p np => ?_⟩
      have sp := same_new (H := H3) (o := .lst [V.str "both", V.str "Both", V.non, V.ref p1, V.str "", V.int 0]) np
      have pn := ms3.ne np
      refine ⟨m, c, g, _, p, [V.str "both", V.str "Both", V.non, V.ref p1, V.str "", V.int 0], rfl, ms3.mono sp, by omega, upd_same, pn.2.2, (fun z => by cases z), by show 6 ≤ _; decide, fun H4 x k4 ms4 hx => ?_⟩
      have k24 := (Kept.of (sp1.trans sp)).trans k4
      have op1 : Out m g H4 p1 = some (.lst [V.str "either"]) := out_kept ((Kept.of sp).trans k4) _ _ (out_at ep1 pn1.1 pn1.2.2)
      have bi4 := bi2.mono (out_kept k24)
      obtain ⟨e, he⟩ : ∃ e, DV (Out m g H4) e x := by
        simp only [List.mem_cons, List.not_mem_nil, or_false] at hx
        rcases hx with rfl | rfl | rfl | rfl | rfl | rfl
        · exact ⟨_, DV.of_str _ _⟩
        · exact ⟨_, DV.of_str _ _⟩
        · exact ⟨_, DV.of_none _⟩
        · exact ⟨_, DV.of_lst op1 (DVs.strs [("either" : Str)])⟩
        · exact ⟨_, DV.of_str _ _⟩
        · exact ⟨_, DV.of_int _ _⟩
      refine ⟨by show 1 ≤ sizeLine; decide, fun t o nt dn => ?_⟩
      have st := same_new (H := H4) (o := .frz o (.tup [x])) nt
      have et := upd_same (H := H4) (a := t) (o := HO.frz o (.tup [x]))
      generalize upd H4 t (.frz o (.tup [x])) = H5 at st et ⊢
      have ms5 := ms4.mono st
      have bi5 := bi4.mono (out_mono st)
      refine ⟨ak, t, xk, [x], rfl, rfl, bi5.rk.mono (out_same m g H5), .inr ⟨o, et⟩, (fun z => by cases z), ⟨o, _, et, dn⟩, by show xk.length + 1 ≤ _; omega, fun H6 r s6 rr br => ?_⟩
      have ms6 := ms5.mono s6
      have bi6 := bi5.mono (out_mono s6)
      refine ⟨_, rfl, by show 3 ≤ sizeLine; decide, fun z nz => ?_⟩
      have sz := same_new (H := H6) (o := .tup [.int n, .ref r, .ref al]) nz
      have oz := out_new (o := .tup [.int n, .ref r, .ref al]) ms6 nz
      have bi7 := bi6.mono (out_mono sz)
      have he7 := ((he.mono (out_mono st)).mono (out_mono s6)).mono (out_mono (m := m) (g := g) sz)
      exact fin _ _ _ (k24.trans (Kept.of (st.trans (s6.trans sz)))) ((ms6.mono sz).le (by omega)) (ValG.three (.inl oz) (DV.of_int _ n) (DV.of_tup (out_rd (ms6.mono sz) (rr.mono sz)) (bi7.dk.app (.cons he7 (DVs.nil _)))) (DV.of_tup bi7.rl bi7.dl) (fun _ => out_bare (ms6.mono sz) (br.mono sz)) (by rw [List.length_append]; show ks.length + 1 ≤ _; omega) (.inl l12))
    refine ⟨_, rfl, rfl, false, congrArg V.bl (decide_eq_false fun z => p1 (V.int.inj z)), iteF ?_⟩
    by_cases p2 : pick = 2
    · refine ⟨_, rfl, rfl, true, congrArg V.bl (decide_eq_true (congrArg V.int p2)), iteT ?_⟩
      refine ⟨_, rfl, by show 0 ≤ sizeLine; decide, fun t2 n2 => ?_⟩
      have s2 := same_new (H := H2) (o := .tup []) n2
      have g2 : ValG (k + 1) (Out m g (upd H2 t2 (.tup []))) (.tuple []) (.ref t2) := .odd (DV.of_tup (.inl (out_new (o := .tup []) ms2 n2)) (DVs.nil _)) (fun e ks ls z => by cases z)
      generalize upd H2 t2 (.tup []) = H3 at s2 g2 ⊢
      have ms3 := ms2.mono s2
      have bi3 := bi2.mono (out_mono s2)
      refine ⟨_, rfl, _, rfl, by show 2 ≤ sizeLine; decide, fun t3 n3 => ?_⟩
      have s3 := same_new (H := H3) (o := .tup [.int n, .ref ak]) n3
      have bi4 := bi3.mono (out_mono s3)
      have g3 : ValG (k + 1) (Out m g (upd H3 t3 (.tup [.int n, .ref ak]))) (.tuple [.int n, .tuple ks]) (.ref t3) := .odd (DV.of_tup (.inl (out_new (o := .tup [.int n, .ref ak]) ms3 n3)) (.cons (DV.of_int _ n) (.cons (DV.of_tup bi4.rk bi4.dk) (DVs.nil _)))) (fun e ks ls z => by cases z)
      have ms4 := ms3.mono s3
      generalize upd H3 t3 (.tup [.int n, .ref ak]) = H4 at s3 g3 bi4 ms4 ⊢
      refine ⟨_, rfl, a, _, rfl, .inr (rdT (bi4.ra.mono (out_same m g H4))), fun t4 n4 => ?_⟩
      have s4 := same_new (H := H4) (o := .lst [.int n, .ref ak, .ref al]) n4
      have bi5 := bi4.mono (out_mono s4)
      have g4 : ValG (k + 1) (Out m g (upd H4 t4 (.lst [.int n, .ref ak, .ref al]))) (.list [.int n, .tuple ks, .tuple ls]) (.ref t4) := .odd (DV.of_lst (out_new (o := .lst [.int n, .ref ak, .ref al]) ms4 n4) (.cons (DV.of_int _ n) (.cons (DV.of_tup bi5.rk bi5.dk) (.cons (DV.of_tup bi5.rl bi5.dl) (DVs.nil _))))) (fun e ks ls z => by cases z)
      have ms5 := ms4.mono s4
      generalize upd H4 t4 (.lst [.int n, .ref ak, .ref al]) = H5 at s4 g4 bi5 ms5 ⊢
      refine ⟨_, rfl, _, rfl, ak, _, rfl, .inr (rdT (bi5.rk.mono (out_same m g H5))), fun l5 n5 => ?_⟩
      have s5 := same_new (H := H5) (o := .lst xk) n5
      have e5 := out_new (o := .lst xk) ms5 n5
      have ms6 := ms5.mono s5
      have bi6 := bi5.mono (out_mono s5)
      generalize upd H5 l5 (.lst xk) = H6 at s5 e5 bi6 ms6 ⊢
      refine ⟨_, rfl, by show 3 ≤ sizeLine; decide, fun t5 n5' => ?_⟩
      have s6 := same_new (H := H6) (o := .tup [.int n, .ref l5, .ref al]) n5'
      have bi7 := bi6.mono (out_mono s6)
      have ms7 := ms6.mono s6
      have g5 : ValG (k + 1) (Out m g (upd H6 t5 (.tup [.int n, .ref l5, .ref al]))) (.tuple [.int n, .list ks, .tuple ls]) (.ref t5) := .odd (DV.of_tup (.inl (out_new (o := .tup [.int n, .ref l5, .ref al]) ms6 n5')) (.cons (DV.of_int _ n) (.cons (DV.of_lst (out_mono s6 _ _ e5) bi7.dk) (.cons (DV.of_tup bi7.rl bi7.dl) (DVs.nil _))))) (fun e ks ls z => by cases z)
      generalize upd H6 t5 (.tup [.int n, .ref l5, .ref al]) = H7 at s6 g5 bi7 ms7 ⊢
      refine ⟨_, rfl, _, rfl, _, rfl, al, _, rfl, .inr (rdT (bi7.rl.mono (out_same m g H7))), fun l6 n6 => ?_⟩
      have s7 := same_new (H := H7) (o := .lst xl) n6
      have e7 := out_new (o := .lst xl) ms7 n6
      have ms8 := ms7.mono s7
      have bi8 := bi7.mono (out_mono s7)
      generalize upd H7 l6 (.lst xl) = H8 at s7 e7 bi8 ms8 ⊢
      refine ⟨by show 3 ≤ sizeLine; decide, fun t6 n6' => ?_⟩
      have s8 := same_new (H := H8) (o := .tup [.int n, .ref ak, .ref l6]) n6'
      have bi9 := bi8.mono (out_mono s8)
      have ms9 := ms8.mono s8
      have g6 : ValG (k + 1) (Out m g (upd H8 t6 (.tup [.int n, .ref ak, .ref l6]))) (.tuple [.int n, .tuple ks, .list ls]) (.ref t6) := .odd (DV.of_tup (.inl (out_new (o := .tup [.int n, .ref ak, .ref l6]) ms8 n6')) (.cons (DV.of_int _ n) (.cons (DV.of_tup bi9.rk bi9.dk) (.cons (DV.of_lst (out_mono s8 _ _ e7) bi9.dl) (DVs.nil _))))) (fun e ks ls z => by cases z)
      generalize upd H8 t6 (.tup [.int n, .ref ak, .ref l6]) = H9 at s8 g6 bi9 ms9 ⊢
      refine ⟨_, rfl, _, rfl, _, rfl, by show 4 ≤ sizeLine; decide, fun t7 n7 => ?_⟩
      have s9 := same_new (H := H9) (o := .tup [.int n, .ref ak, .ref al, .int 0]) n7
      have bi10 := bi9.mono (out_mono s9)
      have ms10 := ms9.mono s9
      have g7 : ValG (k + 1) (Out m g (upd H9 t7 (.tup [.int n, .ref ak, .ref al, .int 0]))) (.tuple [.int n, .tuple ks, .tuple ls, .int 0]) (.ref t7) := .odd (DV.of_tup (.inl (out_new (o := .tup [.int n, .ref ak, .ref al, .int 0]) ms9 n7)) (.cons (DV.of_int _ n) (.cons (DV.of_tup bi10.rk bi10.dk) (.cons (DV.of_tup bi10.rl bi10.dl) (.cons (DV.of_int _ 0) (DVs.nil _)))))) (fun e ks ls z => by cases z)
      generalize upd H9 t7 (.tup [.int n, .ref ak, .ref al, .int 0]) = H10 at s9 g7 bi10 ms10 ⊢
      refine ⟨_, rfl, by show 1 ≤ sizeLine; decide, fun u nu => ?_⟩
      have s10 := same_new (H := H10) (o := .tup [V.str "both"]) nu
      have eu := upd_same (H := H10) (a := u) (o := HO.tup [V.str "both"])
      have ms11 := ms10.mono s10
      have bi11 := bi10.mono (out_mono s10)
      generalize upd H10 u (.tup [V.str "both"]) = H11 at s10 eu bi11 ms11 ⊢
      refine ⟨u, 201, [V.str "both"], rfl, rfl, sqT eu, by decide, by decide, by decide, (fun z => by cases z), fun _ w8 nw8 => ?_⟩
      have s11 := same_new (H := H11) (o := .tup (List.replicate (201 : Int).toNat [V.str "both"]).flatten) nw8
      have e11 := out_new (o := .tup (List.replicate (201 : Int).toNat [V.str "both"]).flatten) ms11 nw8
      have ms12 := ms11.mono s11
      have bi12 := bi11.mono (out_mono s11)
      generalize upd H11 w8 (.tup (List.replicate (201 : Int).toNat [V.str "both"]).flatten) = H12 at s11 e11 bi12 ms12 ⊢
      refine ⟨_, rfl, by show 3 ≤ sizeLine; decide, fun t8 n8 => ?_⟩
      have s12 := same_new (H := H12) (o := .tup [.int n, .ref w8, .ref al]) n8
      have bi13 := bi12.mono (out_mono s12)
      have ms13 := ms12.mono s12
      have len201 : (List.replicate (201 : Int).toNat [PyData.str "both"]).flatten.length = 201 := by
        rw [PyProof.Rows.lm_len_rep_flat]
        rfl
      have g8 : ValG (k + 1) (Out m g (upd H12 t8 (.tup [.int n, .ref w8, .ref al]))) (.tuple [.int n, .tuple (List.replicate (201 : Int).toNat [PyData.str "both"]).flatten, .tuple ls]) (.ref t8) :=
        .three (.inl (out_new (o := .tup [.int n, .ref w8, .ref al]) ms12 n8)) (DV.of_int _ n) (DV.of_tup (.inl (out_mono s12 _ _ e11)) ((DVs.strs [("both" : Str)]).rep _)) (DV.of_tup bi13.rl bi13.dl) (fun z => by omega) (by omega) (.inl l12)
      generalize upd H12 t8 (.tup [.int n, .ref w8, .ref al]) = H13 at s12 g8 bi13 ms13 ⊢
      have rest : ∀ (H14 : Hp) (w9 : Addr) (ls9 : List PyData), Same H13 H14 → DV (Out m g H14) (.tuple ls9) (.ref w9) → (ls9.length ≤ 13 ∨ (320 < ls9.length ∧ ls9.length ≤ 100000)) → ∀ (t9 p : Addr), H14 t9 = none → (upd H14 t9 (.tup [.int n, .ref ak, .ref w9])) p = none →
          ∀ (Hf : Hp) (x : V), Kept (upd (upd H14 t9 (.tup [.int n, .ref ak, .ref w9])) p (.lst [.non, .ref t2, .ref t3, .ref t4, .ref t5, .ref t6, .ref t7, .ref t8, .ref t9])) Hf m g → MS Hf m c g (b + 3) → x ∈ [V.non, .ref t2, .ref t3, .ref t4, .ref t5, .ref t6, .ref t7, .ref t8, .ref t9] → Q x Hf := fun H14 w9 ls9 s13 d9 l9 t9 p n9 np Hf x kf msf hx => by
        have bi14 := bi13.mono (out_mono s13)
        have ms14 := ms13.mono s13
        have s14 := same_new (H := H14) (o := .tup [.int n, .ref ak, .ref w9]) n9
        have bi15 := bi14.mono (out_mono s14)
        have g9 : ValG (k + 1) (Out m g (upd H14 t9 (.tup [.int n, .ref ak, .ref w9]))) (.tuple [.int n, .tuple ks, .tuple ls9]) (.ref t9) :=
          .three (.inl (out_new (o := .tup [.int n, .ref ak, .ref w9]) ms14 n9)) (DV.of_int _ n) (DV.of_tup bi15.rk bi15.dk) (d9.mono (out_mono s14)) bi15.bk (by omega) l9
        have s15 := same_new (H := upd H14 t9 (.tup [.int n, .ref ak, .ref w9])) (o := .lst [.non, .ref t2, .ref t3, .ref t4, .ref t5, .ref t6, .ref t7, .ref t8, .ref t9]) np
        have f9 := (out_mono (m := m) (g := g) s15).trans (out_kept kf)
        have f8 := (out_mono (m := m) (g := g) (s13.trans s14)).trans f9
        have f7 := (out_mono (m := m) (g := g) (s10.trans (s11.trans s12))).trans f8
        have f6 := (out_mono (m := m) (g := g) s9).trans f7
        have f5 := (out_mono (m := m) (g := g) (s7.trans s8)).trans f6
        have f4 := (out_mono (m := m) (g := g) (s5.trans s6)).trans f5
        have f3 := (out_mono (m := m) (g := g) s4).trans f4
        have f2 := (out_mono (m := m) (g := g) s3).trans f3
        have kk2 : Kept H2 Hf m g := (Kept.of ((s2.trans (s3.trans (s4.trans (s5.trans (s6.trans (s7.trans (s8.trans (s9.trans (s10.trans (s11.trans s12)))))))))).trans (s13.trans (s14.trans s15)))).trans kf
        have go : ∀ d, ValG (k + 1) (Out m g Hf) d x → Q x Hf := fun d h => fin Hf d x kk2 (msf.le (by omega)) h
        simp only [List.mem_cons, List.not_mem_nil, or_false] at hx
        rcases hx with rfl | rfl | rfl | rfl | rfl | rfl | rfl | rfl | rfl
        · exact go _ (.odd (DV.of_none _) (fun e ks ls z => by cases z))
        · exact go _ (g2.mono f2)
        · exact go _ (g3.mono f3)
        · exact go _ (g4.mono f4)
        · exact go _ (g5.mono f5)
        · exact go _ (g6.mono f6)
        · exact go _ (g7.mono f7)
        · exact go _ (g8.mono f8)
        · exact go _ (g9.mono f9)
      refine ⟨_, rfl, _, rfl, _, rfl, al, 321, xl, rfl, rfl, rdT (bi13.rl.mono (out_same m g H13)), by decide, by decide, by omega, fun e0 => ?_, fun ne0 w9 nw9 => ?_⟩
      · refine ⟨by show 3 ≤ sizeLine; decide, fun t9 n9 => ⟨by show 9 ≤ sizeLine; decide, fun p np => ?_⟩⟩
        have pn := ((ms13.mono (same_new n9))).ne np
        exact ⟨m, c, g, b + 2, p, _, rfl, ((ms13.mono (same_new n9)).mono (same_new np)).le (by omega), by omega, upd_same, pn.2.2, (fun z => by cases z), by show 9 ≤ _; decide, fun Hf x kf msf hx => rest H13 al ls (.refl _) (DV.of_tup bi13.rl bi13.dl) (.inl l12) t9 p n9 np Hf x kf (msf.le (by omega)) hx⟩
      · refine ⟨by show 3 ≤ sizeLine; decide, fun t9 n9 => ⟨by show 9 ≤ sizeLine; decide, fun p np => ?_⟩⟩
        have s13 := same_new (H := H13) (o := .tup (List.replicate (321 : Int).toNat xl).flatten) nw9
        have ms14 := ms13.mono s13
        have pn := (ms14.mono (same_new n9)).ne np
        have bi14 := bi13.mono (out_mono s13)
        have lf : (List.replicate (321 : Int).toNat ls).flatten.length = 321 * ls.length := by
          rw [PyProof.Rows.lm_len_rep_flat]
          rfl
        have lpos : 0 < ls.length := by
          have := List.length_pos_iff.mpr ne0
          omega
        exact ⟨m, c, g, b + 2, p, _, rfl, ((ms14.mono (same_new n9)).mono (same_new np)).le (by omega), by omega, upd_same, pn.2.2, (fun z => by cases z), by show 9 ≤ _; decide, fun Hf x kf msf hx => rest _ w9 (List.replicate (321 : Int).toNat ls).flatten s13 (DV.of_tup (.inl (out_new (o := .tup (List.replicate (321 : Int).toNat xl).flatten) ms13 nw9)) (bi14.dl.rep _)) (.inr (by omega)) t9 p n9 np Hf x kf (msf.le (by omega)) hx⟩
    refine ⟨_, rfl, rfl, false, congrArg V.bl (decide_eq_false fun z => p2 (V.int.inj z)), iteF ?_⟩
    refine ⟨_, rfl, al, _, rfl, .inr (rdT (bi2.rl.mono (out_same m g H2))), ?_⟩
    rw [ll]
    have cutOut : (if decide (ls.length = 0 ∨ pick = 3) = true then True else True) := by split <;> trivial
    have early : ∀ (H3 : Hp) (p : Addr), Same H2 H3 → Rd H3 p (.tup (xl.drop 1)) → ∀ t, H3 t = none → Q (.ref t) (upd H3 t (.tup [.int n, .ref ak, .ref p])) := fun H3 p s3 rp t nt => by
      have ms3 := ms2.mono s3
      have st := same_new (H := H3) (o := .tup [.int n, .ref ak, .ref p]) nt
      have bi4 := (bi2.mono (out_mono s3)).mono (out_mono st)
      exact fin _ _ _ (Kept.of (s3.trans st)) ((ms3.mono st).le (by omega)) (.three (.inl (out_new (o := .tup [.int n, .ref ak, .ref p]) ms3 nt)) (DV.of_int _ n) (DV.of_tup bi4.rk bi4.dk) (DV.of_tup ((out_rd ms3 rp).mono (out_mono st)) (bi4.dl.drop 1)) bi4.bk (by omega) (.inl (by rw [List.length_drop]; omega)))
    have cutd : cutV xl (some (1 : Int)) none = xl.drop 1 := by
      have := HT.sIx_nat xl.length 0 1
      unfold cutV
      rw [HT.sIx_none, show (1 : Int) = ((1 : Nat) : Int) from rfl, HT.sIx_nat, ← List.length_drop, List.take_length]
      by_cases z : 1 ≤ xl.length
      · rw [Nat.min_eq_left z]
      · rw [Nat.min_eq_right (by omega), List.drop_eq_nil_of_le (Nat.le_refl _), List.drop_eq_nil_of_le (by omega)]
    by_cases l0 : ls.length = 0
    · refine ⟨rfl, true, congrArg V.bl (decide_eq_true (congrArg V.int (by omega))), iteT ?_⟩
      refine iteT ?_
      refine ⟨_, rfl, _, rfl, _, rfl, _, rfl, .inr ⟨al, xl, rfl, bi2.rl.mono (out_same m g H2), fun H3 p s3 rp => ?_⟩⟩
      rw [cutd] at rp
      exact ⟨by show 3 ≤ sizeLine; decide, fun t nt => early H3 p s3 rp t nt⟩
    refine ⟨rfl, false, congrArg V.bl (decide_eq_false fun z => l0 (by have := V.int.inj z; omega)), iteF ?_⟩
    by_cases p3 : pick = 3
    · refine ⟨_, rfl, rfl, true, congrArg V.bl (decide_eq_true (congrArg V.int p3)), iteT ?_⟩
      refine ⟨_, rfl, _, rfl, _, rfl, _, rfl, .inr ⟨al, xl, rfl, bi2.rl.mono (out_same m g H2), fun H3 p s3 rp => ?_⟩⟩
      rw [cutd] at rp
      exact ⟨by show 3 ≤ sizeLine; decide, fun t nt => early H3 p s3 rp t nt⟩
    refine ⟨_, rfl, rfl, false, congrArg V.bl (decide_eq_false fun z => p3 (V.int.inj z)), iteF ?_⟩
    clear early cutd cutOut
    have spl : spot.toNat < ls.length := by
      have e : (if (((xl.length : Nat) : Int) > 1) then ((xl.length : Nat) : Int) else 1) = (ls.length : Int) := by
        rw [ll]
        split <;> omega
      omega
    obtain ⟨sp, rfl⟩ : ∃ sp : Nat, spot = ((sp : Nat) : Int) := ⟨spot.toNat, by omega⟩
    rw [Int.toNat_natCast] at spl
    obtain ⟨v0, hv0⟩ : ∃ v0, xl[sp]? = some v0 := ⟨_, List.getElem?_eq_getElem (by omega)⟩
    obtain ⟨d0, hd0, dv0⟩ := bi2.dl.at hv0
    obtain ⟨e1, e2, rfl⟩ := pairs d0 (List.mem_of_getElem? hd0)
    obtain ⟨b0, vs0, rfl, eb0, hs0⟩ := dv0.tup
    obtain ⟨w1, vs1, rfl, dw1, hs0⟩ := hs0.out
    obtain ⟨w2, vs2, rfl, dw2, hs0⟩ := hs0.out
    obtain rfl := hs0.end'
    refine ⟨_, rfl, _, rfl, al, _, _, .ref b0, rfl, rfl, rdT (bi2.rl.mono (out_same m g H2)), atI_of rfl hv0, b0, _, rfl, rdT (eb0.mono (out_same m g H2)), rfl, _, _, rfl, _, [], rfl, rfl, ?_⟩
    have fin2 : ∀ (H3 H4 : Hp) (x : V) (dx : PyData) (p : Addr), Kept H2 H3 m g → MS H3 m c g (b + 30) → DV (Out m g H3) dx x → Same H3 H4 → Rd H4 p (.tup (xl.take sp ++ [x] ++ xl.drop (sp + 1))) → ∀ t, H4 t = none → Q (.ref t) (upd H4 t (.tup [.int n, .ref ak, .ref p])) := fun H3 H4 x dx p k23 ms3 dx3 s34 rp t nt => by
      have ms4 := ms3.mono s34
      have st := same_new (H := H4) (o := .tup [.int n, .ref ak, .ref p]) nt
      have up := (out_mono (m := m) (g := g) s34).trans (out_mono st)
      have bi5 := (bi2.mono (out_kept k23)).mono up
      refine fin _ _ _ (k23.trans (Kept.of (s34.trans st))) ((ms4.mono st).le (by omega)) (.three (ls := ls.take sp ++ [dx] ++ ls.drop (sp + 1)) (.inl (out_new (o := .tup [.int n, .ref ak, .ref p]) ms4 nt)) (DV.of_int _ n) (DV.of_tup bi5.rk bi5.dk) (DV.of_tup ((out_rd ms4 rp).mono (out_mono st)) (((bi5.dl.take sp).app (.cons (dx3.mono up) (DVs.nil _))).app (bi5.dl.drop (sp + 1)))) bi5.bk (by omega) (.inl ?_))
      rw [List.length_append, List.length_append, List.length_take, List.length_drop]
      show min sp ls.length + 1 + (ls.length - (sp + 1)) ≤ 13
      omega
    by_cases p4 : pick = 4
    · refine ⟨_, rfl, rfl, true, congrArg V.bl (decide_eq_true (congrArg V.int p4)), iteT ?_⟩
      refine ⟨_, rfl, 1, rfl, _, rfl, by show 2 ≤ sizeLine; decide, fun t1 n1 => ?_⟩
      have s1 := same_new (H := H2) (o := .tup [.int (-1), .int n]) n1
      have g1 : DV (Out m g (upd H2 t1 (.tup [.int (-1), .int n]))) (.tuple [.int (-1), .int n]) (.ref t1) := DV.of_tup (.inl (out_new (o := .tup [.int (-1), .int n]) ms2 n1)) (DVs.ints [-1, n])
      have ms3 := ms2.mono s1
      generalize upd H2 t1 (.tup [.int (-1), .int n]) = H3 at s1 g1 ms3 ⊢
      refine ⟨_, rfl, ak, _, rfl, .inr (rdT ((bi2.rk.mono (out_mono s1)).mono (out_same m g H3))), by show 2 ≤ sizeLine; decide, fun t2 n2 => ?_⟩
      have s2 := same_new (H := H3) (o := .tup [.int ((xk.length : Nat) : Int), .int 0]) n2
      have g2 : DV (Out m g (upd H3 t2 (.tup [.int ((xk.length : Nat) : Int), .int 0]))) (.tuple [.int ((xk.length : Nat) : Int), .int 0]) (.ref t2) := DV.of_tup (.inl (out_new (o := .tup [.int ((xk.length : Nat) : Int), .int 0]) ms3 n2)) (DVs.ints [((xk.length : Nat) : Int), 0])
      have ms4 := ms3.mono s2
      generalize upd H3 t2 (.tup [.int ((xk.length : Nat) : Int), .int 0]) = H4 at s2 g2 ms4 ⊢
      refine ⟨by show 2 ≤ sizeLine; decide, fun t3 n3 => ?_⟩
      have s3 := same_new (H := H4) (o := .tup [.int 0, .int 3]) n3
      have g3 : DV (Out m g (upd H4 t3 (.tup [.int 0, .int 3]))) (.tuple [.int 0, .int 3]) (.ref t3) := DV.of_tup (.inl (out_new (o := .tup [.int 0, .int 3]) ms4 n3)) (DVs.ints [0, 3])
      have ms5 := ms4.mono s3
      generalize upd H4 t3 (.tup [.int 0, .int 3]) = H5 at s3 g3 ms5 ⊢
      refine ⟨by show 2 ≤ sizeLine; decide, fun t4 n4 => ?_⟩
      have s4 := same_new (H := H5) (o := .tup [.bl true, .int 0]) n4
      have g4 : DV (Out m g (upd H5 t4 (.tup [.bl true, .int 0]))) (.tuple [.bool true, .int 0]) (.ref t4) := DV.of_tup (.inl (out_new (o := .tup [.bl true, .int 0]) ms5 n4)) (.cons (DV.of_bool _ true) (DVs.ints [0]))
      have ms6 := ms5.mono s4
      generalize upd H5 t4 (.tup [.bl true, .int 0]) = H6 at s4 g4 ms6 ⊢
      refine ⟨by show 2 ≤ sizeLine; decide, fun t5 n5 => ?_⟩
      have s5 := same_new (H := H6) (o := .lst [.int 0, .int 0]) n5
      have g5 : DV (Out m g (upd H6 t5 (.lst [.int 0, .int 0]))) (.list [.int 0, .int 0]) (.ref t5) := DV.of_lst (out_new (o := .lst [.int 0, .int 0]) ms6 n5) (DVs.ints [0, 0])
      have ms7 := ms6.mono s5
      generalize upd H6 t5 (.lst [.int 0, .int 0]) = H7 at s5 g5 ms7 ⊢
      refine ⟨by show 1 ≤ sizeLine; decide, fun t7 n7 => ?_⟩
      have s7 := same_new (H := H7) (o := .tup [.int 0]) n7
      have g7 : DV (Out m g (upd H7 t7 (.tup [.int 0]))) (.tuple [.int 0]) (.ref t7) := DV.of_tup (.inl (out_new (o := .tup [.int 0]) ms7 n7)) (DVs.ints [0])
      have ms8 := ms7.mono s7
      generalize upd H7 t7 (.tup [.int 0]) = H8 at s7 g7 ms8 ⊢
      refine ⟨1, rfl, by show 2 ≤ sizeLine; decide, fun t8 n8 => ?_⟩
      have s8 := same_new (H := H8) (o := .tup [.int (-1), .bl true]) n8
      have g8 : DV (Out m g (upd H8 t8 (.tup [.int (-1), .bl true]))) (.tuple [.int (-1), .bool true]) (.ref t8) := DV.of_tup (.inl (out_new (o := .tup [.int (-1), .bl true]) ms8 n8)) (.cons (DV.of_int _ (-1)) (.cons (DV.of_bool _ true) (DVs.nil _)))
      have ms9 := ms8.mono s8
      generalize upd H8 t8 (.tup [.int (-1), .bl true]) = H9 at s8 g8 ms9 ⊢
      refine ⟨2, rfl, by show 2 ≤ sizeLine; decide, fun t9 n9 => ?_⟩
      have s9 := same_new (H := H9) (o := .tup [.int (-2), .int 0]) n9
      have g9 : DV (Out m g (upd H9 t9 (.tup [.int (-2), .int 0]))) (.tuple [.int (-2), .int 0]) (.ref t9) := DV.of_tup (.inl (out_new (o := .tup [.int (-2), .int 0]) ms9 n9)) (DVs.ints [-2, 0])
      have ms10 := ms9.mono s9
      generalize upd H9 t9 (.tup [.int (-2), .int 0]) = H10 at s9 g9 ms10 ⊢
      refine ⟨by show 9 ≤ sizeLine; decide, fun p np => ?_⟩
      have s10 := same_new (H := H10) (o := .lst [.ref t1, .ref t2, .ref t3, .ref t4, .ref t5, .non, .ref t7, .ref t8, .ref t9]) np
      have pn := ms10.ne np
      refine ⟨m, c, g, b + 2, p, [.ref t1, .ref t2, .ref t3, .ref t4, .ref t5, .non, .ref t7, .ref t8, .ref t9], rfl, (ms10.mono s10).le (by omega), by omega, upd_same, pn.2.2, (fun z => by cases z), by show 9 ≤ _; decide, fun Hf x kf msf hx => ?_⟩
      have f9 := (out_mono (m := m) (g := g) s10).trans (out_kept kf)
      have f8 := (out_mono (m := m) (g := g) s9).trans f9
      have f7 := (out_mono (m := m) (g := g) s8).trans f8
      have f5 := (out_mono (m := m) (g := g) s7).trans f7
      have f4 := (out_mono (m := m) (g := g) s5).trans f5
      have f3 := (out_mono (m := m) (g := g) s4).trans f4
      have f2 := (out_mono (m := m) (g := g) s3).trans f3
      have f1 := (out_mono (m := m) (g := g) s2).trans f2
      have kkf : Kept H2 Hf m g := (Kept.of (s1.trans (s2.trans (s3.trans (s4.trans (s5.trans (s7.trans (s8.trans (s9.trans s10))))))))).trans kf
      obtain ⟨dx, hdx⟩ : ∃ dx, DV (Out m g Hf) dx x := by
        simp only [List.mem_cons, List.not_mem_nil, or_false] at hx
        rcases hx with rfl | rfl | rfl | rfl | rfl | rfl | rfl | rfl | rfl
        · exact ⟨_, g1.mono f1⟩
        · exact ⟨_, g2.mono f2⟩
        · exact ⟨_, g3.mono f3⟩
        · exact ⟨_, g4.mono f4⟩
        · exact ⟨_, g5.mono f5⟩
        · exact ⟨_, DV.of_none _⟩
        · exact ⟨_, g7.mono f7⟩
        · exact ⟨_, g8.mono f8⟩
        · exact ⟨_, g9.mono f9⟩
      have biF := bi2.mono (out_kept kkf)
      have dwf := dw1.mono (out_kept kkf)
      refine gNG ?_
      dsimp only
      refine ⟨_, rfl, _, rfl, _, rfl, _, rfl, _, rfl, _, rfl, by show 2 ≤ sizeLine; decide, fun t n' => ?_⟩
      have st := same_new (H := Hf) (o := .tup [w1, x]) n'
      have bit := biF.mono (out_mono st)
      have mst := msf.mono st
      have dt : DV (Out m g (upd Hf t (.tup [w1, x]))) (.tuple [e1, dx]) (.ref t) := DV.of_tup (.inl (out_new (o := .tup [w1, x]) msf n')) (.cons (dwf.mono (out_mono st)) (.cons (hdx.mono (out_mono st)) (DVs.nil _)))
      exact ⟨al, xl, sp, .ref t, rfl, bit.rl.mono (out_same m g _), by omega, by omega, fun H12 p12 s12 rp => ⟨by show 3 ≤ sizeLine; decide, fun z nz => fin2 _ H12 (.ref t) _ p12 (kkf.trans (Kept.of st)) (mst.le (by omega)) dt s12 rp z nz⟩⟩
    refine ⟨_, rfl, rfl, false, congrArg V.bl (decide_eq_false fun z => p4 (V.int.inj z)), iteF ?_⟩
    by_cases p5 : pick = 5
    · refine ⟨_, rfl, rfl, true, congrArg V.bl (decide_eq_true (congrArg V.int p5)), iteT ?_⟩
      refine ⟨_, rfl, _, rfl, _, rfl, _, rfl, _, rfl, _, rfl, _, rfl, by show 2 ≤ sizeLine; decide, fun t1 n1 => ?_⟩
      have s1 := same_new (H := H2) (o := .tup [w1, w1]) n1
      have g1 : DV (Out m g (upd H2 t1 (.tup [w1, w1]))) (.tuple [e1, e1]) (.ref t1) := DV.of_tup (.inl (out_new (o := .tup [w1, w1]) ms2 n1)) (.cons (dw1.mono (out_mono s1)) (.cons (dw1.mono (out_mono s1)) (DVs.nil _)))
      have ms3 := ms2.mono s1
      have a3 := dw1.mono (out_mono (m := m) (g := g) s1)
      have c3 := dw2.mono (out_mono (m := m) (g := g) s1)
      generalize upd H2 t1 (.tup [w1, w1]) = H3 at s1 g1 ms3 a3 c3 ⊢
      refine ⟨_, rfl, by show 1 ≤ sizeLine; decide, fun t2 n2 => ?_⟩
      have s2 := same_new (H := H3) (o := .tup [w1]) n2
      have g2 : DV (Out m g (upd H3 t2 (.tup [w1]))) (.tuple [e1]) (.ref t2) := DV.of_tup (.inl (out_new (o := .tup [w1]) ms3 n2)) (.cons (a3.mono (out_mono s2)) (DVs.nil _))
      have ms4 := ms3.mono s2
      have a4 := a3.mono (out_mono (m := m) (g := g) s2)
      have c4 := c3.mono (out_mono (m := m) (g := g) s2)
      generalize upd H3 t2 (.tup [w1]) = H4 at s2 g2 ms4 a4 c4 ⊢
      refine ⟨_, rfl, _, rfl, by show 2 ≤ sizeLine; decide, fun t3 n3 => ?_⟩
      have s3 := same_new (H := H4) (o := .lst [w1, w2]) n3
      have g3 : DV (Out m g (upd H4 t3 (.lst [w1, w2]))) (.list [e1, e2]) (.ref t3) := DV.of_lst (out_new (o := .lst [w1, w2]) ms4 n3) (.cons (a4.mono (out_mono s3)) (.cons (c4.mono (out_mono s3)) (DVs.nil _)))
      have ms5 := ms4.mono s3
      have a5 := a4.mono (out_mono (m := m) (g := g) s3)
      have c5 := c4.mono (out_mono (m := m) (g := g) s3)
      generalize upd H4 t3 (.lst [w1, w2]) = H5 at s3 g3 ms5 a5 c5 ⊢
      refine ⟨_, rfl, _, rfl, _, rfl, by show 3 ≤ sizeLine; decide, fun t4 n4 => ?_⟩
      have s4 := same_new (H := H5) (o := .tup [w1, w2, w1]) n4
      have g4 : DV (Out m g (upd H5 t4 (.tup [w1, w2, w1]))) (.tuple [e1, e2, e1]) (.ref t4) := DV.of_tup (.inl (out_new (o := .tup [w1, w2, w1]) ms5 n4)) (.cons (a5.mono (out_mono s4)) (.cons (c5.mono (out_mono s4)) (.cons (a5.mono (out_mono s4)) (DVs.nil _))))
      have ms6 := ms5.mono s4
      generalize upd H5 t4 (.tup [w1, w2, w1]) = H6 at s4 g4 ms6 ⊢
      refine ⟨by show 5 ≤ sizeLine; decide, fun p np => ?_⟩
      have s5 := same_new (H := H6) (o := .lst [.ref t1, .ref t2, .ref t3, .non, .ref t4]) np
      have pn := ms6.ne np
      refine ⟨m, c, g, b + 2, p, [.ref t1, .ref t2, .ref t3, .non, .ref t4], rfl, (ms6.mono s5).le (by omega), by omega, upd_same, pn.2.2, (fun z => by cases z), by show 5 ≤ _; decide, fun Hf x kf msf hx => ?_⟩
      have f4 := (out_mono (m := m) (g := g) s5).trans (out_kept kf)
      have f3 := (out_mono (m := m) (g := g) s4).trans f4
      have f2 := (out_mono (m := m) (g := g) s3).trans f3
      have f1 := (out_mono (m := m) (g := g) s2).trans f2
      have kkf : Kept H2 Hf m g := (Kept.of (s1.trans (s2.trans (s3.trans (s4.trans s5))))).trans kf
      obtain ⟨dx, hdx⟩ : ∃ dx, DV (Out m g Hf) dx x := by
        simp only [List.mem_cons, List.not_mem_nil, or_false] at hx
        rcases hx with rfl | rfl | rfl | rfl | rfl
        · exact ⟨_, g1.mono f1⟩
        · exact ⟨_, g2.mono f2⟩
        · exact ⟨_, g3.mono f3⟩
        · exact ⟨_, DV.of_none _⟩
        · exact ⟨_, g4.mono f4⟩
      have biF := bi2.mono (out_kept kkf)
      exact ⟨al, xl, sp, x, rfl, biF.rl.mono (out_same m g _), by omega, by omega, fun H12 p12 s12 rp => ⟨by show 3 ≤ sizeLine; decide, fun z nz => fin2 Hf H12 x dx p12 kkf (msf.le (by omega)) hdx s12 rp z nz⟩⟩
    refine ⟨_, rfl, rfl, false, congrArg V.bl (decide_eq_false fun z => p5 (V.int.inj z)), iteF ?_⟩
    by_cases p6 : pick = 6
    · refine ⟨_, rfl, rfl, true, congrArg V.bl (decide_eq_true (congrArg V.int p6)), iteT ?_⟩
      refine ⟨_, rfl, _, rfl, _, rfl, _, rfl, _, rfl, _, rfl, _, rfl, m, c, g, b + 2, al, xl, rfl, ms2.le (by omega), by omega, bi2.rl.mono (out_same m g H2), (fun z => by rw [z] at ll; simp at ll; omega), by omega, fun Hf x kf msf hx => ?_⟩
      obtain ⟨i, hi⟩ := List.mem_iff_getElem?.mp hx
      have biF := bi2.mono (out_kept kf)
      obtain ⟨dd, hdd, dvx⟩ := biF.dl.at hi
      obtain ⟨f1, f2, rfl⟩ := pairs dd (List.mem_of_getElem? hdd)
      obtain ⟨bx, us, rfl, rbx, hus⟩ := dvx.tup
      obtain ⟨u1, us1, rfl, du1, hus⟩ := hus.out
      obtain ⟨u2, us2, rfl, du2, hus⟩ := hus.out
      obtain rfl := hus.end'
      refine ⟨bx, _, 0, u1, rfl, rfl, rdT (rbx.mono (out_same m g Hf)), rfl, by show 2 ≤ sizeLine; decide, fun t n' => ?_⟩
      have st := same_new (H := Hf) (o := .tup [w1, u1]) n'
      have bit := biF.mono (out_mono st)
      have mst := msf.mono st
      have dt : DV (Out m g (upd Hf t (.tup [w1, u1]))) (.tuple [e1, f1]) (.ref t) := DV.of_tup (.inl (out_new (o := .tup [w1, u1]) msf n')) (.cons ((dw1.mono (out_kept kf)).mono (out_mono st)) (.cons (du1.mono (out_mono st)) (DVs.nil _)))
      exact ⟨al, xl, sp, .ref t, rfl, bit.rl.mono (out_same m g _), by omega, by omega, fun H12 p12 s12 rp => ⟨by show 3 ≤ sizeLine; decide, fun z nz => fin2 _ H12 (.ref t) _ p12 (kf.trans (Kept.of st)) (mst.le (by omega)) dt s12 rp z nz⟩⟩
    refine ⟨_, rfl, rfl, false, congrArg V.bl (decide_eq_false fun z => p6 (V.int.inj z)), iteF ?_⟩
    by_cases p7 : pick = 7
    · refine ⟨_, rfl, rfl, true, congrArg V.bl (decide_eq_true (congrArg V.int p7)), iteT ?_⟩
      refine ⟨_, rfl, _, rfl, al, _, rfl, .inr (rdT (bi2.rl.mono (out_same m g H2))), m, c, g, b + 2, _, rfl, ms2.le (by omega), by omega, by omega, by omega, fun H3 o ds k3 ms3 eo no dl dn dr => ?_⟩
      have on := ms2.ne no
      have bi3 := bi2.mono (out_kept k3)
      refine gNG ?_
      dsimp only
      refine ⟨_, rfl, _, rfl, _, rfl, o, rfl, ⟨_, sqL eo⟩, fun M nM => ?_⟩
      have Mn := ms3.ne nM
      have dl' : ds.length = ls.length := by omega
      refine lc_list (K := K) (a := o) (xs := ds.map V.int) (fun i H4 => Kept H3 H4 m g ∧ MS H4 m c g (b + 15 + (i : Nat)) ∧ H4 o = some (.lst (ds.map V.int)) ∧ ∃ (vs : List V) (es : List PyData), H4 M = some (.lst vs) ∧ DVs (OutM M m g H4) es vs ∧ vs.length = i)
        ⟨Kept.of (same_new nM), (ms3.mono (same_new nM)).le (by omega), same_new nM _ _ eo, [], [], upd_same, DVs.nil _, rfl⟩ (fun i H4 _ ⟨_, _, e, _⟩ => sqL e) ?_ ?_
      · rintro i v H4 hv ⟨k4, ms4, eo4, vs, es, eM, dM, vl⟩
        obtain ⟨j, hj, rfl⟩ := map_at hv
        have il := (List.getElem?_eq_some_iff.mp hj).1
        have jr := dr j (List.mem_of_getElem? hj)
        have elx : ∀ H5 : Hp, Kept H3 H5 m g → MS H5 m c g (b + 15 + ((i + 1 : Nat) : Int)) → H5 o = some (.lst (ds.map V.int)) → H5 M = some (.lst vs) → DVs (OutM M m g H5) es vs → ∀ (y : V) (e : PyData), DV (OutM M m g H5) e y →
            ∃ acc, H5 M = some (.lst acc) ∧ acc.length < sizeLine ∧ Kept H3 (upd H5 M (.lst (acc ++ [y]))) m g ∧ MS (upd H5 M (.lst (acc ++ [y]))) m c g (b + 15 + ((i + 1 : Nat) : Int)) ∧ (upd H5 M (.lst (acc ++ [y]))) o = some (.lst (ds.map V.int)) ∧ ∃ (vs : List V) (es : List PyData), (upd H5 M (.lst (acc ++ [y]))) M = some (.lst vs) ∧ DVs (OutM M m g (upd H5 M (.lst (acc ++ [y])))) es vs ∧ vs.length = i + 1 := fun H5 k5 ms5 eo5 eM5 dM5 y e de => by
          have oM : o ≠ M := ne_of_none eo nM
          refine ⟨vs, eM5, small_of (by omega), kept_mut k5 nM, ms5.put Mn.1 Mn.2.1 Mn.2.2, by rw [upd_ne oM]; exact eo5, vs ++ [y], es ++ [e], upd_same, (dM5.app (.cons de (DVs.nil _))).mono outM_upd, by rw [List.length_append, vl]; rfl⟩
        obtain ⟨vj, hvj⟩ : ∃ vj, xl[j.toNat]? = some vj := ⟨_, List.getElem?_eq_getElem (by omega)⟩
        obtain ⟨dd, hdd, dvj⟩ := bi2.dl.at hvj
        obtain ⟨f1, f2, rfl⟩ := pairs dd (List.mem_of_getElem? hdd)
        refine ⟨rfl, _, rfl, m, c, g, b + 15 + (i : Nat), 2, rfl, ms4, by omega, by decide, by decide, fun H5 d kd ms5 c0 c2 => ?_⟩
        have k5 := k4.trans kd
        have k25 := k3.trans k5
        have eM5 := kd _ _ eM Mn.1 Mn.2.2
        have eo5 := kd _ _ eo4 on.1 on.2.2
        have dM5 := dM.mono (outM_kept (M := M) kd)
        have up : Same (Out m g H2) (OutM M m g H5) := (out_kept k3).trans (outM_in k5 nM)
        have dj := dvj.mono up
        have rl5 : Rd H5 al (.tup xl) := (bi2.rl.mono up).mono (outM_out.trans (out_same m g H5))
        have ms5' : MS H5 m c g (b + 15 + ((i + 1 : Nat) : Int)) := ms5.le (by omega)
        refine ⟨rfl, decide (d = 0), congrArg V.bl ?_, ?_⟩
        · by_cases z : d = 0
          · rw [decide_eq_true z, z]
            rfl
          · rw [decide_eq_false z]
            exact decide_eq_false fun w => z (V.int.inj w)
        by_cases z : d = 0
        · rw [decide_eq_true z]
          obtain ⟨bj, us, rfl, rbj, hus⟩ := dj.tup
          refine iteT ⟨_, rfl, _, rfl, al, _, _, .ref bj, rfl, rfl, rdT rl5, atI_of (j := j.toNat) (by omega) hvj, bj, us, rfl, rdT (rbj.mono (outM_out.trans (out_same m g H5))), fun t nt => ?_⟩
          have st := same_new (H := H5) (o := .tup us.reverse) nt
          have ms6 := ms5'.mono st
          have h6 := hus.rev.mono (outM_kept (M := M) (Kept.of (m := m) (g := g) st))
          refine elx _ (k5.trans (Kept.of st)) ms6 (st _ _ eo5) (st _ _ eM5) (dM5.mono (outM_kept (Kept.of st))) _ _ (DV.of_tup (.inl (outM_new ms5' eM5 nt)) h6)
        · rw [decide_eq_false z]
          refine iteF ⟨_, rfl, _, rfl, al, _, _, vj, rfl, rfl, rdT rl5, atI_of (j := j.toNat) (by omega) hvj, ?_⟩
          exact elx H5 k5 ms5' eo5 eM5 dM5 _ _ dj
      · rintro H4 ⟨k4, ms4, eo4, vs, es, eM, dM, vl⟩
        rw [List.length_map] at ms4 vl
        have k24 := k3.trans k4
        have bi4 := bi2.mono (out_kept k24)
        have el4 : es.length = ls.length := by
          have := dM.len
          omega
        refine ⟨M, _, rfl, sqL eM, fun tl ol ntl dol => ?_⟩
        have st := same_new (H := H4) (o := .frz ol (.tup vs)) ntl
        have et := out_new (o := .frz ol (.tup vs)) ms4 ntl
        have ms5 := ms4.mono st
        have bi5 := bi4.mono (out_mono st)
        have dM5 := (dM.mono outM_out).mono (out_mono (m := m) (g := g) st)
        generalize upd H4 tl (.frz ol (.tup vs)) = H5 at st et ms5 bi5 dM5 ⊢
        refine ⟨by show 3 ≤ sizeLine; decide, fun z nz => ?_⟩
        have sz := same_new (H := H5) (o := .tup [.int n, .ref ak, .ref tl]) nz
        have oz := out_new (o := .tup [.int n, .ref ak, .ref tl]) ms5 nz
        have bi6 := bi5.mono (out_mono sz)
        exact fin _ _ _ (k24.trans (Kept.of (st.trans sz))) ((ms5.mono sz).le (by omega)) (.three (.inl oz) (DV.of_int _ n) (DV.of_tup bi6.rk bi6.dk) (DV.of_tup (.inr ⟨ol, out_mono sz _ _ et⟩) (dM5.mono (out_mono sz))) bi6.bk (by omega) (.inl (by omega)))
    refine ⟨_, rfl, rfl, false, congrArg V.bl (decide_eq_false fun z => p7 (V.int.inj z)), iteF ?_⟩
    refine ⟨_, rfl, ?_⟩
    exact fin H2 _ _ (Kept.of (.refl H2)) (ms2.le (by omega)) (.three bi2.ra (DV.of_int _ n) (DV.of_tup bi2.rk bi2.dk) (DV.of_tup bi2.rl bi2.dl) bi2.bk (by omega) (.inl l12))
end
end KQ
namespace KQ
open PySem PySem.Spec PyProof.Rows L2 KR KM StX
theorem k_notInDG {X : Cx} {K : PySem.W.Frag} (hK : X.K = K) (hu : X.A.units + 65 < cLine) : OpR X (compareOp .NotIn) (rNotInD K) := by
  subst hK
  exact op_notInD hu
theorem its_app1 {H : Hp} {F t : Addr} {us : List Addr} {rows : List (List Int)} {r : List Int} (eF : H F = some (.lst (us.map V.ref))) (i : Its H us rows) (h : TI H t r) : Its (upd H F (.lst (us.map V.ref ++ [.ref t]))) (us ++ [t]) (rows ++ [r]) := (i.app (its_one h)).put eF
/-- what is left of labels without two places -/
def leftN (one two i : Nat) : Nat := i - (if one < i then 1 else 0) - (if two < i then 1 else 0)
section
variable {P : Program} {w : World} {K : PySem.W.Frag} {mg : Str → Option Value} {base : Heap}
abbrev s__law_with_tie : Stmt := topS 33
theorem sc__law_with_tie : FnScope ["lot", "one", "two", "found", "parting", "labels", "left", "label", "door"] ["lot", "one", "two"] (defScope s__law_with_tie) := ⟨rfl, rfl, rfl, by decide +kernel, rfl, by decide +kernel, by decide +kernel⟩
def LotV (H : Hp) (v : V) (k : Nat) (most : Nat) : Prop := v = .non ∨ ∃ t L, v = .ref t ∧ TL H t L ∧ (∀ r ∈ L, r.length = k) ∧ L.length ≤ most
def spTie : Sp := fun vs H Q _ => ∃ (l : Addr) (L : List (List Int)) (n one two : Nat), vs = [.ref l, .int (one : Nat), .int (two : Nat)] ∧ TL H l L ∧ (∀ r ∈ L, r.length = n) ∧ one < n ∧ two < n ∧ one ≠ two ∧ 3 ≤ n ∧ n ≤ 60 ∧ L.length ≤ 10000 ∧
  ∀ H' v, Same H H' → LotV H' v (n - 2) L.length → Q v H'
theorem ok_with_tie (D : DefAt K mg "_law_with_tie" s__law_with_tie) (T : Bt mg) (u__law_numbered : Use P w K mg base "_law_numbered" 1 ["labels"] spNumL) : Use P w K mg base "_law_with_tie" 2 ["lot", "one", "two"] spTie := by
  refine use_of D (fun f fd F => F.ok sc__law_with_tie (fun vs H Q E h => ?_) (fun cdv A outer s H vs Q E hr h => ?_)) (fun _ _ _ _ _ _ us hl => match us, hl with | [_, _, _], _ => rfl)
  · obtain ⟨l, L, n, one, two, rfl, _⟩ := h
    rfl
  · obtain ⟨l, L, n, one, two, rfl, tl, rl, o1, o2, ne, n3, n60, big, q⟩ := h
    refine ⟨_, (pss_cons (ps_set (i := 3) sc__law_with_tie.nd rfl (Or.inl rfl) (pe_lst pa_nil))
      (pss_cons (ps_for PassesOwn.never rfl (k_tup (K := K) rfl (pv 0)) (pg_name (i := 4) sc__law_with_tie.nd rfl (Or.inr rfl))
      (pss_cons (ps_if (pt_cmpR op_eq (pe_ix (k_ixt (K := K) rfl) (pv 4) (pv 1) (fun _ _ => rfl)) (pe_ix (k_ixt (K := K) rfl) (pv 4) (pv 2) (fun _ _ => rfl)) (nomark _)) (pss_one (ps_ret pe_non)) pss_nil)
      (pss_cons (ps_set (i := 5) sc__law_with_tie.nd rfl (Or.inr rfl) (pe_lc (own := [("label", 7)]) rfl sc__law_with_tie.nd (k_tup (K := K) rfl (pv 4)) (blkOk_by (N := ["lot", "one", "two", "found", "parting", "labels", "left", "label", "door"]) (sc := defScope s__law_with_tie) (by decide +kernel)) (fun _ _ _ _ _ => (pg_name (i := 7) sc__law_with_tie.nd rfl (Or.inl rfl))) (fun _ _ _ _ _ => pts_nil) (fun _ _ _ _ _ => (pe_ifExp (pt_cmpR op_eq (pv 7) (pe_ix (k_ixt (K := K) rfl) (pv 4) (pv 2) (fun _ _ => rfl)) (nomark _)) (pe_ix (k_ixt (K := K) rfl) (pv 4) (pv 1) (fun _ _ => rfl)) (pv 7)))))
      (pss_cons (ps_setLc (i := 6) (own := [("door", 8)]) rfl sc__law_with_tie.nd rfl rfl (sw_true rfl rfl rfl (by decide +kernel)) (pi_range1 (by rfl) T.range (pa_cons (pe_callB (k_len (K := K) rfl) (by rfl) T.len PySem.boot_len (pa_cons (pv 5) pa_nil)) pa_nil)) (blkOk_by (N := ["lot", "one", "two", "found", "parting", "labels", "left", "label", "door"]) (sc := defScope s__law_with_tie) (by decide +kernel)) (fun _ _ _ _ _ => (pg_name (i := 8) sc__law_with_tie.nd rfl (Or.inl rfl))) (fun _ _ _ _ _ => (pts_one (pt_cmpR (k_notIn (K := K) rfl) (pv 8) (pe_tup (pa_cons (pv 1) (pa_cons (pv 2) pa_nil))) (by rfl)))) (fun _ _ _ _ _ => (pe_ix (k_ixl (K := K) rfl) (pv 5) (pv 8) (fun _ _ => rfl))))
      (pss_cons (ps_if (pt_cmpR (k_notIn (K := K) rfl) (pe_ix (k_ixl (K := K) rfl) (pv 5) (pv 1) (fun _ _ => rfl)) (pv 6) (by rfl)) (pss_one (ps_ret pe_non)) pss_nil)
      (pss_one (ps_if (pt_cmpR (k_notInDG (K := K) rfl (room65g hr)) (pe_use u__law_numbered (by decide) hr (by rfl) (pa_cons (pv 6) pa_nil)) (pv 3) (by rfl)) (pss_one (ps_expr (k_bm (K := K) rfl PySem.F.plainAttrs_list PySem.F.slot_list_append PySem.F.type_list_append mt_append (pv 3) (pa_cons (pe_use u__law_numbered (by decide) hr (by rfl) (pa_cons (pv 6) pa_nil)) pa_nil)))) pss_nil)))))))
      (pss_one (ps_ret (pe_callTy (k_tupOf (K := K) rfl) (by rfl) T.tuple (by decide +kernel) (pa_cons (pe_callB cr_sortedR (by rfl) T.sorted (by decide +kernel) (pa_cons (pv 3) pa_nil)) pa_nil)))))), ?_⟩
    obtain ⟨ts, el, its⟩ := tl
    have tsl := its.1
    refine ⟨by show 0 ≤ sizeLine; decide, fun F nF => ?_⟩
    refine ⟨_, rfl, l, rfl, ⟨_, rdT (el.mono (same_new nF))⟩, for_tup (K := K) (a := l) (xs := ts.map V.ref)
      (fun i σ H1 => ∃ (y4 y5 y6 : Option V) (us : List Addr) (rows : List (List Int)), σ = [some (.ref l), some (.int (one : Nat)), some (.int (two : Nat)), some (.ref F), y4, y5, y6, none, none] ∧ Same H H1 ∧ H1 F = some (.lst (us.map V.ref)) ∧ Its H1 us rows ∧ rows.length ≤ i ∧ ∀ r ∈ rows, r.length = n - 2)
      ⟨none, none, none, [], [], rfl, same_new nF, upd_same, Its.nil, Nat.le_refl _, fun r hr => by cases hr⟩ (fun i σ H1 _ ⟨_, _, _, _, _, _, s1, _⟩ => rdT (el.mono s1)) ?_ ?_⟩
    · rintro i v σ H1 hv ⟨y4, y5, y6, us, rows, rfl, s1, eF, iu, rn, rr⟩
      obtain ⟨t, ht, rfl⟩ := map_at hv
      obtain ⟨r, hr', tr⟩ := its.2 i t ht
      have il := (List.getElem?_eq_some_iff.mp ht).1
      have lr := rl r (List.mem_of_getElem? hr')
      have tr1 := tr.mono s1
      obtain ⟨x1, hx1⟩ : ∃ x, r[one]? = some x := ⟨_, List.getElem?_eq_getElem (by omega)⟩
      obtain ⟨x2, hx2⟩ : ∃ x, r[two]? = some x := ⟨_, List.getElem?_eq_getElem (by omega)⟩
      refine ⟨_, rfl, _, rfl, t, _, _, _, rfl, rfl, rdT tr1, atI_of rfl (at_map hx1), _, rfl, _, rfl, t, _, _, _, rfl, rfl, rdT tr1, atI_of rfl (at_map hx2), rfl, ?_⟩
      by_cases e : x1 = x2
      · exact ⟨true, congrArg V.bl (decide_eq_true (congrArg V.int e)), iteT (q H1 _ s1 (.inl rfl))⟩
      refine ⟨false, congrArg V.bl (decide_eq_false fun z => e (V.int.inj z)), iteF ?_⟩
      refine ⟨_, rfl, t, rfl, ⟨_, rdT tr1⟩, fun B nB => ?_⟩
      refine lc_tup (K := K) (a := t) (xs := r.map V.int) (fun k H2 => Same H1 H2 ∧ H2 B = some (.lst (((r.take k).map fun y => if y = x2 then x1 else y).map V.int))) ⟨same_new nB, upd_same⟩ (fun k H2 _ ⟨s2, _⟩ => rdT (tr1.mono s2)) ?_ ?_
      · rintro k v H2 hk ⟨s2, eB⟩
        obtain ⟨y, hy, rfl⟩ := map_at hk
        have kl := (List.getElem?_eq_some_iff.mp hy).1
        have sq2 : SqT K H2 t (r.map V.int) := rdT (tr1.mono s2)
        have fin : ∀ w : Int, w = (if y = x2 then x1 else y) → ∃ acc, H2 B = some (.lst acc) ∧ acc.length < sizeLine ∧ Same H1 (upd H2 B (.lst (acc ++ [V.int w]))) ∧ upd H2 B (.lst (acc ++ [V.int w])) B = some (.lst (((r.take (k + 1)).map fun y => if y = x2 then x1 else y).map V.int)) := fun w ew => by
          refine ⟨_, eB, ?_, same_mut s2 nB, ?_⟩
          · rw [List.length_map, List.length_map, List.length_take]
            exact small_of (by omega)
          · rw [upd_same, take_snoc hy, List.map_append, List.map_append, ew]
            rfl
        refine ⟨rfl, _, rfl, _, rfl, _, rfl, t, _, _, _, rfl, rfl, sq2, atI_of rfl (at_map hx2), rfl, ?_⟩
        by_cases e2 : y = x2
        · refine ⟨true, congrArg V.bl (decide_eq_true (congrArg V.int e2)), iteT ⟨_, rfl, _, rfl, t, _, _, _, rfl, rfl, sq2, atI_of rfl (at_map hx1), fin _ (if_pos e2).symm⟩⟩
        · exact ⟨false, congrArg V.bl (decide_eq_false fun z => e2 (V.int.inj z)), iteF ⟨_, rfl, fin _ (if_neg e2).symm⟩⟩
      rintro H2 ⟨s2, eB⟩
      rw [List.length_map, List.take_length] at eB
      have ll : (r.map fun y => if y = x2 then x1 else y).length = n := by rw [List.length_map, lr]
      generalize (r.map fun y => if y = x2 then x1 else y) = labels at eB ll
      refine gNG ?_
      dsimp only
      refine ⟨_, rfl, B, _, rfl, .inl (sqL eB), _, rfl, by rw [List.length_map]; omega, by rw [List.length_map]; omega, fun G nG => ?_⟩
      rw [List.length_map, ll]
      refine lc_range (fun k H3 => Same H2 H3 ∧ ∃ ys : List Int, H3 G = some (.lst (ys.map V.int)) ∧ ys.length + (if one < k then 1 else 0) + (if two < k then 1 else 0) = k) ⟨same_new nG, [], upd_same, rfl⟩ ?_ ?_
      · rintro k H3 hk ⟨s3, ys, eG, yl⟩
        rw [Int.toNat_natCast] at hk
        have eB3 := s3 _ _ eB
        refine ⟨rfl, _, rfl, _, rfl, _, rfl, by show 2 ≤ sizeLine; decide, fun p np => ?_⟩
        have sp := same_new (H := H3) (o := .tup [V.int ((one : Nat) : Int), V.int ((two : Nat) : Int)]) np
        refine ⟨p, _, rfl, .inr (sqT upd_same), rfl, flat_ints [((one : Nat) : Int), ((two : Nat) : Int)], ?_⟩
        have iv := inV_ints (0 + ((k : Nat) : Int)) [((one : Nat) : Int), ((two : Nat) : Int)]
        have ne2 : ∀ {α β : Type} (u v : α), (if true = true then u else v) = u := fun u v => rfl
        by_cases me : (0 + ((k : Nat) : Int)) ∈ [((one : Nat) : Int), ((two : Nat) : Int)]
        · rw [decide_eq_true me] at iv
          refine ⟨false, congrArg V.bl (congrArg Bool.not iv), ?_⟩
          refine iteF ⟨s3.trans sp, ys, sp _ _ eG, ?_⟩
          have : k = one ∨ k = two := by
            rcases List.mem_cons.mp me with z | z
            · exact .inl (by omega)
            · exact .inr (by have := List.mem_singleton.mp z; omega)
          rcases this with rfl | rfl
          · rw [if_neg (Nat.lt_irrefl _)] at yl
            rw [if_pos (Nat.lt_succ_self _)]
            by_cases w : two < k
            · rw [if_pos w] at yl
              rw [if_pos (by omega)]
              omega
            · rw [if_neg w] at yl
              rw [if_neg (by omega)]
              omega
          · rw [if_neg (Nat.lt_irrefl k)] at yl
            rw [if_pos (Nat.lt_succ_self k)]
            by_cases w : one < k
            · rw [if_pos w] at yl
              rw [if_pos (by omega)]
              omega
            · rw [if_neg w] at yl
              rw [if_neg (by omega)]
              omega
        · rw [decide_eq_false me] at iv
          have n1 : k ≠ one := fun z => me (List.mem_cons.mpr (.inl (by omega)))
          have n2 : k ≠ two := fun z => me (List.mem_cons.mpr (.inr (List.mem_singleton.mpr (by omega))))
          obtain ⟨yb, hyb⟩ : ∃ x, labels[k]? = some x := ⟨_, List.getElem?_eq_getElem (by omega)⟩
          refine ⟨true, congrArg V.bl (congrArg Bool.not iv), iteT ⟨_, rfl, _, rfl, B, _, _, _, rfl, rfl, sqL (sp _ _ eB3), atI_of (j := k) (by omega) (at_map hyb), ?_⟩⟩
          refine ⟨_, sp _ _ eG, ?_, same_mut (s3.trans sp) nG, ys ++ [yb], ?_, ?_⟩
          · rw [List.length_map]
            exact small_of (by omega)
          · rw [upd_same, List.map_append]
            rfl
          · rw [List.length_append]
            show ys.length + 1 + _ + _ = k + 1
            have e1 : (if one < k + 1 then 1 else 0) = (if one < k then 1 else 0) := by
              by_cases w : one < k
              · rw [if_pos w, if_pos (by omega)]
              · rw [if_neg w, if_neg (by omega)]
            have e2 : (if two < k + 1 then 1 else 0) = (if two < k then 1 else 0) := by
              by_cases w : two < k
              · rw [if_pos w, if_pos (by omega)]
              · rw [if_neg w, if_neg (by omega)]
            rw [e1, e2]
            omega
      · rintro H3 ⟨s3, ys, eG, yl⟩
        rw [Int.toNat_natCast] at yl
        rw [if_pos o1, if_pos o2] at yl
        have eB3 := s3 _ _ eB
        refine gNG ?_
        dsimp only
        obtain ⟨b1, hb1⟩ : ∃ x, labels[one]? = some x := ⟨_, List.getElem?_eq_getElem (by omega)⟩
        refine ⟨_, rfl, _, rfl, B, _, _, _, rfl, rfl, sqL eB3, atI_of rfl (at_map hb1), _, rfl, G, _, rfl, .inl (sqL eG), rfl, flat_ints _, ?_⟩
        have s13 := s2.trans s3
        have s03 := s1.trans s13
        cases c : L2.inV (.int b1) (ys.map V.int) with
        | false => exact ⟨true, rfl, iteT (q H3 _ s03 (.inl rfl))⟩
        | true =>
        refine ⟨false, rfl, iteF ?_⟩
        have yn : ys.length = n - 2 := by omega
        refine ⟨_, rfl, G, ys, rfl, eG, by omega, fun H4 p s4 tp => ?_⟩
        have eF4 := s4 _ _ (s13 _ _ eF)
        have iu4 := (iu.mono s13).mono s4
        refine ⟨_, rfl, rowD (num ys), rows.map rowD, .tup (rdT tp) (dpAll_ints _), .lst (sqL eF4) (dp_its iu4), shaped_rowG _, shaped_rowsG _, ?_⟩
        have usl := iu4.1
        cases c2 : (rows.map rowD).any fun z => PyData.eqv z (rowD (num ys)) with
        | true =>
          refine ⟨false, rfl, iteF ?_⟩
          exact ⟨_, _, _, us, rows, rfl, s03.trans s4, eF4, iu4, by omega, rr⟩
        | false =>
          refine ⟨true, rfl, iteT ?_⟩
          refine ⟨_, rfl, .inl ⟨rfl, _, sqL eF4⟩, _, rfl, G, ys, rfl, s4 _ _ eG, by omega, fun H5 p2 s5 tp2 => ?_⟩
          have eF5 := s5 _ _ eF4
          refine ⟨F, _, _, rfl, rfl, eF5, ?_, ?_⟩
          · rw [List.length_map]
            exact small_of (by omega)
          refine ⟨_, _, _, us ++ [p2], rows ++ [num ys], rfl, same_mut ((s03.trans s4).trans s5) nF, by rw [upd_same, List.map_append]; rfl, its_app1 eF5 (iu4.mono s5) tp2, by rw [List.length_append]; show rows.length + 1 ≤ _; omega, fun r2 hr2 => ?_⟩
          rcases List.mem_append.mp hr2 with hr2 | hr2
          · exact rr r2 hr2
          · obtain rfl := List.mem_singleton.mp hr2
            rw [num_len, yn]
    · rintro σ H1 ⟨y4, y5, y6, us, rows, rfl, s1, eF, iu, rn, rr⟩
      rw [List.length_map] at rn
      refine ⟨_, rfl, F, us, rows, rfl, sqL eF, iu, (fun r hr e => by have := rr r hr; rw [e] at this; simp at this; omega), ?_⟩
      intro ts' rows' p pm _ i' np
      have sp := same_new (H := H1) (o := .lst (ts'.map V.ref)) np
      refine ⟨p, _, rfl, .inl ⟨sqL upd_same, fun z nz => ?_⟩⟩
      have sz := sp.trans (same_new (o := .tup (ts'.map V.ref)) nz)
      refine q _ _ (s1.trans sz) (.inr ⟨z, rows', rfl, ⟨ts', .inl upd_same, i'.mono sz⟩, fun r hr => rr r (pm.mem_iff.mp hr), ?_⟩)
      rw [pm.length_eq]
      omega
end
end KQ
namespace KQ
open PySem PySem.Spec PyProof.Rows L2 KR KM StX
section
variable {P : Program} {w : World} {K : PySem.W.Frag} {mg : Str → Option Value} {base : Heap}
abbrev s__law_with_knot : Stmt := topS 32
theorem sc__law_with_knot : FnScope ["lot", "sort", "one", "two", "found", "parting", "kept", "lost", "labels", "left", "label", "door"] ["lot", "sort", "one", "two"] (defScope s__law_with_knot) := ⟨rfl, rfl, rfl, by decide +kernel, rfl, by decide +kernel, by decide +kernel⟩
def spKnotL : Sp := fun vs H Q _ => ∃ (l : Addr) (L : List (List Int)) (sort : Str) (n one two : Nat), vs = [.ref l, .str sort, .int (one : Nat), .int (two : Nat)] ∧ TL H l L ∧ (∀ r ∈ L, r.length = n) ∧ one < n ∧ two < n ∧ one ≠ two ∧ 3 ≤ n ∧ n ≤ 60 ∧ L.length ≤ 10000 ∧
  ∀ H' v, Same H H' → LotV H' v (n - 1) (2 * L.length) → Q v H'
theorem ok_with_knot (D : DefAt K mg "_law_with_knot" s__law_with_knot) (T : Bt mg) (u__law_numbered : Use P w K mg base "_law_numbered" 1 ["labels"] spNumL) : Use P w K mg base "_law_with_knot" 2 ["lot", "sort", "one", "two"] spKnotL := by
  refine use_of D (fun f fd F => F.ok sc__law_with_knot (fun vs H Q E h => ?_) (fun cdv A outer s H vs Q E hr h => ?_)) (fun _ _ _ _ _ _ us hl => match us, hl with | [_, _, _, _], _ => rfl)
  · obtain ⟨l, L, sort, n, one, two, rfl, _⟩ := h
    rfl
  · obtain ⟨l, L, sort, n, one, two, rfl, tl, rl, o1, o2, ne, n3, n60, big, q⟩ := h
    refine ⟨_, (pss_cons (ps_set (i := 4) sc__law_with_knot.nd rfl (Or.inl rfl) (pe_lst pa_nil))
      (pss_cons (ps_for PassesOwn.never rfl (k_tup (K := K) rfl (pv 0)) (pg_name (i := 5) sc__law_with_knot.nd rfl (Or.inr rfl))
      (pss_cons (ps_if (PW.pt (pw_and (pt_cmpR op_eq (pv 1) pe_str (nomark _)) (pw_and1 (pt_cmpR op_eq (pe_ix (k_ixt (K := K) rfl) (pv 5) (pv 2) (fun _ _ => rfl)) (pe_ix (k_ixt (K := K) rfl) (pv 5) (pv 3) (fun _ _ => rfl)) (nomark _))))) (pss_one (ps_ret pe_non)) pss_nil)
      (pss_one (ps_for PassesOwn.never rfl (k_list (K := K) rfl (pe_ifExp (pt_cmpR op_eq (pv 1) pe_str (nomark _)) (pe_lst (pa_cons (pe_tup (pa_cons (pv 2) (pa_cons (pv 3) pa_nil))) pa_nil)) (pe_lst (pa_cons (pe_tup (pa_cons (pv 2) (pa_cons (pv 3) pa_nil))) (pa_cons (pe_tup (pa_cons (pv 3) (pa_cons (pv 2) pa_nil))) pa_nil))))) (pg_tup rfl (pgs_cons (pg_name (i := 6) sc__law_with_knot.nd rfl (Or.inl rfl)) (pgs_cons (pg_name (i := 7) sc__law_with_knot.nd rfl (Or.inl rfl)) pgs_nil)))
      (pss_cons (ps_set (i := 8) sc__law_with_knot.nd rfl (Or.inr rfl) (pe_op op_cat (pe_callTy (k_listOf (K := K) rfl) (by rfl) T.list (by decide +kernel) (pa_cons (pv 5) pa_nil)) (pe_lst (pa_cons (pe_ix (k_ixt (K := K) rfl) (pv 5) (pv 6) (fun _ _ => rfl)) pa_nil))))
      (pss_cons (ps_if (pt_cmpR op_eq (pv 1) pe_str (nomark _)) (pss_one (ps_set (i := 8) sc__law_with_knot.nd rfl (Or.inr rfl) (pe_lc (own := [("label", 10)]) rfl sc__law_with_knot.nd (k_list (K := K) rfl (pv 8)) (blkOk_by (N := ["lot", "sort", "one", "two", "found", "parting", "kept", "lost", "labels", "left", "label", "door"]) (sc := defScope s__law_with_knot) (by decide +kernel)) (fun _ _ _ _ _ => (pg_name (i := 10) sc__law_with_knot.nd rfl (Or.inl rfl))) (fun _ _ _ _ _ => pts_nil) (fun _ _ _ _ _ => (pe_ifExp (pt_cmpR op_eq (pv 10) (pe_ix (k_ixt (K := K) rfl) (pv 5) (pv 3) (fun _ _ => rfl)) (nomark _)) (pe_ix (k_ixt (K := K) rfl) (pv 5) (pv 2) (fun _ _ => rfl)) (pv 10)))))) pss_nil)
      (pss_cons (ps_setLc (i := 9) (own := [("door", 11)]) rfl sc__law_with_knot.nd rfl rfl (sw_true rfl rfl rfl (by decide +kernel)) (pi_range1 (by rfl) T.range (pa_cons (pe_callB (k_len (K := K) rfl) (by rfl) T.len PySem.boot_len (pa_cons (pv 8) pa_nil)) pa_nil)) (blkOk_by (N := ["lot", "sort", "one", "two", "found", "parting", "kept", "lost", "labels", "left", "label", "door"]) (sc := defScope s__law_with_knot) (by decide +kernel)) (fun _ _ _ _ _ => (pg_name (i := 11) sc__law_with_knot.nd rfl (Or.inl rfl))) (fun _ _ _ _ _ => (pts_one (pt_cmpR (k_notIn (K := K) rfl) (pv 11) (pe_tup (pa_cons (pv 2) (pa_cons (pv 3) pa_nil))) (by rfl)))) (fun _ _ _ _ _ => (pe_ix (k_ixl (K := K) rfl) (pv 8) (pv 11) (fun _ _ => rfl))))
      (pss_cons (ps_if (pt_cmpR (k_notIn (K := K) rfl) (pe_ix (k_ixl (K := K) rfl) (pv 8) (pv 7) (fun _ _ => rfl)) (pv 9) (by rfl)) (pss_one (ps_ret pe_non)) pss_nil)
      (pss_one (ps_if (pt_cmpR (k_notInDG (K := K) rfl (room65g hr)) (pe_use u__law_numbered (by decide) hr (by rfl) (pa_cons (pv 9) pa_nil)) (pv 4) (by rfl)) (pss_one (ps_expr (k_bm (K := K) rfl PySem.F.plainAttrs_list PySem.F.slot_list_append PySem.F.type_list_append mt_append (pv 4) (pa_cons (pe_use u__law_numbered (by decide) hr (by rfl) (pa_cons (pv 9) pa_nil)) pa_nil)))) pss_nil))))))))))
      (pss_one (ps_ret (pe_callTy (k_tupOf (K := K) rfl) (by rfl) T.tuple (by decide +kernel) (pa_cons (pe_callB cr_sortedR (by rfl) T.sorted (by decide +kernel) (pa_cons (pv 4) pa_nil)) pa_nil)))))), ?_⟩
    obtain ⟨ts, el, its⟩ := tl
    have tsl := its.1
    refine ⟨by show 0 ≤ sizeLine; decide, fun F nF => ?_⟩
    refine ⟨_, rfl, l, rfl, ⟨_, rdT (el.mono (same_new nF))⟩, for_tup (K := K) (a := l) (xs := ts.map V.ref)
      (fun i σ H1 => ∃ (y5 y6 y7 y8 y9 : Option V) (us : List Addr) (rows : List (List Int)), σ = [some (.ref l), some (.str sort), some (.int (one : Nat)), some (.int (two : Nat)), some (.ref F), y5, y6, y7, y8, y9, none, none] ∧ Same H H1 ∧ H1 F = some (.lst (us.map V.ref)) ∧ Its H1 us rows ∧ rows.length ≤ 2 * i ∧ ∀ r ∈ rows, r.length = n - 1)
      ⟨none, none, none, none, none, [], [], rfl, same_new nF, upd_same, Its.nil, Nat.le_refl _, fun r hr => by cases hr⟩ (fun i σ H1 _ ⟨_, _, _, _, _, _, _, _, s1, _⟩ => rdT (el.mono s1)) ?_ ?_⟩
    · rintro i v σ H1 hv ⟨y5, y6, y7, y8, y9, us, rows, rfl, s1, eF, iu, rn, rr⟩
      obtain ⟨t, ht, rfl⟩ := map_at hv
      obtain ⟨r, hr', tr⟩ := its.2 i t ht
      have il := (List.getElem?_eq_some_iff.mp ht).1
      have lr := rl r (List.mem_of_getElem? hr')
      have tr1 := tr.mono s1
      obtain ⟨x1, hx1⟩ : ∃ x, r[one]? = some x := ⟨_, List.getElem?_eq_getElem (by omega)⟩
      obtain ⟨x2, hx2⟩ : ∃ x, r[two]? = some x := ⟨_, List.getElem?_eq_getElem (by omega)⟩
      refine seq_cutG (t := tIfS _ _ _) (fun σ' H' => σ' = [some (.ref l), some (.str sort), some (.int (one : Nat)), some (.int (two : Nat)), some (.ref F), some (.ref t), y6, y7, y8, y9, none, none] ∧ H' = H1) (fun kk hk => ?_) ?_
      · by_cases sb : sort = "both"
        · refine ⟨_, rfl, rfl, true, congrArg V.bl (decide_eq_true (congrArg V.str sb)), iteT ?_⟩
          refine ⟨_, rfl, _, rfl, t, _, _, _, rfl, rfl, rdT tr1, atI_of rfl (at_map hx1), _, rfl, _, rfl, t, _, _, _, rfl, rfl, rdT tr1, atI_of rfl (at_map hx2), rfl, ?_⟩
          by_cases e : x1 = x2
          · exact ⟨true, congrArg V.bl (decide_eq_true (congrArg V.int e)), iteT (q H1 _ s1 (.inl rfl))⟩
          · exact ⟨false, congrArg V.bl (decide_eq_false fun z => e (V.int.inj z)), iteF (hk _ _ ⟨rfl, rfl⟩)⟩
        · refine ⟨_, rfl, rfl, false, congrArg V.bl (decide_eq_false fun z => sb (V.str.inj z)), iteF ?_⟩
          exact iteF (hk _ _ ⟨rfl, rfl⟩)
      rintro σ H1' ⟨rfl, rfl⟩
      have eF0 := eF
      by_cases sb : sort = "both"
      case' pos =>
        refine ⟨_, rfl, rfl, true, congrArg V.bl (decide_eq_true (congrArg V.str sb)), iteT ?_⟩
        refine ⟨_, rfl, _, rfl, by show 2 ≤ sizeLine; decide, fun t1 n1 => ?_⟩
        refine ⟨by show 1 ≤ sizeLine; decide, fun p np => ?_⟩
        have sa := same_new (H := H1') (o := .tup [V.int ((one : Nat) : Int), V.int ((two : Nat) : Int)]) n1
        have ea := upd_same (H := H1') (a := t1) (o := HO.tup [V.int ((one : Nat) : Int), V.int ((two : Nat) : Int)])
        generalize upd H1' t1 (.tup [V.int ((one : Nat) : Int), V.int ((two : Nat) : Int)]) = Ha at sa ea np ⊢
        have sp := same_new (H := Ha) (o := .lst [V.ref t1]) np
        have ep := upd_same (H := Ha) (a := p) (o := HO.lst [V.ref t1])
        generalize upd Ha p (.lst [V.ref t1]) = H2 at sp ep ⊢
        have s12 := sa.trans sp
        obtain ⟨prs, ep, hpr, p2⟩ : ∃ prs : List Addr, H2 p = some (.lst (prs.map V.ref)) ∧ (∀ u ∈ prs, ∃ x y : Nat, x < n ∧ y < n ∧ H2 u = some (.tup [.int (x : Nat), .int (y : Nat)])) ∧ prs.length ≤ 2 := ⟨[t1], ep, fun u hu => by
          obtain rfl := List.mem_singleton.mp hu
          exact ⟨one, two, o1, o2, sp _ _ ea⟩, by show 1 ≤ 2; decide⟩
        have pF : p ≠ F := (ne_of_none (sa _ _ eF) np).symm
        clear sa ea sp n1 np
      case' neg =>
        refine ⟨_, rfl, rfl, false, congrArg V.bl (decide_eq_false fun z => sb (V.str.inj z)), iteF ?_⟩
        refine ⟨_, rfl, _, rfl, by show 2 ≤ sizeLine; decide, fun t1 n1 => ?_⟩
        have sa := same_new (H := H1') (o := .tup [V.int ((one : Nat) : Int), V.int ((two : Nat) : Int)]) n1
        have ea := upd_same (H := H1') (a := t1) (o := HO.tup [V.int ((one : Nat) : Int), V.int ((two : Nat) : Int)])
        generalize upd H1' t1 (.tup [V.int ((one : Nat) : Int), V.int ((two : Nat) : Int)]) = Ha at sa ea ⊢
        refine ⟨_, rfl, _, rfl, by show 2 ≤ sizeLine; decide, fun t2 n2 => ?_⟩
        have sb' := same_new (H := Ha) (o := .tup [V.int ((two : Nat) : Int), V.int ((one : Nat) : Int)]) n2
        have eb := upd_same (H := Ha) (a := t2) (o := HO.tup [V.int ((two : Nat) : Int), V.int ((one : Nat) : Int)])
        generalize upd Ha t2 (.tup [V.int ((two : Nat) : Int), V.int ((one : Nat) : Int)]) = Hb at sb' eb ⊢
        refine ⟨by show 2 ≤ sizeLine; decide, fun p np => ?_⟩
        have sp := same_new (H := Hb) (o := .lst [V.ref t1, V.ref t2]) np
        have ep := upd_same (H := Hb) (a := p) (o := HO.lst [V.ref t1, V.ref t2])
        generalize upd Hb p (.lst [V.ref t1, V.ref t2]) = H2 at sp ep ⊢
        have s12 := sa.trans (sb'.trans sp)
        obtain ⟨prs, ep, hpr, p2⟩ : ∃ prs : List Addr, H2 p = some (.lst (prs.map V.ref)) ∧ (∀ u ∈ prs, ∃ x y : Nat, x < n ∧ y < n ∧ H2 u = some (.tup [.int (x : Nat), .int (y : Nat)])) ∧ prs.length ≤ 2 := ⟨[t1, t2], ep, fun u hu => by
          rcases List.mem_cons.mp hu with rfl | hu
          · exact ⟨one, two, o1, o2, sp _ _ (sb' _ _ ea)⟩
          · obtain rfl := List.mem_singleton.mp hu
            exact ⟨two, one, o2, o1, sp _ _ eb⟩, by show 2 ≤ 2; decide⟩
        have pF : p ≠ F := (ne_of_none (sb' _ _ (sa _ _ eF)) np).symm
        clear sa ea sb' eb sp n1 n2 np
      all_goals
        refine ⟨p, rfl, ⟨_, sqL ep⟩, for_list (K := K) (a := p) (xs := prs.map V.ref)
          (fun j σ H3 => ∃ (y6 y7 y8 y9 : Option V) (us : List Addr) (rows : List (List Int)), σ = [some (.ref l), some (.str sort), some (.int (one : Nat)), some (.int (two : Nat)), some (.ref F), some (.ref t), y6, y7, y8, y9, none, none] ∧ Same H H3 ∧ Kept H2 H3 F F ∧ H3 F = some (.lst (us.map V.ref)) ∧ Its H3 us rows ∧ rows.length ≤ 2 * i + j ∧ ∀ r ∈ rows, r.length = n - 1)
          ⟨y6, y7, y8, y9, us, rows, rfl, s1.trans s12, Kept.of (.refl H2), s12 _ _ eF, iu.mono s12, rn, rr⟩ (fun j σ H3 _ ⟨_, _, _, _, _, _, _, _, s3, _⟩ => sqL (s3 _ _ ep pF pF)) ?_ ?_⟩
        · rintro j v2 σ H3 hj ⟨y6, y7, y8, y9, us, rows, rfl, s3, s23, eF, iu, rn, rr⟩
          obtain ⟨u, hu, rfl⟩ := map_at hj
          have jl := (List.getElem?_eq_some_iff.mp hu).1
          obtain ⟨kx, lx, kn, ln, eu⟩ := hpr u (List.mem_of_getElem? hu)
          have uF : u ≠ F := fun z => by
            rw [z, s12 _ _ eF0] at eu
            cases eu
          have eu3 := s23 _ _ eu uF uF
          have tr3 := tr.mono s3
          obtain ⟨xk, hxk⟩ : ∃ x, r[kx]? = some x := ⟨_, List.getElem?_eq_getElem (by omega)⟩
          refine ⟨u, _, rfl, .inl (.inl eu3), rfl, _, _, rfl, _, [], rfl, rfl, ?_⟩
          refine ⟨_, rfl, t, _, rfl, .inr (rdT tr3), fun z nz => ?_⟩
          have sz := same_new (H := H3) (o := .lst (r.map V.int)) nz
          have ez := upd_same (H := H3) (a := z) (o := HO.lst (r.map V.int))
          generalize upd H3 z (.lst (r.map V.int)) = Hc at sz ez ⊢
          refine ⟨_, rfl, _, rfl, t, _, _, _, rfl, rfl, rdT (tr3.mono sz), atI_of rfl (at_map hxk), by show 1 ≤ sizeLine; decide, fun z2 nz2 => ?_⟩
          have sz2 := same_new (H := Hc) (o := .lst [V.int xk]) nz2
          have ez2 := upd_same (H := Hc) (a := z2) (o := HO.lst [V.int xk])
          generalize upd Hc z2 (.lst [V.int xk]) = Hd at sz2 ez2 ⊢
          refine ⟨z, z2, _, _, rfl, rfl, sz2 _ _ ez, ez2, ?_, fun B0 nB0 => ?_⟩
          · rw [List.length_map]
            exact Nat.le_of_lt (small_of (by show r.length + 1 ≤ _; omega))
          have sB0 := same_new (H := Hd) (o := .lst (r.map V.int ++ [V.int xk])) nB0
          have eB0 : (upd Hd B0 (.lst (r.map V.int ++ [V.int xk]))) B0 = some (.lst ((r ++ [xk]).map V.int)) := by rw [upd_same, List.map_append]; rfl
          generalize upd Hd B0 (.lst (r.map V.int ++ [V.int xk])) = He at sB0 eB0 ⊢
          have s3e := sz.trans (sz2.trans sB0)
          have lab0 : (r ++ [xk]).length = n + 1 := by rw [List.length_append, lr]; rfl
          generalize r ++ [xk] = lab at eB0 lab0
          refine gNG ?_
          dsimp only
          refine seq_cutG (t := tIfS _ _ _) (fun σ' H' => ∃ (B : Addr) (labels : List Int), σ' = [some (.ref l), some (.str sort), some (.int (one : Nat)), some (.int (two : Nat)), some (.ref F), some (.ref t), some (.int (kx : Nat)), some (.int (lx : Nat)), some (.ref B), y9, none, none] ∧ Same He H' ∧ H' B = some (.lst (labels.map V.int)) ∧ labels.length = n + 1) (fun kk hk => ?_) ?_
          · by_cases sb2 : sort = "both"
            · refine ⟨_, rfl, rfl, true, congrArg V.bl (decide_eq_true (congrArg V.str sb2)), iteT ?_⟩
              refine ⟨_, rfl, B0, rfl, ⟨_, sqL eB0⟩, fun B nB => ?_⟩
              have tre := tr3.mono s3e
              refine lc_list (K := K) (a := B0) (xs := lab.map V.int) (fun k H4 => Same He H4 ∧ H4 B = some (.lst (((lab.take k).map fun y => if y = x2 then x1 else y).map V.int))) ⟨same_new nB, upd_same⟩ (fun k H4 _ ⟨s4, _⟩ => sqL (s4 _ _ eB0)) ?_ ?_
              · rintro k v H4 hk4 ⟨s4, eB⟩
                obtain ⟨y, hy, rfl⟩ := map_at hk4
                have kl := (List.getElem?_eq_some_iff.mp hy).1
                have sq2 : SqT K H4 t (r.map V.int) := rdT (tre.mono s4)
                have fin : ∀ w : Int, w = (if y = x2 then x1 else y) → ∃ acc, H4 B = some (.lst acc) ∧ acc.length < sizeLine ∧ Same He (upd H4 B (.lst (acc ++ [V.int w]))) ∧ upd H4 B (.lst (acc ++ [V.int w])) B = some (.lst (((lab.take (k + 1)).map fun y => if y = x2 then x1 else y).map V.int)) := fun w ew => by
                  refine ⟨_, eB, ?_, same_mut s4 nB, ?_⟩
                  · rw [List.length_map, List.length_map, List.length_take]
                    exact small_of (by omega)
                  · rw [upd_same, take_snoc hy, List.map_append, List.map_append, ew]
                    rfl
                refine ⟨rfl, _, rfl, _, rfl, _, rfl, t, _, _, _, rfl, rfl, sq2, atI_of rfl (at_map hx2), rfl, ?_⟩
                by_cases e2 : y = x2
                · refine ⟨true, congrArg V.bl (decide_eq_true (congrArg V.int e2)), iteT ⟨_, rfl, _, rfl, t, _, _, _, rfl, rfl, sq2, atI_of rfl (at_map hx1), fin _ (if_pos e2).symm⟩⟩
                · exact ⟨false, congrArg V.bl (decide_eq_false fun z => e2 (V.int.inj z)), iteF ⟨_, rfl, fin _ (if_neg e2).symm⟩⟩
              · rintro H4 ⟨s4, eB⟩
                rw [List.length_map, List.take_length] at eB
                refine gNG ?_
                exact hk _ _ ⟨B, _, rfl, s4, eB, by rw [List.length_map, lab0]⟩
            · refine ⟨_, rfl, rfl, false, congrArg V.bl (decide_eq_false fun z => sb2 (V.str.inj z)), iteF ?_⟩
              exact hk _ _ ⟨B0, lab, rfl, .refl _, eB0, lab0⟩
          rintro σ H4 ⟨B, labels, rfl, s4, eB, ll⟩
          have sA := s3e.trans s4
          refine ⟨_, rfl, B, _, rfl, .inl (sqL eB), _, rfl, by rw [List.length_map]; omega, by rw [List.length_map]; omega, fun G nG => ?_⟩
          rw [List.length_map, ll]
          refine lc_range (fun k H5 => Same H4 H5 ∧ ∃ ys : List Int, H5 G = some (.lst (ys.map V.int)) ∧ ys.length + (if one < k then 1 else 0) + (if two < k then 1 else 0) = k) ⟨same_new nG, [], upd_same, rfl⟩ ?_ ?_
          · rintro k H5 hk ⟨s5, ys, eG, yl⟩
            rw [Int.toNat_natCast] at hk
            have eB3 := s5 _ _ eB
            refine ⟨rfl, _, rfl, _, rfl, _, rfl, by show 2 ≤ sizeLine; decide, fun p np => ?_⟩
            have sp := same_new (H := H5) (o := .tup [V.int ((one : Nat) : Int), V.int ((two : Nat) : Int)]) np
            refine ⟨p, _, rfl, .inr (sqT upd_same), rfl, flat_ints [((one : Nat) : Int), ((two : Nat) : Int)], ?_⟩
            have iv := inV_ints (0 + ((k : Nat) : Int)) [((one : Nat) : Int), ((two : Nat) : Int)]
            have ne2 : ∀ {α β : Type} (u v : α), (if true = true then u else v) = u := fun u v => rfl
            by_cases me : (0 + ((k : Nat) : Int)) ∈ [((one : Nat) : Int), ((two : Nat) : Int)]
            · rw [decide_eq_true me] at iv
              refine ⟨false, congrArg V.bl (congrArg Bool.not iv), ?_⟩
              refine iteF ⟨s5.trans sp, ys, sp _ _ eG, ?_⟩
              have : k = one ∨ k = two := by
                rcases List.mem_cons.mp me with z | z
                · exact .inl (by omega)
                · exact .inr (by have := List.mem_singleton.mp z; omega)
              rcases this with rfl | rfl
              · rw [if_neg (Nat.lt_irrefl _)] at yl
                rw [if_pos (Nat.lt_succ_self _)]
                by_cases w : two < k
                · rw [if_pos w] at yl
                  rw [if_pos (by omega)]
                  omega
                · rw [if_neg w] at yl
                  rw [if_neg (by omega)]
                  omega
              · rw [if_neg (Nat.lt_irrefl k)] at yl
                rw [if_pos (Nat.lt_succ_self k)]
                by_cases w : one < k
                · rw [if_pos w] at yl
                  rw [if_pos (by omega)]
                  omega
                · rw [if_neg w] at yl
                  rw [if_neg (by omega)]
                  omega
            · rw [decide_eq_false me] at iv
              have n1 : k ≠ one := fun z => me (List.mem_cons.mpr (.inl (by omega)))
              have n2 : k ≠ two := fun z => me (List.mem_cons.mpr (.inr (List.mem_singleton.mpr (by omega))))
              obtain ⟨yb, hyb⟩ : ∃ x, labels[k]? = some x := ⟨_, List.getElem?_eq_getElem (by omega)⟩
              refine ⟨true, congrArg V.bl (congrArg Bool.not iv), iteT ⟨_, rfl, _, rfl, B, _, _, _, rfl, rfl, sqL (sp _ _ eB3), atI_of (j := k) (by omega) (at_map hyb), ?_⟩⟩
              refine ⟨_, sp _ _ eG, ?_, same_mut (s5.trans sp) nG, ys ++ [yb], ?_, ?_⟩
              · rw [List.length_map]
                exact small_of (by omega)
              · rw [upd_same, List.map_append]
                rfl
              · rw [List.length_append]
                show ys.length + 1 + _ + _ = k + 1
                have e1 : (if one < k + 1 then 1 else 0) = (if one < k then 1 else 0) := by
                  by_cases w : one < k
                  · rw [if_pos w, if_pos (by omega)]
                  · rw [if_neg w, if_neg (by omega)]
                have e2 : (if two < k + 1 then 1 else 0) = (if two < k then 1 else 0) := by
                  by_cases w : two < k
                  · rw [if_pos w, if_pos (by omega)]
                  · rw [if_neg w, if_neg (by omega)]
                rw [e1, e2]
                omega
          · rintro H5 ⟨s5, ys, eG, yl⟩
            rw [Int.toNat_natCast] at yl
            rw [if_pos (show one < n + 1 by omega), if_pos (show two < n + 1 by omega)] at yl
            have eB5 := s5 _ _ eB
            refine gNG ?_
            dsimp only
            obtain ⟨b1, hb1⟩ : ∃ x, labels[lx]? = some x := ⟨_, List.getElem?_eq_getElem (by omega)⟩
            refine ⟨_, rfl, _, rfl, B, _, _, _, rfl, rfl, sqL eB5, atI_of rfl (at_map hb1), _, rfl, G, _, rfl, .inl (sqL eG), rfl, flat_ints _, ?_⟩
            have s03 := s3.trans (sA.trans s5)
            have s2f := s23.trans (Kept.of (sA.trans s5))
            cases c : L2.inV (.int b1) (ys.map V.int) with
            | false => exact ⟨true, rfl, iteT (q H5 _ s03 (.inl rfl))⟩
            | true =>
            refine ⟨false, rfl, iteF ?_⟩
            have yn : ys.length = n - 1 := by omega
            refine ⟨_, rfl, G, ys, rfl, eG, by omega, fun H7 p7 s7 tp => ?_⟩
            have eF7 := s7 _ _ (s5 _ _ (sA _ _ eF))
            have iu7 := (iu.mono (sA.trans s5)).mono s7
            refine ⟨_, rfl, rowD (num ys), rows.map rowD, .tup (rdT tp) (dpAll_ints _), .lst (sqL eF7) (dp_its iu7), shaped_rowG _, shaped_rowsG _, ?_⟩
            have usl := iu7.1
            cases c2 : (rows.map rowD).any fun z => PyData.eqv z (rowD (num ys)) with
            | true =>
              refine ⟨false, rfl, iteF ?_⟩
              exact ⟨_, _, _, _, us, rows, rfl, s03.trans s7, s2f.trans (Kept.of s7), eF7, iu7, by omega, rr⟩
            | false =>
              refine ⟨true, rfl, iteT ?_⟩
              refine ⟨_, rfl, .inl ⟨rfl, _, sqL eF7⟩, _, rfl, G, ys, rfl, s7 _ _ eG, by omega, fun H8 p8 s8 tp8 => ?_⟩
              have eF8 := s8 _ _ eF7
              refine ⟨F, _, _, rfl, rfl, eF8, ?_, ?_⟩
              · rw [List.length_map]
                exact small_of (by omega)
              refine ⟨_, _, _, _, us ++ [p8], rows ++ [num ys], rfl, same_mut ((s03.trans s7).trans s8) nF, (fun a u h n1 n2 => by rw [upd_ne n1]; exact ((s2f.trans (Kept.of s7)).trans (Kept.of s8)) a u h n1 n2), by rw [upd_same, List.map_append]; rfl, its_app1 eF8 (iu7.mono s8) tp8, by rw [List.length_append]; show rows.length + 1 ≤ _; omega, fun r2 hr2 => ?_⟩
              rcases List.mem_append.mp hr2 with hr2 | hr2
              · exact rr r2 hr2
              · obtain rfl := List.mem_singleton.mp hr2
                rw [num_len, yn]
        · rintro σ H3 ⟨y6, y7, y8, y9, us, rows, rfl, s3, s23, eF, iu, rn, rr⟩
          rw [List.length_map] at rn
          exact ⟨_, _, _, _, _, us, rows, rfl, s3, eF, iu, by omega, rr⟩
    · rintro σ H1 ⟨y5, y6, y7, y8, y9, us, rows, rfl, s1, eF, iu, rn, rr⟩
      rw [List.length_map] at rn
      refine ⟨_, rfl, F, us, rows, rfl, sqL eF, iu, (fun r hr e => by have := rr r hr; rw [e] at this; simp at this; omega), ?_⟩
      intro ts' rows' p pm _ i' np
      have sp := same_new (H := H1) (o := .lst (ts'.map V.ref)) np
      refine ⟨p, _, rfl, .inl ⟨sqL upd_same, fun z nz => ?_⟩⟩
      have sz := sp.trans (same_new (o := .tup (ts'.map V.ref)) nz)
      refine q _ _ (s1.trans sz) (.inr ⟨z, rows', rfl, ⟨ts', .inl upd_same, i'.mono sz⟩, fun r hr => rr r (pm.mem_iff.mp hr), ?_⟩)
      rw [pm.length_eq]
      omega
end
end KQ
/-! what grows: lines, ends, knots -/
namespace KQ
open PySem PySem.Spec PyProof.Rows L2 KR KM StX
theorem LinesAt.imp {H H' : Hp} {L : Addr} {as : List Addr} {ls : Lns} (h : LinesAt H L as ls) (hl : ∀ a u, H a = some u → a = L ∨ a ∈ as → H' a = some u) (ht : ∀ t r, TI H t r → TI H' t r) : LinesAt H' L as ls :=
  ⟨hl _ _ h.el (.inl rfl), h.nd, h.ne, h.len, fun i a l ha hl' => by
    obtain ⟨vs, e, p⟩ := h.at_ i a l ha hl'
    exact ⟨vs, hl _ _ e (.inr (List.mem_of_getElem? ha)), p.mono fun t e => ht t _⟩⟩
theorem LinesAt.app {H : Hp} {L a : Addr} {as : List Addr} {ls : Lns} {l : List Pl} {vs : List V} (h : LinesAt H L as ls) (ea : H a = some (.lst vs)) (pv : PlsV H l vs) (na : a ∉ as) (aL : a ≠ L) :
    LinesAt (upd H L (.lst (as.map V.ref ++ [.ref a]))) L (as ++ [a]) (ls ++ [l]) := by
  refine ⟨by rw [upd_same, List.map_append]; rfl, ?_, ?_, by rw [List.length_append, List.length_append, h.len]; rfl, fun i b l' hb hl' => ?_⟩
  · refine List.nodup_append.mpr ⟨h.nd, by simp, fun x hx y hy z => ?_⟩
    obtain rfl := List.mem_singleton.mp hy
    exact na (z ▸ hx)
  · intro m
    rcases List.mem_append.mp m with m | m
    · exact h.ne m
    · exact aL (List.mem_singleton.mp m).symm
  · have key : ∃ ws, H b = some (.lst ws) ∧ PlsV H l' ws ∧ b ≠ L := by
      by_cases z : i < as.length
      · rw [List.getElem?_append_left z] at hb
        rw [List.getElem?_append_left (by rw [← h.len]; exact z)] at hl'
        obtain ⟨ws, e, p⟩ := h.at_ i b l' hb hl'
        exact ⟨ws, e, p, fun w => h.ne (w ▸ List.mem_of_getElem? hb)⟩
      · have il := (List.getElem?_eq_some_iff.mp hb).1
        rw [List.length_append] at il
        have il' : i < as.length + 1 := il
        rw [List.getElem?_append_right (by omega), show i - as.length = 0 by omega] at hb
        rw [List.getElem?_append_right (by rw [← h.len]; omega), show i - ls.length = 0 by rw [← h.len]; omega] at hl'
        cases hb
        cases hl'
        exact ⟨vs, ea, pv, aL⟩
    obtain ⟨ws, e, p, n⟩ := key
    exact ⟨ws, by rw [upd_ne n]; exact e, p.mono fun t e ht => ti_upd h.el ht⟩
structure Gr (H0 H : Hp) (L el kn : Addr) (as ts : List Addr) (ls : Lns) (es : List (Nat × Nat)) (xs : List Str) : Prop where
  la : LinesAt H L as ls
  ee : H el = some (.lst (ts.map V.ref))
  its : Its H ts ((es.map eN).map rowE)
  ek : H kn = some (.lst (xs.map V.str))
  fr : ∀ a, a = L ∨ a = el ∨ a = kn ∨ a ∈ as → H0 a = none
  ela : el ∉ as
  kna : kn ∉ as
  eL : el ≠ L
  kL : kn ≠ L
  ke : kn ≠ el
section
variable {H0 H H' : Hp} {L el kn : Addr} {as ts : List Addr} {ls : Lns} {es : List (Nat × Nat)} {xs : List Str}
theorem Gr.tsl (h : Gr H0 H L el kn as ts ls es xs) : ts.length = es.length := by
  have := h.its.1
  rw [List.length_map, List.length_map] at this
  exact this
theorem its_imp {rows : List (List Int)} (i : Its H ts rows) (ht : ∀ t r, TI H t r → TI H' t r) : Its H' ts rows := ⟨i.1, fun j t hj => by
  obtain ⟨r, a, b⟩ := i.2 j t hj
  exact ⟨r, a, ht _ _ b⟩⟩
theorem Gr.imp (h : Gr H0 H L el kn as ts ls es xs) (hl : ∀ a u, H a = some u → H0 a = none → H' a = some u) (ht : ∀ t r, TI H t r → TI H' t r) : Gr H0 H' L el kn as ts ls es xs :=
  ⟨h.la.imp (fun a u e m => hl a u e (h.fr a (m.imp_right fun m => .inr (.inr m)))) ht, hl _ _ h.ee (h.fr _ (.inr (.inl rfl))), its_imp h.its ht, hl _ _ h.ek (h.fr _ (.inr (.inr (.inl rfl)))), h.fr, h.ela, h.kna, h.eL, h.kL, h.ke⟩
theorem Gr.mono (h : Gr H0 H L el kn as ts ls es xs) (s : Same H H') : Gr H0 H' L el kn as ts ls es xs := h.imp (fun a u e _ => s a u e) fun t r i => i.mono s
theorem Gr.kept {m c g : Addr} {b0 b : Int} (h : Gr H0 H L el kn as ts ls es xs) (ms0 : MS H0 m c g b0) (ms : MS H m c g b) (k : Kept H H' m g) : Gr H0 H' L el kn as ts ls es xs :=
  h.imp (fun a u e n => k a u e (ms0.ne n).1 (ms0.ne n).2.2) fun t r i => k.ti ms i
theorem TL.kept {m c g : Addr} {b : Int} {t : Addr} {Lt : List (List Int)} (h : TL H t Lt) (ms : MS H m c g b) (k : Kept H H' m g) : TL H' t Lt := by
  obtain ⟨ts, e, i⟩ := h
  exact ⟨ts, ((out_rd ms e).mono (out_kept k)).mono (out_same m g H'), its_imp i fun t r i => k.ti ms i⟩
theorem Gr.ends {R : Addr} {rs : List Addr} {rest : List (Nat × Nat)} (h : Gr H0 H L el kn as ts ls es xs) (eR : H R = some (.lst (rs.map V.ref))) (i : Its H rs ((rest.map eN).map rowE)) (f : H0 R = none) (n1 : R ∉ as) (n2 : R ≠ L) (n3 : R ≠ kn) : Gr H0 H L R kn as rs ls rest xs :=
  ⟨h.la, eR, i, h.ek, fun a m => m.elim (fun e => h.fr a (.inl e)) fun m => m.elim (fun e => e ▸ f) fun m => h.fr a (.inr (.inr m)), n1, h.kna, n2, h.kL, n3.symm⟩
theorem Gr.fill {a : Addr} {l : List Pl} {vs : List V} {i s : Nat} {p : Pl} {v : V} (h : Gr H0 H L el kn as ts ls es xs) (ha : as[i]? = some a) (hl : ls[i]? = some l) (ea : H a = some (.lst vs)) (pv : PlsV H l vs) (hv : plV H p v) :
    Gr H0 (upd H a (.lst (vs.set s v))) L el kn as ts (setP ls i s p) es xs := by
  have m := List.mem_of_getElem? ha
  exact ⟨h.la.set ha hl ea pv hv, by rw [upd_ne (fun z => h.ela (by rw [z]; exact m) : el ≠ a)]; exact h.ee, its_imp h.its fun t r i => rd_lst (show Rd H t _ from i) ea, by rw [upd_ne (fun z => h.kna (by rw [z]; exact m) : kn ≠ a)]; exact h.ek, h.fr, h.ela, h.kna, h.eL, h.kL, h.ke⟩
theorem Gr.endApp {t : Addr} {e : Nat × Nat} (h : Gr H0 H L el kn as ts ls es xs) (i : TI H t (rowE (eN e))) : Gr H0 (upd H el (.lst (ts.map V.ref ++ [.ref t]))) L el kn as (ts ++ [t]) ls (es ++ [e]) xs := by
  refine ⟨h.la.imp (fun a u q m => ?_) fun t r i => rd_lst (show Rd H t _ from i) h.ee, by rw [upd_same, List.map_append]; rfl, ?_, by rw [upd_ne h.ke]; exact h.ek, h.fr, h.ela, h.kna, h.eL, h.kL, h.ke⟩
  · rw [upd_ne fun z => m.elim (fun w => h.eL (z.symm.trans w)) fun w => h.ela (z ▸ w)]
    exact q
  · rw [List.map_append, List.map_append]
    exact (h.its.app (its_one i)).put h.ee
theorem Gr.lineApp {a : Addr} {l : List Pl} {vs : List V} (h : Gr H0 H L el kn as ts ls es xs) (ea : H a = some (.lst vs)) (pv : PlsV H l vs) (na : a ∉ as) (aL : a ≠ L) (ae : a ≠ el) (ak : a ≠ kn) (f : H0 a = none) :
    Gr H0 (upd H L (.lst (as.map V.ref ++ [.ref a]))) L el kn (as ++ [a]) ts (ls ++ [l]) es xs := by
  refine ⟨h.la.app ea pv na aL, by rw [upd_ne h.eL]; exact h.ee, its_imp h.its fun t r i => rd_lst (show Rd H t _ from i) h.la.el, by rw [upd_ne h.kL]; exact h.ek, fun b m => ?_, fun m => ?_, fun m => ?_, h.eL, h.kL, h.ke⟩
  · rcases m with m | m | m | m
    · exact h.fr b (.inl m)
    · exact h.fr b (.inr (.inl m))
    · exact h.fr b (.inr (.inr (.inl m)))
    · rcases List.mem_append.mp m with m | m
      · exact h.fr b (.inr (.inr (.inr m)))
      · rw [List.mem_singleton.mp m]
        exact f
  · rcases List.mem_append.mp m with m | m
    · exact h.ela m
    · exact ae (List.mem_singleton.mp m).symm
  · rcases List.mem_append.mp m with m | m
    · exact h.kna m
    · exact ak (List.mem_singleton.mp m).symm
theorem Gr.knotApp {x : Str} (h : Gr H0 H L el kn as ts ls es xs) : Gr H0 (upd H kn (.lst (xs.map V.str ++ [.str x]))) L el kn as ts ls es (xs ++ [x]) := by
  refine ⟨h.la.imp (fun a u q m => ?_) fun t r i => rd_lst (show Rd H t _ from i) h.ek, by rw [upd_ne h.ke.symm]; exact h.ee, its_imp h.its fun t r i => rd_lst (show Rd H t _ from i) h.ek, by rw [upd_same, List.map_append]; rfl, h.fr, h.ela, h.kna, h.eL, h.kL, h.ke⟩
  rw [upd_ne fun z => m.elim (fun w => h.kL (z.symm.trans w)) fun w => h.kna (z ▸ w)]
  exact q
theorem Gr.tie {as' ts' : List Addr} {ls' : Lns} {es' : List (Nat × Nat)} (h : Gr H0 H L el kn as ts ls es xs) (k : KeptA H H' (L :: el :: as)) (la : LinesAt H' L as' ls') (ee : H' el = some (.lst (ts'.map V.ref))) (its : Its H' ts' ((es'.map eN).map rowE))
    (hm : ∀ a ∈ as', a ∈ as ∨ H a = none) (k0 : ∀ a u, H0 a = some u → H a ≠ none) : Gr H0 H' L el kn as' ts' ls' es' xs := by
  refine ⟨la, ee, its, k _ _ h.ek ?_, fun a m => ?_, fun m => ?_, fun m => ?_, h.eL, h.kL, h.ke⟩
  · simp only [List.mem_cons, not_or]
    exact ⟨h.kL, h.ke, h.kna⟩
  · rcases m with m | m | m | m
    · exact h.fr a (.inl m)
    · exact h.fr a (.inr (.inl m))
    · exact h.fr a (.inr (.inr (.inl m)))
    · rcases hm a m with w | w
      · exact h.fr a (.inr (.inr (.inr w)))
      · cases q : H0 a with
        | none => rfl
        | some u => exact absurd w (k0 a u q)
  · rcases hm _ m with w | w
    · exact h.ela w
    · rw [h.ee] at w
      cases w
  · rcases hm _ m with w | w
    · exact h.kna w
    · rw [h.ek] at w
      cases w
end
theorem ms_keptA {H0 H H' : Hp} {m c g : Addr} {b0 b : Int} {S : List Addr} (ms0 : MS H0 m c g b0) (ms : MS H m c g b) (k : KeptA H H' S) (f : ∀ a ∈ S, H0 a = none) : MS H' m c g b := by
  obtain ⟨cs, gs, n, h1, h2, h3, r⟩ := ms.ex
  obtain ⟨cs0, gs0, n0, i1, i2, i3, _⟩ := ms0.ex
  have no : ∀ a u, H0 a = some u → a ∉ S := fun a u e m => by
    rw [f a m] at e
    cases e
  exact ⟨cs, gs, n, k _ _ h1 (no _ _ i1), k _ _ h2 (no _ _ i2), k _ _ h3 (no _ _ i3), r⟩
theorem kept_keptA {H0 H H' : Hp} {m g : Addr} {S : List Addr} (k0 : Kept H0 H m g) (k : KeptA H H' S) (f : ∀ a ∈ S, H0 a = none) : Kept H0 H' m g := fun a u e n1 n2 => k a u (k0 a u e n1 n2) fun w => by
  rw [f a w] at e
  cases e
/-- the ends but two -/
def flE (e1 e2 : Nat × Nat) (es : List (Nat × Nat)) : List (Nat × Nat) := (es.filter fun e => decide (e ≠ e1)).filter fun e => decide (e ≠ e2)
theorem flE_snoc {e1 e2 e : Nat × Nat} {es : List (Nat × Nat)} : flE e1 e2 (es ++ [e]) = flE e1 e2 es ++ (if e ≠ e1 ∧ e ≠ e2 then [e] else []) := by
  unfold flE
  rw [List.filter_append, List.filter_append]
  congr 1
  by_cases c1 : e = e1
  · rw [if_neg fun z => z.1 c1, List.filter_cons, if_neg (by simp [c1])]
    rfl
  · rw [List.filter_cons, if_pos (by simp [c1])]
    by_cases c2 : e = e2
    · rw [if_neg fun z => z.2 c2, List.filter_cons, if_neg (by simp [c2])]
      rfl
    · rw [if_pos ⟨c1, c2⟩, List.filter_cons, if_pos (by simp [c2])]
      rfl
theorem mem_flE {e1 e2 e : Nat × Nat} {es : List (Nat × Nat)} : e ∈ flE e1 e2 es ↔ e ∈ es ∧ e ≠ e1 ∧ e ≠ e2 := by
  unfold flE
  simp only [List.mem_filter, decide_eq_true_eq, and_assoc]
theorem flE_nd {e1 e2 : Nat × Nat} {es : List (Nat × Nat)} (h : es.Nodup) : (flE e1 e2 es).Nodup := (h.filter _).filter _
theorem filter_ne_len {α : Type} [DecidableEq α] {x : α} : ∀ {es : List α}, es.Nodup → x ∈ es → (es.filter fun e => decide (e ≠ x)).length + 1 = es.length
  | [], _, m => by cases m
  | y :: es, nd, m => by
    obtain ⟨n1, n2⟩ := List.nodup_cons.mp nd
    by_cases c : y = x
    · subst c
      rw [filter_tail nd]
      rfl
    · rw [List.filter_cons, if_pos (by simp [c]), List.length_cons, List.length_cons, filter_ne_len n2 (by rcases List.mem_cons.mp m with w | w; exact absurd w.symm c; exact w)]
theorem flE_len {e1 e2 : Nat × Nat} {es : List (Nat × Nat)} (nd : es.Nodup) (m1 : e1 ∈ es) (m2 : e2 ∈ es) (ne : e1 ≠ e2) : (flE e1 e2 es).length + 2 = es.length := by
  unfold flE
  have h1 := filter_ne_len nd m1
  have h2 := filter_ne_len (x := e2) (nd.filter fun e => decide (e ≠ e1)) (List.mem_filter.mpr ⟨m2, decide_eq_true ne.symm⟩)
  omega
theorem nodup_at {es : List (Nat × Nat)} (nd : es.Nodup) {i j : Nat} {e : Nat × Nat} (hi : es[i]? = some e) (hj : es[j]? = some e) : i = j := by
  have i1 := List.getElem?_eq_some_iff.mp hi
  have i2 := List.getElem?_eq_some_iff.mp hj
  exact (List.getElem_inj nd).mp (i1.2.trans i2.2.symm)
theorem setP_len {ls : Lns} {i s : Nat} {p : Pl} : (setP ls i s p).length = ls.length := by
  unfold setP
  split
  · rfl
  · rw [List.length_set]
end KQ
namespace KQ
open PySem PySem.Spec PyProof.Rows L2 KR KM StX
/-- how far a piece has grown -/
structure Grown (H0 H : Hp) (m c g : Addr) (b : Int) (k : Nat) (L el kn lt : Addr) (as ts : List Addr) (ls : Lns) (es : List (Nat × Nat)) (xs : List Str) (Lt : List (List Int)) : Prop where
  gr : Gr H0 H L el kn as ts ls es xs
  gd : GoodL ls es
  tl : TL H lt Lt
  rl : ∀ r ∈ Lt, r.length = es.length
  l1 : ls.length ≤ k + 2
  x1 : xs.length ≤ k
  t1 : Lt.length ≤ 2 ^ k
  e1 : 1 ≤ es.length
  e6 : es.length ≤ 6
  kp : Kept H0 H m g
  ms : MS H m c g (b + 8 * k)
theorem Grown.succ {H0 H : Hp} {m c g : Addr} {b : Int} {k : Nat} {L el kn lt : Addr} {as ts : List Addr} {ls : Lns} {es : List (Nat × Nat)} {xs : List Str} {Lt : List (List Int)} (gr : Gr H0 H L el kn as ts ls es xs) (gd : GoodL ls es) (tl : TL H lt Lt) (rl : ∀ r ∈ Lt, r.length = es.length) (l1 : ls.length ≤ k + 3)
    (x1 : xs.length ≤ k + 1) (t1 : Lt.length ≤ 2 * 2 ^ k) (e1 : 1 ≤ es.length) (e6 : es.length ≤ 6) (kp : Kept H0 H m g) (ms : MS H m c g (b + 8 * k + 8)) : Grown H0 H m c g b (k + 1) L el kn lt as ts ls es xs Lt :=
  ⟨gr, gd, tl, rl, by omega, x1, by rw [Nat.pow_succ]; omega, e1, e6, kp, ms.le (by omega)⟩
def InvG (H0 : Hp) (m c g : Addr) (b steps : Int) (k : Nat) (σ : L2.St) (H : Hp) : Prop := ∃ (y6 y7 y8 y9 y10 y11 y12 y13 y14 y15 : Option V) (L el kn lt : Addr) (as ts : List Addr) (ls : Lns) (es : List (Nat × Nat)) (xs : List Str) (Lt : List (List Int)),
  σ = [some (.ref m), some (.int steps), some (.ref L), some (.ref el), some (.ref kn), some (.ref lt), y6, y7, y8, y9, y10, y11, y12, y13, y14, y15, none, none] ∧ Grown H0 H m c g b k L el kn lt as ts ls es xs Lt
/-- a piece that has grown, in the heap without the draws -/
def GrownV (m g : Addr) (H : Hp) (v : V) : Prop := ∃ (n : Int) (xs : List Str) (zs : List (En × En)), PieceB (Out m g H) v n xs zs ∧ 0 ≤ n ∧ n ≤ 6 ∧ xs.length ≤ 11 ∧ zs.length ≤ 13
theorem finV_piece {m c g : Addr} {b : Int} {H : Hp} {v : V} {n : Int} {xs : List Str} {k : Nat} (h : FinV H v n xs k) (ms : MS H m c g b) : ∃ zs : List (En × En), PieceB (Out m g H) v n xs zs ∧ zs.length ≤ k := by
  obtain ⟨a, ak, tl, ls, rfl, r1, r2, r3, r4, r5, r6⟩ := h
  obtain ⟨zs, zl, ez⟩ := lines_sorted fun x hx => (r5 x hx).2
  have dl : DVs (Out m g H) (zs.map lineD) ((ls.mergeSort leN).map fun x => V.ref x.2) := by
    have := dvs_sorted fun x hx => out_tl ms (r5 x hx).1
    rwa [ez] at this
  exact ⟨zs, ⟨a, ak, .ref tl, rfl, out_rd ms r1, out_rd ms r2, out_bare ms r3, DV.of_tup (out_rd ms r4) dl⟩, by omega⟩
theorem lot_layG : ∀ rows : List (List Int), PyData.canLayAll0 (rows.map rowD) = true := lay_rowsG
theorem shaped_lotG (rows : List (List Int)) : SeqAt.shaped (lotD rows) = true := by
  have h1 : PyData.canLay0 (lotD rows) = true := by simp only [PyData.canLay0, lay_rowsG]
  have h2 : PyData.depth (lotD rows) ≤ 64 := by
    have := depth_rowsG rows
    simp only [PyData.depth]
    omega
  exact Bool.and_eq_true_iff.mpr ⟨h1, decide_eq_true h2⟩
theorem gooL0 : GoodL [[none, none], [none, none]] [(0, 0), (0, 1), (1, 0), (1, 1)] := by
  have h0 : GoodL [] [] := ⟨(fun l h => by cases h), List.nodup_nil, fun e => ⟨(fun h => by cases h), fun ⟨l, h, _⟩ => by cases h⟩⟩
  have h1 := h0.more
  exact h1.more
theorem tl_keptA {H H' : Hp} {S : List Addr} {t : Addr} {Lt : List (List Int)} (h : TL H t Lt) (k : KeptA H H' S) (hl : ∀ a ∈ S, ∃ vs, H a = some (.lst vs)) : TL H' t Lt := by
  obtain ⟨rs, e, i⟩ := h
  have rdk : ∀ {a : Addr} {vs : List V}, Rd H a (.tup vs) → Rd H' a (.tup vs) := fun {a vs} r => by
    have n : a ∉ S := fun mm => by
      obtain ⟨vs', e'⟩ := hl a mm
      exact r.ne e' (fun _ z => by cases z) (fun _ _ z => by cases z) rfl
    rcases r with z | ⟨o', z⟩
    · exact .inl (k _ _ z n)
    · exact .inr ⟨o', k _ _ z n⟩
  exact ⟨rs, rdk e, its_imp i fun t r i => rdk i⟩
section
variable {P : Program} {w : World} {K : PySem.W.Frag} {mg : Str → Option Value} {base : Heap}
abbrev s__law_grown : Stmt := topS 34
theorem sc__law_grown : FnScope ["m", "steps", "lines", "ends", "knots", "lot", "turn", "kind", "order", "one", "two", "sort", "there", "rest", "place", "end", "parting", "door"] ["m", "steps"] (defScope s__law_grown) := ⟨rfl, rfl, rfl, by decide +kernel, rfl, by decide +kernel, by decide +kernel⟩
def spGrown : Sp := fun vs H Q _ => ∃ (m c g : Addr) (b steps : Int), vs = [.ref m, .int steps] ∧ MS H m c g b ∧ b ≤ 90000 ∧ 0 ≤ steps ∧ steps ≤ 11 ∧
  ∀ H' t v x, Kept H H' m g → MS H' m c g (b + 100) → H' t = some (.tup [v, x]) → GrownV m g H' v → Q (.ref t) H'
theorem ok_grown (D : DefAt K mg "_law_grown" s__law_grown) (T : Bt mg) (u__law_draw : Use P w K mg base "_law_draw" 2 ["m", "limit"] spDraw) (u__law_order : Use P w K mg base "_law_order" 3 ["m", "many"] spOrder0)
    (u__law_with_tie : Use P w K mg base "_law_with_tie" 2 ["lot", "one", "two"] spTie) (u__law_with_knot : Use P w K mg base "_law_with_knot" 2 ["lot", "sort", "one", "two"] spKnotL)
    (u__law_tie_lines : Use P w K mg base "_law_tie_lines" 1 ["lines", "rest", "one", "two"] spTieL) (u__law_finished : Use P w K mg base "_law_finished" 1 ["lines", "ends", "knots"] spFin) : Use P w K mg base "_law_grown" 4 ["m", "steps"] spGrown := by
  refine use_of D (fun f fd F => F.ok sc__law_grown (fun vs H Q E h => ?_) (fun cdv A outer s H vs Q E hr h => ?_)) (fun _ _ _ _ _ _ us hl => match us, hl with | [_, _], _ => rfl)
  · obtain ⟨m, c, g, b, steps, rfl, _⟩ := h
    rfl
  · obtain ⟨m, c, g, b, steps, rfl, ms0, hb, st0, st11, q⟩ := h
    refine ⟨_, (pss_cons (ps_asg (pe_tup (pa_cons (pe_lst (pa_cons (pe_lst (pa_cons pe_non (pa_cons pe_non pa_nil))) (pa_cons (pe_lst (pa_cons pe_non (pa_cons pe_non pa_nil))) pa_nil))) (pa_cons (pe_lst (pa_cons (pe_tup (pa_cons pe_int (pa_cons pe_int pa_nil))) (pa_cons (pe_tup (pa_cons pe_int (pa_cons pe_int pa_nil))) (pa_cons (pe_tup (pa_cons pe_int (pa_cons pe_int pa_nil))) (pa_cons (pe_tup (pa_cons pe_int (pa_cons pe_int pa_nil))) pa_nil))))) (pa_cons (pe_lst pa_nil) (pa_cons (pe_tup (pa_cons (pe_tup (pa_cons pe_int (pa_cons pe_int (pa_cons pe_int (pa_cons pe_int pa_nil))))) pa_nil)) pa_nil))))) (pg_tup rfl (pgs_cons (pg_name (i := 2) sc__law_grown.nd rfl (Or.inl rfl)) (pgs_cons (pg_name (i := 3) sc__law_grown.nd rfl (Or.inr rfl)) (pgs_cons (pg_name (i := 4) sc__law_grown.nd rfl (Or.inl rfl)) (pgs_cons (pg_name (i := 5) sc__law_grown.nd rfl (Or.inl rfl)) pgs_nil))))))
      (pss_cons (ps_for PassesOwn.never rfl (pi_range1 (by rfl) T.range (pa_cons (pv 1) pa_nil)) (pg_name (i := 6) sc__law_grown.nd rfl (Or.inl rfl))
      (pss_cons (ps_set (i := 7) sc__law_grown.nd rfl (Or.inl rfl) (pe_use u__law_draw (by decide) hr (by rfl) (pa_cons (pv 0) (pa_cons pe_int pa_nil))))
      (pss_one (ps_if (PW.pt (pw_and (pt_cmpR op_lt (pv 7) pe_int (nomark _)) (pw_and1 (pt_cmpR op_lt (pe_callB (k_len (K := K) rfl) (by rfl) T.len PySem.boot_len (pa_cons (pv 3) pa_nil)) pe_int (nomark _))))) (pss_cons (ps_set (i := 3) sc__law_grown.nd rfl (Or.inr rfl) (pe_op op_cat (pv 3) (pe_lst (pa_cons (pe_tup (pa_cons (pe_callB (k_len (K := K) rfl) (by rfl) T.len PySem.boot_len (pa_cons (pv 2) pa_nil)) (pa_cons pe_int pa_nil))) (pa_cons (pe_tup (pa_cons (pe_callB (k_len (K := K) rfl) (by rfl) T.len PySem.boot_len (pa_cons (pv 2) pa_nil)) (pa_cons pe_int pa_nil))) pa_nil)))))
      (pss_cons (ps_expr (k_bm (K := K) rfl PySem.F.plainAttrs_list PySem.F.slot_list_append PySem.F.type_list_append mt_append (pv 2) (pa_cons (pe_lst (pa_cons pe_non (pa_cons pe_non pa_nil))) pa_nil)))
      (pss_one (ps_set (i := 5) sc__law_grown.nd rfl (Or.inl rfl) (pe_callTy (k_tupOf (K := K) rfl) (by rfl) T.tuple (by decide +kernel) (pa_cons (pe_lc (own := [("parting", 16)]) rfl sc__law_grown.nd (k_tup (K := K) rfl (pv 5)) (blkOk_by (N := ["m", "steps", "lines", "ends", "knots", "lot", "turn", "kind", "order", "one", "two", "sort", "there", "rest", "place", "end", "parting", "door"]) (sc := defScope s__law_grown) (by decide +kernel)) (fun _ _ _ _ _ => (pg_name (i := 16) sc__law_grown.nd rfl (Or.inl rfl))) (fun _ _ _ _ _ => pts_nil) (fun _ _ _ _ _ => (pe_op (k_catR (K := K) rfl) (pv 16) (pe_op (k_repTG (K := K) rfl) (pe_tup (pa_cons (pe_op op_add (pe_callB (k_maxT (K := K) rfl rfl hr.units) (by rfl) T.max (by decide +kernel) (pa_cons (pv 16) pa_nil)) pe_int) pa_nil)) pe_int)))) pa_nil)))))) (pss_one (ps_if (PW.pt (pw_and (pt_cmpR op_gt (pv 7) pe_int (nomark _)) (pw_and1 (pt_cmpR op_gt (pe_callB (k_len (K := K) rfl) (by rfl) T.len PySem.boot_len (pa_cons (pv 3) pa_nil)) pe_int (nomark _))))) (pss_cons (ps_set (i := 8) sc__law_grown.nd rfl (Or.inl rfl) (pe_use u__law_order (by decide) hr (by rfl) (pa_cons (pv 0) (pa_cons (pe_callB (k_len (K := K) rfl) (by rfl) T.len PySem.boot_len (pa_cons (pv 3) pa_nil)) pa_nil))))
      (pss_cons (ps_asg (pe_tup (pa_cons (pe_ix (k_ixl (K := K) rfl) (pv 8) pe_int (fun _ _ => rfl)) (pa_cons (pe_ix (k_ixl (K := K) rfl) (pv 8) pe_int (fun _ _ => rfl)) pa_nil))) (pg_tup rfl (pgs_cons (pg_name (i := 9) sc__law_grown.nd rfl (Or.inr rfl)) (pgs_cons (pg_name (i := 10) sc__law_grown.nd rfl (Or.inr rfl)) pgs_nil))))
      (pss_cons (ps_set (i := 11) sc__law_grown.nd rfl (Or.inl rfl) (pe_ifExp (pt_cmpR op_eq (pv 7) pe_int (nomark _)) pe_str pe_str))
      (pss_cons (ps_set (i := 12) sc__law_grown.nd rfl (Or.inl rfl) (pe_ifExp (pt_cmpR op_eq (pv 7) pe_int (nomark _)) (pe_use u__law_with_tie (by decide) hr (by rfl) (pa_cons (pv 5) (pa_cons (pv 9) (pa_cons (pv 10) pa_nil)))) (pe_use u__law_with_knot (by decide) hr (by rfl) (pa_cons (pv 5) (pa_cons (pv 11) (pa_cons (pv 9) (pa_cons (pv 10) pa_nil)))))))
      (pss_one (ps_if (PW.pt (pw_and (pt_cmpR op_notN (pv 12) pe_non (nomark _)) (pw_and1 (pt_cmpR (k_neD (K := K) rfl hr.units) (pv 12) (pe_tup pa_nil) (nomark _))))) (pss_cons (ps_set (i := 5) sc__law_grown.nd rfl (Or.inl rfl) (pv 12))
      (pss_cons (ps_setLc (i := 13) (own := [("door", 17)]) rfl sc__law_grown.nd rfl rfl (sw_true rfl rfl rfl (by decide +kernel)) (pi_range1 (by rfl) T.range (pa_cons (pe_callB (k_len (K := K) rfl) (by rfl) T.len PySem.boot_len (pa_cons (pv 3) pa_nil)) pa_nil)) (blkOk_by (N := ["m", "steps", "lines", "ends", "knots", "lot", "turn", "kind", "order", "one", "two", "sort", "there", "rest", "place", "end", "parting", "door"]) (sc := defScope s__law_grown) (by decide +kernel)) (fun _ _ _ _ _ => (pg_name (i := 17) sc__law_grown.nd rfl (Or.inl rfl))) (fun _ _ _ _ _ => (pts_one (pt_cmpR (k_notIn (K := K) rfl) (pv 17) (pe_tup (pa_cons (pv 9) (pa_cons (pv 10) pa_nil))) (by rfl)))) (fun _ _ _ _ _ => (pe_ix (k_ixl (K := K) rfl) (pv 3) (pv 17) (fun _ _ => rfl))))
      (pss_cons (ps_if (pt_cmpR op_eq (pv 7) pe_int (nomark _)) (pss_one (ps_expr (pe_use u__law_tie_lines (by decide) hr (by rfl) (pa_cons (pv 2) (pa_cons (pv 13) (pa_cons (pe_ix (k_ixl (K := K) rfl) (pv 3) (pv 9) (fun _ _ => rfl)) (pa_cons (pe_ix (k_ixl (K := K) rfl) (pv 3) (pv 10) (fun _ _ => rfl)) pa_nil))))))) (pss_cons (ps_for PassesOwn.never rfl (k_list (K := K) rfl (pe_lst (pa_cons (pe_tup (pa_cons pe_int (pa_cons (pe_ix (k_ixl (K := K) rfl) (pv 3) (pv 9) (fun _ _ => rfl)) pa_nil))) (pa_cons (pe_tup (pa_cons pe_int (pa_cons (pe_ix (k_ixl (K := K) rfl) (pv 3) (pv 10) (fun _ _ => rfl)) pa_nil))) pa_nil)))) (pg_tup rfl (pgs_cons (pg_name (i := 14) sc__law_grown.nd rfl (Or.inl rfl)) (pgs_cons (pg_name (i := 15) sc__law_grown.nd rfl (Or.inl rfl)) pgs_nil)))
      (pss_one (ps_asg (pe_tup (pa_cons (pe_callB (k_len (K := K) rfl) (by rfl) T.len PySem.boot_len (pa_cons (pv 4) pa_nil)) (pa_cons (pv 14) pa_nil))) (pg_sub (pe_ix (k_ixl (K := K) rfl) (pv 2) (pe_ix (k_ixt (K := K) rfl) (pv 15) pe_int (fun _ _ => rfl)) (fun _ _ => rfl)) (pe_ix (k_ixt (K := K) rfl) (pv 15) pe_int (fun _ _ => rfl)) set_list))))
      (pss_cons (ps_expr (k_bm (K := K) rfl PySem.F.plainAttrs_list PySem.F.slot_list_append PySem.F.type_list_append mt_append (pv 13) (pa_cons (pe_tup (pa_cons (pe_callB (k_len (K := K) rfl) (by rfl) T.len PySem.boot_len (pa_cons (pv 2) pa_nil)) (pa_cons pe_int pa_nil))) pa_nil)))
      (pss_cons (ps_expr (k_bm (K := K) rfl PySem.F.plainAttrs_list PySem.F.slot_list_append PySem.F.type_list_append mt_append (pv 2) (pa_cons (pe_lst (pa_cons (pe_tup (pa_cons (pe_callB (k_len (K := K) rfl) (by rfl) T.len PySem.boot_len (pa_cons (pv 4) pa_nil)) (pa_cons pe_int pa_nil))) (pa_cons pe_non pa_nil))) pa_nil)))
      (pss_one (ps_expr (k_bm (K := K) rfl PySem.F.plainAttrs_list PySem.F.slot_list_append PySem.F.type_list_append mt_append (pv 4) (pa_cons (pv 11) pa_nil))))))))
      (pss_one (ps_set (i := 3) sc__law_grown.nd rfl (Or.inr rfl) (pv 13)))))) pss_nil)))))) pss_nil))))))
      (pss_one (ps_ret (pe_tup (pa_cons (pe_use u__law_finished (by decide) hr (by rfl) (pa_cons (pv 2) (pa_cons (pv 3) (pa_cons (pv 4) pa_nil)))) (pa_cons (pv 5) pa_nil))))))), ?_⟩
    refine ⟨by show 2 ≤ sizeLine; decide, fun a1 n1 => ?_⟩
    have s1 := same_new (H := H) (o := .lst [V.non, V.non]) n1
    have z1 := upd_same (H := H) (a := a1) (o := HO.lst [V.non, V.non])
    have f1 : H a1 = none := n1
    generalize upd H a1 (.lst [V.non, V.non]) = H1 at s1 z1 ⊢
    refine ⟨by show 2 ≤ sizeLine; decide, fun a2 n2 => ?_⟩
    have s2 := same_new (H := H1) (o := .lst [V.non, V.non]) n2
    have z2 := upd_same (H := H1) (a := a2) (o := HO.lst [V.non, V.non])
    have f2 : H a2 = none := s1.free n2
    have d12 : a1 ≠ a2 := ne_of_none z1 n2
    generalize upd H1 a2 (.lst [V.non, V.non]) = H2 at s2 z2 ⊢
    refine ⟨by show 2 ≤ sizeLine; decide, fun L nL => ?_⟩
    have s3 := same_new (H := H2) (o := .lst [V.ref a1, V.ref a2]) nL
    have z3 := upd_same (H := H2) (a := L) (o := HO.lst [V.ref a1, V.ref a2])
    have f3 : H L = none := (s1.trans s2).free nL
    have d1L : a1 ≠ L := ne_of_none (s2 _ _ z1) nL
    have d2L : a2 ≠ L := ne_of_none z2 nL
    generalize upd H2 L (.lst [V.ref a1, V.ref a2]) = H3 at s3 z3 ⊢
    have z13 := s3 _ _ (s2 _ _ z1)
    have z23 := s3 _ _ z2
    have s03 := s1.trans (s2.trans s3)
    clear s1 s2 s3 z1 z2 n1 n2 nL
    refine ⟨by show 2 ≤ sizeLine; decide, fun t1 n1 => ?_⟩
    have s1 := same_new (H := H3) (o := .tup [V.int 0, V.int 0]) n1
    have z1 := upd_same (H := H3) (a := t1) (o := HO.tup [V.int 0, V.int 0])
    generalize upd H3 t1 (.tup [V.int 0, V.int 0]) = H4 at s1 z1 ⊢
    refine ⟨by show 2 ≤ sizeLine; decide, fun t2 n2 => ?_⟩
    have s2 := same_new (H := H4) (o := .tup [V.int 0, V.int 1]) n2
    have z2 := upd_same (H := H4) (a := t2) (o := HO.tup [V.int 0, V.int 1])
    generalize upd H4 t2 (.tup [V.int 0, V.int 1]) = H5 at s2 z2 ⊢
    refine ⟨by show 2 ≤ sizeLine; decide, fun t3 n3 => ?_⟩
    have s3 := same_new (H := H5) (o := .tup [V.int 1, V.int 0]) n3
    have z4 := upd_same (H := H5) (a := t3) (o := HO.tup [V.int 1, V.int 0])
    generalize upd H5 t3 (.tup [V.int 1, V.int 0]) = H6 at s3 z4 ⊢
    refine ⟨by show 2 ≤ sizeLine; decide, fun t4 n4 => ?_⟩
    have s4 := same_new (H := H6) (o := .tup [V.int 1, V.int 1]) n4
    have z5 := upd_same (H := H6) (a := t4) (o := HO.tup [V.int 1, V.int 1])
    generalize upd H6 t4 (.tup [V.int 1, V.int 1]) = H7 at s4 z5 ⊢
    have s37 := s1.trans (s2.trans (s3.trans s4))
    have i1 : TI H7 t1 (rowE (eN (0, 0))) := .inl (s4 _ _ (s3 _ _ (s2 _ _ z1)))
    have i2 : TI H7 t2 (rowE (eN (0, 1))) := .inl (s4 _ _ (s3 _ _ z2))
    have i3 : TI H7 t3 (rowE (eN (1, 0))) := .inl (s4 _ _ z4)
    have i4 : TI H7 t4 (rowE (eN (1, 1))) := .inl z5
    clear s1 s2 s3 s4 z1 z2 z4 z5 n1 n2 n3 n4
    refine ⟨by show 4 ≤ sizeLine; decide, fun el nE => ?_⟩
    have sE := same_new (H := H7) (o := .lst [V.ref t1, V.ref t2, V.ref t3, V.ref t4]) nE
    have zE := upd_same (H := H7) (a := el) (o := HO.lst [V.ref t1, V.ref t2, V.ref t3, V.ref t4])
    generalize upd H7 el (.lst [V.ref t1, V.ref t2, V.ref t3, V.ref t4]) = H8 at sE zE ⊢
    refine ⟨by show 0 ≤ sizeLine; decide, fun kn nK => ?_⟩
    have sK := same_new (H := H8) (o := .lst []) nK
    have zK := upd_same (H := H8) (a := kn) (o := HO.lst [])
    generalize upd H8 kn (.lst []) = H9 at sK zK ⊢
    have gr9 : Gr H H9 L el kn [a1, a2] [t1, t2, t3, t4] [[none, none], [none, none]] [(0, 0), (0, 1), (1, 0), (1, 1)] [] := by
      have s39 := s37.trans (sE.trans sK)
      have e1 := s39 _ _ z13
      have e2 := s39 _ _ z23
      have pl : PlsV H9 [none, none] [V.non, V.non] := ⟨rfl, fun s p hp => by
        match s, hp with
        | 0, e => cases e; exact ⟨_, rfl, rfl⟩
        | 1, e => cases e; exact ⟨_, rfl, rfl⟩
        | s + 2, e => cases e⟩
      refine ⟨⟨s39 _ _ z3, by simp [d12], by simp [d1L.symm, d2L.symm], rfl, fun i a l ha hl => ?_⟩, sK _ _ zE, ?_, zK, fun a m => ?_, fun m => ?_, fun m => ?_, ?_, ?_, ?_⟩
      · match i, ha, hl with
        | 0, ha, hl => cases ha; cases hl; exact ⟨_, e1, pl⟩
        | 1, ha, hl => cases ha; cases hl; exact ⟨_, e2, pl⟩
        | i + 2, ha, hl => cases ha
      · have : Its H7 [t1, t2, t3, t4] (([(0, 0), (0, 1), (1, 0), (1, 1)] : List (Nat × Nat)).map eN |>.map rowE) := (its_one i1).app ((its_one i2).app ((its_one i3).app (its_one i4)))
        exact this.mono (sE.trans sK)
      · rcases m with rfl | rfl | rfl | m
        · exact f3
        · exact (s03.trans s37).free nE
        · exact ((s03.trans s37).trans sE).free nK
        · simp only [List.mem_cons, List.not_mem_nil, or_false] at m
          rcases m with rfl | rfl
          · exact f1
          · exact f2
      · simp only [List.mem_cons, List.not_mem_nil, or_false] at m
        rcases m with rfl | rfl
        · rw [s37 _ _ z13] at nE; cases nE
        · rw [s37 _ _ z23] at nE; cases nE
      · simp only [List.mem_cons, List.not_mem_nil, or_false] at m
        rcases m with rfl | rfl
        · rw [sE _ _ (s37 _ _ z13)] at nK; cases nK
        · rw [sE _ _ (s37 _ _ z23)] at nK; cases nK
      · exact (ne_of_none (s37 _ _ z3) nE).symm
      · exact (ne_of_none (sE _ _ (s37 _ _ z3)) nK).symm
      · exact (ne_of_none zE nK).symm
    have s09 := s03.trans (s37.trans (sE.trans sK))
    clear s03 s37 sE sK zE zK nE nK i1 i2 i3 i4 z13 z23 z3 d12 d1L d2L f1 f2 f3
    refine ⟨by show 4 ≤ sizeLine; decide, fun r nr => ?_⟩
    have s1 := same_new (H := H9) (o := .tup [V.int 0, V.int 0, V.int 1, V.int 1]) nr
    have z1 := upd_same (H := H9) (a := r) (o := HO.tup [V.int 0, V.int 0, V.int 1, V.int 1])
    generalize upd H9 r (.tup [V.int 0, V.int 0, V.int 1, V.int 1]) = Ha at s1 z1 ⊢
    refine ⟨by show 1 ≤ sizeLine; decide, fun lt nl => ?_⟩
    have s2 := same_new (H := Ha) (o := .tup [V.ref r]) nl
    have z2 := upd_same (H := Ha) (a := lt) (o := HO.tup [V.ref r])
    generalize upd Ha lt (.tup [V.ref r]) = Hb at s2 z2 ⊢
    refine ⟨by show 4 ≤ sizeLine; decide, fun u nu => ?_⟩
    have s3 := same_new (H := Hb) (o := .tup [V.ref L, V.ref el, V.ref kn, V.ref lt]) nu
    have z3 := upd_same (H := Hb) (a := u) (o := HO.tup [V.ref L, V.ref el, V.ref kn, V.ref lt])
    generalize upd Hb u (.tup [V.ref L, V.ref el, V.ref kn, V.ref lt]) = Hc at s3 z3 ⊢
    have tlc : TL Hc lt [[0, 0, 1, 1]] := ⟨[r], .inl (s3 _ _ z2), its_one (.inl (s3 _ _ (s2 _ _ z1)))⟩
    have s9c := s1.trans (s2.trans s3)
    have grc := gr9.mono s9c
    have s0c := s09.trans s9c
    have msc := ms0.mono s0c
    refine ⟨u, _, rfl, .inl (.inl z3), rfl, _, _, rfl, _, _, rfl, _, _, rfl, _, [], rfl, rfl, ?_⟩
    have inv0 : InvG H m c g b steps 0 [some (.ref m), some (.int steps), some (.ref L), some (.ref el), some (.ref kn), some (.ref lt), none, none, none, none, none, none, none, none, none, none, none, none] Hc :=
      ⟨none, none, none, none, none, none, none, none, none, none, L, el, kn, lt, _, _, _, _, _, _, rfl, grc, gooL0, tlc, by simp, by decide, by decide, by decide, by decide, by decide, Kept.of s0c, msc.le (by omega)⟩
    clear gr9 s1 s2 s3 z1 z2 z3 tlc s9c grc s0c msc s09 nr nl nu
    refine ⟨_, rfl, _, rfl, by omega, by omega, for_range (lo := 0) (n := steps.toNat) (fun k σ H1 => InvG H m c g b steps k σ H1) inv0 ?_ ?_⟩
    · clear inv0
      clear r lt u Ha Hb Hc H3 H4 H5 H6 H7 H8 H9 a1 a2 L el kn t1 t2 t3 t4 H1 H2
      rintro k σ H1 hk ⟨y6, y7, y8, y9, y10, y11, y12, y13, y14, y15, L, el, kn, lt, as, ts, ls, es, xs, Lt, rfl, ⟨gr, gd, tl, rl, l1, x1, t1, e1, e6, kp, ms⟩⟩
      have pw : (2 : Nat) ^ k ≤ 2 ^ 11 := Nat.pow_le_pow_right (by decide) (by omega)
      have p11 : (2 : Nat) ^ 11 = 2048 := by decide
      refine ⟨_, rfl, m, c, g, _, 9, rfl, ms, by omega, by decide, by decide, fun H2 kind k2 ms2 kd0 kd9 => ?_⟩
      have gr2 := gr.kept ms0 ms k2
      have tl2 := tl.kept ms k2
      have kp2 := kp.trans k2
      clear gr tl kp ms k2
      have stay : ∀ z8 z9 z10 z11 z12 : Option V, InvG H m c g b steps (k + 1) [some (.ref m), some (.int steps), some (.ref L), some (.ref el), some (.ref kn), some (.ref lt), some (.int (0 + (k : Nat))), some (.int kind), z8, z9, z10, z11, z12, y13, y14, y15, none, none] H2 := fun z8 z9 z10 z11 z12 =>
        ⟨_, _, _, _, _, _, _, _, _, _, L, el, kn, lt, as, ts, ls, es, xs, Lt, rfl, .succ gr2 gd tl2 rl (by omega) (by omega) (by omega) e1 e6 kp2 (ms2.le (by omega))⟩
      have tsl := gr2.tsl
      refine ⟨_, rfl, kind, 4, rfl, rfl, _, rfl, ?_⟩
      by_cases c1 : kind < 4
      · rw [decide_eq_true c1]
        refine iteT ⟨_, rfl, el, _, rfl, .inl (sqL gr2.ee), _, 5, rfl, rfl, _, rfl, ?_⟩
        rw [List.length_map, tsl]
        by_cases c2 : ((es.length : Nat) : Int) < 5
        rotate_left
        · rw [decide_eq_false c2]
          refine iteF ⟨_, rfl, kind, 3, rfl, rfl, _, rfl, ?_⟩
          rw [decide_eq_false (show ¬ kind > 3 by omega)]
          exact iteF (iteF (stay y8 y9 y10 y11 y12))
        rw [decide_eq_true c2]
        refine iteT ?_
        refine ⟨_, rfl, _, rfl, L, _, rfl, .inl (sqL gr2.la.el), by show 2 ≤ sizeLine; decide, fun u1 nu1 => ?_⟩
        have lal : (as.map V.ref).length = ls.length := by rw [List.length_map]; exact gr2.la.len
        rw [lal]
        have s1 := same_new (H := H2) (o := .tup [V.int ((ls.length : Nat) : Int), V.int 0]) nu1
        have z1 := upd_same (H := H2) (a := u1) (o := HO.tup [V.int ((ls.length : Nat) : Int), V.int 0])
        generalize upd H2 u1 (.tup [V.int ((ls.length : Nat) : Int), V.int 0]) = H3 at s1 z1 ⊢
        have gr3 := gr2.mono s1
        refine ⟨_, rfl, L, _, rfl, .inl (sqL gr3.la.el), by show 2 ≤ sizeLine; decide, fun u2 nu2 => ?_⟩
        rw [lal]
        have s2 := same_new (H := H3) (o := .tup [V.int ((ls.length : Nat) : Int), V.int 1]) nu2
        have z2 := upd_same (H := H3) (a := u2) (o := HO.tup [V.int ((ls.length : Nat) : Int), V.int 1])
        generalize upd H3 u2 (.tup [V.int ((ls.length : Nat) : Int), V.int 1]) = H4 at s2 z2 ⊢
        refine ⟨by show 2 ≤ sizeLine; decide, fun z nz => ?_⟩
        have s3 := same_new (H := H4) (o := .lst [V.ref u1, V.ref u2]) nz
        have z3 := upd_same (H := H4) (a := z) (o := HO.lst [V.ref u1, V.ref u2])
        generalize upd H4 z (.lst [V.ref u1, V.ref u2]) = H5 at s3 z3 ⊢
        have gr5 := (gr3.mono s2).mono s3
        refine ⟨el, z, _, _, rfl, rfl, gr5.ee, z3, ?_, fun E2 nE2 => ?_⟩
        · rw [List.length_map, tsl]
          exact Nat.le_of_lt (small_of (by show es.length + 2 ≤ _; omega))
        have s4 := same_new (H := H5) (o := .lst (ts.map V.ref ++ [V.ref u1, V.ref u2])) nE2
        have z4 : (upd H5 E2 (.lst (ts.map V.ref ++ [V.ref u1, V.ref u2]))) E2 = some (.lst ((ts ++ [u1, u2]).map V.ref)) := by rw [upd_same, List.map_append]; rfl
        generalize upd H5 E2 (.lst (ts.map V.ref ++ [V.ref u1, V.ref u2])) = H6 at s4 z4 ⊢
        have s25 := s1.trans (s2.trans s3)
        have k5 := kp2.trans (Kept.of s25)
        have ms5 := ms2.mono s25
        have fE : H E2 = none := kept_free k5 nE2 (ms5.ne nE2).1 (ms5.ne nE2).2.2
        have i1 : TI H6 u1 (rowE (eN (ls.length, 0))) := .inl (s4 _ _ (s3 _ _ (s2 _ _ z1)))
        have i2 : TI H6 u2 (rowE (eN (ls.length, 1))) := .inl (s4 _ _ (s3 _ _ z2))
        have gr6 : Gr H H6 L E2 kn as (ts ++ [u1, u2]) ls (es ++ [(ls.length, 0), (ls.length, 1)]) xs := by
          refine (gr5.mono s4).ends z4 ?_ fE (fun mm => ?_) (ne_of_none gr5.la.el nE2).symm (ne_of_none gr5.ek nE2).symm
          · rw [List.map_append, List.map_append]
            exact ((gr5.mono s4).its).app ((its_one i1).app (its_one i2))
          · obtain ⟨vs, e⟩ := gr5.la.lst mm
            rw [nE2] at e
            cases e
        have k6 := k5.trans (Kept.of s4)
        have ms6 := ms5.mono s4
        have tl6 := tl2.mono (s25.trans s4)
        clear s1 s2 s3 s4 s25 z1 z2 z3 z4 gr3 gr5 k5 ms5 i1 i2 nu1 nu2 nz nE2 fE
        refine gNG ?_
        dsimp only
        refine ⟨_, rfl, .inl ⟨rfl, _, sqL gr6.la.el⟩, by show 2 ≤ sizeLine; decide, fun a na => ?_⟩
        have s1 := same_new (H := H6) (o := .lst [V.non, V.non]) na
        have z1 := upd_same (H := H6) (a := a) (o := HO.lst [V.non, V.non])
        have fa : H a = none := kept_free k6 na (ms6.ne na).1 (ms6.ne na).2.2
        have naa : a ∉ as := fun mm => by
          obtain ⟨vs, e⟩ := gr6.la.lst mm
          rw [na] at e
          cases e
        have naL := (ne_of_none gr6.la.el na).symm
        have naE := (ne_of_none gr6.ee na).symm
        have naK := (ne_of_none gr6.ek na).symm
        generalize upd H6 a (.lst [V.non, V.non]) = H7 at s1 z1 ⊢
        have gr7 := gr6.mono s1
        refine ⟨L, _, _, rfl, rfl, gr7.la.el, ?_, ?_⟩
        · rw [lal]
          exact small_of (by omega)
        have pl : PlsV H7 [none, none] [V.non, V.non] := ⟨rfl, fun s p hp => by
          match s, hp with
          | 0, e => cases e; exact ⟨_, rfl, rfl⟩
          | 1, e => cases e; exact ⟨_, rfl, rfl⟩
          | s + 2, e => cases e⟩
        have gr8 := gr7.lineApp z1 pl naa naL naE naK fa
        have fL : H L = none := gr2.fr L (.inl rfl)
        have k8 := kept_mut (o := .lst (as.map V.ref ++ [.ref a])) (k6.trans (Kept.of s1)) fL
        have nL := ms0.ne fL
        have ms8 := (ms6.mono s1).put (o := .lst (as.map V.ref ++ [.ref a])) nL.1 nL.2.1 nL.2.2
        have tl8 : TL (upd H7 L (.lst (as.map V.ref ++ [.ref a]))) lt Lt := by
          obtain ⟨rs, e, i⟩ := tl6.mono s1
          exact ⟨rs, rd_lst e gr7.la.el, i.put gr7.la.el⟩
        have gd8 := gd.more
        have esl : (es ++ [(ls.length, 0), (ls.length, 1)]).length = es.length + 2 := by rw [List.length_append]; rfl
        generalize upd H7 L (.lst (as.map V.ref ++ [.ref a])) = H8 at gr8 k8 ms8 tl8 ⊢
        clear gr7 gr6 z1 s1 k6 ms6 tl6 pl naa naL naE naK na
        obtain ⟨rs, er, its⟩ := tl8
        have rsl := its.1
        refine ⟨_, rfl, lt, rfl, ⟨_, rdT er⟩, fun B nB => ?_⟩
        refine lc_tup (K := K) (a := lt) (xs := rs.map V.ref) (fun j H9 => Same H8 H9 ∧ ∃ (us : List Addr) (rows : List (List Int)), H9 B = some (.lst (us.map V.ref)) ∧ Its H9 us rows ∧ rows.length = j ∧ ∀ r ∈ rows, r.length = es.length + 2)
          ⟨same_new nB, [], [], upd_same, Its.nil, rfl, fun r hr => by cases hr⟩ (fun j H9 _ ⟨s9, _⟩ => rdT (er.mono s9)) ?_ ?_
        · rintro j v H9 hv ⟨s9, us, rows, eB, iu, rj, rr⟩
          obtain ⟨t, ht, rfl⟩ := map_at hv
          obtain ⟨r, hr', tr⟩ := its.2 j t ht
          have jl := (List.getElem?_eq_some_iff.mp ht).1
          have lr := rl r (List.mem_of_getElem? hr')
          have tr9 := tr.mono s9
          have usl := iu.1
          refine ⟨rfl, _, rfl, _, rfl, t, r, rfl, rdT tr9, fun e => by rw [e] at lr; simp at lr; omega, fun mx _ _ => ?_⟩
          refine ⟨_, _, rfl, rfl, by show 1 ≤ sizeLine; decide, fun p np => ?_⟩
          have s1 := same_new (H := H9) (o := .tup [V.int (mx + 1)]) np
          have z1 := upd_same (H := H9) (a := p) (o := HO.tup [V.int (mx + 1)])
          generalize upd H9 p (.tup [V.int (mx + 1)]) = Ha at s1 z1 ⊢
          refine ⟨p, 2, [V.int (mx + 1)], rfl, rfl, sqT z1, by decide, by decide, by show 1 ≤ 1000; decide, (fun z => by cases z), fun _ p2 np2 => ?_⟩
          have s2 := same_new (H := Ha) (o := .tup (List.replicate (2 : Int).toNat [V.int (mx + 1)]).flatten) np2
          have z2 : (upd Ha p2 (.tup (List.replicate (2 : Int).toNat [V.int (mx + 1)]).flatten)) p2 = some (.tup [V.int (mx + 1), V.int (mx + 1)]) := upd_same
          generalize upd Ha p2 (.tup (List.replicate (2 : Int).toNat [V.int (mx + 1)]).flatten) = Hb at s2 z2 ⊢
          refine .inr ⟨t, p2, _, _, rfl, rfl, (tr9.mono s1).mono s2, .inl z2, by rw [List.length_map]; show r.length + 2 ≤ _; omega, fun Hc p3 s3 e3 => ?_⟩
          have s9c := s1.trans (s2.trans s3)
          refine ⟨_, s9c _ _ eB, ?_, same_mut (s9.trans s9c) nB, us ++ [p3], rows ++ [r ++ [mx + 1, mx + 1]], ?_, its_app1 (s9c _ _ eB) (iu.mono s9c) ?_, by rw [List.length_append, rj]; rfl, fun r2 hr2 => ?_⟩
          · rw [List.length_map]
            exact small_of (by omega)
          · rw [upd_same, List.map_append]
            rfl
          · show Rd Hc p3 _
            rw [List.map_append]
            exact e3
          · rcases List.mem_append.mp hr2 with hr2 | hr2
            · exact rr r2 hr2
            · obtain rfl := List.mem_singleton.mp hr2
              rw [List.length_append, lr]
              rfl
        · rintro H9 ⟨s9, us, rows, eB, iu, rj, rr⟩
          rw [List.length_map] at rj
          refine ⟨B, _, rfl, .inl ⟨sqL eB, fun z nz => ?_⟩⟩
          have s1 := same_new (H := H9) (o := .tup (us.map V.ref)) nz
          have z1 := upd_same (H := H9) (a := z) (o := HO.tup (us.map V.ref))
          generalize upd H9 z (.tup (us.map V.ref)) = Ha at s1 z1 ⊢
          have s8a := s9.trans s1
          exact ⟨_, _, _, _, _, _, _, _, _, _, L, E2, kn, z, as ++ [a], ts ++ [u1, u2], _, _, xs, rows, rfl, .succ (gr8.mono s8a) gd8 ⟨us, .inl z1, iu.mono s1⟩ (by rw [esl]; exact rr) (by rw [List.length_append]; show ls.length + 1 ≤ _; omega) (by omega) (by omega) (by omega) (by omega) (k8.trans (Kept.of s8a)) ((ms8.mono s8a).le (by omega))⟩
      · rw [decide_eq_false c1]
        refine iteF (iteF ⟨_, rfl, kind, 3, rfl, rfl, _, rfl, ?_⟩)
        rw [decide_eq_true (show kind > 3 by omega)]
        refine iteT ⟨_, rfl, el, _, rfl, .inl (sqL gr2.ee), _, 2, rfl, rfl, _, rfl, ?_⟩
        rw [List.length_map, tsl]
        by_cases c2 : ((es.length : Nat) : Int) > 2
        rotate_left
        · rw [decide_eq_false c2]
          exact iteF (stay y8 y9 y10 y11 y12)
        rw [decide_eq_true c2]
        refine iteT ?_
        refine ⟨_, rfl, _, rfl, el, _, rfl, .inl (sqL gr2.ee), m, c, g, _, _, rfl, ms2, by omega, by omega, by rw [List.length_map]; omega, fun H3 o ds k3 ms3 eo no dl dn dr => ?_⟩
        rw [List.length_map, tsl] at ms3 dl dr
        rw [Int.toNat_natCast] at dl
        have gr3 := gr2.kept ms0 ms2 k3
        have tl3 := tl2.kept ms2 k3
        have kp3 := kp2.trans k3
        clear stay gr2 tl2 kp2 k3 ms2 no
        obtain ⟨d0, h0⟩ : ∃ x, ds[0]? = some x := ⟨_, List.getElem?_eq_getElem (by omega)⟩
        obtain ⟨d1, h1⟩ : ∃ x, ds[1]? = some x := ⟨_, List.getElem?_eq_getElem (by omega)⟩
        have dne : d0 ≠ d1 := fun e => by
          have i1 := List.getElem?_eq_some_iff.mp h0
          have i2 := List.getElem?_eq_some_iff.mp h1
          have := (List.getElem_inj dn).mp (i1.2.trans (e.trans i2.2.symm))
          omega
        have r0 := dr d0 (List.mem_of_getElem? h0)
        have r1 := dr d1 (List.mem_of_getElem? h1)
        obtain ⟨one, rfl⟩ : ∃ n : Nat, d0 = (n : Int) := ⟨d0.toNat, by omega⟩
        obtain ⟨two, rfl⟩ : ∃ n : Nat, d1 = (n : Int) := ⟨d1.toNat, by omega⟩
        have ne12 : one ≠ two := fun e => dne (by rw [e])
        have o1 : one < es.length := by omega
        have o2 : two < es.length := by omega
        refine ⟨_, rfl, o, _, 0, _, rfl, rfl, sqL eo, atI_of rfl (at_map h0), _, rfl, o, _, 1, _, rfl, rfl, sqL eo, atI_of rfl (at_map h1), by show 2 ≤ sizeLine; decide, fun T1 nT => ?_⟩
        have s1 := same_new (H := H3) (o := .tup [V.int ((one : Nat) : Int), V.int ((two : Nat) : Int)]) nT
        have z1 := upd_same (H := H3) (a := T1) (o := HO.tup [V.int ((one : Nat) : Int), V.int ((two : Nat) : Int)])
        generalize upd H3 T1 (.tup [V.int ((one : Nat) : Int), V.int ((two : Nat) : Int)]) = H4 at s1 z1 ⊢
        refine ⟨T1, _, rfl, .inl (.inl z1), rfl, _, _, rfl, _, [], rfl, rfl, ?_⟩
        dsimp only [List.set_cons_succ, List.set_cons_zero]
        have gr4 := gr3.mono s1
        have tl4 := tl3.mono s1
        have kp4 := kp3.trans (Kept.of s1)
        have ms4 : MS H4 m c g (b + 8 * k + 7) := (ms3.mono s1).le (by omega)
        clear gr3 tl3 kp3 ms3 s1 z1 nT eo dl dn dr h0 h1 r0 r1 dne
        refine seq_cutG (t := tAsg _ _) (fun σ' H' => ∃ s : Str, σ' = [some (.ref m), some (.int steps), some (.ref L), some (.ref el), some (.ref kn), some (.ref lt), some (.int (0 + (k : Nat))), some (.int kind), some (.ref o), some (.int (one : Nat)), some (.int (two : Nat)), some (.str s), y12, y13, y14, y15, none, none] ∧ H' = H4) (fun kk hk => ?_) ?_
        · by_cases k4 : kind = 4
          · exact ⟨_, rfl, rfl, true, congrArg V.bl (decide_eq_true (congrArg V.int k4)), iteT (hk _ _ ⟨_, rfl, rfl⟩)⟩
          · exact ⟨_, rfl, rfl, false, congrArg V.bl (decide_eq_false fun z => k4 (V.int.inj z)), iteF (hk _ _ ⟨_, rfl, rfl⟩)⟩
        rintro σ H4 ⟨sort, rfl, rfl⟩
        refine seq_cutG (t := tAsg _ _) (fun σ' H' => ∃ v : V, σ' = [some (.ref m), some (.int steps), some (.ref L), some (.ref el), some (.ref kn), some (.ref lt), some (.int (0 + (k : Nat))), some (.int kind), some (.ref o), some (.int (one : Nat)), some (.int (two : Nat)), some (.str sort), some v, y13, y14, y15, none, none] ∧ Same H4 H' ∧ LotV H' v (if kind = 8 then es.length - 2 else es.length - 1) (2 * 2 ^ k)) (fun kk hk => ?_) ?_
        · by_cases k8 : kind = 8
          · refine ⟨_, rfl, rfl, true, congrArg V.bl (decide_eq_true (congrArg V.int k8)), iteT ?_⟩
            refine ⟨_, rfl, _, rfl, _, rfl, lt, Lt, es.length, one, two, rfl, tl4, rl, o1, o2, ne12, by omega, by omega, by omega, fun H' v s' lv => hk _ _ ⟨v, rfl, s', ?_⟩⟩
            rw [if_pos k8]
            rcases lv with rfl | ⟨t, L', rfl, a, b', c'⟩
            · exact .inl rfl
            · exact .inr ⟨t, L', rfl, a, b', by omega⟩
          · refine ⟨_, rfl, rfl, false, congrArg V.bl (decide_eq_false fun z => k8 (V.int.inj z)), iteF ?_⟩
            refine ⟨_, rfl, _, rfl, _, rfl, _, rfl, lt, Lt, sort, es.length, one, two, rfl, tl4, rl, o1, o2, ne12, by omega, by omega, by omega, fun H' v s' lv => hk _ _ ⟨v, rfl, s', ?_⟩⟩
            rw [if_neg k8]
            rcases lv with rfl | ⟨t, L', rfl, a, b', c'⟩
            · exact .inl rfl
            · exact .inr ⟨t, L', rfl, a, b', by omega⟩
        rintro σ H5 ⟨v, rfl, s5, lv⟩
        have gr5 := gr4.mono s5
        have kp5 := kp4.trans (Kept.of s5)
        have ms5 := ms4.mono s5
        have tl5 := tl4.mono s5
        clear gr4 kp4 ms4 tl4 s5
        have stay : ∀ H' z12, Same H5 H' → InvG H m c g b steps (k + 1) [some (.ref m), some (.int steps), some (.ref L), some (.ref el), some (.ref kn), some (.ref lt), some (.int (0 + (k : Nat))), some (.int kind), some (.ref o), some (.int (one : Nat)), some (.int (two : Nat)), some (.str sort), z12, y13, y14, y15, none, none] H' := fun H' z12 s' =>
          ⟨_, _, _, _, _, _, _, _, _, _, L, el, kn, lt, as, ts, ls, es, xs, Lt, rfl, .succ (gr5.mono s') gd (tl5.mono s') rl (by omega) (by omega) (by omega) e1 e6 (kp5.trans (Kept.of s')) ((ms5.mono s').le (by omega))⟩
        rcases lv with rfl | ⟨t, Ln, rfl, tln, rln, lln⟩
        · exact ⟨_, rfl, rfl, false, rfl, iteF (iteF (stay _ _ (.refl H5)))⟩
        refine ⟨_, rfl, rfl, true, rfl, iteT ?_⟩
        refine ⟨_, rfl, by show 0 ≤ sizeLine; decide, fun z nz => ?_⟩
        have s6 := same_new (H := H5) (o := .tup []) nz
        refine ⟨lotD Ln, .tuple [], (DV.of_tl (tln.mono s6)).dp, .tup (sqT (xs := []) upd_same) .nil, shaped_lotG _, rfl, ?_⟩
        generalize upd H5 z (.tup []) = H6 at s6 ⊢
        by_cases lnil : Ln = []
        · subst lnil
          exact ⟨false, rfl, iteF (stay _ _ s6)⟩
        obtain ⟨rn, Ln', rfl⟩ : ∃ r L', Ln = r :: L' := by
          cases Ln with
          | nil => exact absurd rfl lnil
          | cons r L' => exact ⟨r, L', rfl⟩
        refine ⟨true, rfl, iteT ?_⟩
        have gr6 := gr5.mono s6
        have kp6 := kp5.trans (Kept.of s6)
        have ms6 := ms5.mono s6
        have tl6 := tln.mono s6
        clear stay gr5 kp5 ms5 tl5 tln nz s6 lnil
        generalize hLn : rn :: Ln' = Ln at rln lln tl6
        clear hLn
        refine ⟨_, rfl, ?_⟩
        obtain ⟨ea1, he1⟩ : ∃ e, es[one]? = some e := ⟨_, List.getElem?_eq_getElem o1⟩
        obtain ⟨ea2, he2⟩ : ∃ e, es[two]? = some e := ⟨_, List.getElem?_eq_getElem o2⟩
        have m1 := List.mem_of_getElem? he1
        have m2 := List.mem_of_getElem? he2
        have ne : ea1 ≠ ea2 := fun e => ne12 (nodup_at gd.nd he1 (e ▸ he2))
        have fl := flE_len gd.nd m1 m2 ne
        refine ⟨_, rfl, el, _, rfl, .inl (sqL gr6.ee), _, rfl, by rw [List.length_map]; omega, by rw [List.length_map]; omega, fun R nR => ?_⟩
        rw [List.length_map, tsl]
        refine lc_range (fun j H7 => Same H6 H7 ∧ ∃ us : List Addr, H7 R = some (.lst (us.map V.ref)) ∧ Its H7 us (((flE ea1 ea2 (es.take j)).map eN).map rowE)) ⟨same_new nR, [], upd_same, Its.nil⟩ ?_ ?_
        · rintro j H7 hj ⟨s7, us, eR, iu⟩
          rw [Int.toNat_natCast] at hj
          obtain ⟨ej, hej⟩ : ∃ e, es[j]? = some e := ⟨_, List.getElem?_eq_getElem hj⟩
          have gr7 := gr6.mono s7
          refine ⟨rfl, _, rfl, _, rfl, _, rfl, by show 2 ≤ sizeLine; decide, fun p np => ?_⟩
          have sp := same_new (H := H7) (o := .tup [V.int ((one : Nat) : Int), V.int ((two : Nat) : Int)]) np
          refine ⟨p, _, rfl, .inr (sqT upd_same), rfl, flat_ints [((one : Nat) : Int), ((two : Nat) : Int)], ?_⟩
          have iv := inV_ints (0 + ((j : Nat) : Int)) [((one : Nat) : Int), ((two : Nat) : Int)]
          have usl := iu.1
          rw [List.length_map, List.length_map] at usl
          have fll : (flE ea1 ea2 (es.take j)).length ≤ j := by
            unfold flE
            refine Nat.le_trans (List.length_filter_le _ _) (Nat.le_trans (List.length_filter_le _ _) ?_)
            rw [List.length_take]
            omega
          by_cases me : (0 + ((j : Nat) : Int)) ∈ [((one : Nat) : Int), ((two : Nat) : Int)]
          · rw [decide_eq_true me] at iv
            refine ⟨false, congrArg V.bl (congrArg Bool.not iv), ?_⟩
            refine iteF ⟨s7.trans sp, us, sp _ _ eR, ?_⟩
            have : j = one ∨ j = two := by
              rcases List.mem_cons.mp me with z | z
              · exact .inl (by omega)
              · exact .inr (by have := List.mem_singleton.mp z; omega)
            have bad : ¬ (ej ≠ ea1 ∧ ej ≠ ea2) := fun w => by
              rcases this with rfl | rfl
              · rw [he1] at hej
                exact w.1 (Option.some.inj hej).symm
              · rw [he2] at hej
                exact w.2 (Option.some.inj hej).symm
            rw [take_snoc hej, flE_snoc, if_neg bad, List.append_nil]
            exact iu.mono sp
          · rw [decide_eq_false me] at iv
            have n1 : j ≠ one := fun z => me (List.mem_cons.mpr (.inl (by omega)))
            have n2 : j ≠ two := fun z => me (List.mem_cons.mpr (.inr (List.mem_singleton.mpr (by omega))))
            have good : ej ≠ ea1 ∧ ej ≠ ea2 := ⟨fun w => n1 (nodup_at gd.nd hej (w ▸ he1)), fun w => n2 (nodup_at gd.nd hej (w ▸ he2))⟩
            obtain ⟨tj, htj⟩ : ∃ x, ts[j]? = some x := ⟨_, List.getElem?_eq_getElem (by omega)⟩
            have tij : TI H7 tj (rowE (eN ej)) := by
              obtain ⟨r, a, b'⟩ := gr7.its.2 j tj htj
              rw [at_map (at_map hej)] at a
              cases a
              exact b'
            refine ⟨true, congrArg V.bl (congrArg Bool.not iv), iteT ⟨_, rfl, _, rfl, el, _, _, _, rfl, rfl, sqL (sp _ _ gr7.ee), atI_of (j := j) (by omega) (at_map htj), ?_⟩⟩
            refine ⟨_, sp _ _ eR, ?_, same_mut (s7.trans sp) nR, us ++ [tj], ?_, ?_⟩
            · rw [List.length_map]
              exact small_of (by omega)
            · rw [upd_same, List.map_append]
              rfl
            · rw [take_snoc hej, flE_snoc, if_pos good, List.map_append, List.map_append]
              exact its_app1 (sp _ _ eR) (iu.mono sp) (tij.mono sp)
        · rintro H7 ⟨s7, us, eR, iu⟩
          rw [Int.toNat_natCast, List.take_length] at iu
          have nRas : R ∉ as := fun mm => by
            obtain ⟨vs, e⟩ := gr6.la.lst mm
            rw [nR] at e
            cases e
          have fR : H R = none := kept_free kp6 nR (ms6.ne nR).1 (ms6.ne nR).2.2
          have gr7 := gr6.mono s7
          have grR := gr7.ends eR iu fR nRas (ne_of_none gr6.la.el nR).symm (ne_of_none gr6.ek nR).symm
          have ee7 := gr7.ee
          have kp7 := kp6.trans (Kept.of s7)
          have ms7 := ms6.mono s7
          have tl7 := tl6.mono s7
          obtain ⟨u1, hu1⟩ : ∃ x, ts[one]? = some x := ⟨_, List.getElem?_eq_getElem (by omega)⟩
          obtain ⟨u2, hu2⟩ : ∃ x, ts[two]? = some x := ⟨_, List.getElem?_eq_getElem (by omega)⟩
          have i1 : TI H7 u1 (rowE (eN ea1)) := by
            obtain ⟨r, a, b'⟩ := gr7.its.2 one u1 hu1
            rw [at_map (at_map he1)] at a
            cases a
            exact b'
          have i2 : TI H7 u2 (rowE (eN ea2)) := by
            obtain ⟨r, a, b'⟩ := gr7.its.2 two u2 hu2
            rw [at_map (at_map he2)] at a
            cases a
            exact b'
          clear gr6 kp6 ms6 tl6 nR s7 gr7
          refine gNG ?_
          dsimp only
          have op1 := (gd.op ea1).mp m1
          have op2 := (gd.op ea2).mp m2
          have w1 := Op.lt gd op1
          have w2 := Op.lt gd op2
          obtain ⟨l1', hl1, hp1⟩ := op1
          obtain ⟨l2', hl2, hp2⟩ := op2
          have l2two : l2'.length = 2 := by
            rcases gd.two _ (List.mem_of_getElem? hl2) with z | z
            · rw [z] at hp2
              cases hp2
            · exact z
          by_cases k8 : kind = 8
          · refine ⟨_, rfl, rfl, true, congrArg V.bl (decide_eq_true (congrArg V.int k8)), iteT ?_⟩
            rw [if_pos k8] at rln
            obtain ⟨other, ho⟩ : ∃ x, l2'[1 - ea2.2]? = some x := ⟨_, List.getElem?_eq_getElem (by omega)⟩
            refine ⟨_, rfl, _, rfl, _, rfl, _, rfl, el, _, _, .ref u1, rfl, rfl, sqL ee7, atI_of rfl (at_map hu1), _, rfl, _, rfl, el, _, _, .ref u2, rfl, rfl, sqL ee7, atI_of rfl (at_map hu2), L, R, u1, u2, as, us, ls, ea1, ea2, _, l2', l1', other, rfl, grR.la, i1, i2, grR.ee, grR.its, grR.ela, grR.eL, hl2, ho, w2, hl1, (List.getElem?_eq_some_iff.mp hp1).1, by omega, fun H8 as' ts' kA la' eR' its' fas => ?_⟩
            have fS : ∀ a ∈ L :: R :: as, H a = none := fun a ha => grR.fr a (by
              rcases List.mem_cons.mp ha with rfl | ha
              · exact .inl rfl
              · rcases List.mem_cons.mp ha with rfl | ha
                · exact .inr (.inl rfl)
                · exact .inr (.inr (.inr ha)))
            have grT := grR.tie kA la' eR' its' fas fun a u e => by
              by_cases cm : a = m
              · obtain ⟨cs, gs, n, q1, q2, q3, _⟩ := ms7.ex
                rw [cm, q1]
                exact fun z => by cases z
              · by_cases cg : a = g
                · obtain ⟨cs, gs, n, q1, q2, q3, _⟩ := ms7.ex
                  rw [cg, q3]
                  exact fun z => by cases z
                · rw [kp7 a u e cm cg]
                  exact fun z => by cases z
            have gdT := gd.tie m1 m2 ne hl2 ho (fun e => mem_flE) (flE_nd gd.nd)
            have tlT : TL H8 t Ln := by
              obtain ⟨rs, e, i⟩ := tl7
              have noS : ∀ {a : Addr} {vs : List V}, Rd H7 a (.tup vs) → a ∉ L :: R :: as := fun {a vs} r mm => by
                rcases List.mem_cons.mp mm with rfl | mm
                · exact r.ne grR.la.el (fun _ z => by cases z) (fun _ _ z => by cases z) rfl
                · rcases List.mem_cons.mp mm with rfl | mm
                  · exact r.ne grR.ee (fun _ z => by cases z) (fun _ _ z => by cases z) rfl
                  · obtain ⟨vs', e'⟩ := grR.la.lst mm
                    exact r.ne e' (fun _ z => by cases z) (fun _ _ z => by cases z) rfl
              have rdk : ∀ {a : Addr} {vs : List V}, Rd H7 a (.tup vs) → Rd H8 a (.tup vs) := fun {a vs} r => by
                have n := noS r
                rcases r with z | ⟨o', z⟩
                · exact .inl (kA _ _ z n)
                · exact .inr ⟨o', kA _ _ z n⟩
              exact ⟨rs, rdk e, its_imp i fun t r i => rdk i⟩
            refine ⟨_, rfl, ?_⟩
            exact ⟨_, _, _, _, _, _, _, _, _, _, L, R, kn, t, as', ts', _, _, xs, Ln, rfl, .succ grT gdT tlT (fun r hr => by rw [List.length_map, rln r hr]; omega) (by rw [List.length_set, setP_len]; omega) (by omega) lln (by rw [List.length_map]; omega) (by rw [List.length_map]; omega) (kept_keptA kp7 kA fS) ((ms_keptA ms0 ms7 kA fS).le (by omega))⟩
          · refine ⟨_, rfl, rfl, false, congrArg V.bl (decide_eq_false fun z => k8 (V.int.inj z)), iteF ?_⟩
            rw [if_neg k8] at rln
            have listed : ∀ a ∈ L :: R :: kn :: as, ∃ vs, H7 a = some (.lst vs) := fun a ha => by
              rcases List.mem_cons.mp ha with rfl | ha
              · exact ⟨_, grR.la.el⟩
              · rcases List.mem_cons.mp ha with rfl | ha
                · exact ⟨_, grR.ee⟩
                · rcases List.mem_cons.mp ha with rfl | ha
                  · exact ⟨_, grR.ek⟩
                  · exact grR.la.lst ha
            have fS : ∀ a ∈ L :: R :: kn :: as, H a = none := fun a ha => grR.fr a (by
              rcases List.mem_cons.mp ha with rfl | ha
              · exact .inl rfl
              · rcases List.mem_cons.mp ha with rfl | ha
                · exact .inr (.inl rfl)
                · rcases List.mem_cons.mp ha with rfl | ha
                  · exact .inr (.inr (.inl rfl))
                  · exact .inr (.inr (.inr ha)))
            refine ⟨_, rfl, _, rfl, el, _, _, .ref u1, rfl, rfl, sqL ee7, atI_of rfl (at_map hu1), by show 2 ≤ sizeLine; decide, fun p1 np1 => ?_⟩
            have s1 := same_new (H := H7) (o := .tup [V.int 0, V.ref u1]) np1
            have z1 := upd_same (H := H7) (a := p1) (o := HO.tup [V.int 0, V.ref u1])
            generalize upd H7 p1 (.tup [V.int 0, V.ref u1]) = H8 at s1 z1 ⊢
            refine ⟨_, rfl, _, rfl, el, _, _, .ref u2, rfl, rfl, sqL (s1 _ _ ee7), atI_of rfl (at_map hu2), by show 2 ≤ sizeLine; decide, fun p2 np2 => ?_⟩
            have s2 := same_new (H := H8) (o := .tup [V.int 1, V.ref u2]) np2
            have z2 := upd_same (H := H8) (a := p2) (o := HO.tup [V.int 1, V.ref u2])
            generalize upd H8 p2 (.tup [V.int 1, V.ref u2]) = H9 at s2 z2 ⊢
            refine ⟨by show 2 ≤ sizeLine; decide, fun p np => ?_⟩
            have s3 := same_new (H := H9) (o := .lst [V.ref p1, V.ref p2]) np
            have z3 := upd_same (H := H9) (a := p) (o := HO.lst [V.ref p1, V.ref p2])
            have npas : p ∉ as := fun mm => by
              obtain ⟨vs, e⟩ := ((grR.mono s1).mono s2).la.lst mm
              rw [np] at e
              cases e
            generalize upd H9 p (.lst [V.ref p1, V.ref p2]) = Ha at s3 z3 ⊢
            have s7a := s1.trans (s2.trans s3)
            have zp1 := s3 _ _ (s2 _ _ z1)
            have zp2 := s3 _ _ z2
            have i1a := i1.mono s7a
            have i2a := i2.mono s7a
            have gra := grR.mono s7a
            clear s1 s2 s3 z1 z2 np1 np2 np
            refine ⟨p, rfl, ⟨_, sqL z3⟩, for_list (K := K) (a := p) (xs := [V.ref p1, V.ref p2])
              (fun j σ Hx => ∃ (y14 y15 : Option V) (ls' : Lns) (es' : List (Nat × Nat)), σ = [some (.ref m), some (.int steps), some (.ref L), some (.ref el), some (.ref kn), some (.ref t), some (.int (0 + (k : Nat))), some (.int kind), some (.ref o), some (.int (one : Nat)), some (.int (two : Nat)), some (.str sort), some (.ref t), some (.ref R), y14, y15, none, none] ∧
                KeptA Ha Hx as ∧ Gr H Hx L R kn as us ls' (flE ea1 ea2 es) xs ∧ GoodL ls' es' ∧ (j = 0 → es' = es) ∧ (j = 1 → es' = es.filter fun e => decide (e ≠ ea1)) ∧ (2 ≤ j → es' = flE ea1 ea2 es) ∧ ls'.length = ls.length)
              ⟨y14, y15, ls, es, rfl, KeptA.of (.refl Ha), gra, gd, fun _ => rfl, (fun z => by cases z), (fun z => by cases z), rfl⟩ (fun j σ Hx _ ⟨_, _, _, _, _, kx, _⟩ => sqL (kx _ _ z3 npas)) ?_ ?_⟩
            · rintro j v σ Hx hv ⟨y14, y15, ls', es', rfl, kx, grx, gdx, hz0, hz1, hz2, ll⟩
              have key : ∃ (pj uj : Addr) (ej : Nat × Nat), v = .ref pj ∧ Ha pj = some (.tup [V.int ((j : Nat) : Int), .ref uj]) ∧ TI Ha uj (rowE (eN ej)) ∧ ej ∈ es' ∧ (j + 1 = 1 → es'.filter (fun e => decide (e ≠ ej)) = es.filter fun e => decide (e ≠ ea1)) ∧ (2 ≤ j + 1 → es'.filter (fun e => decide (e ≠ ej)) = flE ea1 ea2 es) := by
                match j, hv with
                | 0, hv =>
                  cases hv
                  obtain rfl := hz0 rfl
                  exact ⟨p1, u1, ea1, rfl, zp1, i1a, m1, fun _ => rfl, fun z => by omega⟩
                | 1, hv =>
                  cases hv
                  obtain rfl := hz1 rfl
                  exact ⟨p2, u2, ea2, rfl, zp2, i2a, List.mem_filter.mpr ⟨m2, decide_eq_true ne.symm⟩, (fun z => by cases z), fun _ => rfl⟩
                | j + 2, hv => cases hv
              obtain ⟨pj, uj, ej, rfl, zpj, ij, mj, nx1, nx2⟩ := key
              have tupn : ∀ {a : Addr} {vs : List V}, Rd Ha a (.tup vs) → a ∉ as := fun {a vs} r mm => by
                obtain ⟨vs', e'⟩ := gra.la.lst mm
                exact r.ne e' (fun _ z => by cases z) (fun _ _ z => by cases z) rfl
              have zpx := kx _ _ zpj (tupn (.inl zpj))
              have ijx := gra.la.ti kx ij
              refine ⟨pj, _, rfl, .inl (.inl zpx), rfl, _, _, rfl, _, [], rfl, rfl, ?_⟩
              refine ⟨_, rfl, kn, _, rfl, .inl (sqL grx.ek), _, rfl, by show 2 ≤ sizeLine; decide, fun t2 n2 => ?_⟩
              have s1 := same_new (H := Hx) (o := .tup [V.int (((xs.map V.str).length : Nat) : Int), V.int ((j : Nat) : Int)]) n2
              have z1 := upd_same (H := Hx) (a := t2) (o := HO.tup [V.int (((xs.map V.str).length : Nat) : Int), V.int ((j : Nat) : Int)])
              generalize upd Hx t2 (.tup [V.int (((xs.map V.str).length : Nat) : Int), V.int ((j : Nat) : Int)]) = Hy at s1 z1 ⊢
              have gry := grx.mono s1
              have ijy : SqT K Hy uj ((rowE (eN ej)).map V.int) := rdT (ijx.mono s1)
              obtain ⟨l, hl, hop⟩ := (gdx.op ej).mp mj
              have iL : ej.1 < ls'.length := (List.getElem?_eq_some_iff.mp hl).1
              obtain ⟨a, ha⟩ : ∃ a, as[ej.1]? = some a := ⟨_, List.getElem?_eq_getElem (by rw [gry.la.len]; exact iL)⟩
              obtain ⟨vs, ea, pv⟩ := gry.la.at_ _ a l ha hl
              have sl : ej.2 < vs.length := by
                rw [← pv.1]
                exact (List.getElem?_eq_some_iff.mp hop).1
              refine ⟨_, rfl, _, rfl, uj, _, 0, .int ((ej.1 : Nat) : Int), rfl, rfl, ijy, rfl, L, _, _, .ref a, rfl, rfl, sqL gry.la.el, atI_of rfl (at_map ha), ?_⟩
              refine ⟨_, rfl, uj, _, 1, .int ((ej.2 : Nat) : Int), rfl, rfl, ijy, rfl, a, vs, _, ej.2, rfl, rfl, ea, ixN_nat rfl sl, ?_⟩
              have pe : plV Hy (some ((((xs.map V.str).length : Nat) : Int), ((j : Nat) : Int))) (.ref t2) := ⟨t2, rfl, .inl z1⟩
              exact ⟨_, _, _, _, rfl, (kx.trans (KeptA.of s1)).trans (KeptA.put (List.mem_of_getElem? ha)), gry.fill ha hl ea pv pe, gdx.fill, (fun z => by cases z), nx1, nx2, by rw [setP_len]; exact ll⟩
            · rintro σ Hx ⟨y14, y15, ls', es', rfl, kx, grx, gdx, _, _, hz2, ll⟩
              obtain rfl := hz2 (by show 2 ≤ 2; decide)
              have lal : (as.map V.ref).length = ls'.length := by rw [List.length_map]; exact grx.la.len
              have usl := grx.tsl
              refine ⟨_, rfl, .inl ⟨rfl, _, sqL grx.ee⟩, _, rfl, L, _, rfl, .inl (sqL grx.la.el), by show 2 ≤ sizeLine; decide, fun t1 n1 => ?_⟩
              rw [lal]
              have s1 := same_new (H := Hx) (o := .tup [V.int ((ls'.length : Nat) : Int), V.int 1]) n1
              have z1 := upd_same (H := Hx) (a := t1) (o := HO.tup [V.int ((ls'.length : Nat) : Int), V.int 1])
              generalize upd Hx t1 (.tup [V.int ((ls'.length : Nat) : Int), V.int 1]) = Hb at s1 z1 ⊢
              have grb := grx.mono s1
              refine ⟨R, _, _, rfl, rfl, grb.ee, ?_, ?_⟩
              · rw [List.length_map, usl]
                exact small_of (by omega)
              have grc := grb.endApp (e := (ls'.length, 1)) (t := t1) (.inl z1)
              have kc : KeptA Hb (upd Hb R (.lst (us.map V.ref ++ [.ref t1]))) [R] := KeptA.put (List.mem_singleton.mpr rfl)
              generalize upd Hb R (.lst (us.map V.ref ++ [.ref t1])) = Hc at grc kc ⊢
              refine ⟨_, rfl, .inl ⟨rfl, _, sqL grc.la.el⟩, _, rfl, kn, _, rfl, .inl (sqL grc.ek), by show 2 ≤ sizeLine; decide, fun t3 n3 => ?_⟩
              have s2 := same_new (H := Hc) (o := .tup [V.int (((xs.map V.str).length : Nat) : Int), V.int 2]) n3
              have z2 := upd_same (H := Hc) (a := t3) (o := HO.tup [V.int (((xs.map V.str).length : Nat) : Int), V.int 2])
              generalize upd Hc t3 (.tup [V.int (((xs.map V.str).length : Nat) : Int), V.int 2]) = Hd at s2 z2 ⊢
              have grd := grc.mono s2
              refine ⟨by show 2 ≤ sizeLine; decide, fun a na => ?_⟩
              have s3 := same_new (H := Hd) (o := .lst [V.ref t3, V.non]) na
              have z3' := upd_same (H := Hd) (a := a) (o := HO.lst [V.ref t3, V.non])
              have naa : a ∉ as := fun mm => by
                obtain ⟨vs, e⟩ := grd.la.lst mm
                rw [na] at e
                cases e
              have naL := (ne_of_none grd.la.el na).symm
              have naE := (ne_of_none grd.ee na).symm
              have naK := (ne_of_none grd.ek na).symm
              have incl1 : ∀ x ∈ as, x ∈ L :: R :: kn :: as := fun x hx => List.mem_cons_of_mem _ (List.mem_cons_of_mem _ (List.mem_cons_of_mem _ hx))
              have inclR : ∀ x ∈ [R], x ∈ L :: R :: kn :: as := fun x hx => by
                rw [List.mem_singleton.mp hx]
                exact List.mem_cons_of_mem _ List.mem_cons_self
              have kd : KeptA H7 Hd (L :: R :: kn :: as) := ((((KeptA.of s7a).trans fun x u e n => kx x u e fun mm => n (incl1 x mm)).trans (KeptA.of s1)).trans fun x u e n => kc x u e fun mm => n (inclR x mm)).trans (KeptA.of s2)
              have fa : H a = none := kept_free (kept_keptA kp7 kd fS) na ((ms_keptA ms0 ms7 kd fS).ne na).1 ((ms_keptA ms0 ms7 kd fS).ne na).2.2
              generalize upd Hd a (.lst [V.ref t3, V.non]) = He at s3 z3' ⊢
              have gre := grd.mono s3
              refine ⟨L, _, _, rfl, rfl, gre.la.el, ?_, ?_⟩
              · rw [lal]
                exact small_of (by omega)
              have pl : PlsV He [some ((((xs.map V.str).length : Nat) : Int), (2 : Int)), none] [V.ref t3, V.non] := ⟨rfl, fun s p hp => by
                match s, hp with
                | 0, e => cases e; exact ⟨_, rfl, t3, rfl, .inl (s3 _ _ z2)⟩
                | 1, e => cases e; exact ⟨_, rfl, rfl⟩
                | s + 2, e => cases e⟩
              have grf := gre.lineApp z3' pl naa naL naE naK fa
              have kf : KeptA H7 (upd He L (.lst (as.map V.ref ++ [.ref a]))) (L :: R :: kn :: as) := (kd.trans (KeptA.of s3)).trans (KeptA.put List.mem_cons_self)
              generalize upd He L (.lst (as.map V.ref ++ [.ref a])) = Hf at grf kf ⊢
              refine ⟨_, rfl, .inl ⟨rfl, _, sqL grf.ek⟩, _, rfl, kn, _, _, rfl, rfl, grf.ek, ?_, ?_⟩
              · rw [List.length_map]
                exact small_of (by omega)
              have grg := grf.knotApp (x := sort)
              have kg : KeptA H7 (upd Hf kn (.lst (xs.map V.str ++ [.str sort]))) (L :: R :: kn :: as) := kf.trans (KeptA.put (List.mem_cons_of_mem _ (List.mem_cons_of_mem _ List.mem_cons_self)))
              generalize upd Hf kn (.lst (xs.map V.str ++ [.str sort])) = Hg at grg kg ⊢
              refine ⟨_, rfl, ?_⟩
              exact ⟨_, _, _, _, _, _, _, _, _, _, L, R, kn, t, _, _, _, _, _, Ln, rfl, .succ grg (gdx.out _) (tl_keptA tl7 kg listed) (fun r hr => by rw [List.length_append, rln r hr]; show _ = _ + 1; omega) (by rw [List.length_append]; show ls'.length + 1 ≤ _; omega) (by rw [List.length_append]; show xs.length + 1 ≤ _; omega) lln (by rw [List.length_append]; show 1 ≤ _ + 1; omega) (by rw [List.length_append]; show _ + 1 ≤ 6; omega) (kept_keptA kp7 kg fS) ((ms_keptA ms0 ms7 kg fS).le (by omega))⟩
    · rintro σ H1 ⟨y6, y7, y8, y9, y10, y11, y12, y13, y14, y15, L, el, kn, lt, as, ts, ls, es, xs, Lt, rfl, ⟨gr, gd, tl, rl, l1, x1, t1, e1, e6, kp, ms⟩⟩
      refine ⟨_, rfl, _, rfl, _, rfl, L, el, kn, as, ts, ls, es, xs, rfl, gr.la, gd, gr.ee, gr.its, gr.ek, gr.ela, gr.kna, by omega, by omega, fun H2 v kA fv => ?_⟩
      have fr : ∀ a ∈ as, H a = none := fun a ha => gr.fr a (.inr (.inr (.inr ha)))
      have ms2 := ms_keptA ms0 ms kA fr
      have kp2 := kept_keptA kp kA fr
      refine ⟨_, rfl, by show 2 ≤ sizeLine; decide, fun t nt => ?_⟩
      have st := same_new (H := H2) (o := .tup [v, .ref lt]) nt
      have et := upd_same (H := H2) (a := t) (o := HO.tup [v, .ref lt])
      have ms3 := ms2.mono st
      obtain ⟨zs, pz, zl⟩ := finV_piece fv ms2
      refine q _ t v (.ref lt) (kp2.trans (Kept.of st)) (ms3.le (by omega)) et ⟨_, xs, zs, pz.mono (out_mono st), by omega, by omega, by omega, by omega⟩
end
end KQ
namespace KQ
open PySem PySem.Spec PyProof.Rows L2 KR KM StX
section
variable {P : Program} {w : World} {K : PySem.W.Frag} {mg : Str → Option Value} {base : Heap}
/-- a piece is handed back, or an error tells what is wrong -/
def spNeedB (CP : Addr) : Sp := fun vs H Q E => ∃ (v : V) (d : PyData), vs = [v] ∧ DV H d v ∧ FewL d ∧ (faultD d = none → ∀ H', Same H H' → Q v H') ∧
  ∀ x p, faultD d = some (x, p) → ∀ H' b, Same H H' → H' b = some (.xd [("place", placeV p), ("word", .str x)]) → E (.ref CP) (some b) H'
theorem ok_need_pieceB {CP : Addr} (D : DefAt K mg "need_piece" s_need_piece) (T : Bt mg) (e_BadPiece : ErrC2 P w K mg base "BadPiece" CP "word" "place") (u_piece_fault : Use P w K mg base "piece_fault" 4 ["value"] spPF) : UseX P w K mg base "need_piece" 5 ["piece"] (spNeedB CP) := by
  refine usex_of D (fun f fd F => okX F sc_need_piece (fun vs H Q E h => ?_) (fun cdv A outer s H vs Q E tk po hr h => ?_)) (fun _ _ _ _ _ _ us hl => match us, hl with | [_], _ => rfl)
  · obtain ⟨v, d, rfl, _⟩ := h
    rfl
  · obtain ⟨v, d, rfl, o, few, q1, q2⟩ := h
    refine ⟨_, (pss_cons (ps_set (i := 1) sc_need_piece.nd rfl (Or.inl rfl) (pe_use u_piece_fault (by decide) hr (by rfl) (pa_cons (pv 0) pa_nil)))
      (pss_cons (ps_if (pt_cmpR op_notN (pv 1) pe_non (nomark _)) (pss_cons (ps_asg (pv 1) (pg_tup rfl (pgs_cons (pg_name (i := 2) sc_need_piece.nd rfl (Or.inl rfl)) (pgs_cons (pg_name (i := 3) sc_need_piece.nd rfl (Or.inl rfl)) pgs_nil))))
      (pss_one (ps_raise rfl tk (pmk_err2 e_BadPiece (hr.mono (by decide)) (by rfl) (pa_cons (pv 2) (pa_cons (pv 3) pa_nil)))))) pss_nil)
      (pss_one (ps_ret (pe_callTy (k_tupOf (K := K) rfl) (by rfl) T.tuple (by decide +kernel) (pa_cons (pv 0) pa_nil)))))), ?_⟩
    refine ⟨_, rfl, v, d, rfl, o, few, fun H1 v1 s1 f1 => ?_⟩
    cases e : faultD d with
    | some p =>
      rw [e] at f1
      obtain ⟨t, rfl, et⟩ := f1
      refine ⟨_, rfl, rfl, true, rfl, iteT ?_⟩
      refine ⟨_, rfl, t, _, rfl, .inl (.inl et), rfl, _, _, rfl, _, [], rfl, rfl, ?_⟩
      exact ⟨_, rfl, _, rfl, .str p.1, placeV p.2, rfl, fun H' b s' eb => q2 p.1 p.2 e H' b (s1.trans s') eb⟩
    | none =>
      rw [e] at f1
      obtain rfl : v1 = .non := f1
      refine ⟨_, rfl, rfl, false, rfl, iteF ?_⟩
      have form : ∃ ds, d = .tuple ds := by
        cases d with
        | tuple ds => exact ⟨ds, rfl⟩
        | _ => cases e
      obtain ⟨ds, rfl⟩ := form
      obtain ⟨a, xs, rfl, ea, hs⟩ := o.tup
      exact ⟨_, rfl, a, xs, rfl, .inr ⟨rdT (ea.mono s1), q1 e H1 s1⟩⟩
abbrev s__law_refused : Stmt := topS 42
theorem sc__law_refused : FnScope ["value", "told", "e"] ["value"] (defScope s__law_refused) := ⟨rfl, rfl, rfl, by decide +kernel, rfl, by decide +kernel, by decide +kernel⟩
def spRefP : Sp := fun vs H Q _ => ∃ (v : V) (d : PyData), vs = [v] ∧ DV H d v ∧ FewL d ∧
  ∀ H' t, Same H H' → (faultD d = none → H' t = some (.tup [.str "told", v])) → (∀ x p, faultD d = some (x, p) → H' t = some (.tup [.str x, placeV p])) → Q (.ref t) H'
theorem ok_law_refusedP {CP : Addr} (D : DefAt K mg "_law_refused" s__law_refused) (T : Bt mg) (e_BadPiece : ErrC2 P w K mg base "BadPiece" CP "word" "place") (ex : PySem.W.exmOne K (.ref CP) (.ref CP) = some true)
    (ux_need_piece : UseX P w K mg base "need_piece" 5 ["piece"] (spNeedB CP)) : Use P w K mg base "_law_refused" 6 ["value"] spRefP := by
  refine use_of D (fun f fd F => F.ok sc__law_refused (fun vs H Q E h => ?_) (fun cdv A outer s H vs Q E hr h => ?_)) (fun _ _ _ _ _ _ us hl => match us, hl with | [_], _ => rfl)
  · obtain ⟨v, d, rfl, _⟩ := h
    rfl
  · obtain ⟨v, d, rfl, o, few, q⟩ := h
    refine ⟨_, (pss_cons (ps_try_manyA rfl rfl sc__law_refused.nd takes_none5 (fun W pn xe tk po => (pss_one (ps_set (i := 1) sc__law_refused.nd rfl (Or.inl rfl) (pe_tup (pa_cons pe_str (pa_cons (pe_usexW ux_need_piece tk (by decide) hr (by rfl) (pa_cons (pv 0) pa_nil)) pa_nil)))))) (HdsA.cons (i := 2) ⟨by rfl, by decide, .inl e_BadPiece.hm⟩ rfl rfl (fun a oe cls d pn hz hf => (pss_one (ps_set (i := 1) sc__law_refused.nd rfl (Or.inl rfl) (pe_tup (pa_cons (pe_xf e_BadPiece.xf e_BadPiece.nf hz hf (pv 2) rfl) (pa_cons (pe_xf e_BadPiece.xf e_BadPiece.ng hz hf (pv 2) rfl) pa_nil)))))) HdsA.nil))
      (pss_one (ps_ret (pv 1)))), ?_⟩
    refine ⟨_, rfl, v, d, rfl, o, few, fun e H1 s1 => ?_, fun x p e H1 b s1 eb => ?_⟩
    · refine ⟨by show 2 ≤ sizeLine; decide, fun t nt => ?_⟩
      refine ⟨_, rfl, q _ t (s1.trans (same_new nt)) (fun _ => upd_same) fun x p e2 => ?_⟩
      rw [e] at e2
      cases e2
    · refine ⟨true, ex, fun _ a na => ?_, (fun z => by cases z)⟩
      refine ⟨_, rfl, rfl, rfl, b, _, .str x, rfl, eb, rfl, _, rfl, rfl, rfl, b, _, placeV p, rfl, eb, rfl, by show 2 ≤ sizeLine; decide, fun t nt => ?_⟩
      refine ⟨_, rfl, q _ t (s1.trans (same_new nt)) (fun e2 => ?_) fun x' p' e2 => ?_⟩
      · rw [e] at e2
        cases e2
      · rw [e] at e2
        cases e2
        exact upd_same
end
end KQ
namespace KQ
open PySem PySem.Spec PyProof.Rows L2 KR KM StX
theorem PieceB.bi {G : Hp} {v : V} {n : Int} {xs : List Str} {zs : List (En × En)} (h : PieceB G v n xs zs) : ∃ a ak al xl, v = .ref a ∧ Bi G a ak al n (xs.map V.str) xl (xs.map PyData.str) (zs.map lineD) := by
  obtain ⟨a, ak, v3, rfl, ea, ek, bk, d3⟩ := h
  obtain ⟨al, xl, rfl, el, hl⟩ := d3.tup
  exact ⟨a, ak, al, xl, rfl, ea, ek, DVs.strs xs, fun _ => bk, el, hl⟩
theorem ValG.bi {G : Hp} {k : Nat} {v : V} {n : Int} {ks ls : List PyData} (h : ValG k G (.tuple [.int n, .tuple ks, .tuple ls]) v) : ∃ a ak al xk xl, v = .ref a ∧ Bi G a ak al n xk xl ks ls := by
  obtain ⟨dv, f⟩ := h
  obtain ⟨_, _, a, ak, x1, x3, rfl, r, b⟩ := f _ ks ls rfl
  obtain ⟨a', vs, e, ea, hs⟩ := dv.tup
  cases e
  obtain rfl := Rd.inj r ea
  obtain ⟨v1, vs1, e1, h1, hs⟩ := hs.out
  cases e1
  obtain ⟨v2, vs2, e2, h2, hs⟩ := hs.out
  cases e2
  obtain ⟨v3, vs3, e3, h3, hs⟩ := hs.out
  cases e3
  obtain rfl : x1 = .int n := by simpa only [DV] using h1
  obtain ⟨ak', xk, e4, ek, hk⟩ := h2.tup
  cases e4
  obtain ⟨al, xl, rfl, el, hl⟩ := h3.tup
  exact ⟨a, ak, al, xk, xl, rfl, r, ek, hk, b, el, hl⟩
theorem ValG.few {G : Hp} {k : Nat} {d : PyData} {v : V} (h : ValG k G d v) : FewL d := fun n ks ls e => by
  rcases (h.2 _ ks ls e).2.1 with z | z
  · exact .inl (by omega)
  · exact .inr z.1
theorem ValG.big {G : Hp} {k : Nat} {d : PyData} {v : V} (h : ValG k G d v) (hk : k ≤ 1000) : ∀ n ks ls, d = .tuple [n, .tuple ks, .tuple ls] → ks.length ≤ 100000 ∧ ls.length ≤ 100000 := fun n ks ls e => by
  obtain ⟨a, b, _⟩ := h.2 _ ks ls e
  exact ⟨by omega, by omega⟩
theorem ValG.piece {G : Hp} {k : Nat} {n : Int} {xs : List Str} {zs : List (En × En)} {v : V} (h : ValG k G (pieceD n xs zs) v) (x200 : xs.length ≤ 200) : PieceB G v n xs zs := by
  obtain ⟨a, ak, al, xk, xl, rfl, bi⟩ := h.bi
  have := bi.dk.strs_out
  have rk := bi.rk
  rw [this] at rk
  exact ⟨a, ak, .ref al, rfl, bi.ra, rk, bi.bk (by rw [List.length_map]; exact x200), DV.of_tup bi.rl bi.dl⟩
theorem ValG.le {G : Hp} {k k' : Nat} {d : PyData} {v : V} (h : ValG k G d v) (l : k ≤ k') : ValG k' G d v := ⟨h.1, fun e ks ls z => by
  obtain ⟨a1, a2, a3⟩ := h.2 e ks ls z
  exact ⟨by omega, a2, a3⟩⟩
section
variable {P : Program} {w : World} {K : PySem.W.Frag} {mg : Str → Option Value} {base : Heap}
abbrev s_law : Stmt := topS 43
theorem sc_law : FnScope ["script", "m", "turn", "piece", "value", "due", "lines", "size", "line", "sort"] ["script"] (defScope s_law) := ⟨rfl, rfl, rfl, by decide +kernel, rfl, by decide +kernel, by decide +kernel⟩
/-- what law calls -/
structure Calls (P : Program) (w : World) (K : PySem.W.Frag) (mg : Str → Option Value) (base : Heap) : Prop where
  begun : Use P w K mg base "_law_begun" 2 ["script"] (spBegun K)
  draw : Use P w K mg base "_law_draw" 2 ["m", "limit"] spDraw
  any : Use P w K mg base "_law_any_piece" 4 ["m", "doors", "most"] spAnyP
  grown : Use P w K mg base "_law_grown" 4 ["m", "steps"] spGrown
  bent : Use P w K mg base "_law_bent" 4 ["m", "piece"] spBent
  fault : Use P w K mg base "_law_fault" 3 ["value"] spLFault
  shaped : Use P w K mg base "_law_is_shaped" 2 ["value"] spShaped
  like : UseG P w K mg base "_law_like" 1 ["got", "due"] (spLike K)
  pfault : Use P w K mg base "piece_fault" 4 ["value"] spPF
  isp : Use P w K mg base "is_piece" 5 ["value"] spIsP
  refused : Use P w K mg base "_law_refused" 6 ["value"] spRefP
  plain : Use P w K mg base "plain_piece" 6 ["piece"] spPlainP
  size : Use P w K mg base "piece_size" 6 ["piece"] spPSize
def spLaw (K : PySem.W.Frag) : Sp := fun vs H Q _ => ∃ (a : Addr) (ns : List Int), vs = [.ref a] ∧ SqL K H a (ns.map V.int) ∧ ns.length ≤ 63 ∧ ∀ H', Q (.bl true) H'
theorem fn_law {f : Addr} {fd : FuncData} (F : Fun K "law" "law" s_law f fd) (T : Bt mg) (X : Calls P w K mg base) : FnG P w K mg base 7 f fd ["script"] (spLaw K) := by
  have u__law_begun := X.begun
  have u__law_draw := X.draw
  have u__law_any_piece := X.any
  have u__law_grown := X.grown
  have u__law_bent := X.bent
  have u__law_fault := X.fault
  have u__law_is_shaped := X.shaped
  have u__law_like := X.like
  have u_piece_fault := X.pfault
  have u_is_piece := X.isp
  have u__law_refused := X.refused
  have u_plain_piece := X.plain
  have u_piece_size := X.size
  refine Fun.okG F sc_law (fun vs H Q E h => ?_) (fun cdv A outer s H vs Q E gd hr h => ?_)
  · obtain ⟨a, ns, rfl, _⟩ := h
    rfl
  · obtain ⟨sa, ns, rfl, hs, hl, q⟩ := h
    refine ⟨_, (pss_cons (ps_set (i := 1) sc_law.nd rfl (Or.inl rfl) (pe_use u__law_begun (by decide) hr (by rfl) (pa_cons (pv 0) pa_nil)))
      (pss_cons (ps_for PassesOwn.never rfl (pi_range1 (by rfl) T.range (pa_cons pe_int pa_nil)) (pg_name (i := 2) sc_law.nd rfl (Or.inl rfl))
      (pss_cons (ps_set (i := 3) sc_law.nd rfl (Or.inl rfl) (pe_ifExp (pt_cmpR op_eq (pe_use u__law_draw (by decide) hr (by rfl) (pa_cons (pv 1) (pa_cons pe_int pa_nil))) pe_int (nomark _)) (pe_use u__law_any_piece (by decide) hr (by rfl) (pa_cons (pv 1) (pa_cons (pe_use u__law_draw (by decide) hr (by rfl) (pa_cons (pv 1) (pa_cons pe_int pa_nil))) (pa_cons pe_int pa_nil)))) (pe_ix (k_ixt (K := K) rfl) (pe_use u__law_grown (by decide) hr (by rfl) (pa_cons (pv 1) (pa_cons (pe_use u__law_draw (by decide) hr (by rfl) (pa_cons (pv 1) (pa_cons pe_int pa_nil))) pa_nil))) pe_int (fun _ _ => rfl))))
      (pss_cons (ps_set (i := 4) sc_law.nd rfl (Or.inl rfl) (pe_use u__law_bent (by decide) hr (by rfl) (pa_cons (pv 1) (pa_cons (pv 3) pa_nil))))
      (pss_cons (ps_if (PW.pt (pw_and (pt_cmpR op_notN (pe_use u__law_fault (by decide) hr (by rfl) (pa_cons (pv 4) pa_nil)) pe_non (nomark _)) (pw_and (pt_cmpR op_eq (pe_use u__law_draw (by decide) hr (by rfl) (pa_cons (pv 1) (pa_cons pe_int pa_nil))) pe_int (nomark _)) (pw_and1 (pt_val (pe_use u__law_is_shaped (by decide) hr (by rfl) (pa_cons (pv 4) pa_nil))))))) (pss_one (ps_set (i := 4) sc_law.nd rfl (Or.inl rfl) (pe_use u__law_bent (by decide) hr (by rfl) (pa_cons (pv 1) (pa_cons (pv 4) pa_nil))))) pss_nil)
      (pss_cons (ps_set (i := 5) sc_law.nd rfl (Or.inl rfl) (pe_use u__law_fault (by decide) hr (by rfl) (pa_cons (pv 4) pa_nil)))
      (pss_cons (ps_if (pt_not (pt_val (pe_useG u__law_like gd (by decide) hr (by rfl) (pa_cons (pe_lst (pa_cons (pe_use u_piece_fault (by decide) hr (by rfl) (pa_cons (pv 4) pa_nil)) (pa_cons (pe_use u_is_piece (by decide) hr (by rfl) (pa_cons (pv 4) pa_nil)) pa_nil))) (pa_cons (pe_lst (pa_cons (pv 5) (pa_cons (pe_cmpR op_isN (pv 5) pe_non (nomark _)) pa_nil))) pa_nil))))) (pss_one (ps_ret pe_bl)) pss_nil)
      (pss_cons (ps_if (pt_not (pt_val (pe_useG u__law_like gd (by decide) hr (by rfl) (pa_cons (pe_use u__law_refused (by decide) hr (by rfl) (pa_cons (pv 4) pa_nil)) (pa_cons (pe_ifExp (pt_cmpR op_isN (pv 5) pe_non (nomark _)) (pe_tup (pa_cons pe_str (pa_cons (pv 4) pa_nil))) (pv 5)) pa_nil))))) (pss_one (ps_ret pe_bl)) pss_nil)
      (pss_one (ps_if (pt_cmpR op_isN (pv 5) pe_non (nomark _)) (pss_cons (ps_set (i := 6) sc_law.nd rfl (Or.inl rfl) (pe_callTy (k_tupOf (K := K) rfl) (by rfl) T.tuple (by decide +kernel) (pa_cons (pe_callB (k_sortNI (K := K) rfl hr.units) (by rfl) T.sorted (by decide +kernel) (pa_cons (pe_lc (own := [("line", 8)]) rfl sc_law.nd (k_tup (K := K) rfl (pe_ix (k_ixt (K := K) rfl) (pv 4) pe_int (fun _ _ => rfl))) (blkOk_by (N := ["script", "m", "turn", "piece", "value", "due", "lines", "size", "line", "sort"]) (sc := defScope s_law) (by decide +kernel)) (fun _ _ _ _ _ => (pg_name (i := 8) sc_law.nd rfl (Or.inl rfl))) (fun _ _ _ _ _ => pts_nil) (fun _ _ _ _ _ => (pe_tup (pa_cons (pe_callB (k_mnE (K := K) rfl rfl hr.units) (by rfl) T.min (by decide +kernel) (pa_cons (pv 8) pa_nil)) (pa_cons (pe_callB (k_mxE (K := K) rfl rfl hr.units) (by rfl) T.max (by decide +kernel) (pa_cons (pv 8) pa_nil)) pa_nil))))) pa_nil)) pa_nil)))
      (pss_cons (ps_set (i := 7) sc_law.nd rfl (Or.inl rfl) (pe_op op_sub (pe_callB (k_len (K := K) rfl) (by rfl) T.len PySem.boot_len (pa_cons (pv 6) pa_nil)) (pe_callB (cr_sum rfl) (by rfl) T.sum (by decide +kernel) (pa_cons (pe_lc (own := [("sort", 9)]) rfl sc_law.nd (k_tup (K := K) rfl (pe_ix (k_ixt (K := K) rfl) (pv 4) pe_int (fun _ _ => rfl))) (blkOk_by (N := ["script", "m", "turn", "piece", "value", "due", "lines", "size", "line", "sort"]) (sc := defScope s_law) (by decide +kernel)) (fun _ _ _ _ _ => (pg_name (i := 9) sc_law.nd rfl (Or.inl rfl))) (fun _ _ _ _ _ => pts_nil) (fun _ _ _ _ _ => (pe_ifExp (pt_cmpR op_eq (pv 9) pe_str (nomark _)) pe_int pe_int))) pa_nil))))
      (pss_one (ps_if (pt_not (pt_val (pe_useG u__law_like gd (by decide) hr (by rfl) (pa_cons (pe_lst (pa_cons (pe_use u_plain_piece (by decide) hr (by rfl) (pa_cons (pv 4) pa_nil)) (pa_cons (pe_use u_piece_size (by decide) hr (by rfl) (pa_cons (pv 4) pa_nil)) pa_nil))) (pa_cons (pe_lst (pa_cons (pe_tup (pa_cons (pe_ix (k_ixt (K := K) rfl) (pv 4) pe_int (fun _ _ => rfl)) (pa_cons (pe_ix (k_ixt (K := K) rfl) (pv 4) pe_int (fun _ _ => rfl)) (pa_cons (pv 6) pa_nil)))) (pa_cons (pv 7) pa_nil))) pa_nil))))) (pss_one (ps_ret pe_bl)) pss_nil)))) pss_nil)))))))))
      (pss_one (ps_ret pe_bl)))), ?_⟩
    refine ⟨_, rfl, sa, ns, rfl, hs, hl, fun H1 m c g ms1 => ?_⟩
    refine ⟨_, rfl, by decide, by decide, for_range (lo := 0) (n := (4 : Int).toNat) (fun k σ H2 => ∃ y2 y3 y4 y5 y6 y7 : Option V, σ = [some (.ref sa), some (.ref m), y2, y3, y4, y5, y6, y7, none, none] ∧ MS H2 m c g (300 * (k : Nat))) ⟨none, none, none, none, none, none, rfl, by simpa using ms1⟩ ?_ ?_⟩
    rotate_left
    · rintro σ H2 _
      exact q H2
    rintro k σ H2 hk ⟨y2, y3, y4, y5, y6, y7, rfl, ms2⟩
    have hk4 : k < 4 := hk
    clear ms1 H1 hs
    refine seq_cutG (t := tAsg _ _) (fun σ' H' => ∃ (v : V) (n : Int) (xs : List Str) (zs : List (En × En)), σ' = [some (.ref sa), some (.ref m), some (.int (0 + (k : Nat))), some v, y4, y5, y6, y7, none, none] ∧ MS H' m c g (300 * (k : Nat) + 202) ∧ PieceB (Out m g H') v n xs zs ∧ 0 ≤ n ∧ n ≤ 40 ∧ xs.length ≤ 11 ∧ zs.length ≤ 13) (fun kk hkk => ?_) ?_
    · refine ⟨_, rfl, m, c, g, _, 2, rfl, ms2, by omega, by decide, by decide, fun H3 d k3 ms3 d0 d2 => ?_⟩
      by_cases c0 : d = 0
      · refine ⟨rfl, true, congrArg V.bl (decide_eq_true (congrArg V.int c0)), iteT ?_⟩
        refine ⟨_, rfl, _, rfl, m, c, g, _, 5, rfl, ms3, by omega, by decide, by decide, fun H4 e k4 ms4 e0 e5 => ?_⟩
        exact ⟨m, c, g, _, e, rfl, ms4, by omega, e0, by omega, fun H5 v xs zs k5 ms5 pb x5 z12 => hkk _ _ ⟨v, e, xs, zs, rfl, ms5.le (by omega), pb, e0, by omega, by omega, by omega⟩⟩
      · refine ⟨rfl, false, congrArg V.bl (decide_eq_false fun z => c0 (V.int.inj z)), iteF ?_⟩
        refine ⟨_, rfl, _, rfl, m, c, g, _, 12, rfl, ms3, by omega, by decide, by decide, fun H4 e k4 ms4 e0 e5 => ?_⟩
        refine ⟨m, c, g, _, e, rfl, ms4, by omega, e0, by omega, fun H5 t v x k5 ms5 et gv => ?_⟩
        obtain ⟨n, xs, zs, pb, n0, n6, x11, z13⟩ := gv
        exact ⟨t, _, 0, v, rfl, rfl, sqT et, rfl, hkk _ _ ⟨v, n, xs, zs, rfl, ms5.le (by omega), pb, n0, by omega, x11, z13⟩⟩
    clear ms2
    rintro σ H3 ⟨v0, n, xs, zs, rfl, ms3, pb, n0, n40, x11, z13⟩
    obtain ⟨a, ak, al, xl, rfl, bi⟩ := pb.bi
    refine ⟨_, rfl, _, rfl, m, c, g, _, 200, a, ak, al, n, _, xl, _, _, rfl, ms3, by omega, bi, n0, n40, by rw [List.length_map]; omega, by decide, by decide, by rw [List.length_map]; omega, fun l hl => ?_, fun H4 d v k4 ms4 vg => ?_⟩
    · obtain ⟨z, hz, rfl⟩ := List.mem_map.mp hl
      exact ⟨_, _, rfl⟩
    clear pb bi ms3
    refine gNG ?_
    dsimp only [List.set_cons_succ, List.set_cons_zero]
    refine seq_cutG (t := tIfS _ _ _) (fun σ' H' => ∃ (v : V) (d : PyData), σ' = [some (.ref sa), some (.ref m), some (.int (0 + (k : Nat))), some (.ref a), some v, y5, y6, y7, none, none] ∧ MS H' m c g (300 * (k : Nat) + 290) ∧ ValG 202 (Out m g H') d v) (fun kk hkk => ?_) ?_
    · have stay : ∀ H', Kept H4 H' m g → MS H' m c g (300 * (k : Nat) + 290) → kk [some (.ref sa), some (.ref m), some (.int (0 + (k : Nat))), some (.ref a), some v, y5, y6, y7, none, none] H' := fun H' k' ms' => hkk _ _ ⟨v, d, rfl, ms', (vg.mono (out_kept k')).le (by decide)⟩
      refine ⟨_, rfl, v, d, rfl, vg.1.mono (out_same m g H4), vg.big (by decide), fun H5 v5 s5 f5 => ?_⟩
      have ms5 := ms4.mono s5
      cases e5 : faultD d with
      | none =>
        rw [e5] at f5
        obtain rfl : v5 = .non := f5
        exact ⟨rfl, false, rfl, iteF (iteF (stay _ (Kept.of s5) (ms5.le (by omega))))⟩
      | some p =>
        rw [e5] at f5
        obtain ⟨t, rfl, et⟩ := f5
        refine ⟨rfl, true, rfl, iteT ?_⟩
        refine ⟨_, rfl, m, c, g, _, 2, rfl, ms5, by omega, by decide, by decide, fun H6 d6 k6 ms6 d60 d62 => ?_⟩
        have k46 := (Kept.of s5).trans k6
        by_cases c0 : d6 = 0
        rotate_left
        · exact ⟨rfl, false, congrArg V.bl (decide_eq_false fun z => c0 (V.int.inj z)), iteF (iteF (stay _ k46 (ms6.le (by omega))))⟩
        refine ⟨rfl, true, congrArg V.bl (decide_eq_true (congrArg V.int c0)), iteT ?_⟩
        have vg6 := vg.mono (out_kept k46)
        refine ⟨_, rfl, v, d, rfl, vg6.1.mono (out_same m g H6), vg6.big (by decide), fun H7 sh s7 hsh => ?_⟩
        have ms7 := ms6.mono s7
        cases sh with
        | false => exact ⟨false, rfl, iteF (stay _ (k46.trans (Kept.of s7)) (ms7.le (by omega)))⟩
        | true =>
        refine ⟨true, rfl, iteT ?_⟩
        obtain ⟨n2, ks2, ls2, rfl, n20, n240, l320, pairs⟩ := hsh rfl
        have vg7 := vg6.mono (out_mono s7)
        obtain ⟨k2, l2, _⟩ := vg7.2 _ _ _ rfl
        obtain ⟨a2, ak2, al2, xk2, xl2, rfl, bi2⟩ := vg7.bi
        exact ⟨_, rfl, _, rfl, m, c, g, _, 201, a2, ak2, al2, n2, _, _, _, _, rfl, ms7, by omega, bi2, n20, n240, k2, by decide, by decide, by omega, pairs, fun H8 d8 v8 k8 ms8 vg8 => hkk _ _ ⟨v8, d8, rfl, ms8.le (by omega), vg8⟩⟩
    clear vg ms4
    clear v d
    rintro σ H5 ⟨v, d, rfl, ms5, vg⟩
    have few := vg.few
    have o5 := vg.1.mono (out_same m g H5)
    refine ⟨_, rfl, v, d, rfl, o5, vg.big (by decide), fun H6 v6 s6 f6 => ?_⟩
    have o6 := o5.mono s6
    refine ⟨_, rfl, v, d, rfl, o6, few, fun H7 v7 s7 f7 => ?_⟩
    refine ⟨_, rfl, v, d, rfl, o6.mono s7, few, fun H8 s8 => ⟨by show 2 ≤ sizeLine; decide, fun p np => ?_⟩⟩
    have sp := same_new (H := H8) (o := .lst [v7, .bl (faultD d).isNone]) np
    have ep := upd_same (H := H8) (a := p) (o := HO.lst [v7, .bl (faultD d).isNone])
    generalize upd H8 p (.lst [v7, .bl (faultD d).isNone]) = H9 at sp ep ⊢
    have isn : decide (v6 = V.non) = (faultD d).isNone := by
      cases e : faultD d with
      | none =>
        rw [e] at f6
        obtain rfl : v6 = .non := f6
        rfl
      | some p =>
        rw [e] at f6
        obtain ⟨t, rfl, _⟩ := f6
        rfl
    refine ⟨_, rfl, _, rfl, rfl, by show 2 ≤ sizeLine; decide, fun p2 np2 => ?_⟩
    rw [isn]
    have sq := same_new (H := H9) (o := .lst [v6, .bl (faultD d).isNone]) np2
    have eq := upd_same (H := H9) (a := p2) (o := HO.lst [v6, .bl (faultD d).isNone])
    generalize upd H9 p2 (.lst [v6, .bl (faultD d).isNone]) = Ha at sq eq ⊢
    have s7a := s8.trans (sp.trans sq)
    have s6a := s7.trans s7a
    refine ⟨.ref p, .ref p2, .list [fdata (faultD d), .bool (faultD d).isNone], rfl, .lst (sqL (sq _ _ ep)) (.cons (f7.mono s7a).dp (.cons (.bl _) .nil)), .lst (sqL eq) (.cons (f6.mono s6a).dp (.cons (.bl _) .nil)), rfl, (nc_lst (nc_cons nc_fault (nc_cons ((nc_bool _).le (Nat.zero_le 1) (Nat.le_refl _)) (nc_nil 1)))).le (by decide) (by decide), true, rfl, iteF ?_⟩
    have msa := ms5.mono (s6.trans s6a)
    have vga := vg.mono (out_mono (s6.trans s6a))
    have f6a := f6.mono s6a
    clear f6 f7 sp ep np sq eq np2 s7a s6a s6 s7 s8 o5 o6 ms5 vg
    have oa := vga.1.mono (out_same m g Ha)
    refine ⟨_, rfl, v, d, rfl, oa, few, fun Hb t sb told wrong => ?_⟩
    have msb := msa.mono sb
    have vgb := vga.mono (out_mono sb)
    have ob := oa.mono sb
    have f6b := f6a.mono sb
    cases ef : faultD d with
    | some p =>
      rw [ef] at f6b
      obtain ⟨td, rfl, etd⟩ := f6b
      have et := wrong p.1 p.2 ef
      have ncp : Nc 1 40 (fdata (some p)) := by
        have := nc_fault (d := d)
        rwa [ef] at this
      refine ⟨_, rfl, rfl, false, rfl, iteF ⟨_, rfl, ?_⟩⟩
      refine ⟨.ref t, .ref td, fdata (some p), rfl, .tup (sqT et) (.cons (.str _) (.cons (dp_place _) .nil)), .tup (sqT etd) (.cons (.str _) (.cons (dp_place _) .nil)), rfl, ncp.le (by decide) (by decide), true, rfl, iteF ?_⟩
      refine ⟨_, rfl, rfl, false, rfl, iteF ?_⟩
      exact ⟨_, _, _, _, _, _, rfl, msb.le (by omega)⟩
    | none =>
      rw [ef] at f6b
      obtain rfl : v6 = .non := f6b
      obtain ⟨n, xs, zs, rfl, gx, gz, x200, z320, n0, n40⟩ := piece_all ef
      have et := told ef
      refine ⟨_, rfl, rfl, true, rfl, iteT ?_⟩
      refine ⟨_, rfl, by show 2 ≤ sizeLine; decide, fun u nu => ?_⟩
      have su := same_new (H := Hb) (o := .tup [V.str "told", v]) nu
      have eu := upd_same (H := Hb) (a := u) (o := HO.tup [V.str "told", v])
      generalize upd Hb u (.tup [V.str "told", v]) = Hc at su eu ⊢
      have oc := ob.mono su
      have nct : Nc 0 20 (.str "told") := ⟨by decide +kernel, rfl, Nat.le_refl _, by decide +kernel, by decide +kernel⟩
      refine ⟨.ref t, .ref u, .tuple [.str "told", pieceD n xs zs], rfl, .tup (sqT (su _ _ et)) (.cons (.str _) (.cons oc.dp .nil)), .tup (sqT eu) (.cons (.str _) (.cons oc.dp .nil)), rfl, (nc_tup (nc_cons (nct.le (Nat.zero_le 4) (Nat.le_refl _)) (nc_cons (nc_pieceD gx gz x200 z320 n0 n40) (nc_nil 4)))).le (by decide) (by decide), true, rfl, iteF ?_⟩
      refine ⟨_, rfl, rfl, true, rfl, iteT ?_⟩
      have msc := msb.mono su
      have vgc := vgb.mono (out_mono su)
      clear et eu nct oc ob oa msa msb vga vgb f6a told wrong su sb
      have pb := vgc.piece x200
      have pbc := pb.mono (out_same m g Hc)
      obtain ⟨a2, ak2, v3, rfl, ea, ek, bk, d3⟩ := pbc
      obtain ⟨al2, xl2, rfl, el, hl⟩ := d3.tup
      have xll := hl.len
      rw [List.length_map] at xll
      refine ⟨_, rfl, a2, _, 2, .ref al2, rfl, rfl, rdT ea, rfl, al2, rfl, ⟨_, rdT el⟩, fun M nM => ?_⟩
      refine lc_tup (K := K) (a := al2) (xs := xl2) (fun j H1 => Same Hc H1 ∧ ∃ ts : List LA, H1 M = some (.lst (ts.map fun x => V.ref x.2)) ∧ ts.map (·.1) = (zs.take j).map normZ ∧ ∀ x ∈ ts, TL H1 x.2 x.1)
        ⟨same_new nM, [], upd_same, rfl, fun x hx => by cases hx⟩ (fun j H1 _ ⟨s1, _⟩ => rdT (el.mono s1)) ?_ ?_
      · rintro j v H1 hj ⟨s1, ts, eM, et, ht⟩
        obtain ⟨d, hd, dv⟩ := hl.at hj
        obtain ⟨z, hz, rfl⟩ := map_at hd
        have jl := (List.getElem?_eq_some_iff.mp hz).1
        have tl : ts.length = j := by
          have := congrArg List.length et
          rw [List.length_map, List.length_map, List.length_take] at this
          omega
        obtain ⟨zne, _⟩ := gz z (List.mem_of_getElem? hz)
        obtain ⟨b, t1, t2, rfl, eb, g1, g2⟩ := dv.line
        have eb1 := eb.mono s1
        have g11 := g1.mono s1
        have g21 := g2.mono s1
        have sq1 : SqT K H1 t1 ((rowE z.1).map V.int) := rdT g11
        have sq2 : SqT K H1 t2 ((rowE z.2).map V.int) := rdT g21
        refine ⟨rfl, _, rfl, t1, t2, _, _, ⟨.inr ⟨b, rfl, .inl (rdT eb1)⟩, sq1, sq2⟩, ?_⟩
        refine ⟨_, rfl, t1, t2, _, _, ⟨.inr ⟨b, rfl, .inl (rdT eb1)⟩, sq1, sq2⟩, by show 2 ≤ sizeLine; decide, fun t nt => ?_⟩
        have c1 := ti_if (PySem.W.dataLt (rowD (rowE z.2)) (rowD (rowE z.1))) g11 g21
        have c2 := ti_if (PySem.W.dataLt (rowD (rowE z.1)) (rowD (rowE z.2))) g11 g21
        obtain ⟨e1, e2⟩ := lots_app eM ht nt c1 c2
        rw [norm_minmax zne] at e2
        refine ⟨_, e1, ?_, same_mut (s1.trans (same_new nt)) nM, ts ++ [(normZ z, t)], ?_, ?_, e2 _⟩
        · rw [List.length_map]
          exact small_of (by omega)
        · rw [upd_same, List.map_append]
          rfl
        · rw [List.map_append, et, take_snoc hz, List.map_append]
          rfl
      · rintro H1 ⟨s1, ts, eM, et, ht⟩
        rw [xll, List.take_length] at et
        have tsl : ts.length = zs.length := by
          have := congrArg List.length et
          rwa [List.length_map, List.length_map] at this
        refine sort_lots eM ht (fun x hx => ?_) fun p np => ?_
        · have : x.1 ∈ zs.map normZ := by
            rw [← et]
            exact List.mem_map_of_mem hx
          obtain ⟨z, _, e⟩ := List.mem_map.mp this
          rw [← e]
          exact norm_ne z
        have sp := same_new (H := H1) (o := .lst ((ts.mergeSort leN).map fun x => V.ref x.2)) np
        have ep := upd_same (H := H1) (a := p) (o := HO.lst ((ts.mergeSort leN).map fun x => V.ref x.2))
        generalize upd H1 p (.lst ((ts.mergeSort leN).map fun x => V.ref x.2)) = H2 at sp ep ⊢
        have ds := dvs_sorted fun x hx => (ht x hx).mono sp
        rw [leN_map, et] at ds
        refine ⟨p, _, rfl, .inl ⟨sqL ep, fun tl ntl => ?_⟩⟩
        have st := same_new (H := H2) (o := .tup ((ts.mergeSort leN).map fun x => V.ref x.2)) ntl
        have etl := upd_same (H := H2) (a := tl) (o := HO.tup ((ts.mergeSort leN).map fun x => V.ref x.2))
        generalize upd H2 tl (.tup ((ts.mergeSort leN).map fun x => V.ref x.2)) = H3 at st etl ⊢
        have dl : DV H3 (.tuple ((plainL zs).map lotD)) (.ref tl) := DV.of_tup (.inl etl) (ds.mono st)
        have sc3 := s1.trans (sp.trans st)
        have tll : ((ts.mergeSort leN).map fun x => V.ref x.2).length = zs.length := by rw [List.length_map, List.length_mergeSort, tsl]
        refine gNG ?_
        dsimp only [List.set_cons_succ, List.set_cons_zero]
        have ea3 := ea.mono sc3
        have ek3 := ek.mono sc3
        refine ⟨_, rfl, tl, _, rfl, .inr (sqT etl), _, rfl, a2, _, 1, .ref ak2, rfl, rfl, rdT ea3, rfl, ak2, rfl, ⟨_, rdT ek3⟩, fun S nS => ?_⟩
        rw [tll]
        refine lc_tup (K := K) (a := ak2) (xs := xs.map V.str) (fun j H4 => Same H3 H4 ∧ H4 S = some (.lst (((xs.take j).map fun (x : Str) => if x = ("both" : Str) then (2 : Int) else 1).map V.int)))
          ⟨same_new nS, upd_same⟩ (fun j H4 _ ⟨s4, _⟩ => rdT (ek3.mono s4)) ?_ ?_
        · rintro j v H4 hj ⟨s4, eS⟩
          obtain ⟨x, hx, rfl⟩ := map_at hj
          have jl := (List.getElem?_eq_some_iff.mp hx).1
          have fin : ∀ w : Int, w = (if x = ("both" : Str) then (2 : Int) else 1) → ∃ acc, H4 S = some (.lst acc) ∧ acc.length < sizeLine ∧ Same H3 (upd H4 S (.lst (acc ++ [V.int w]))) ∧ upd H4 S (.lst (acc ++ [V.int w])) S = some (.lst (((xs.take (j + 1)).map fun (x : Str) => if x = ("both" : Str) then (2 : Int) else 1).map V.int)) := fun w ew => by
            refine ⟨_, eS, ?_, same_mut s4 nS, ?_⟩
            · rw [List.length_map, List.length_map, List.length_take]
              exact small_of (by omega)
            · rw [upd_same, take_snoc hx, List.map_append, List.map_append, ew]
              rfl
          by_cases c : x = ("both" : Str)
          · exact ⟨rfl, _, rfl, rfl, true, congrArg V.bl (decide_eq_true (congrArg V.str c)), iteT (fin _ (if_pos c).symm)⟩
          · exact ⟨rfl, _, rfl, rfl, false, congrArg V.bl (decide_eq_false fun z => c (V.str.inj z)), iteF (fin _ (if_neg c).symm)⟩
        · rintro H4 ⟨s4, eS⟩
          rw [List.length_map, List.take_length] at eS
          refine ⟨S, _, rfl, sqL eS, _, _, rfl, rfl, ?_⟩
          rw [sorts_sum gx]
          refine gNG ?_
          dsimp only [List.set_cons_succ, List.set_cons_zero]
          rw [show (zs.length : Int) - (2 * cntS "both" xs + cntS "either" xs) = (zs.length : Int) - 2 * cntS "both" xs - cntS "either" xs by omega]
          have ms4 := (msc.mono sc3).mono s4
          have vg4 := (vgc.mono (out_mono sc3)).mono (out_mono s4)
          have o4 := vg4.1.mono (out_same m g H4)
          have few4 := vg4.few
          refine ⟨_, rfl, _, _, rfl, o4, few4, ef, fun H5 v' e s5 pd dv' => ?_⟩
          obtain ⟨n', xs', zs', e1, e2⟩ := pd
          have e1 : pieceD n xs zs = pieceD n' xs' zs' := e1
          subst e2
          have inj : n = n' ∧ xs = xs' ∧ zs = zs' := by
            simp only [PyData.tuple.injEq, List.cons.injEq, PyData.int.injEq, and_true] at e1
            obtain ⟨h1, h2, h3⟩ := e1
            exact ⟨h1, (List.map_inj_right (fun a b h => by cases h; rfl)).mp h2, (List.map_inj_right (fun a b h => lineD_inj h)).mp h3⟩
          obtain ⟨rfl, rfl, rfl⟩ := inj
          have pb5 : PieceB H5 (.ref a2) n xs zs := ((vg4.piece x200).mono (out_same m g H4)).mono s5
          refine ⟨_, rfl, _, n, xs, zs, rfl, pb5, few4, ef, fun H6 s6 => ⟨by show 2 ≤ sizeLine; decide, fun p1 np1 => ?_⟩⟩
          have t1 := same_new (H := H6) (o := .lst [v', .int ((zs.length : Int) - 2 * cntS "both" xs - cntS "either" xs)]) np1
          have z1 := upd_same (H := H6) (a := p1) (o := HO.lst [v', .int ((zs.length : Int) - 2 * cntS "both" xs - cntS "either" xs)])
          generalize upd H6 p1 (.lst [v', .int ((zs.length : Int) - 2 * cntS "both" xs - cntS "either" xs)]) = H7 at t1 z1 ⊢
          have s47 := s5.trans (s6.trans t1)
          have ea7 := (ea3.mono s4).mono s47
          refine ⟨_, rfl, a2, _, 0, .int n, rfl, rfl, rdT ea7, rfl, _, rfl, a2, _, 1, .ref ak2, rfl, rfl, rdT ea7, rfl, _, rfl, by show 3 ≤ sizeLine; decide, fun p2 np2 => ?_⟩
          have t2 := same_new (H := H7) (o := .tup [.int n, .ref ak2, .ref tl]) np2
          have z2 := upd_same (H := H7) (a := p2) (o := HO.tup [.int n, .ref ak2, .ref tl])
          generalize upd H7 p2 (.tup [.int n, .ref ak2, .ref tl]) = H8 at t2 z2 ⊢
          refine ⟨_, rfl, by show 2 ≤ sizeLine; decide, fun p3 np3 => ?_⟩
          have t3 := same_new (H := H8) (o := .lst [.ref p2, .int ((zs.length : Int) - 2 * cntS "both" xs - cntS "either" xs)]) np3
          have z3 := upd_same (H := H8) (a := p3) (o := HO.lst [.ref p2, .int ((zs.length : Int) - 2 * cntS "both" xs - cntS "either" xs)])
          generalize upd H8 p3 (.lst [.ref p2, .int ((zs.length : Int) - 2 * cntS "both" xs - cntS "either" xs)]) = H9 at t3 z3 ⊢
          have s49 := s47.trans (t2.trans t3)
          have dv9 := dv'.mono (s6.trans (t1.trans (t2.trans t3)))
          have ek9 := (ek3.mono s4).mono s49
          have dl9 := (dl.mono s4).mono s49
          have dd9 : DV H9 (.tuple [.int n, .tuple (xs.map PyData.str), .tuple ((plainL zs).map lotD)]) (.ref p2) := DV.of_tup (.inl (t3 _ _ z2)) (.cons (DV.of_int _ n) (.cons (DV.of_tup ek9 (DVs.strs xs)) (.cons dl9 (DVs.nil _))))
          have c1 := cntS_le "both" xs
          have c2 := cntS_le "either" xs
          have c3 := cntS_ge "both" xs
          have c4 := cntS_ge "either" xs
          have ncs : Nc 0 20 (.int ((zs.length : Int) - 2 * cntS "both" xs - cntS "either" xs)) := nc_small (by omega) (by omega)
          refine ⟨.ref p1, .ref p3, .list [.tuple [.int n, .tuple (xs.map PyData.str), .tuple ((plainL zs).map lotD)], .int ((zs.length : Int) - 2 * cntS "both" xs - cntS "either" xs)], rfl, .lst (sqL (t3 _ _ (t2 _ _ z1))) (.cons dv9.dp (.cons (.int _) .nil)), .lst (sqL z3) (.cons dd9.dp (.cons (.int _) .nil)), rfl, (nc_lst (nc_cons (nc_plain gx gz x200 z320 n0 n40) (nc_cons (ncs.le (Nat.zero_le 4) (Nat.le_refl _)) (nc_nil 4)))).le (by decide) (by decide), true, rfl, iteF ?_⟩
          exact ⟨_, _, _, _, _, _, rfl, (ms4.mono s49).le (by omega)⟩
end
end KQ
namespace KQ
open PySem PySem.Spec PyProof.Rows L2 KR
section
variable {P : Program} {w : World} {K : PySem.W.Frag} {mg : Str → Option Value} {h : Heap} {Goal : Prop}
/-- a def that the top has -/
theorem step_def {x : Str} {st : Stmt} {f : Addr} {oc : Value} {od an : Option Addr} {osl : Array (Option Value)} {kV doc pm cdv ct : Value} (X : K.In h) (G : h.Ns mainGlobals mg)
    (a : PySem.W.nsIn K mainGlobals x = some (some (.ref f))) (l : K.lookup f = some ⟨oc, od, .func (PySem.W.fnOf x x (defArgs st) (defBody st) (defScope st) .none kV doc pm an cdv ct), osl⟩)
    (c : PySem.W.codeIn K cdv x = true) (k : PySem.W.keepIn K (.ref f) = true) (n : DefAt K mg x st → Goal) : Goal :=
  n ⟨f, _, fun_mk (st := st) l c k, PySem.W.mg_of X G a⟩
theorem step_cst {x : Str} {v : Int} {t : Tok} (X : K.In h) (G : h.Ns mainGlobals mg) (a : PySem.W.nsIn K mainGlobals x = some (some (.int v t))) (n : Cst mg x v → Goal) : Goal := n ⟨t, PySem.W.mg_of X G a⟩
theorem step_none {x : Str} (X : K.In h) (G : h.Ns mainGlobals mg) (a : PySem.W.nsIn K mainGlobals x = some none) (n : mg x = none → Goal) : Goal := n (PySem.W.mg_none_of X G a)
theorem step_cls {x : Str} {C : Addr} (X : K.In h) (G : h.Ns mainGlobals mg) (aC : PySem.W.nsIn K mainGlobals x = some (some (.ref C))) (pg : PySem.W.plainGet K C Str.empty = true) (hd : PySem.W.hasDictIn K C = true)
    (po : PySem.W.plainOver K C = true) (sa : PySem.W.findIn K (.ref C) "__setattr__" = some (some (.builtin "object.__setattr__"))) (mk : PySem.W.makesIn K C = true) (kc : PySem.W.keepIn K (.ref C) = true)
    (n : Cls K C → mg x = some (.ref C) → PySem.W.makesIn K C = true → PySem.W.keepIn K (.ref C) = true → Goal) : Goal := n ⟨pg, hd, po, sa⟩ (PySem.W.mg_of X G aC) mk kc
theorem step_init {q : Str} {st : Stmt} {C f : Addr} {oc : Value} {od an : Option Addr} {osl : Array (Option Value)} {kV doc pm cdv ct : Value}
    (a : PySem.W.findIn K (.ref C) "__init__" = some (some (.ref f))) (i : PySem.W.isFn K (.ref f) = true) (l : K.lookup f = some ⟨oc, od, .func (PySem.W.fnOf "__init__" q (defArgs st) (defBody st) (defScope st) .none kV doc pm an cdv ct), osl⟩)
    (c : PySem.W.codeIn K cdv q = true) (k : PySem.W.keepIn K (.ref f) = true) (mk : PySem.W.makesIn K C = true) (kc : PySem.W.keepIn K (.ref C) = true) (n : IAt K C q st → Goal) : Goal :=
  n ⟨f, _, fun_mk (st := st) l c k, ⟨mk, a, i, kc⟩⟩
theorem step_meth {m q : Str} {st : Stmt} {C f : Addr} {oc : Value} {od an : Option Addr} {osl : Array (Option Value)} {kV doc pm cdv ct : Value}
    (_X : Cls K C) (a : PySem.W.findIn K (.ref C) m = some (some (.ref f))) (i : PySem.W.isFn K (.ref f) = true) (l : K.lookup f = some ⟨oc, od, .func (PySem.W.fnOf m q (defArgs st) (defBody st) (defScope st) .none kV doc pm an cdv ct), osl⟩)
    (c : PySem.W.codeIn K cdv q = true) (k : PySem.W.keepIn K (.ref f) = true) (n : MAt K C m q st → Goal) : Goal :=
  n ⟨f, _, fun_mk (st := st) l c k, ⟨a, i, k⟩⟩
theorem step_noattr {x : Str} {C : Addr} (_X : Cls K C) (a : PySem.W.findIn K (.ref C) x = some none) (n : NoAttr K C x → Goal) : Goal := n a
end
end KQ
/-! own errors of the text, told by the written part -/
namespace KQ
open PySem PySem.Spec PyProof.Rows L2 KR
structure ErrK (P : Program) (K : PySem.W.Frag) (mg : Str → Option Value) (x : Str) (C : Addr) (fld : Str) : Prop where
  T : OexC K C
  ini : ∃ fI fd p, (∀ (w : World) (base : Heap), FnOk P w K mg base CX0 1 fI fd ["self", p] (spIni C fld)) ∧ PySem.W.findIn K (.ref C) "__init__" = some (some (.ref fI)) ∧ PySem.W.typeIn K (.ref fI) = some (.type "function") ∧ Binds K fd ["self", p] []
  hm : mg x = some (.ref C)
  xf : XfC K C
  nf : PySem.W.findIn K (.ref C) fld = some none
theorem ErrK.err {P : Program} {w : World} {K : PySem.W.Frag} {mg : Str → Option Value} {base : Heap} {x fld : Str} {C : Addr} (e : ErrK P K mg x C fld) : ErrC P w K mg base x C fld :=
  ⟨e.T, let ⟨fI, fd, p, F, a, b, c⟩ := e.ini; ⟨fI, fd, p, F w base, a, b, c⟩, e.hm, e.xf, e.nf⟩
section
variable {P : Program} {K : PySem.W.Frag} {mg : Str → Option Value} {h : Heap} {Goal : Prop}
theorem step_err {f cc cda C : Addr} {name qual fld x msg cx : Str} {params : Arguments} {scope : Scope} {dV kV doc pm ct oc ccl cl : Value} {an od cdd cld : Option Addr} {osl ccs csl : Array (Option Value)} {vs0 : Array Value} {file : Str} {tf : Tok} {ar : Arg}
    {j : Nat} {p0 p1 p2 p3 p4 p5 q1 q2 q3 q4 : Pos} {nm q : Str} {N : Addr} {bs bm : List Value} {sn : List Str} {sub : List Value} {ab : Bool} {col : Option Bool} {dd : Option Addr} {k0 k1 k2 k3 k5 : Option Value} {pl : Sem Bool}
    (X : K.In h) (G : h.Ns mainGlobals mg) (hsm : mg "super" = none)
    (aC : PySem.W.nsIn K mainGlobals cx = some (some (.ref C)))
    (lC : K.lookup C = some (excClassObj nm q C N bs bm true sn sub ab col dd k0 k1 k2 k3 k5 "ValueError.__new__")) (rv : PySem.HandSPX.refsVE bm = true)
    (sa : PySem.W.findIn K (.ref C) "__setattr__" = some (some (.builtin "object.__setattr__"))) (exC : PySem.W.subIn K (.ref C) (.type "BaseException") = some true) (tyC : PySem.W.typeIn K (.ref C) = some (.type "type")) (kC : PySem.W.keepIn K (.ref C) = true)
    (iC : PySem.W.findIn K (.ref C) "__init__" = some (some (.ref f))) (tI : PySem.W.typeIn K (.ref f) = some (.type "function"))
    (lk : K.lookup f = some ⟨oc, od, .func (PySem.W.ksFn name qual params (iniBody msg fld x j p0 p1 p2 p3 p4 p5 q1 q2 q3 q4) scope dV kV doc pm an (.ref cda) ct cc), osl⟩)
    (hcd : PySem.W.codeIn K (.ref cda) qual = true) (hcode : K.lookup cda = some ⟨ccl, cdd, .fields vs0, ccs⟩) (hvs : vs0[2]? = some (.str file tf)) (hfile : ((P.main.file : Str) == file) = true)
    (htop : (P.main.scope.names.lookup ("super" : Str)).isSome = false) (hcell : K.lookup cc = some ⟨cl, cld, .cell (some (.ref C)), csl⟩)
    (hsup : PySem.W.ks_superIn K C C "__init__" = some (some (.builtin "ValueError.__init__"))) (hV : PySem.W.subIn K (.ref C) (.type "ValueError") = some true) (hmro : PySem.W.mroIn K C (.ref C) = some true)
    (hop : PySem.W.nsIn K cStatics "thirdparty.any" = some none) (hfa : PySem.W.findIn K (.ref C) fld = some none)
    (hp : (params.posonlyargs ++ params.args).head? = some ar) (har : ar.arg = "self") (hx : ¬ (x = "self")) (hxd : (x == ("__debug__" : Str)) = false) (hxc : (x == ("__classdict__" : Str)) = false)
    (hk : scope.kind = .function) (hco : scope.isCoroutine = false) (hgen : scope.isGenerator = false)
    (l1 : scope.names.lookup ("self" : Str) = some .local) (l2 : scope.names.lookup x = some .local) (l3 : scope.names.lookup ("__class__" : Str) = some .free) (l4 : scope.names.lookup ("super" : Str) = some .globalImplicit)
    (hev : ∀ L, eval (.Call (.Attribute (.Call (.Name "super" p0) [] [] p1) "__init__" p2) [.Constant (.str msg) j p3] [] p4) (PySem.W.ksEnv qual scope L f (.ref cda) cc) = (do
      let ov ← attributeBase (.Call (.Name "super" p0) [] [] p1) "__init__" (PySem.W.ksEnv qual scope L f (.ref cda) cc) (eval (.Call (.Name "super" p0) [] [] p1) (PySem.W.ksEnv qual scope L f (.ref cda) cc))
      standAt p2.atName
      let (fn, first) ← holding [ov] (getMethod ov "__init__" pl)
      callWith p4 fn first (backTo p4 (starEach [.Constant (.str msg) j p3] (PySem.W.ksEnv qual scope L f (.ref cda) cc))) []))
    (l5 : ∀ y ∈ scope.names, y.2 ≠ .cell) (l6 : ∀ y ∈ scope.names, y.2 = .free → y.1 = "__class__")
    (hb : ∀ us : List Value, us.length = 2 → bindArgs (PySem.W.ksFn name qual params (iniBody msg fld x j p0 p1 p2 p3 p4 p5 q1 q2 q3 q4) scope dV kV doc pm an (.ref cda) ct cc) ⟨us, []⟩ = pure ((["self", x] : List Str).zip us))
    (ga : PySem.W.findIn K (.ref C) "__getattribute__" = some (some (.builtin "BaseException.__getattribute__"))) (gg : PySem.W.findIn K (.ref C) "__getattr__" = some none) (hdC : PySem.W.hasDictIn K C = true)
    (n : ErrK P K mg cx C fld → Goal) : Goal :=
  have T : OexC K C := ⟨⟨nm, q, N, bs, bm, sn, sub, ab, col, dd, k0, k1, k2, k3, k5, lC, rv⟩, sa, exC, tyC, kC⟩
  n ⟨T, ⟨f, _, x, fun w base => fn_ini T lk hcd hcode hvs hfile htop hcell hsup hV hmro hop hsm hfa hp har hx hxd hxc hk hco hgen l1 l2 l3 l4 hev l5 l6, iC, tI, Binds.all hb⟩, PySem.W.mg_of X G aC, ⟨ga, gg, exC, hdC⟩, hfa⟩
theorem step_exm1 {x fx : Str} {A : Addr} (eA : ErrK P K mg x A fx) (h1 : PySem.W.subIn K (.ref A) (.ref A) = some true) (n : PySem.W.exmOne K (.ref A) (.ref A) = some true → Goal) : Goal :=
  n (PySem.W.exm_ref eA.xf.exC eA.xf.hdC eA.T.tyC h1)
/-- which clause takes which of two own errors -/
theorem step_exm {x y fx fy : Str} {A B : Addr} (eA : ErrK P K mg x A fx) (eB : ErrK P K mg y B fy) (h1 : PySem.W.subIn K (.ref A) (.ref A) = some true) (h2 : PySem.W.subIn K (.ref B) (.ref A) = some false) (h3 : PySem.W.subIn K (.ref B) (.ref B) = some true)
    (n : ExM K A B → Goal) : Goal :=
  n ⟨PySem.W.exm_ref eA.xf.exC eA.xf.hdC eA.T.tyC h1, PySem.W.exm_ref eA.xf.exC eA.xf.hdC eA.T.tyC h2, PySem.W.exm_ref eB.xf.exC eB.xf.hdC eB.T.tyC h3⟩
end
end KQ
/-! own errors of two fields, told by the written part -/
namespace KQ
open PySem PySem.Spec PyProof.Rows L2 KR
structure ErrK2 (P : Program) (K : PySem.W.Frag) (mg : Str → Option Value) (x : Str) (C : Addr) (fld fle : Str) : Prop where
  T : OexC K C
  ini : ∃ fI fd p p', (∀ (w : World) (base : Heap), FnOk P w K mg base CX0 1 fI fd ["self", p, p'] (spIni2 C fld fle)) ∧ PySem.W.findIn K (.ref C) "__init__" = some (some (.ref fI)) ∧ PySem.W.typeIn K (.ref fI) = some (.type "function") ∧ Binds K fd ["self", p, p'] []
  hm : mg x = some (.ref C)
  xf : XfC K C
  nf : PySem.W.findIn K (.ref C) fld = some none
  ng : PySem.W.findIn K (.ref C) fle = some none
theorem ErrK2.err {P : Program} {w : World} {K : PySem.W.Frag} {mg : Str → Option Value} {base : Heap} {x fld fle : Str} {C : Addr} (e : ErrK2 P K mg x C fld fle) : ErrC2 P w K mg base x C fld fle :=
  ⟨e.T, let ⟨fI, fd, p, p', F, a, b, c⟩ := e.ini; ⟨fI, fd, p, p', F w base, a, b, c⟩, e.hm, e.xf, e.nf, e.ng⟩
section
variable {P : Program} {K : PySem.W.Frag} {mg : Str → Option Value} {h : Heap} {Goal : Prop}
theorem step_err2 {f cc cda C : Addr} {name qual fld fle x y msg cx : Str} {params : Arguments} {scope : Scope} {dV kV doc pm ct oc ccl cl : Value} {an od cdd cld : Option Addr} {osl ccs csl : Array (Option Value)} {vs0 : Array Value} {file : Str} {tf : Tok} {ar : Arg}
    {j : Nat} {p0 p1 p2 p3 p4 p5 q1 q2 q3 q4 r1 r2 r3 r4 : Pos} {nm q : Str} {N : Addr} {bs bm : List Value} {sn : List Str} {sub : List Value} {ab : Bool} {col : Option Bool} {dd : Option Addr} {k0 k1 k2 k3 k5 : Option Value} {pl : Sem Bool}
    (X : K.In h) (G : h.Ns mainGlobals mg) (hsm : mg "super" = none)
    (aC : PySem.W.nsIn K mainGlobals cx = some (some (.ref C)))
    (lC : K.lookup C = some (excClassObj nm q C N bs bm true sn sub ab col dd k0 k1 k2 k3 k5 "ValueError.__new__")) (rv : PySem.HandSPX.refsVE bm = true)
    (sa : PySem.W.findIn K (.ref C) "__setattr__" = some (some (.builtin "object.__setattr__"))) (exC : PySem.W.subIn K (.ref C) (.type "BaseException") = some true) (tyC : PySem.W.typeIn K (.ref C) = some (.type "type")) (kC : PySem.W.keepIn K (.ref C) = true)
    (iC : PySem.W.findIn K (.ref C) "__init__" = some (some (.ref f))) (tI : PySem.W.typeIn K (.ref f) = some (.type "function"))
    (lk : K.lookup f = some ⟨oc, od, .func (PySem.W.ksFn name qual params (iniBody2 msg fld fle x y j p0 p1 p2 p3 p4 p5 q1 q2 q3 q4 r1 r2 r3 r4) scope dV kV doc pm an (.ref cda) ct cc), osl⟩)
    (hcd : PySem.W.codeIn K (.ref cda) qual = true) (hcode : K.lookup cda = some ⟨ccl, cdd, .fields vs0, ccs⟩) (hvs : vs0[2]? = some (.str file tf)) (hfile : ((P.main.file : Str) == file) = true)
    (htop : (P.main.scope.names.lookup ("super" : Str)).isSome = false) (hcell : K.lookup cc = some ⟨cl, cld, .cell (some (.ref C)), csl⟩)
    (hsup : PySem.W.ks_superIn K C C "__init__" = some (some (.builtin "ValueError.__init__"))) (hV : PySem.W.subIn K (.ref C) (.type "ValueError") = some true) (hmro : PySem.W.mroIn K C (.ref C) = some true)
    (hop : PySem.W.nsIn K cStatics "thirdparty.any" = some none) (hfa : PySem.W.findIn K (.ref C) fld = some none) (hfb : PySem.W.findIn K (.ref C) fle = some none)
    (hp : (params.posonlyargs ++ params.args).head? = some ar) (har : ar.arg = "self") (hx : ¬ (x = "self")) (hy' : ¬ (y = "self")) (hxy : ¬ (x = y)) (hyd : (y == ("__debug__" : Str)) = false) (hyc : (y == ("__classdict__" : Str)) = false) (hxd : (x == ("__debug__" : Str)) = false) (hxc : (x == ("__classdict__" : Str)) = false)
    (hk : scope.kind = .function) (hco : scope.isCoroutine = false) (hgen : scope.isGenerator = false)
    (l1 : scope.names.lookup ("self" : Str) = some .local) (l2 : scope.names.lookup x = some .local) (l2' : scope.names.lookup y = some .local) (l3 : scope.names.lookup ("__class__" : Str) = some .free) (l4 : scope.names.lookup ("super" : Str) = some .globalImplicit)
    (hev : ∀ L, eval (.Call (.Attribute (.Call (.Name "super" p0) [] [] p1) "__init__" p2) [.Constant (.str msg) j p3] [] p4) (PySem.W.ksEnv qual scope L f (.ref cda) cc) = (do
      let ov ← attributeBase (.Call (.Name "super" p0) [] [] p1) "__init__" (PySem.W.ksEnv qual scope L f (.ref cda) cc) (eval (.Call (.Name "super" p0) [] [] p1) (PySem.W.ksEnv qual scope L f (.ref cda) cc))
      standAt p2.atName
      let (fn, first) ← holding [ov] (getMethod ov "__init__" pl)
      callWith p4 fn first (backTo p4 (starEach [.Constant (.str msg) j p3] (PySem.W.ksEnv qual scope L f (.ref cda) cc))) []))
    (l5 : ∀ y ∈ scope.names, y.2 ≠ .cell) (l6 : ∀ y ∈ scope.names, y.2 = .free → y.1 = "__class__")
    (hb : ∀ us : List Value, us.length = 3 → bindArgs (PySem.W.ksFn name qual params (iniBody2 msg fld fle x y j p0 p1 p2 p3 p4 p5 q1 q2 q3 q4 r1 r2 r3 r4) scope dV kV doc pm an (.ref cda) ct cc) ⟨us, []⟩ = pure ((["self", x, y] : List Str).zip us))
    (ga : PySem.W.findIn K (.ref C) "__getattribute__" = some (some (.builtin "BaseException.__getattribute__"))) (gg : PySem.W.findIn K (.ref C) "__getattr__" = some none) (hdC : PySem.W.hasDictIn K C = true)
    (n : ErrK2 P K mg cx C fld fle → Goal) : Goal :=
  have T : OexC K C := ⟨⟨nm, q, N, bs, bm, sn, sub, ab, col, dd, k0, k1, k2, k3, k5, lC, rv⟩, sa, exC, tyC, kC⟩
  n ⟨T, ⟨f, _, x, y, fun w base => fn_ini2 T lk hcd hcode hvs hfile htop hcell hsup hV hmro hop hsm hfa hp har hfb hx hy' hxy hyd hyc hxd hxc hk hco hgen l1 l2 l2' l3 l4 hev l5 l6, iC, tI, Binds.all hb⟩, PySem.W.mg_of X G aC, ⟨ga, gg, exC, hdC⟩, hfa, hfb⟩
theorem step_exm12 {x fx fy : Str} {A : Addr} (eA : ErrK2 P K mg x A fx fy) (h1 : PySem.W.subIn K (.ref A) (.ref A) = some true) (n : PySem.W.exmOne K (.ref A) (.ref A) = some true → Goal) : Goal :=
  n (PySem.W.exm_ref eA.xf.exC eA.xf.hdC eA.T.tyC h1)
end
end KQ
namespace KQ
open PySem PySem.Spec PyProof.Rows L2 KR KM StX
section
variable {P : Program} {w : World} {K : PySem.W.Frag} {mg : Str → Option Value} {base : Heap}
structure Defs (K : PySem.W.Frag) (mg : Str → Option Value) : Prop where
  d_is_integer : DefAt K mg "is_integer" s_is_integer
  d_is_integer_within : DefAt K mg "is_integer_within" s_is_integer_within
  d_is_tuple_within : DefAt K mg "is_tuple_within" s_is_tuple_within
  d_is_sort : DefAt K mg "is_sort" s_is_sort
  d_is_end : DefAt K mg "is_end" s_is_end
  d_has_form : DefAt K mg "has_form" s_has_form
  d_first_wrong_line : DefAt K mg "first_wrong_line" s_first_wrong_line
  d_piece_fault : DefAt K mg "piece_fault" s_piece_fault
  d_is_piece : DefAt K mg "is_piece" s_is_piece
  d_need_piece : DefAt K mg "need_piece" s_need_piece
  d_plain_lines : DefAt K mg "plain_lines" s_plain_lines
  d_plain_piece : DefAt K mg "plain_piece" s_plain_piece
  d_piece_size : DefAt K mg "piece_size" s_piece_size
  d__law_mixed : DefAt K mg "_law_mixed" s__law_mixed
  d__law_folded : DefAt K mg "_law_folded" s__law_folded
  d__law_draw : DefAt K mg "_law_draw" s__law_draw
  d__law_begun : DefAt K mg "_law_begun" s__law_begun
  d__law_like : DefAt K mg "_law_like" s__law_like
  d__law_of : DefAt K mg "_law_of" s__law_of
  d__law_is_int : DefAt K mg "_law_is_int" s__law_is_int
  d__law_order : DefAt K mg "_law_order" s__law_order
  d__law_numbered : DefAt K mg "_law_numbered" s__law_numbered
  d__law_any_piece : DefAt K mg "_law_any_piece" s__law_any_piece
  d__law_with_knot : DefAt K mg "_law_with_knot" s__law_with_knot
  d__law_with_tie : DefAt K mg "_law_with_tie" s__law_with_tie
  d__law_grown : DefAt K mg "_law_grown" s__law_grown
  d__law_tie_lines : DefAt K mg "_law_tie_lines" s__law_tie_lines
  d__law_finished : DefAt K mg "_law_finished" s__law_finished
  d__law_is_end : DefAt K mg "_law_is_end" s__law_is_end
  d__law_fault : DefAt K mg "_law_fault" s__law_fault
  d__law_with : DefAt K mg "_law_with" s__law_with
  d__law_bent : DefAt K mg "_law_bent" s__law_bent
  d__law_is_shaped : DefAt K mg "_law_is_shaped" s__law_is_shaped
  d__law_refused : DefAt K mg "_law_refused" s__law_refused
  c_MOST_PIECE_DOORS : Cst mg "MOST_PIECE_DOORS" 40
  c_MOST_KNOTS : Cst mg "MOST_KNOTS" 200
  c_MOST_LINES : Cst mg "MOST_LINES" 320
theorem calls {CP : Addr} (D : Defs K mg) (T : Bt mg) (eP : ErrK2 P K mg "BadPiece" CP "word" "place") (xP : PySem.W.exmOne K (.ref CP) (.ref CP) = some true) (z_str : mg "str" = none) : Calls P w K mg base := by
  have eP := eP.err (w := w) (base := base)
  have u_isi := ok_is_integerD (P := P) (w := w) (base := base) D.d_is_integer T
  have u_iw := ok_is_integer_withinD D.d_is_integer_within T u_isi
  have u_tw := ok_is_tuple_withinD (P := P) (w := w) (base := base) D.d_is_tuple_within T
  have u_sort := ok_is_sort (P := P) (w := w) (base := base) D.d_is_sort T z_str
  have u_end := ok_is_end (P := P) (w := w) (base := base) D.d_is_end T
  have u_form := ok_has_form D.d_has_form T D.c_MOST_PIECE_DOORS D.c_MOST_KNOTS D.c_MOST_LINES u_tw u_iw
  have u_fwl := ok_first_wrong_line D.d_first_wrong_line T u_end
  have u_pf := ok_piece_fault D.d_piece_fault T u_form u_sort u_fwl
  have u_isp := ok_is_piece D.d_is_piece T u_pf
  have u_need := ok_need_piece D.d_need_piece T u_pf
  have ux_need := ok_need_pieceB D.d_need_piece T eP u_pf
  have u_pl := ok_plain_lines (P := P) (w := w) (base := base) D.d_plain_lines T
  have u_pp := ok_plain_piece D.d_plain_piece T u_need u_pl
  have u_ps := ok_piece_size D.d_piece_size T u_need
  have u_mixed := ok_mixed (P := P) (w := w) (base := base) D.d__law_mixed T
  have u_draw := ok_draw D.d__law_draw T u_mixed
  have u_folded := ok_folded (P := P) (w := w) (base := base) D.d__law_folded T
  have u_like := ok_like (P := P) (w := w) (base := base) D.d__law_like T
  have u_of := ok_ofA D.d__law_of T u_draw
  have u_ofR := ok_ofR D.d__law_of T u_draw
  have u_order := ok_order0 D.d__law_order T u_draw
  have u_isint := ok_law_is_intD (P := P) (w := w) (base := base) D.d__law_is_int T
  have u_num := ok_lnumL (P := P) (w := w) (base := base) D.d__law_numbered T
  have u_any := ok_any_piece D.d__law_any_piece T u_draw u_of u_order
  have u_knot := ok_with_knot D.d__law_with_knot T u_num
  have u_tie := ok_with_tie D.d__law_with_tie T u_num
  have u_tiel := ok_tie_lines (P := P) (w := w) (base := base) D.d__law_tie_lines T
  have u_fin := ok_finished (P := P) (w := w) (base := base) D.d__law_finished T
  have u_grown := ok_grown D.d__law_grown T u_draw u_order u_tie u_knot u_tiel u_fin
  have u_lend := ok_law_is_end D.d__law_is_end T u_isint
  have u_lfault := ok_law_fault D.d__law_fault T z_str u_isint u_lend
  have u_with := ok_with (P := P) (w := w) (base := base) D.d__law_with T
  have u_bent := ok_bent D.d__law_bent T u_draw u_of u_ofR u_order u_with
  have u_shaped := ok_is_shaped D.d__law_is_shaped T u_isint
  have u_ref := ok_law_refusedP D.d__law_refused T eP xP ux_need
  exact ⟨ok_begun D.d__law_begun T u_folded, u_draw, u_any, u_grown, u_bent, u_lfault, u_shaped, u_like, u_pf, u_isp, u_ref, u_pp, u_ps⟩
theorem finish {l : PySem.W.OpenLaw} {fa : Addr} {CP : Addr} (hfa : mg "law" = some (.ref fa)) (DL : DefAt K mg "law" s_law) (D : Defs K mg) (T : Bt mg) (eP : ErrK2 l.prog K mg "BadPiece" CP "word" "place") (xP : PySem.W.exmOne K (.ref CP) (.ref CP) = some true) (z_str : mg "str" = none) :
    ∃ fd : FuncData, (∀ (s : Shared) (u : Value), BindsTo s fd ⟨[u], []⟩ [("script", u)]) ∧ ∀ base : Heap, K.In base → base.Ns mainGlobals mg → FnG l.prog w K mg base 7 fa fd ["script"] (spLaw K) := by
  obtain ⟨f, fd, F, hm⟩ := DL
  have e := hfa.symm.trans hm
  cases e
  have F' := F
  obtain ⟨oc, od, kV, doc, pm, an, cdv, ct, osl, rfl, lk, hcd⟩ := F'.ex
  exact ⟨_, fun s v => .of_eq rfl, fun base _ _ => fn_law F T (calls D T eP xP z_str)⟩
theorem walk {l : PySem.W.OpenLaw} {q : Program} {loose : List Str} {XP : (Str → Option Value) → Heap → Prop} {YP : World → Heap → Prop} {d : DefRec} {K : Params → PySem.W.Frag} (hn : l.most = some 63) (hdf : d.params.defaults = [])
    (hY : ∀ (w : World) (h : Heap), YP w h → (K w.params).In h)
    (F : ∀ (w : World) (mg : Str → Option Value) (fa : Addr) (h : Heap), (K w.params).In h → h.Ns mainGlobals mg → mg d.name = some (.ref fa) →
      ∃ fd : FuncData, (∀ (s : Shared) (u : Value), BindsTo s fd ⟨[u], []⟩ [("script", u)]) ∧ ∀ base : Heap, (K w.params).In base → base.Ns mainGlobals mg → FnG l.prog w (K w.params) mg base 7 fa fd ["script"] (spLaw (K w.params))) :
    PySem.W.WalkO q loose XP YP l.row.toRowW d [] (fun f vs => PySem.call f vs) :=
  KR.walk_ofG (n := 63) (k := 7) (x := "script") (sp := fun w => spLaw (K w.params)) hn (by decide) hdf ⟨rfl, by decide, by decide⟩ hY F (fun _ _ a ns hl _ hS => ⟨a, ns, rfl, hS, hl, fun _ => rfl⟩)
end
end KQ
open PySem PySem.W PyProof.Rows
set_option maxRecDepth 100000 in
set_option maxHeartbeats 0 in
theorem PySem.Challenge.cw_fittingdoors_k07_pieces_checked_holds : PySem.Challenge.rw_fittingdoors_k07_pieces_checked.Holds := by
  w_on; o_law; k_head; (case hw => w_witness2)
  k_fill
  refine KQ.walk (l := PySem.Challenge.rw_fittingdoors_k07_pieces_checked) rfl rfl (fun w h Y => PySem.W.kIn_of Y) ?F
  case F =>
    intro w mg fa h KX G hmg
    refine' KQ.step_def (x := "is_integer") (st := KQ.s_is_integer) KX G ?a1 ?l1 ?c1 ?k1 ?n1
    (case a1 => k_is); (case l1 => k_is); (case c1 => k_is); (case k1 => k_is)
    intro d_is_integer
    refine' KQ.step_def (x := "is_integer_within") (st := KQ.s_is_integer_within) KX G ?a2 ?l2 ?c2 ?k2 ?n2
    (case a2 => k_is); (case l2 => k_is); (case c2 => k_is); (case k2 => k_is)
    intro d_is_integer_within
    refine' KQ.step_def (x := "is_tuple_within") (st := KQ.s_is_tuple_within) KX G ?a3 ?l3 ?c3 ?k3 ?n3
    (case a3 => k_is); (case l3 => k_is); (case c3 => k_is); (case k3 => k_is)
    intro d_is_tuple_within
    refine' KQ.step_def (x := "is_sort") (st := KQ.s_is_sort) KX G ?a4 ?l4 ?c4 ?k4 ?n4
    (case a4 => k_is); (case l4 => k_is); (case c4 => k_is); (case k4 => k_is)
    intro d_is_sort
    refine' KQ.step_def (x := "is_end") (st := KQ.s_is_end) KX G ?a5 ?l5 ?c5 ?k5 ?n5
    (case a5 => k_is); (case l5 => k_is); (case c5 => k_is); (case k5 => k_is)
    intro d_is_end
    refine' KQ.step_def (x := "has_form") (st := KQ.s_has_form) KX G ?a6 ?l6 ?c6 ?k6 ?n6
    (case a6 => k_is); (case l6 => k_is); (case c6 => k_is); (case k6 => k_is)
    intro d_has_form
    refine' KQ.step_def (x := "first_wrong_line") (st := KQ.s_first_wrong_line) KX G ?a7 ?l7 ?c7 ?k7 ?n7
    (case a7 => k_is); (case l7 => k_is); (case c7 => k_is); (case k7 => k_is)
    intro d_first_wrong_line
    refine' KQ.step_def (x := "piece_fault") (st := KQ.s_piece_fault) KX G ?a8 ?l8 ?c8 ?k8 ?n8
    (case a8 => k_is); (case l8 => k_is); (case c8 => k_is); (case k8 => k_is)
    intro d_piece_fault
    refine' KQ.step_def (x := "is_piece") (st := KQ.s_is_piece) KX G ?a9 ?l9 ?c9 ?k9 ?n9
    (case a9 => k_is); (case l9 => k_is); (case c9 => k_is); (case k9 => k_is)
    intro d_is_piece
    refine' KQ.step_def (x := "need_piece") (st := KQ.s_need_piece) KX G ?a10 ?l10 ?c10 ?k10 ?n10
    (case a10 => k_is); (case l10 => k_is); (case c10 => k_is); (case k10 => k_is)
    intro d_need_piece
    refine' KQ.step_def (x := "plain_lines") (st := KQ.s_plain_lines) KX G ?a11 ?l11 ?c11 ?k11 ?n11
    (case a11 => k_is); (case l11 => k_is); (case c11 => k_is); (case k11 => k_is)
    intro d_plain_lines
    refine' KQ.step_def (x := "plain_piece") (st := KQ.s_plain_piece) KX G ?a12 ?l12 ?c12 ?k12 ?n12
    (case a12 => k_is); (case l12 => k_is); (case c12 => k_is); (case k12 => k_is)
    intro d_plain_piece
    refine' KQ.step_def (x := "piece_size") (st := KQ.s_piece_size) KX G ?a13 ?l13 ?c13 ?k13 ?n13
    (case a13 => k_is); (case l13 => k_is); (case c13 => k_is); (case k13 => k_is)
    intro d_piece_size
    refine' KQ.step_def (x := "_law_mixed") (st := KQ.s__law_mixed) KX G ?a14 ?l14 ?c14 ?k14 ?n14
    (case a14 => k_is); (case l14 => k_is); (case c14 => k_is); (case k14 => k_is)
    intro d__law_mixed
    refine' KQ.step_def (x := "_law_folded") (st := KQ.s__law_folded) KX G ?a15 ?l15 ?c15 ?k15 ?n15
    (case a15 => k_is); (case l15 => k_is); (case c15 => k_is); (case k15 => k_is)
    intro d__law_folded
    refine' KQ.step_def (x := "_law_draw") (st := KQ.s__law_draw) KX G ?a16 ?l16 ?c16 ?k16 ?n16
    (case a16 => k_is); (case l16 => k_is); (case c16 => k_is); (case k16 => k_is)
    intro d__law_draw
    refine' KQ.step_def (x := "_law_begun") (st := KQ.s__law_begun) KX G ?a17 ?l17 ?c17 ?k17 ?n17
    (case a17 => k_is); (case l17 => k_is); (case c17 => k_is); (case k17 => k_is)
    intro d__law_begun
    refine' KQ.step_def (x := "_law_like") (st := KQ.s__law_like) KX G ?a18 ?l18 ?c18 ?k18 ?n18
    (case a18 => k_is); (case l18 => k_is); (case c18 => k_is); (case k18 => k_is)
    intro d__law_like
    refine' KQ.step_def (x := "_law_of") (st := KQ.s__law_of) KX G ?a19 ?l19 ?c19 ?k19 ?n19
    (case a19 => k_is); (case l19 => k_is); (case c19 => k_is); (case k19 => k_is)
    intro d__law_of
    refine' KQ.step_def (x := "_law_is_int") (st := KQ.s__law_is_int) KX G ?a20 ?l20 ?c20 ?k20 ?n20
    (case a20 => k_is); (case l20 => k_is); (case c20 => k_is); (case k20 => k_is)
    intro d__law_is_int
    refine' KQ.step_def (x := "_law_order") (st := KQ.s__law_order) KX G ?a21 ?l21 ?c21 ?k21 ?n21
    (case a21 => k_is); (case l21 => k_is); (case c21 => k_is); (case k21 => k_is)
    intro d__law_order
    refine' KQ.step_def (x := "_law_numbered") (st := KQ.s__law_numbered) KX G ?a22 ?l22 ?c22 ?k22 ?n22
    (case a22 => k_is); (case l22 => k_is); (case c22 => k_is); (case k22 => k_is)
    intro d__law_numbered
    refine' KQ.step_def (x := "_law_any_piece") (st := KQ.s__law_any_piece) KX G ?a23 ?l23 ?c23 ?k23 ?n23
    (case a23 => k_is); (case l23 => k_is); (case c23 => k_is); (case k23 => k_is)
    intro d__law_any_piece
    refine' KQ.step_def (x := "_law_with_knot") (st := KQ.s__law_with_knot) KX G ?a24 ?l24 ?c24 ?k24 ?n24
    (case a24 => k_is); (case l24 => k_is); (case c24 => k_is); (case k24 => k_is)
    intro d__law_with_knot
    refine' KQ.step_def (x := "_law_with_tie") (st := KQ.s__law_with_tie) KX G ?a25 ?l25 ?c25 ?k25 ?n25
    (case a25 => k_is); (case l25 => k_is); (case c25 => k_is); (case k25 => k_is)
    intro d__law_with_tie
    refine' KQ.step_def (x := "_law_grown") (st := KQ.s__law_grown) KX G ?a26 ?l26 ?c26 ?k26 ?n26
    (case a26 => k_is); (case l26 => k_is); (case c26 => k_is); (case k26 => k_is)
    intro d__law_grown
    refine' KQ.step_def (x := "_law_tie_lines") (st := KQ.s__law_tie_lines) KX G ?a27 ?l27 ?c27 ?k27 ?n27
    (case a27 => k_is); (case l27 => k_is); (case c27 => k_is); (case k27 => k_is)
    intro d__law_tie_lines
    refine' KQ.step_def (x := "_law_finished") (st := KQ.s__law_finished) KX G ?a28 ?l28 ?c28 ?k28 ?n28
    (case a28 => k_is); (case l28 => k_is); (case c28 => k_is); (case k28 => k_is)
    intro d__law_finished
    refine' KQ.step_def (x := "_law_is_end") (st := KQ.s__law_is_end) KX G ?a29 ?l29 ?c29 ?k29 ?n29
    (case a29 => k_is); (case l29 => k_is); (case c29 => k_is); (case k29 => k_is)
    intro d__law_is_end
    refine' KQ.step_def (x := "_law_fault") (st := KQ.s__law_fault) KX G ?a30 ?l30 ?c30 ?k30 ?n30
    (case a30 => k_is); (case l30 => k_is); (case c30 => k_is); (case k30 => k_is)
    intro d__law_fault
    refine' KQ.step_def (x := "_law_with") (st := KQ.s__law_with) KX G ?a31 ?l31 ?c31 ?k31 ?n31
    (case a31 => k_is); (case l31 => k_is); (case c31 => k_is); (case k31 => k_is)
    intro d__law_with
    refine' KQ.step_def (x := "_law_bent") (st := KQ.s__law_bent) KX G ?a32 ?l32 ?c32 ?k32 ?n32
    (case a32 => k_is); (case l32 => k_is); (case c32 => k_is); (case k32 => k_is)
    intro d__law_bent
    refine' KQ.step_def (x := "_law_is_shaped") (st := KQ.s__law_is_shaped) KX G ?a33 ?l33 ?c33 ?k33 ?n33
    (case a33 => k_is); (case l33 => k_is); (case c33 => k_is); (case k33 => k_is)
    intro d__law_is_shaped
    refine' KQ.step_def (x := "_law_refused") (st := KQ.s__law_refused) KX G ?a34 ?l34 ?c34 ?k34 ?n34
    (case a34 => k_is); (case l34 => k_is); (case c34 => k_is); (case k34 => k_is)
    intro d__law_refused
    refine' KQ.step_def (x := "law") (st := KQ.s_law) KX G ?a35 ?l35 ?c35 ?k35 ?n35
    (case a35 => k_is); (case l35 => k_is); (case c35 => k_is); (case k35 => k_is)
    intro d_law
    refine' KQ.step_cst (x := "MOST_PIECE_DOORS") (v := 40) KX G ?a36 ?n36
    (case a36 => k_is)
    intro c_MOST_PIECE_DOORS
    refine' KQ.step_cst (x := "MOST_KNOTS") (v := 200) KX G ?a37 ?n37
    (case a37 => k_is)
    intro c_MOST_KNOTS
    refine' KQ.step_cst (x := "MOST_LINES") (v := 320) KX G ?a38 ?n38
    (case a38 => k_is)
    intro c_MOST_LINES
    refine' KQ.step_none (x := "len") KX G ?a39 ?n39
    (case a39 => k_is)
    intro z_len
    refine' KQ.step_none (x := "range") KX G ?a40 ?n40
    (case a40 => k_is)
    intro z_range
    refine' KQ.step_none (x := "enumerate") KX G ?a41 ?n41
    (case a41 => k_is)
    intro z_enumerate
    refine' KQ.step_none (x := "zip") KX G ?a42 ?n42
    (case a42 => k_is)
    intro z_zip
    refine' KQ.step_none (x := "isinstance") KX G ?a43 ?n43
    (case a43 => k_is)
    intro z_isinstance
    refine' KQ.step_none (x := "int") KX G ?a44 ?n44
    (case a44 => k_is)
    intro z_int
    refine' KQ.step_none (x := "bool") KX G ?a45 ?n45
    (case a45 => k_is)
    intro z_bool
    refine' KQ.step_none (x := "tuple") KX G ?a46 ?n46
    (case a46 => k_is)
    intro z_tuple
    refine' KQ.step_none (x := "list") KX G ?a47 ?n47
    (case a47 => k_is)
    intro z_list
    refine' KQ.step_none (x := "max") KX G ?a48 ?n48
    (case a48 => k_is)
    intro z_max
    refine' KQ.step_none (x := "min") KX G ?a49 ?n49
    (case a49 => k_is)
    intro z_min
    refine' KQ.step_none (x := "repr") KX G ?a50 ?n50
    (case a50 => k_is)
    intro z_repr
    refine' KQ.step_none (x := "set") KX G ?a51 ?n51
    (case a51 => k_is)
    intro z_set
    refine' KQ.step_none (x := "sum") KX G ?a52 ?n52
    (case a52 => k_is)
    intro z_sum
    refine' KQ.step_none (x := "sorted") KX G ?a53 ?n53
    (case a53 => k_is)
    intro z_sorted
    refine' KQ.step_none (x := "super") KX G ?a54 ?n54
    (case a54 => k_is)
    intro z_super
    refine' KQ.step_none (x := "str") KX G ?a55 ?n55
    (case a55 => k_is)
    intro z_str
    refine' KQ.step_err2 (P := PySem.W.OpenLaw.prog PySem.Challenge.rw_fittingdoors_k07_pieces_checked) (cx := "BadPiece") (fld := "word") (fle := "place") (x := "word") (y := "place") (msg := _) KX G z_super ?aC56 ?lC56 ?rv56 ?sa56 ?exC56 ?tyC56 ?kC56 ?iC56 ?tI56 ?lk56 ?hcd56 ?hcode56 ?hvs56 ?hfile56 ?htop56 ?hcell56 ?hsup56 ?hV56 ?hmro56 ?hop56 ?hfa56 ?hfb56 ?hp56 ?har56 ?hx56 ?hyP56 ?hxy56 ?hyd56 ?hyc56 ?hxd56 ?hxc56 ?hk56 ?hco56 ?hgen56 ?l156 ?l256 ?l2P56 ?l356 ?l456 ?hev56 ?l556 ?l656 ?hb56 ?ga56 ?gg56 ?hdC56 ?n56
    (case aC56 => k_is)
    (case lC56 => k_is)
    (case rv56 => rfl)
    (case sa56 => k_is)
    (case exC56 => k_is)
    (case tyC56 => k_is)
    (case kC56 => k_is)
    (case iC56 => k_is)
    (case tI56 => k_is)
    (case lk56 => (refine Eq.trans (b := some _) (by k_is) ?_; rfl))
    (case hcd56 => k_is)
    (case hcode56 => k_is)
    (case hvs56 => rfl)
    (case hfile56 => rfl)
    (case htop56 => rfl)
    (case hcell56 => k_is)
    (case hsup56 => ks_is)
    (case hV56 => k_is)
    (case hmro56 => k_is)
    (case hop56 => k_is)
    (case hfa56 => k_is)
    (case hfb56 => k_is)
    (case hp56 => rfl)
    (case har56 => rfl)
    (case hx56 => decide)
    (case hyP56 => decide)
    (case hxy56 => decide)
    (case hyd56 => decide)
    (case hyc56 => decide)
    (case hxd56 => decide)
    (case hxc56 => decide)
    (case hk56 => rfl)
    (case hco56 => rfl)
    (case hgen56 => rfl)
    (case l156 => rfl)
    (case l256 => rfl)
    (case l2P56 => rfl)
    (case l356 => rfl)
    (case l456 => rfl)
    (case hev56 => exact fun _ => rfl)
    (case l556 => decide +kernel)
    (case l656 => decide +kernel)
    (case hb56 => exact fun us hl => match us, hl with | [_, _, _], _ => rfl)
    (case ga56 => k_is)
    (case gg56 => k_is)
    (case hdC56 => k_is)
    intro eP
    refine' KQ.step_exm12 eP ?a57 ?n57
    (case a57 => k_is)
    intro xP
    exact KQ.finish hmg d_law ⟨d_is_integer, d_is_integer_within, d_is_tuple_within, d_is_sort, d_is_end, d_has_form, d_first_wrong_line, d_piece_fault, d_is_piece, d_need_piece, d_plain_lines, d_plain_piece, d_piece_size, d__law_mixed, d__law_folded, d__law_draw, d__law_begun, d__law_like, d__law_of, d__law_is_int, d__law_order, d__law_numbered, d__law_any_piece, d__law_with_knot, d__law_with_tie, d__law_grown, d__law_tie_lines, d__law_finished, d__law_is_end, d__law_fault, d__law_with, d__law_bent, d__law_is_shaped, d__law_refused, c_MOST_PIECE_DOORS, c_MOST_KNOTS, c_MOST_LINES⟩ ⟨z_len, z_range, z_enumerate, z_zip, z_isinstance, z_int, z_bool, z_tuple, z_list, z_max, z_min, z_repr, z_set, z_sum, z_sorted⟩ eP xP z_str
#print axioms PySem.Challenge.cw_fittingdoors_k07_pieces_checked_holds
