import PyProof.Rows.All
import Wide.All
import OpenK.AllK
import Wide.FinOn
import HandS.ForMost
import HandS.Exc
import HandS.IsInst
import HandS.Strs
import HandS.SetKeys
import HandS.Star
import HandS.Zip
import HandS.Conv
import HandS.Wide
import HandS.Style
import KE.DataMinMax
import KE.GoesNew
import KE.GoesMore
import KE.KDictKeyed
import PyProof.Rows.NestShow
import KE.DatumOrd
import KE.KDictZip
import HandS.TupLen
import HandS.Call
import HandS.SetFor
import HandS.TupAny
import HandS.Iter
import KE.BitLaws
import KE.KUnpackStar
import HandS.SortInts
import HandS.DictTup
import KE.KDictCopyH
import KE.LtSeq
import HandS.TupLe
import HandS.Deep
import HandS.SortRule
import HandS.TupSets
import HandS.ExcCtx
import HandS.ExcInit
import KE.KSuper
import KE.KExcSuper
import HandS.TryMany
import HandS.ExcField
import HandS.CallLocal
import HandS.CallSlots
import HandS.RaiseMore
import HandS.ExcIs
import PySem.Challenge.RW_fittingdoors_k37_forms_counted_and_liste
set_option Elab.async false
set_option linter.all false
set_option maxRecDepth 100000
set_option maxHeartbeats 8000000
/-! rules that the layer lacks: calls where no repr is going on; repr of data; max of a tuple; enumerate of a tuple -/
namespace KR
open PySem PySem.Spec PyProof.Rows L2

/-! ### defs called where no guard stands -/
structure FnG (P : Program) (w : World) (K : PySem.W.Frag) (mg : Str → Option Value) (base : Heap)
    (k : Nat) (f : Addr) (fd : FuncData) (ps : List Str) (sp : Sp) : Prop where
  len : ∀ vs H Q E, sp vs H Q E → vs.length = ps.length
  run : ∀ (A : Around) (outer : List Env) (s : Shared) (H : Hp) (args : Args) (us : List Value) (vs : List V) (Q : VK) (E : XK),
    A.guards = some [] → Room k A → Env0 P w K mg base A outer s H → BindsTo s fd args (ps.zip us) → Vals vs us → sp vs H Q E →
    codeAny (model P w) A (.call (.ref f) args) (CR CX0 outer P w H s Q E) s

theorem FnG.up {P : Program} {w : World} {K : PySem.W.Frag} {mg : Str → Option Value} {base : Heap} {j k : Nat} {f : Addr}
    {fd : FuncData} {ps : List Str} {sp : Sp} (F : FnG P w K mg base j f fd ps sp) (h : j ≤ k) : FnG P w K mg base k f fd ps sp :=
  ⟨F.len, fun A outer s H args us vs Q E hg hr => F.run A outer s H args us vs Q E hg (hr.mono h)⟩

theorem Fun.okG {P : Program} {w : World} {K : PySem.W.Frag} {mg : Str → Option Value} {base : Heap}
    {x qual : Str} {st : Stmt} {f : Addr} {fd : FuncData} {N ps : List Str} {k : Nat} {sp : Sp}
    (F : Fun K x qual st f fd) (S : FnScope N ps (defScope st)) (len : ∀ vs H Q E, sp vs H Q E → vs.length = ps.length)
    (body : ∀ (cdv : Value) (A : Around) (outer : List Env) (s : Shared) (H : Hp) (vs : List V) (Q : VK) (E : XK),
      (A.deeper (envOfC qual (defScope st) s.heap.objs.size f cdv)).guards = some [] →
      Room k (A.deeper (envOfC qual (defScope st) s.heap.objs.size f cdv)) → sp vs H Q E →
      ∃ t, PSs (cxOf CX0 P w K mg base N qual (defScope st) f cdv A outer s H E).nox (defBody st) t ∧
        t { nx := fun _ H' => Q .non H', rt := Q } (start N vs) H) : FnG P w K mg base (k + 1) f fd ps sp := by
  obtain ⟨oc, od, kV, doc, pm, an, cdv, ct, osl, rfl, lk, hcd⟩ := F.ex
  refine ⟨len, fun A outer s H args us vs Q E hg hr e0 hb r hsp => ?_⟩
  have hlen := len _ _ _ _ hsp
  have inS : K.In s.heap :=
    e0.mod.kin.keeps fun b o e => (e0.bs b o e).1
  have nolim : s.heap.NoLimit :=
    e0.mod.nolimit.keeps fun b o e => (e0.bs b o e).1
  have kinds : ∀ y ∈ ps.zip us, (defScope st).names.lookup y.1 = some .local ∨
      ((defScope st).names.lookup y.1 = some .cell ∧ ((cellsFrom (s.heap.objs.size + 1) (defScope st).names []).lookup y.1).isSome = true) := by
    rintro ⟨n, v⟩ hy
    rcases S.par n (List.of_mem_zip hy).1 with q | q
    · exact Or.inl q
    · exact Or.inr ⟨q, PySem.W.cellsFrom_some _ _ _ (Or.inl q)⟩
  refine codeAny_call_function hr.depth (inS _ _ lk) rfl S.co S.gen rfl
    (PySem.W.codeRec_of inS hcd) (hb _ _ _ _ ?_)
  refine wpAny_newFunctionEnv_cells S.kind kinds fun env he s1 x => ?_
  subst he
  refine ⟨nolim.keeps x.toInCall.keep, codeAny_func ?_⟩
  obtain ⟨t, ht, hq⟩ := body cdv A outer s H vs Q E hg (hr.deeper _) hsp
  have I : Inv (cxOf CX0 P w K mg base N qual (defScope st) f cdv A outer s H E) [] (start N vs) H s1 :=
    inv_start S hr.hd e0 hlen r x
  refine wpAny_mono (ht.nox.run [] s1 (start N vs) H _ I hq) (fun fl s' hs => ?_) (fun e s' hs => hs)
  have fin : ∀ {σ' : L2.St} {H' : Hp} {v : V} {u : Value}, Inv (cxOf CX0 P w K mg base N qual (defScope st) f cdv A outer s H E) [] σ' H' s' →
      RelV v u → Q v H' → CE outer P w H s Q u s' := by
    intro σ' H' v u J rv q
    exact ⟨v, H', J.os, J.bare, J.base, J.hok, rv, q⟩
  cases fl with
  | ret u =>
    obtain ⟨v, σ', H', J, rv, q⟩ := hs
    exact fin J rv q
  | next =>
    obtain ⟨σ', H', J, q⟩ := hs
    exact fin (v := V.non) (u := Value.none) J rfl q
  | brk =>
    obtain ⟨_, _, _, q⟩ := hs
    exact q.elim
  | cont =>
    obtain ⟨_, _, _, q⟩ := hs
    exact q.elim

section
variable {X : Cx} {k : Nat} {f : Addr} {fd : FuncData} {ps : List Str} {sp : Sp} {dvs : List V} {ds : List Value} {x : Str} {p pos : Pos} {e : Expr} {es : List Expr} {t : TA}

/-- a call where no guard stands -/
theorem pe_callG (F : FnG X.prog X.w X.K X.mg X.base k f fd ps sp) (gd : X.A.guards = some []) (hr : Room k X.A) (hg : Gl X x) (hm : X.mg x = some (.ref f))
    (hk : PySem.W.keepIn X.K (.ref f) = true) (hb : Binds X.K fd ps ds) (hd : Vals dvs ds) (ha : PA X (e :: es) t)
    (hdb : (x == ("__debug__" : Str)) = false := by decide)
    (he : starEach (e :: es) X.env = (false, eval e X.env) :: starEach es X.env := by rfl)
    (hpl : (backTo pos (starEach es X.env)).any (·.1) = false := by rfl) :
    PE X (.Call (.Name x p) (e :: es) [] pos) (tCall sp dvs E0 t) := by
  refine ⟨fun pins s σ H Q I h => ?_⟩
  refine wpAny_Call_Name_kw (ld_glob I hg hm ?_ hdb)
  refine PySem.W.callWith_K (h₀ := X.base) I.ok.mod.kin hk
    (thn (ha.run pos pins s σ H _ I h) fun us s1 ⟨vs, H1, I1, r, q⟩ => ⟨I1.kIn, ?_⟩) he hpl
  have r2 : Vals (vs ++ dvs) (us ++ ds) := r.append hd
  have hl : (us ++ ds).length = ps.length := by
    rw [← r2.length]
    exact F.len _ _ _ _ q
  refine wpAny_call (codeAny_mono (F.run X.A X.stack s1 H1 ⟨us, []⟩ (us ++ ds) (vs ++ dvs) Q E0 gd hr I1.env0
    (hb s1 us I1.kIn hl) r2 q) fun r s' hq => ?_)
  cases r with
  | error e => exact (show False from hq).elim
  | ok fl =>
    cases fl with
    | ret u => exact I1.after hq
    | next => exact (show False from hq).elim
    | brk => exact (show False from hq).elim
    | cont => exact (show False from hq).elim
end

/-! ### repr of data -/
def rRepr (K : PySem.W.Frag) : List V → Hp → VK → Prop := fun xs H Q => ∃ v d, xs = [v] ∧ Dp K H v d ∧
  isDisplay d = true ∧ d.showable = true ∧ d.hasDict = false ∧ d.depth ≤ 30 ∧ d.shown.length ≤ sizeLine ∧ Q (.str d.shown) H
theorem call_reprD {X : Cx} (gd : X.A.guards = some []) (hu : X.A.units + 64 < cLine) : CallR X (.builtin "repr") (rRepr X.K) := by
  intro pins s σ H xs us Q I r h
  obtain ⟨v, d, rfl, hd, hdisp, hs, hnd, hdep, hlen, q⟩ := h
  cases r with
  | cons r1 rr =>
    cases rr
    obtain ⟨as, rd⟩ := Dp.reads I d v _ hd r1
    obtain ⟨a, rfl⟩ := isRef_of_reads rd hdisp
    refine repr_of_reads' rd hs (PyData.noDict_hsm hnd) gd (by omega) (fun _ _ e => e) (fun h' u tk hk => ?_) hlen
    exact ⟨.str d.shown, H, I.kept hk, ⟨u, rfl⟩, q⟩

/-! ### the law's own call -/
theorem law_callG {P : Program} {w : World} {K : PySem.W.Frag} {mg mb : Str → Option Value} {k : Nat} {fa a : Addr} {fd : FuncData} {x : Str} {sp : Sp}
    {s₁ : Shared} {vs : List Value} {ns : List Int} (KX : K.In s₁.heap) (hns : s₁.heap.Ns mainGlobals mg) (hb : s₁.heap.Ns builtinsNs mb)
    (hbb : ∀ x : Str, x ≠ "__name__" → mb x = bootBuiltins x) (hlim : s₁.heap.NoLimit) (hg : s₁.gens = #[])
    (ha : s₁.heap.get? a = some { cls := .type "list", data := .seq vs.toArray }) (hi : IntsAre vs ns) (hl : ns.length ≤ sizeLine) (hr : Room k callerA)
    (F : ∀ base : Heap, K.In base → base.Ns mainGlobals mg → FnG P w K mg base k fa fd [x] sp)
    (hbind : ∀ (s : Shared) (u : Value), BindsTo s fd ⟨[u], []⟩ [(x, u)])
    (hsp : ∀ H : Hp, Only H → SqL K H a (ns.map V.int) → sp [.ref a] H (fun v _ => v = .bl true) fun _ _ _ => False) :
    codeAny (model P w) callerA (.call (.ref fa) ⟨[.ref a], []⟩)
      (fun r s' => r = .ok (.ret (.bool true)) ∧ OldK s₁.heap s'.heap ∧ s'.os = s₁.os ∧ AllBare s'.gens) s₁ := by
  have core : ∀ H : Hp, Only H → SqL K H a (ns.map V.int) → HOk P w H s₁.heap → (∀ b, H b ≠ none → b = a ∧ K.lookup b = none) →
      codeAny (model P w) callerA (.call (.ref fa) ⟨[.ref a], []⟩)
        (fun r s' => r = .ok (.ret (.bool true)) ∧ OldK s₁.heap s'.heap ∧ s'.os = s₁.os ∧ AllBare s'.gens) s₁ := by
    intro H hO hS hok hA
    have get1 : ∀ {b : Addr} {o : Obj}, s₁.heap.get? b = some o → H b = none → (hidT s₁.heap H).get? b = some o :=
      fun e n => hidT_get e n
    have freeD : ∀ {b : Addr} {o : Obj} {es : Array DictEntry} {ep : Nat}, s₁.heap.get? b = some o → o.data = .dict es ep → H b = none := by
      intro b o es ep e d
      apply Classical.byContradiction
      intro hne
      have eb := (hA b hne).1
      rw [eb, ha] at e
      cases e
      exact nomatch (show Data.seq vs.toArray _ = Data.dict es ep from d)
    have spaces : ∀ {b : Addr} {m : Str → Option Value}, s₁.heap.Ns b m → (hidT s₁.heap H).Ns b m := by
      rintro b m ⟨o, es, ep, e, d, r⟩
      exact ⟨o, es, ep, get1 e (freeD e d), d, r⟩
    have inB : K.In (hidT s₁.heap H) := by
      intro b o e
      refine get1 (KX b o e) (Classical.byContradiction fun hne => ?_)
      have := (hA b hne).2
      rw [e] at this
      cases this
    have hM : Mod K mg (hidT s₁.heap H) := by
      obtain ⟨mc, h1, h2⟩ := hlim
      exact ⟨inB, spaces hns, ⟨mb, spaces hb, hbb⟩, ⟨mc, spaces h1, h2⟩⟩
    have e0 : Env0 P w K mg (hidT s₁.heap H) callerA [] s₁ H :=
      ⟨rfl, hM, fun b o e => of_hidT e, Nat.le_of_eq (hidT_size _ _), trivial, fun b hb => (List.not_mem_nil hb).elim, hok, .of_eq hg⟩
    have run := (F _ inB (spaces hns)).run callerA [] s₁ H ⟨[.ref a], []⟩ [.ref a] [.ref a] _ _ (by first | rfl | decide) hr e0
      (hbind s₁ (.ref a)) (.cons rfl .nil) (hsp H hO hS)
    refine codeAny_mono run fun r s' h => ?_
    cases r with
    | error e => exact (show False from h).elim
    | ok fl =>
      cases fl with
      | next => exact (show False from h).elim
      | brk => exact (show False from h).elim
      | cont => exact (show False from h).elim
      | ret u =>
        obtain ⟨v, H', os, bare, un, hok', r', q⟩ := h
        obtain rfl : v = .bl true := q
        obtain rfl : u = Value.bool true := r'
        refine ⟨rfl, OldK.of_keep fun b o e => ?_, os, bare⟩
        rcases hO b with q | ⟨ob, xs, z⟩
        · exact un.keep b o e q (fun z => (List.not_mem_nil z).elim) (by simp)
        · have z2 := un.frzs b ob _ z
          obtain ⟨e1, _⟩ := hok b _ z
          obtain ⟨e2, _⟩ := hok' b _ z2
          rw [e] at e1
          cases e1
          exact e2
  have rv := vals_ints hi
  have lenV := hi.length
  cases hk : K.lookup a with
  | some o =>
    have e := KX a o hk
    rw [ha] at e
    cases e
    refine core (fun _ => none) (fun _ => Or.inl rfl) ?_ ?_ (fun b z => (z rfl).elim)
    · refine Or.inr ⟨_, vs.toArray, _, hk, rfl, rfl, rfl, ?_, ?_⟩
      · rw [List.size_toArray, lenV]
        exact hl
      · simpa using rv
    · intro b u z
      exact nomatch (show (none : Option HO) = some u from z)
  | none =>
    have only : ∀ b, (if b = a then some (HO.frz { cls := .type "list", data := .seq vs.toArray } (.lst (ns.map V.int))) else none) ≠ none → b = a := by
      intro b z
      exact Classical.byContradiction fun hb => z (if_neg hb)
    refine core (fun b => if b = a then some (.frz { cls := .type "list", data := .seq vs.toArray } (.lst (ns.map V.int))) else none) ?_ ?_ ?_ ?_
    · intro b
      by_cases hb : b = a
      · exact Or.inr ⟨_, _, if_pos hb⟩
      · exact Or.inl (if_neg hb)
    · exact Or.inl (Or.inr ⟨{ cls := .type "list", data := .seq vs.toArray }, if_pos rfl⟩)
    · intro b u z
      have hb := only b (by rw [show (if b = a then _ else _) = some u from z]; exact fun q => nomatch q)
      subst hb
      cases (if_pos rfl).symm.trans z
      exact ⟨ha, by rw [List.length_map]; exact hl, vs, _, rv, ha⟩
    · intro b z
      have hb := only b z
      exact ⟨hb, by rw [hb]; exact hk⟩

theorem walk_ofG {l : PySem.W.OpenLaw} {n k : Nat} {q : Program} {loose : List Str} {XP : (Str → Option Value) → Heap → Prop} {YP : World → Heap → Prop}
    {d : DefRec} {K : Params → PySem.W.Frag} {sp : World → Sp} {x : Str}
    (hn : l.most = some n) (hn2 : n ≤ sizeLine) (hdf : d.params.defaults = []) (hr : Room k callerA)
    (hY : ∀ (w : World) (h : Heap), YP w h → (K w.params).In h)
    (F : ∀ (w : World) (mg : Str → Option Value) (fa : Addr) (h : Heap), (K w.params).In h → h.Ns mainGlobals mg → mg d.name = some (.ref fa) →
      ∃ fd : FuncData, (∀ (s : Shared) (u : Value), BindsTo s fd ⟨[u], []⟩ [(x, u)]) ∧
        ∀ base : Heap, (K w.params).In base → base.Ns mainGlobals mg → FnG l.prog w (K w.params) mg base k fa fd [x] (sp w))
    (hsp : ∀ (w : World) (H : Hp) (a : Addr) (ns : List Int), ns.length ≤ n → Only H → SqL (K w.params) H a (ns.map V.int) →
      sp w [.ref a] H (fun v _ => v = .bl true) fun _ _ _ => False) :
    PySem.W.WalkO q loose XP YP l.row.toRowW d [] (fun f vs => PySem.call f vs) := by
  refine Att.attach_call hn hdf fun w s₀ s₁ mg mb fa o pm cd doc a vs ns G Y ho hd hcd hmg hobj hints hlen hg => ?_
  obtain ⟨fd, hb, hF⟩ := F w mg fa _ (hY w _ Y) G.T.g hmg
  exact law_callG (hY w _ Y) G.T.g G.T.b G.T.builtins G.T.nolimit hg hobj hints (Nat.le_trans hlen hn2) hr hF hb
    (fun H hO hS => hsp w H a ns hlen hO hS)
end KR
namespace KR
open PySem PySem.Spec PyProof.Rows L2

/-! ### max of a tuple of whole numbers -/
theorem dpAll_ints {K : PySem.W.Frag} {H : Hp} : ∀ ns : List Int, DpAll K H (ns.map V.int) (ns.map PyData.int)
  | [] => .nil
  | n :: ns => .cons (.int n) (dpAll_ints ns)
def rMaxT (K : PySem.W.Frag) : List V → Hp → VK → Prop := fun vs H Q => ∃ (a : Addr) (ns : List Int), vs = [V.ref a] ∧ SqT K H a (ns.map V.int) ∧ ns ≠ [] ∧
  ∀ m, m ∈ ns → (∀ y, y ∈ ns → y ≤ m) → Q (.int m) H
theorem maxOf_spec : ∀ (r : List Int) (x : Int), PySem.W.maxOf x r ∈ x :: r ∧ ∀ y ∈ x :: r, y ≤ PySem.W.maxOf x r
  | [], x => by
    refine ⟨List.mem_cons_self, fun y hy => ?_⟩
    rw [List.mem_singleton.mp hy]
    exact Int.le_refl _
  | z :: r, x => by
    have e : PySem.W.maxOf x (z :: r) = PySem.W.maxOf (if decide (x < z) = true then z else x) r := rfl
    rw [e]
    obtain ⟨h1, h2⟩ := maxOf_spec r (if decide (x < z) = true then z else x)
    have h3 : x ≤ (if decide (x < z) = true then z else x) ∧ z ≤ (if decide (x < z) = true then z else x) := by
      by_cases h : x < z
      · rw [if_pos (decide_eq_true h)]
        omega
      · rw [if_neg (by simpa using h)]
        omega
    have h4 := h2 _ List.mem_cons_self
    refine ⟨?_, fun y hy => ?_⟩
    · rcases List.mem_cons.mp h1 with q | q
      · rw [q]
        by_cases h : x < z
        · rw [if_pos (decide_eq_true h)]
          exact List.mem_cons_of_mem _ List.mem_cons_self
        · rw [if_neg (by simpa using h)]
          exact List.mem_cons_self
      · exact List.mem_cons_of_mem _ (List.mem_cons_of_mem _ q)
    · rcases List.mem_cons.mp hy with q | q
      · rw [q]
        omega
      · rcases List.mem_cons.mp q with q | q
        · rw [q]
          omega
        · exact h2 y (List.mem_cons_of_mem _ q)
theorem call_maxT {X : Cx} (hc : X.calm = true) (hu : X.A.units + 64 < cLine) : CallR X (.builtin "max") (rMaxT X.K) := by
  intro pins s σ H vs us Q I r h
  obtain ⟨a, ns, rfl, hs, hne, q⟩ := h
  obtain ⟨its, rv, hl, _⟩ := I.tuple hs
  rw [Vals.ref1 r]
  cases ns with
  | nil => exact (hne rfl).elim
  | cons x xs =>
    obtain ⟨as, rd⟩ := Dp.readsAll I ((x :: xs).map PyData.int) _ its (dpAll_ints (x :: xs)) rv
    refine PySem.W.max_tuple_datum (x := x) (xs := xs) (vs := its.toArray) (I.ok.hd hc) (show s.heap.IsTuple a its.toArray from hl) ⟨as, by rw [show its.toArray.toList = its by simp]; exact rd⟩ (by show X.A.units + 1 + 0 < cLine; omega) fun i v h' tk hv hh hk => ?_
    obtain ⟨bs, rr⟩ := hh
    obtain ⟨t, rfl⟩ : ∃ t, v = .int (PySem.W.maxOf x xs) t := by
      cases rr with
      | int _ t => exact ⟨t, rfl⟩
    obtain ⟨h1, h2⟩ := maxOf_spec xs x
    exact ⟨.int _, H, I.kept hk, ⟨_, rfl⟩, q _ h1 h2⟩

/-! ### enumerate of a tuple -/
def IteT (K : PySem.W.Frag) (a : Addr) : It where
  go := fun i H => ∃ (xs : List V) (x : V), SqT K H a xs ∧ xs[i]? = some x
  yld := fun i H v H' => ∃ T x, v = .ref T ∧ H T = none ∧ H' = upd H T (.tup [.int (i : Nat), x]) ∧ ∀ xs, SqT K H a xs → xs[i]? = some x
  stop := fun i H => ∃ xs : List V, SqT K H a xs ∧ xs.length ≤ i
theorem turn_enumT {P : Program} {w : World} {K : PySem.W.Frag} {elts : List Expr} {kk : Nat} {tpos : Pos} (a e it : Addr) (hea : a ≠ it) (hee : a ≠ e) :
    Turn P w K (.Tuple elts kk tpos) (IteT K a) [e, it] e
      (fun i h => (∃ old, IsEnum h e it ((i : Nat) : Int) old) ∧ h.IsTupleIter it a i ∧ e ≠ it) where
  mem := List.mem_cons_self
  obj := by
    rintro i h ⟨⟨old, he⟩, ⟨o, ho, hc, hd⟩, _⟩ b hb
    rcases List.mem_cons.mp hb with z | z
    · subst z
      exact ⟨_, he, fun v q => nomatch q⟩
    · cases List.mem_singleton.mp z
      exact ⟨o, ho, fun v q => by rw [hd] at q; cases q⟩
  keep := by
    rintro i h h' ⟨⟨old, he⟩, hi, hne⟩ k
    exact ⟨⟨old, k e List.mem_cons_self _ he⟩, hi.at fun o q => k it (List.mem_cons_of_mem _ List.mem_cons_self) o q, hne⟩
  item := by
    intro X hP hw hK hc i pins s σ H E I hf st hg
    subst hP hw hK
    obtain ⟨⟨old, he⟩, hit, hne⟩ := st
    obtain ⟨xs, x, hq, hx⟩ := hg
    obtain ⟨its, rv, p, hz⟩ := I.tuple hq
    obtain ⟨u, hu, ru⟩ := rv.get hx
    have hT : s.heap.IsTuple a its.toArray := p
    have hel : e < s.heap.objs.size := Heap.lt_size he
    have hil : it < s.heap.objs.size := by
      obtain ⟨_, q, _⟩ := hit
      exact Heap.lt_size q
    have hlt : i < its.toArray.size := by
      have := (List.getElem?_eq_some_iff.mp hu).1
      simpa using this
    have D := Draws.tuple (prog := X.prog) (w := X.w) (A := X.A.in1) (I.ok.hd hc) it a hea its.toArray
    have hef : e ∉ [it, a] := by
      intro hm
      rcases List.mem_cons.mp hm with z | z
      · exact hne z
      · exact hee (List.mem_singleton.mp z).symm
    refine wpAny_pyNext_enum_itemD D he ⟨hit, hT⟩ hlt hne hef fun x' h' tk hP ho hit' hT' hsz hk => ?_
    have ex : x' = u := by
      have h1 : its.toArray[i]? = some u := by simpa using hu
      rw [show its.toArray[i]? = some x' from hP] at h1
      exact Option.some.inj h1
    subst ex
    refine ⟨_, rfl, wpAny_letOwnedTupleGo_enum (s := { s with heap := h', toks := tk + 1 }) ho fun h'' he' sb => ?_⟩
    have hT2 : h''.get? s.heap.objs.size = some { cls := .type "tuple", data := .seq #[.int i tk, x'] } :=
      (sb.2 _ (Nat.ne_of_gt hel)).trans hT'
    have new : ObjOk X.prog X.w (upd H s.heap.objs.size (.tup [.int (i : Nat), x])) h'' s.heap.objs.size (.tup [.int (i : Nat), x]) :=
      ⟨show 2 ≤ sizeLine by decide, [.int i tk, x'], .cons ⟨_, rfl⟩ (.cons ru .nil), _, hT2, rfl, _, rfl⟩
    have I1 : Inv X pins σ (upd H s.heap.objs.size (.tup [.int (i : Nat), x])) { s with heap := h'', toks := tk + 1 } := by
      refine I.turnedNew (ch := [e, it]) (fun b ob hb q => ?_) hf (Nat.le_refl _) new
      have hbe : b ≠ e := fun z => hb (by rw [z]; exact List.mem_cons_self)
      have hbi : b ≠ it := fun z => hb (by rw [z]; exact List.mem_cons_of_mem _ List.mem_cons_self)
      exact (sb.2 b hbe).trans (hk b ob hbe hbi q)
    refine ⟨.ref s.heap.objs.size, _, I1, rfl, ⟨_, x, rfl, I.hok.fresh (Nat.le_refl _), rfl, fun ys hy => ?_⟩, ⟨⟨x', ?_⟩, ?_, hne⟩, fun b hb => ?_⟩
    · rw [I.tuple_inj hy hq]
      exact hx
    · rw [show ((i + 1 : Nat) : Int) = (i : Int) + 1 by omega]
      exact he'
    · exact hit'.1.at fun o q => (sb.2 it (Ne.symm hne)).trans q
    · have hb' : b < s.heap.objs.size := by
        rcases List.mem_cons.mp hb with z | z
        · rw [z]
          exact hel
        · rw [List.mem_singleton.mp z]
          exact hil
      rw [upd_ne (Nat.ne_of_lt hb')]
      exact (hf b hb).1
  done := by
    intro X hP hw hK hc i pins s σ H E I hf st hg
    subst hP hw hK
    obtain ⟨⟨old, he⟩, hit, hne⟩ := st
    obtain ⟨xs, hq, hx⟩ := hg
    obtain ⟨its, rv, p, hz⟩ := I.tuple hq
    obtain ⟨f0, f1, f2, f3, f4, f5⟩ := hf it (List.mem_cons_of_mem _ List.mem_cons_self)
    have hl := rv.length
    have hT : s.heap.IsTuple a its.toArray := p
    have hT0 : s.TypeIs (.ref e) "enumerate" := ⟨_, he, rfl⟩
    unfold pyNext
    refine wpAny_bind (wpAny_attempt (wpAny_callSpecial?_slot (name := Str.ofString "__next__") hT0 F.slot_enumerate_next
      (wpAny_call_entry F.slot_enumerate_next hT0 F.entry_enumerate_next ?_ (F.args_enumerate_next_1 _))))
    show wpAny _ _ (field (.ref e) 2 >>= _) _ _ s
    refine wpAny_bind (wpAny_field he rfl (x := .ref it) rfl ?_)
    refine wpAny_bind (wpAny_nextOf_tuple_end (A := X.A.in1) (I.ok.hd hc) hit hT ?_ fun h' x he' hx' => ?_)
    · simp
      omega
    · obtain ⟨o, ho, hcl⟩ := hx'
      refine wpAny_bind (wpAny_isInstance (T := "StopIteration") (b := true) ⟨o, ho, hcl⟩ isSubtype_stop ?_)
      exact wpAny_pure ⟨rfl, I.turned (t' := s.toks) (fun b o hb q => he' b o hb q) f0 f1 f3 f4 f5⟩
  self := fun A i s Q E st h => let ⟨⟨_, he⟩, _⟩ := st; wpAny_pyIter_enum he h
def iEnumT (K : PySem.W.Frag) (ta : TA) : TI := fun σ H R => ta σ H fun vs H1 => ∃ a xs, vs = [.ref a] ∧ SqT K H1 a xs ∧ R (IteT K a) H1
set_option maxHeartbeats 4000000 in
theorem meets_enumT (t : Addr) (items : Array Value) :
    Meets (Builtin.«enumerate.__new__» ⟨[.type "enumerate", .ref t], []⟩) (fun _ R s => s.heap.IsTuple t items ∧
      R (.ok (.ret (.ref (s.heap.push { cls := .type "tuple_iterator", data := .fields #[.ref t, .int 0 0] }).objs.size)))
        { s with heap := (s.heap.push { cls := .type "tuple_iterator", data := .fields #[.ref t, .int 0 0] }).push { cls := .type "enumerate", data := .fields #[.none, .bool false, .ref s.heap.objs.size, rawInt 0, .none, .none] } }) :=
  .of_wp fun prog w A R s h => by
    obtain ⟨hp, g, d, tk, os⟩ := s
    obtain ⟨h1, h⟩ := h
    have hsub := sub_enumerate
    have B := begins_tuple t items
    have q1 : ∀ {A' : Around} {E : Value → Shared → Prop} {Q : Value → Shared → Prop},
        Q (.ref hp.objs.size) ⟨hp.push { cls := .type "tuple_iterator", data := .fields #[.ref t, .int 0 0] }, g, d, tk, os⟩ → wpAny (model prog w) A' (pyIter (.ref t)) Q E ⟨hp, g, d, tk, os⟩ :=
      fun q => B.iter prog w _ _ ⟨hp, g, d, tk, os⟩ _ h1 q
    wp_walk using q1
    refine wpAny_stack_any fun st => wpAny_pure ?_
    split
    · rename_i c _ _ _ _ _
      cases (c == Value.type "enumerate")
      · wp_walk using q1
        exact ⟨_, rfl, h⟩
      · wp_walk using q1
        exact ⟨_, rfl, h⟩
    · wp_walk using q1
      exact ⟨_, rfl, h⟩
theorem call_enumT {prog : Program} {w : World} {A : Around} {E : Value → Shared → Prop} {s : Shared} {t : Addr} {items : Array Value} {Q : Value → Shared → Prop} (hT : s.heap.IsTuple t items)
    (h : ∀ h', IsEnum h' (s.heap.objs.size + 1) s.heap.objs.size 0 .none → h'.IsTupleIter s.heap.objs.size t 0 → h'.objs.size = s.heap.objs.size + 2 →
      (∀ b o, s.heap.get? b = some o → h'.get? b = some o) → Q (.ref (s.heap.objs.size + 1)) { s with heap := h' }) :
    wpAny (model prog w) A (call (.type "enumerate") [.ref t]) Q E s := by
  refine callType_new F.called_enumerate (by decide) (F.typeCall_enumerate_1 _) (F.newCall_enumerate_1 _) (fun obj => F.args_object_init_2 obj _) F.entry_enumerate_new
    (meets_enumT t items) ⟨hT, ?_⟩
  have hz : (s.heap.push { cls := .type "tuple_iterator", data := .fields #[.ref t, .int 0 0] }).objs.size = s.heap.objs.size + 1 := Heap.size_push ..
  show _ ∧ _
  rw [hz]
  have he : IsEnum ((s.heap.push { cls := .type "tuple_iterator", data := .fields #[.ref t, .int 0 0] }).push
      { cls := .type "enumerate", data := .fields #[.none, .bool false, .ref s.heap.objs.size, rawInt 0, .none, .none] }) (s.heap.objs.size + 1) s.heap.objs.size 0 .none := by
    have q := Heap.get?_push_size (s.heap.push { cls := .type "tuple_iterator", data := .fields #[.ref t, .int 0 0] })
      (o := { cls := .type "enumerate", data := .fields #[.none, .bool false, .ref s.heap.objs.size, rawInt 0, .none, .none] }) rfl
    rw [hz] at q
    exact q
  refine ⟨⟨_, he, rfl⟩, h _ he ⟨{ cls := .type "tuple_iterator", data := .fields #[.ref t, .int 0 0] }, Heap.get?_push_of_some _ (Heap.get?_push_size _ rfl), rfl, rfl⟩ (by rw [Heap.size_push, hz]) fun b o x => ?_⟩
  exact Heap.get?_push_of_some _ (Heap.get?_push_of_some _ x)
theorem pi_enumT {X : Cx} {e : Expr} {ta : TA} {p pos tpos : Pos} {elts : List Expr} {kk : Nat} (hg : Gl X "enumerate") (hm : X.mg "enumerate" = none)
    (ha : PA X [e] ta) (hs : starEach [e] X.env = [(false, eval e X.env)] := by rfl) :
    PI X (.Tuple elts kk tpos) (.Call (.Name "enumerate" p) [e] [] pos) (iEnumT X.K ta) := by
  refine ⟨fun pins s σ H R I h => ?_⟩
  refine Call_ (ld_blt I hg hm boot_enumerate (PyProof.Rows.callWith_type1
    (thn (ha.run pos pins s σ H _ I h) fun us s1 ⟨vs, H1, I1, r1, q1⟩ => ?_) hs rfl))
  obtain ⟨a, xs, ex, hq, q⟩ := q1
  subst ex
  rw [Vals.ref1 r1]
  obtain ⟨its, rv, p', hz⟩ := I1.tuple hq
  have hT : s1.heap.IsTuple a its.toArray := p'
  have hal : a < s1.heap.objs.size := by
    obtain ⟨o, ho, _⟩ := id hT
    exact Heap.lt_size ho
  refine call_enumT hT fun h' he hit hsz hk => wpAny_pyIter_enum he ?_
  have I2 : Inv X pins σ H1 { s1 with heap := h' } := I1.kept (t' := s1.toks) hk
  refine ⟨s1.heap.objs.size + 1, [s1.heap.objs.size + 1, s1.heap.objs.size], _, _, H1, rfl, I2,
    turn_enumT a (s1.heap.objs.size + 1) s1.heap.objs.size (Nat.ne_of_lt hal) (Nat.ne_of_lt (Nat.lt_succ_of_lt hal)), ⟨⟨.none, he⟩, hit, Nat.succ_ne_self _⟩, fun b hb => ?_, q⟩
  have hle : s1.heap.objs.size ≤ b := by
    rcases List.mem_cons.mp hb with z | z
    · rw [z]
      exact Nat.le_add_right _ _
    · rw [List.mem_singleton.mp z]
      exact Nat.le_refl _
  exact I1.fpOk hle (I1.hok.fresh hle)
end KR
/-! list(zip(t, u)) of two tuples -/
namespace KR
open PySem PySem.Spec PySem.W PyProof.Rows L2 RZ

section
variable {prog : Program} {w : World} {A : Around} {E : Value → Shared → Prop} {s : Shared}
theorem zipH_item {z TI TO T i1 i2 l1 l2 : Addr} {f : Bool} {oT : Obj} {k1 k2 : Nat} {xs ys : Array Value} {x y : Value} {Q : Option Value → Shared → Prop}
    (D : ZipApart z TI TO i1 i2 l1 l2) (hz : IsZipHeld s.heap z TI TO T f) (hT : s.heap.get? T = some oT) (hTI : IsPair s.heap TI (.ref i1) (.ref i2))
    (h1 : s.heap.IsTupleIter i1 l1 k1) (h2 : s.heap.IsTupleIter i2 l2 k2) (hl1 : s.heap.IsTuple l1 xs) (hl2 : s.heap.IsTuple l2 ys) (hx : xs[k1]? = some x) (hy : ys[k2]? = some y)
    (hQ : ∀ h', IsZipHeld h' z TI TO T true → h'.IsTupleIter i1 l1 (k1 + 1) → h'.IsTupleIter i2 l2 (k2 + 1) → IsPair h' s.heap.objs.size x y → h'.objs.size = s.heap.objs.size + 1 →
      (∀ c o, c ≠ z → c ≠ i1 → c ≠ i2 → s.heap.get? c = some o → h'.get? c = some o) → Q (some (.ref s.heap.objs.size)) { s with heap := h' }) :
    wpAny (model prog w) A (pyNext (.ref z)) Q E s := by
  have hTy : s.TypeIs (.ref z) "zip" := ⟨_, hz, rfl⟩
  unfold pyNext
  refine wpAny_bind (wpAny_attempt (wpAny_callSpecial?_slot (name := Str.ofString "__next__") hTy F.slot_zip_next
    (wpAny_call_entry F.slot_zip_next hTy F.entry_zip_next ?_ (F.args_zip_next_1 _))))
  show wpAny _ _ (field (.ref z) 2 >>= _) _ _ s
  refine wpAny_bind (wpAny_field hz rfl (x := .bool false) rfl ?_)
  show wpAny _ _ (field (.ref z) 3 >>= _) _ _ s
  refine wpAny_bind (wpAny_field hz rfl (x := .ref TI) rfl ?_)
  refine wpAny_bind (wpAny_seqItems hTI rfl ?_)
  show wpAny _ _ (Builtin.SmallTypes.ownedTupleIsFree (.ref z) >>= _) _ _ s
  refine wpAny_bind (wpAny_tupleHeld_zip hz hT fun g1 zz1 sb1 => ?_)
  simp only [Bool.false_eq_true, if_false]
  refine wpAny_bind ?_
  rw [← Array.forIn_toList]
  simp only [List.forIn_cons, List.forIn_nil]
  refine wpAny_bind (wpAny_bind (wpAny_holding ?_))
  show wpAny _ _ (Builtin.SmallTypes.nextOf (.ref i1) >>= _) _ _ { s with heap := g1 }
  refine wpAny_bind (wpAny_nextOf_tuple_item (s := { s with heap := g1 }) (h1.extBut sb1.extBut D.i1z) (hl1.extBut sb1.extBut D.l1z) hx fun g2 it2 sb2 => wpAny_pure ?_)
  refine wpAny_pure ?_
  refine wpAny_bind (wpAny_bind (wpAny_holding ?_))
  show wpAny _ _ (Builtin.SmallTypes.nextOf (.ref i2) >>= _) _ _ { s with heap := g2 }
  refine wpAny_bind (wpAny_nextOf_tuple_item (s := { s with heap := g2 }) ((h2.extBut sb1.extBut D.i2z).extBut sb2.extBut D.i12.symm)
    ((hl2.extBut sb1.extBut D.l2z).extBut sb2.extBut D.l2i1) hy fun g3 it3 sb3 => wpAny_pure ?_)
  refine wpAny_pure (wpAny_pure ?_)
  show wpAny _ _ (newTuple [x, y] >>= _) _ _ { s with heap := g3 }
  refine wpAny_bind (wpAny_newTuple ?_)
  have size3 : g3.objs.size = s.heap.objs.size := by rw [sb3.1, sb2.1, sb1.1]
  have zz3 : IsZipHeld g3 z TI TO T true := sb3.extBut _ _ D.i2z.symm (sb2.extBut _ _ D.i1z.symm zz1)
  have kp : ∀ c o, c ≠ z → c ≠ i1 → c ≠ i2 → s.heap.get? c = some o → g3.get? c = some o :=
    fun c o c1 c2 c3 e => sb3.extBut _ _ c3 (sb2.extBut _ _ c2 (sb1.extBut _ _ c1 e))
  have it1 : g3.IsTupleIter i1 l1 (k1 + 1) := it2.extBut sb3.extBut D.i12
  have pr : IsPair (g3.push { cls := .type "tuple", data := .seq #[x, y] }) g3.objs.size x y := Heap.get?_push_size _ rfl
  have sz4 : (g3.push { cls := .type "tuple", data := .seq #[x, y] }).objs.size = g3.objs.size + 1 := Heap.size_push ..
  refine wpAny_pure ⟨_, rfl, wpAny_pure ?_⟩
  show Q (some (.ref g3.objs.size)) _
  rw [size3] at pr sz4 ⊢
  exact hQ _ (Heap.get?_push_of_some _ zz3) (it1.at fun o e => Heap.get?_push_of_some _ e) (it3.at fun o e => Heap.get?_push_of_some _ e) pr sz4
    fun c o c1 c2 c3 e => Heap.get?_push_of_some _ (kp c o c1 c2 c3 e)
theorem zipH_end {z TI TO T i1 i2 l1 l2 : Addr} {f : Bool} {oT : Obj} {k1 : Nat} {xs : Array Value} {Q : Option Value → Shared → Prop} (hh : A.handled = none)
    (D : ZipApart z TI TO i1 i2 l1 l2) (hz : IsZipHeld s.heap z TI TO T f) (hT : s.heap.get? T = some oT) (hTI : IsPair s.heap TI (.ref i1) (.ref i2))
    (h1 : s.heap.IsTupleIter i1 l1 k1) (hl1 : s.heap.IsTuple l1 xs) (hx : xs[k1]? = none)
    (hQ : ∀ h', (∀ c o, c ≠ z → c ≠ i1 → s.heap.get? c = some o → h'.get? c = some o) → Q none { s with heap := h' }) : wpAny (model prog w) A (pyNext (.ref z)) Q E s := by
  have hTy : s.TypeIs (.ref z) "zip" := ⟨_, hz, rfl⟩
  unfold pyNext
  refine wpAny_bind (wpAny_attempt (wpAny_callSpecial?_slot (name := Str.ofString "__next__") hTy F.slot_zip_next
    (wpAny_call_entry F.slot_zip_next hTy F.entry_zip_next ?_ (F.args_zip_next_1 _))))
  show wpAny _ _ (field (.ref z) 2 >>= _) _ _ s
  refine wpAny_bind (wpAny_field hz rfl (x := .bool false) rfl ?_)
  show wpAny _ _ (field (.ref z) 3 >>= _) _ _ s
  refine wpAny_bind (wpAny_field hz rfl (x := .ref TI) rfl ?_)
  refine wpAny_bind (wpAny_seqItems hTI rfl ?_)
  show wpAny _ _ (Builtin.SmallTypes.ownedTupleIsFree (.ref z) >>= _) _ _ s
  refine wpAny_bind (wpAny_tupleHeld_zip hz hT fun g1 zz1 sb1 => ?_)
  simp only [Bool.false_eq_true, if_false]
  refine wpAny_bind ?_
  rw [← Array.forIn_toList]
  simp only [List.forIn_cons, List.forIn_nil]
  refine wpAny_bind (wpAny_bind (wpAny_holding ?_))
  show wpAny _ _ (Builtin.SmallTypes.nextOf (.ref i1) >>= _) _ _ { s with heap := g1 }
  refine wpAny_bind (wpAny_nextOf_tuple_end (s := { s with heap := g1 }) hh (h1.extBut sb1.extBut D.i1z) (hl1.extBut sb1.extBut D.l1z) hx fun g2 e sb2 he => ?_)
  obtain ⟨o, ho, hcl⟩ := he
  refine wpAny_bind (wpAny_isInstance (T := "StopIteration") (b := true) ⟨o, ho, hcl⟩ isSubtype_stop ?_)
  exact wpAny_pure (hQ g2 fun c o c1 c2 q => sb2 _ _ c2 (sb1.extBut _ _ c1 q))
end

section
variable {X : Cx} {pins : List (Addr × Obj)} {σ : L2.St}
/-- where the zip stands -/
def ZState (z TI TO i1 i2 a b S : Addr) (i : Nat) (h : Heap) : Prop :=
  IsPair h TI (.ref i1) (.ref i2) ∧ h.IsTupleIter i1 a i ∧ h.IsTupleIter i2 b i ∧
  ((IsZip h z TI TO .none ∧ ∃ u v, IsPair h TO u v) ∨
    ∃ T f oT, IsZipHeld h z TI TO T f ∧ h.get? T = some oT ∧ T ≠ S ∧ T ≠ z ∧ T ≠ i1 ∧ T ≠ i2 ∧ ∃ o2, h.get? TO = some o2)

theorem zl_loop {z TI TO i1 i2 a b S : Addr} {xs ys : List V} {R : Result → Shared → Prop} {H₀ : Hp} (D : ZipApart z TI TO i1 i2 a b) (hl : xs.length = ys.length) (hln : xs.length < sizeLine)
    (hS : S ∉ [z, TI, TO, i1, i2]) (hc : X.calm = true) (hS0 : H₀ S = none)
    (hR : ∀ (ts : List Addr) (H' : Hp) s', Inv X pins σ H' s' → Same H₀ H' → H' S = some (.lst (ts.map V.ref)) → ts.length = xs.length →
      (∀ (i : Nat) (t : Addr), ts[i]? = some t → H₀ t = none ∧ ∃ x y, xs[i]? = some x ∧ ys[i]? = some y ∧ H' t = some (.tup [x, y])) → R (.ok (.ret .none)) s') :
    ∀ (k i : Nat) (ts : List Addr) (H : Hp) (s : Shared), xs.length - i = k → i ≤ xs.length → ts.length = i → Inv X pins σ H s → Same H₀ H →
      SqT X.K H a xs → SqT X.K H b ys → H S = some (.lst (ts.map V.ref)) → (∀ c ∈ [z, TI, TO, i1, i2], FpOk X pins H c) →
      (∀ (i : Nat) (t : Addr), ts[i]? = some t → H₀ t = none ∧ ∃ x y, xs[i]? = some x ∧ ys[i]? = some y ∧ H t = some (.tup [x, y])) →
      ZState z TI TO i1 i2 a b S i s.heap → codeAny (model X.prog X.w) X.A.in1 (.builtin "list.extend.loop" ⟨[.ref S, .ref z, .none], []⟩) R s := by
  have Sz : S ≠ z := fun e => hS (by rw [e]; simp)
  have STI : S ≠ TI := fun e => hS (by rw [e]; simp)
  have STO : S ≠ TO := fun e => hS (by rw [e]; simp)
  have Si1 : S ≠ i1 := fun e => hS (by rw [e]; simp)
  have Si2 : S ≠ i2 := fun e => hS (by rw [e]; simp)
  intro k
  induction k with
  | zero =>
    intro i ts H s hk hi hts I sm qa qb eS fp tt st
    have e1 : i = xs.length := by omega
    obtain ⟨hTI, h1, h2, hz⟩ := st
    obtain ⟨its, rv, p1, _⟩ := I.tuple qa
    have l1 := rv.length
    have hend : its.toArray[i]? = none := by
      simp
      omega
    refine codeAny_builtin F.entry_extend_loop ?_
    rw [Around.under_plainId F.plain_extend_loop _]
    show wpAny _ _ (pyNext (.ref z) >>= _) _ _ s
    have fin : ∀ h' : Heap, (∀ c o, c ∉ [z, TI, TO, i1, i2] → s.heap.get? c = some o → h'.get? c = some o) → R (.ok (.ret .none)) { s with heap := h' } := by
      intro h' kp
      refine hR ts H _ (I.turnedL (t' := s.toks) (ch := [z, TI, TO, i1, i2]) kp fp) sm eS (by omega) tt
    rcases hz with ⟨hz, u, v, hTO⟩ | ⟨T, f, oT, hz, hT, n1, n2, n3, n4, o2, hO2⟩
    · obtain ⟨its2, rv2, p2, _⟩ := I.tuple qb
      refine wpAny_bind (pyNext_zipT_end (A := X.A.in1.in1) (I.ok.hd hc) D hz hTI hTO h1 h2 (show s.heap.IsTuple a its.toArray from p1) (show s.heap.IsTuple b its2.toArray from p2) (.inl hend) fun h' kp => ?_)
      exact wpAny_pure (fin h' fun c o hcm e => kp c o (fun q => hcm (by simp [q])) (fun q => hcm (by simp [q])) (fun q => hcm (by simp [q])) (fun q => hcm (by simp [q])) e)
    · refine wpAny_bind (zipH_end (A := X.A.in1.in1) (I.ok.hd hc) D hz hT hTI h1 (show s.heap.IsTuple a its.toArray from p1) hend fun h' kp => ?_)
      exact wpAny_pure (fin h' fun c o hcm e => kp c o (fun q => hcm (by simp [q])) (fun q => hcm (by simp [q])) e)
  | succ k ih =>
    intro i ts H s hk hi hts I sm qa qb eS fp tt st
    have hlt : i < xs.length := by omega
    have hlt2 : i < ys.length := by omega
    obtain ⟨hTI, h1, h2, hz⟩ := st
    obtain ⟨its, rv, p1, _⟩ := I.tuple qa
    obtain ⟨its2, rv2, p2, _⟩ := I.tuple qb
    have gx : xs[i]? = some xs[i] := List.getElem?_eq_getElem hlt
    have gy : ys[i]? = some ys[i] := List.getElem?_eq_getElem hlt2
    obtain ⟨u, hu, ru⟩ := rv.get gx
    obtain ⟨u2, hu2, ru2⟩ := rv2.get gy
    have au : its.toArray[i]? = some u := by simpa using hu
    have au2 : its2.toArray[i]? = some u2 := by simpa using hu2
    refine codeAny_builtin F.entry_extend_loop ?_
    rw [Around.under_plainId F.plain_extend_loop _]
    show wpAny _ _ (pyNext (.ref z) >>= _) _ _ s
    have lt : ∀ {c : Addr}, H c ≠ none → c < s.heap.objs.size := fun {c} hne => by
      cases q : H c with
      | none => exact (hne q).elim
      | some o => exact (I.hok c o q).lt
    have old5 : ∀ c ∈ [z, TI, TO, i1, i2], c < s.heap.objs.size → True := fun _ _ _ => trivial
    have new := I.hok.fresh (Nat.le_refl s.heap.objs.size)
    have go : ∀ h' : Heap, (∀ c o, c ∉ [z, TI, TO, i1, i2] → s.heap.get? c = some o → h'.get? c = some o) → IsPair h' s.heap.objs.size u u2 → h'.objs.size = s.heap.objs.size + 1 →
        (∀ c ∈ [z, TI, TO, i1, i2], c < s.heap.objs.size) → ZState z TI TO i1 i2 a b S (i + 1) h' →
        wpAny (model X.prog X.w) X.A.in1.in1 (updateSeq S (·.push (.ref s.heap.objs.size)) >>= fun _ => again (.builtin "list.extend.loop" ⟨[.ref S, .ref z, .none], []⟩))
          (fun fin s' => match fin with | .done f => R (.ok f) s' | .again c' => c'.quiet = true ∧ codeAny (model X.prog X.w) X.A.in1 c' R s') (fun e s' => R (.error e) s') { s with heap := h' } := by
      intro h' kp pr sz old st'
      have ob : ObjOk X.prog X.w (upd H s.heap.objs.size (.tup [xs[i], ys[i]])) h' s.heap.objs.size (.tup [xs[i], ys[i]]) :=
        ⟨show 2 ≤ sizeLine by decide, [u, u2], .cons ru (.cons ru2 .nil), _, pr, rfl, _, rfl⟩
      have I1 : Inv X pins σ (upd H s.heap.objs.size (.tup [xs[i], ys[i]])) { s with heap := h' } := I.turnedNew (t' := s.toks) kp fp (Nat.le_refl _) ob
      have nS : S ≠ s.heap.objs.size := ne_of_none eS new
      have eS1 : (upd H s.heap.objs.size (.tup [xs[i], ys[i]])) S = some (.lst (ts.map V.ref)) := by
        rw [upd_ne nS]
        exact eS
      obtain ⟨hz', its3, n3, ri, e3⟩ := I1.hok S _ eS1
      have l3 := ri.length
      rw [List.length_map] at l3
      have sm1 : Same H (upd H s.heap.objs.size (.tup [xs[i], ys[i]])) := fun c o e => by
        rw [upd_ne (ne_of_none e new)]
        exact e
      refine wpAny_bind (wpAny_updateSeq e3 rfl (wpAny_pure ⟨plainId_quiet F.plain_extend_loop _, ?_⟩) ?_)
      · have I2 : Inv X pins σ (upd (upd H s.heap.objs.size (.tup [xs[i], ys[i]])) S (.lst ((ts ++ [s.heap.objs.size]).map V.ref)))
            { s with heap := h'.update S (Obj.mapSeq (·.push (.ref s.heap.objs.size))) } := by
          have up := Heap.get?_update_self (Obj.mapSeq (·.push (Value.ref s.heap.objs.size))) e3 rfl
          refine I1.write (t' := s.toks) (by rw [eS1]; trivial) (.inl rfl) (fun c o hcS q => ?_) ⟨_, up⟩ ⟨?_, its3 ++ [.ref s.heap.objs.size], n3 + 1, ?_, ?_⟩
          · exact (Heap.get?_update_other _ _ (fun q' : S = c => hcS q'.symm)).trans q
          · rw [List.length_map, List.length_append]
            show ts.length + 1 ≤ sizeLine
            omega
          · rw [List.map_append]
            exact ri.append (.cons rfl .nil)
          · refine up.trans ?_
            simp [Obj.mapSeq]
        have keepS : ∀ c o, c ≠ S → h'.get? c = some o → (h'.update S (Obj.mapSeq (·.push (.ref s.heap.objs.size)))).get? c = some o :=
          fun c o hcS q => (Heap.get?_update_other _ _ (fun q' : S = c => hcS q'.symm)).trans q
        have sm2 : Same H₀ (upd (upd H s.heap.objs.size (.tup [xs[i], ys[i]])) S (.lst ((ts ++ [s.heap.objs.size]).map V.ref))) := fun c o e => by
          rw [upd_ne (fun q => by rw [q, hS0] at e; cases e)]
          exact sm1 c o (sm c o e)
        have seqs : ∀ (c : Addr) (vs : List V), c ≠ S → SqT X.K H c vs → SqT X.K (upd (upd H s.heap.objs.size (.tup [xs[i], ys[i]])) S (.lst ((ts ++ [s.heap.objs.size]).map V.ref))) c vs := by
          intro c vs hcS q
          rcases q with (q | ⟨o, q⟩) | q
          · exact .inl (.inl (by rw [upd_ne hcS]; exact sm1 _ _ q))
          · exact .inl (.inr ⟨o, by rw [upd_ne hcS]; exact sm1 _ _ q⟩)
          · exact .inr q
        have Sa : a ≠ S := fun q => by
          obtain ⟨o, ho, hcl, _⟩ := p1
          have := (I.hok S _ eS)
          obtain ⟨_, _, _, _, e⟩ := this
          rw [← q, ho] at e
          cases e
          exact nomatch (show Value.type "list" = Value.type "tuple" from hcl)
        have Sb : b ≠ S := fun q => by
          obtain ⟨o, ho, hcl, _⟩ := p2
          have := (I.hok S _ eS)
          obtain ⟨_, _, _, _, e⟩ := this
          rw [← q, ho] at e
          cases e
          exact nomatch (show Value.type "list" = Value.type "tuple" from hcl)
        refine ih (i + 1) (ts ++ [s.heap.objs.size]) _ _ (by omega) hlt (by rw [List.length_append, hts]; rfl) I2 sm2 (seqs a xs Sa qa) (seqs b ys Sb qb) upd_same (fun c hcm => ?_) (fun j t hj => ?_) ?_
        · have hcS : c ≠ S := fun q => hS (by rw [← q]; exact hcm)
          have f := fp c hcm
          refine ⟨?_, f.2⟩
          rw [upd_ne hcS, upd_ne (Nat.ne_of_lt (old c hcm))]
          exact f.1
        · by_cases hjl : j < ts.length
          · rw [List.getElem?_append_left hjl] at hj
            obtain ⟨q0, x, y, q1, q2, q3⟩ := tt j t hj
            refine ⟨q0, x, y, q1, q2, ?_⟩
            have htS : t ≠ S := fun q => by rw [q, eS] at q3; cases q3
            rw [upd_ne htS]
            exact sm1 _ _ q3
          · rw [List.getElem?_append_right (by omega)] at hj
            have hj0 : j - ts.length = 0 := by
              apply Classical.byContradiction
              intro q
              rw [List.getElem?_eq_none (by show 1 ≤ _; omega)] at hj
              cases hj
            rw [hj0] at hj
            cases hj
            have ej : j = i := by omega
            subst ej
            refine ⟨sm.free new, _, _, gx, gy, ?_⟩
            rw [upd_ne nS.symm, upd_same]
        · obtain ⟨s1, s2, s3, s4⟩ := st'
          refine ⟨keepS _ _ STI.symm s1, s2.at fun o e => keepS _ o Si1.symm e, s3.at fun o e => keepS _ o Si2.symm e, ?_⟩
          rcases s4 with ⟨s4, v1, v2, s5⟩ | ⟨T, f, oT, s4, s5, s6, s7⟩
          · exact .inl ⟨keepS _ _ Sz.symm s4, v1, v2, keepS _ _ STO.symm s5⟩
          · obtain ⟨m1, m2, m3, o2, m4⟩ := s7
            exact .inr ⟨T, f, oT, keepS _ _ Sz.symm s4, keepS _ _ s6 s5, s6, m1, m2, m3, o2, keepS _ _ STO.symm m4⟩
      · rw [List.size_toArray]
        omega
    have hil1 : i1 < s.heap.objs.size := by
      obtain ⟨_, q, _⟩ := h1
      exact Heap.lt_size q
    have hil2 : i2 < s.heap.objs.size := by
      obtain ⟨_, q, _⟩ := h2
      exact Heap.lt_size q
    have hSl : S < s.heap.objs.size := lt (by rw [eS]; exact fun q => nomatch q)
    rcases hz with ⟨hz, v1, v2, hTO⟩ | ⟨T, f, oT, hz, hT, n1, n2, n3, n4, o2, hO2⟩
    · have all5 : ∀ c ∈ [z, TI, TO, i1, i2], c < s.heap.objs.size := by
        intro c hcm
        simp only [List.mem_cons, List.not_mem_nil, or_false] at hcm
        rcases hcm with q | q | q | q | q
        · rw [q]; exact Heap.lt_size hz
        · rw [q]; exact Heap.lt_size hTI
        · rw [q]; exact Heap.lt_size hTO
        · rw [q]; exact hil1
        · rw [q]; exact hil2
      refine wpAny_bind (pyNext_zipT_item D hz hTI hTO h1 h2 (show s.heap.IsTuple a its.toArray from p1) (show s.heap.IsTuple b its2.toArray from p2) au au2 fun h' a1 a2 a3 a4 a5 a6 kp => ?_)
      refine go h' (fun c o hcm e => kp c o (fun q => hcm (by simp [q])) (fun q => hcm (by simp [q])) (fun q => hcm (by simp [q])) (fun q => hcm (by simp [q])) e) a5 a6 all5 ?_
      exact ⟨kp _ _ D.TIz D.TITO D.TIi1 D.TIi2 hTI, a3, a4, .inr ⟨s.heap.objs.size, false, _, a1, a5, Nat.ne_of_gt hSl, Nat.ne_of_gt (Heap.lt_size hz), Nat.ne_of_gt hil1, Nat.ne_of_gt hil2, _, a2⟩⟩
    · refine wpAny_bind (zipH_item D hz hT hTI h1 h2 (show s.heap.IsTuple a its.toArray from p1) (show s.heap.IsTuple b its2.toArray from p2) au au2 fun h' a1 a3 a4 a5 a6 kp => ?_)
      refine go h' (fun c o hcm e => kp c o (fun q => hcm (by simp [q])) (fun q => hcm (by simp [q])) (fun q => hcm (by simp [q])) e) a5 a6 ?_ ?_
      · intro c hcm
        simp only [List.mem_cons, List.not_mem_nil, or_false] at hcm
        rcases hcm with q | q | q | q | q
        · rw [q]; exact Heap.lt_size hz
        · rw [q]; exact Heap.lt_size hTI
        · rw [q]; exact Heap.lt_size hO2
        · rw [q]; exact hil1
        · rw [q]; exact hil2
      · exact ⟨kp _ _ D.TIz D.TIi1 D.TIi2 hTI, a3, a4, .inr ⟨T, true, oT, a1, kp _ _ n2 n3 n4 hT, n1, n2, n3, n4, o2, kp _ _ D.TOz D.TOi1 D.TOi2 hO2⟩⟩
end

theorem zip_nolen : typeLookup (.type "zip") "__len__" = pure none := by rw [typeLookup_type, builtinLookup_eq_fast]; kernel_rfl
theorem zip_nohint : typeLookup (.type "zip") "__length_hint__" = pure none := by rw [typeLookup_type, builtinLookup_eq_fast]; kernel_rfl

section
variable {X : Cx} {pins : List (Addr × Obj)} {σ : L2.St}
/-- what list(zip(t, u)) gives -/
def Zipped (xs ys : List V) (H : Hp) (Q : VK) : Prop := ∀ (l : Addr) (ts : List Addr) (H' : Hp), H l = none → Same H H' → H' l = some (.lst (ts.map V.ref)) → ts.length = xs.length →
  (∀ (i : Nat) (t : Addr), ts[i]? = some t → H t = none ∧ ∃ x y, xs[i]? = some x ∧ ys[i]? = some y ∧ H' t = some (.tup [x, y])) → Q (.ref l) H'
theorem call_lzip {z TI TO i1 i2 a b : Addr} {xs ys : List V} {H : Hp} {s : Shared} {Q : VK} (D : ZipApart z TI TO i1 i2 a b) (hl : xs.length = ys.length) (hln : xs.length < sizeLine)
    (hc : X.calm = true) (I : Inv X pins σ H s) (qa : SqT X.K H a xs) (qb : SqT X.K H b ys) (fp : ∀ c ∈ [z, TI, TO, i1, i2], FpOk X pins H c)
    (hz : IsZip s.heap z TI TO .none) (hTI : IsPair s.heap TI (.ref i1) (.ref i2)) (hTO : IsPair s.heap TO .none .none)
    (h1 : s.heap.IsTupleIter i1 a 0) (h2 : s.heap.IsTupleIter i2 b 0) (q : Zipped xs ys H Q) :
    wpAny (model X.prog X.w) X.A (call (.type "list") [.ref z]) (EP X pins σ Q) X.xe s := by
  have all5 : ∀ c ∈ [z, TI, TO, i1, i2], c < s.heap.objs.size := by
    intro c hcm
    simp only [List.mem_cons, List.not_mem_nil, or_false] at hcm
    rcases hcm with q | q | q | q | q
    · rw [q]; exact Heap.lt_size hz
    · rw [q]; exact Heap.lt_size hTI
    · rw [q]; exact Heap.lt_size hTO
    · rw [q]; obtain ⟨_, q', _⟩ := h1; exact Heap.lt_size q'
    · rw [q]; obtain ⟨_, q', _⟩ := h2; exact Heap.lt_size q'
  have hSf : s.heap.objs.size ∉ [z, TI, TO, i1, i2] := fun hm => Nat.lt_irrefl _ (all5 _ hm)
  have new := I.hok.fresh (Nat.le_refl s.heap.objs.size)
  refine callType_codes (Q₁ := fun obj s₁ => obj = .ref s.heap.objs.size ∧ s₁ = { s with heap := s.heap.push { cls := .type "list", data := .seq #[] } }) F.called_list (F.typeCall_list_1 _) F.entry_list_init
    (code_list_new _ ⟨rfl, rfl⟩) fun obj s₁ e => ?_
  obtain ⟨rfl, rfl⟩ := e
  have hS : (s.heap.push { cls := .type "list", data := .seq #[] }).get? s.heap.objs.size = some { cls := .type "list", data := .seq #[] } := Heap.get?_push_size _ rfl
  refine ⟨⟨_, hS, rfl⟩, F.args_list_init_2 _ _, ?_⟩
  have kp0 : ∀ c o, s.heap.get? c = some o → (s.heap.push { cls := .type "list", data := .seq #[] }).get? c = some o := fun c o e => Heap.get?_push_of_some _ e
  show wpAny _ _ (do let old ← Builtin.List.listItems (.ref s.heap.objs.size); Builtin.List.listUpdate (.ref s.heap.objs.size) (fun _ => #[]); letGo old.toList.reverse; Builtin.List.listExtendWith (.ref s.heap.objs.size) (.ref z) .none) _ _ _
  refine wpAny_bind ?_
  unfold Builtin.List.listItems
  refine wpAny_bind (wpAny_seqItems hS rfl (wpAny_pure ?_))
  show wpAny _ _ (updateSeq s.heap.objs.size (fun _ => #[]) >>= fun _ => letGo (#[] : Array Value).toList.reverse >>= fun _ => Builtin.List.listExtendWith (.ref s.heap.objs.size) (.ref z) .none) _ _ _
  refine wpAny_bind (wpAny_updateSeq hS rfl ?_)
  have hS2 := Heap.get?_update_self (Obj.mapSeq (fun _ => (#[] : Array Value))) hS rfl
  have kp1 : ∀ c o, s.heap.get? c = some o → ((s.heap.push { cls := .type "list", data := .seq #[] }).update s.heap.objs.size (Obj.mapSeq (fun _ => (#[] : Array Value)))).get? c = some o :=
    fun c o e => (Heap.get?_update_other _ _ (Nat.ne_of_gt (Heap.lt_size e))).trans (kp0 c o e)
  refine wpAny_bind (wpAny_letGo ?_)
  generalize ((s.heap.push { cls := .type "list", data := .seq #[] }).update s.heap.objs.size (Obj.mapSeq (fun _ => (#[] : Array Value)))) = g1 at hS2 kp1 ⊢
  have hTy : ({ s with heap := g1 } : Shared).TypeIs (.ref z) "zip" := ⟨_, kp1 _ _ hz, rfl⟩
  unfold Builtin.List.listExtendWith
  refine wpAny_bind (wpAny_typeOf hTy ?_)
  have n1 : Builtin.List.listSameRef (.ref s.heap.objs.size) (.ref z) = false := by
    simp [Builtin.List.listSameRef, Nat.ne_of_gt (Heap.lt_size hz)]
  have n2 : (Value.type "zip" == Value.type "list") = false := by decide
  have n3 : (Value.type "zip" == Value.type "tuple") = false := by decide
  simp only [n1, n2, n3, Bool.or_false, Bool.false_eq_true, if_false]
  refine wpAny_bind (wpAny_pyIter_zip (kp1 _ _ hz) ?_)
  refine wpAny_bind (wpAny_holding ?_)
  unfold Builtin.List.listLengthHint
  refine wpAny_bind (wpAny_specialOf hTy zip_nolen ?_)
  show wpAny _ _ (specialOf (Value.ref z) (Str.ofString "__length_hint__") >>= _) _ _ _
  refine wpAny_bind (wpAny_specialOf hTy zip_nohint ?_)
  refine wpAny_pure ?_
  show wpAny _ _ (rule "list.extend.makes-room" >>= fun _ => Builtin.List.listTouch (.ref s.heap.objs.size) >>= fun _ =>
    again (.builtin "list.extend.loop" ⟨[.ref s.heap.objs.size, .ref z, .none], []⟩)) _ _ _
  refine wpAny_bind (wpAny_rule ?_)
  refine wpAny_bind ?_
  show wpAny _ _ (updateSeq s.heap.objs.size (·.push .none) >>= fun _ => updateSeq s.heap.objs.size (·.pop)) _ _ _
  refine wpAny_bind (wpAny_updateSeq hS2 rfl ?_)
  have hS3 := Heap.get?_update_self (Obj.mapSeq (·.push Value.none)) hS2 rfl
  refine wpAny_updateSeq (hz := by seq_fits) hS3 rfl ?_
  have hS4 := Heap.get?_update_self (Obj.mapSeq (·.pop)) hS3 rfl
  have kp2 : ∀ c o, s.heap.get? c = some o → ((g1.update s.heap.objs.size (Obj.mapSeq (·.push Value.none))).update s.heap.objs.size (Obj.mapSeq (·.pop))).get? c = some o :=
    fun c o e => (Heap.get?_update_other _ _ (Nat.ne_of_gt (Heap.lt_size e))).trans ((Heap.get?_update_other _ _ (Nat.ne_of_gt (Heap.lt_size e))).trans (kp1 c o e))
  generalize ((g1.update s.heap.objs.size (Obj.mapSeq (·.push Value.none))).update s.heap.objs.size (Obj.mapSeq (·.pop))) = g2 at hS4 kp2 ⊢
  have I2 : Inv X pins σ (upd H s.heap.objs.size (.lst [])) { s with heap := g2 } := by
    refine I.laid (t' := s.toks) kp2 (Nat.le_refl _) ⟨Nat.zero_le _, [], _, .nil, hS4⟩
  have sm : Same H (upd H s.heap.objs.size (.lst [])) := fun c o e => by
    rw [upd_ne (ne_of_none e new)]
    exact e
  have sqt : ∀ (c : Addr) (vs : List V), SqT X.K H c vs → SqT X.K (upd H s.heap.objs.size (.lst [])) c vs := by
    intro c vs q
    rcases q with (q | ⟨o, q⟩) | q
    · exact .inl (.inl (sm _ _ q))
    · exact .inl (.inr ⟨o, sm _ _ q⟩)
    · exact .inr q
  refine wpAny_pure ⟨plainId_quiet F.plain_extend_loop _, zl_loop D hl hln hSf hc new (fun ts H' s' I' sm' eS len tt => ⟨rfl, .ref s.heap.objs.size, H', I', rfl, q _ ts H' new sm' eS len tt⟩)
    xs.length 0 [] _ _ (Nat.sub_zero _) (Nat.zero_le _) rfl I2 sm (sqt a xs qa) (sqt b ys qb) upd_same (fun c hcm => ?_) (fun i t h => by simp at h) ?_⟩
  · have f := fp c hcm
    refine ⟨?_, f.2⟩
    rw [upd_ne (Nat.ne_of_lt (all5 c hcm))]
    exact f.1
  · exact ⟨kp2 _ _ hTI, h1.at fun o e => kp2 _ o e, h2.at fun o e => kp2 _ o e, .inl ⟨kp2 _ _ hz, _, _, kp2 _ _ hTO⟩⟩

/-- list(zip(e, e2)), two tuples of one length -/
theorem pe_lzip {e e2 : Expr} {ta : TA} {p p2 pos pos2 : Pos} (hc : X.calm = true) (hg : Gl X "list") (hm : X.mg "list" = none) (hg2 : Gl X "zip") (hm2 : X.mg "zip" = none) (ha : PA X [e, e2] ta)
    (hs : starEach [e, e2] X.env = (false, eval e X.env) :: starEach [e2] X.env := by rfl) (hpl : (backTo pos2 (starEach [e2] X.env)).any (·.1) = false := by rfl)
    (hs1 : starEach [.Call (.Name "zip" p2) [e, e2] [] pos2] X.env = [(false, eval (.Call (.Name "zip" p2) [e, e2] [] pos2) X.env)] := by rfl) :
    PE X (.Call (.Name "list" p) [.Call (.Name "zip" p2) [e, e2] [] pos2] [] pos)
      (fun σ H Q => ta σ H fun vs H1 => ∃ a b xs ys, vs = [.ref a, .ref b] ∧ SqT X.K H1 a xs ∧ SqT X.K H1 b ys ∧ xs.length = ys.length ∧ xs.length < sizeLine ∧ Zipped xs ys H1 Q) := by
  refine ⟨fun pins s σ H Q I h => ?_⟩
  refine Call_ (ld_blt I hg hm boot_list (PyProof.Rows.callWith_type1 (args_cons (Call_ (ld_blt I hg2 hm2 PyProof.Rows.boot_zip (PyProof.Rows.callWith_type1
    (thn (ha.run pos2 pins s σ H _ I h) fun us s1 ⟨vs, H1, I1, r1, q1⟩ => ?_) hs hpl))) hs1) hs1 rfl))
  obtain ⟨a, b, xs, ys, ex, qa, qb, hl, hln, q⟩ := q1
  subst ex
  cases r1 with
  | cons r rr =>
    cases rr with
    | cons r' rr =>
      cases rr
      cases r
      cases r'
      obtain ⟨its, rv, p1, _⟩ := I1.tuple qa
      obtain ⟨its2, rv2, p2', _⟩ := I1.tuple qb
      obtain ⟨o1, ho1, _⟩ := id p1
      obtain ⟨o2, ho2, _⟩ := id p2'
      refine call_zipT (show s1.heap.IsTuple a its.toArray from p1) (show s1.heap.IsTuple b its2.toArray from p2') fun h' hz hTI hTO h1 h2 hsz hk => ?_
      have I2 : Inv X pins σ H1 { s1 with heap := h' } := I1.kept (t' := s1.toks) hk
      refine args_nil (call_lzip (PySem.W.ktu_apart s1.heap.objs.size a b (Heap.lt_size ho1) (Heap.lt_size ho2)) hl hln hc I2 qa qb (fun c hcm => ?_) hz hTI hTO h1 h2 q)
      have hle : s1.heap.objs.size ≤ c := by
        simp only [List.mem_cons, List.not_mem_nil, or_false] at hcm
        rcases hcm with z | z | z | z | z
        · rw [z]; exact Nat.le_add_right _ _
        · rw [z]; exact Nat.le_add_right _ _
        · rw [z]; exact Nat.le_add_right _ _
        · rw [z]; exact Nat.le_refl _
        · rw [z]; exact Nat.le_add_right _ _
      exact I1.fpOk hle (I1.hok.fresh hle)
end
end KR
/-! setdefault where the keys are tuples -/
namespace KR
open PySem PySem.Spec PyProof.Rows L2
section
variable {X : Cx} {pins : List (Addr × Obj)} {σ : L2.St} {H : Hp} {s : Shared} {a b : Addr} {d : V} {r : Value} {A : Around} {E : Value → Shared → Prop} {kvs : List (List L2.Key × V)} {k : List L2.Key}
theorem d_setdT {Q : Value → Shared → Prop} (hu : A.units + 1 < cLine) (I : Inv X pins σ H s) (e : H a = some (.dT kvs)) (eb : H b = some (.tup (k.map kV))) (rd : RelV d r) (l : kvs.length < sizeLine)
    (h1 : ∀ v, valV kvs k = some v → ∀ w' s', Inv X pins σ H s' → RelV v w' → Q w' s')
    (h2 : valV kvs k = none → ∀ s', Inv X pins σ (upd H a (.dT (putK kvs k d))) s' → Q r s') :
    wpAny (model X.prog X.w) A (call (.builtin "dict.setdefault") [.ref a, .ref b, r]) Q E s := by
  obtain ⟨z, hd, xs, rel, dd⟩ := dt_of I.hok e
  have hz : xs.length ≤ sizeLine := by
    rw [← Paired.length rel]
    exact z
  have vk := rel.val k
  refine call_setdefault_heap (hsz := hz) (tupleKind_room_in1 hu) (key_of I.hok eb) hd dd (fun p hp => ?_) (fun hn h' dd' hs => ?_)
  · rw [hp] at vk
    cases q0 : valV kvs k with
    | none =>
      rw [q0] at vk
      exact (show False from vk).elim
    | some v0 =>
      rw [q0] at vk
      exact h1 v0 q0 _ _ (I.tok _) vk
  · rw [hn] at vk
    cases q0 : valV kvs k with
    | some v0 =>
      rw [q0] at vk
      exact (show False from vk).elim
    | none =>
      have hl : (putK kvs k d).length ≤ sizeLine := by
        have := length_putK kvs k d
        omega
      refine h2 q0 _ ?_
      obtain ⟨q, es, ep, hq, g2, g3, g4, _, g5⟩ := dd'
      refine d_write I (by rw [e]; exact True.intro) hs ⟨q, hq⟩ ⟨hl, hd, _, (rel.put k eb rd).keeps fun c ys ec => ?_, q, es, ep, hq, g2, g3, g4, g5⟩
      rw [upd_ne (ne_of ec e (fun z => nomatch z))]
      exact ec
end
/-- d.setdefault(y, z), keys that are tuples -/
def tDSetT (td ty tx : TE) : TE := fun σ H Q => td σ H fun x H1 => ∃ a, x = .ref a ∧ IsD H1 a ∧ ty σ H1 fun y H2 => tx σ H2 fun z H3 =>
  ∃ (kvs : List (List L2.Key × V)) (k : List L2.Key) (b : Addr), H3 a = some (.dT kvs) ∧ y = .ref b ∧ H3 b = some (.tup (k.map kV)) ∧ kvs.length < sizeLine ∧
  (∀ v, valV kvs k = some v → Q v H3) ∧ (valV kvs k = none → Q z (upd H3 a (.dT (putK kvs k z))))
theorem pe_dsetdT {X : Cx} {o e f : Expr} {td ty tx : TE} {apos cpos : Pos} (hu : X.A.units + 1 < cLine) (ho : PE X o td) (he : PE X e ty) (hf : PE X f tx) (m : M2 X o "setdefault" apos e f cpos) :
    PE X (.Call (.Attribute o "setdefault" apos) [e, f] [] cpos) (tDSetT td ty tx) := by
  refine ⟨fun pins s σ H Q I h => ?_⟩
  refine wpAny_Call_method m.base m.few m.line PySem.F.plainAttrs_dict PySem.F.slot_dict_setdefault PySem.F.type_dict_setdefault
    (thn (ho.run pins s σ H _ I h) fun u s1 ⟨x, H1, I1, rx, a, ex, d, q1⟩ => ?_)
  subst ex
  obtain rfl : u = Value.ref a := rx
  obtain ⟨t1, t2, _⟩ := isD_at I1 d
  refine ⟨t1, t2, ?_⟩
  rw [m.trees]
  refine Calls.callWith_builtin rfl (Calls.evalArgs_plain (Calls.spliced_cons (thn (he.run pins s1 σ H1 _ I1 q1) fun iv s2 ⟨y, H2, I2, ry, q2⟩ =>
    Calls.spliced_cons (thn (hf.run pins s2 σ H2 _ I2 q2) fun fv s3 ⟨z, H3, I3, rz, kvs, k, b, ea, ey, eb, hl, q3, q4⟩ => Calls.spliced_nil ?_))))
  subst ey
  cases (show iv = Value.ref b from ry)
  exact d_setdT hu I3 ea eb rz hl (fun v hv w' s4 I4 rw' => ⟨v, _, I4, rw', q3 v hv⟩) fun hn s4 I4 => ⟨z, _, I4, rz, q4 hn⟩
end KR
/-! short words: a def by its name and promise -/
namespace KR
open PySem PySem.Spec PyProof.Rows L2

/-- the built-ins that the text does not hide -/
structure Bt (mg : Str → Option Value) : Prop where
  len : mg "len" = none
  range : mg "range" = none
  enumerate : mg "enumerate" = none
  zip : mg "zip" = none
  isinstance : mg "isinstance" = none
  int : mg "int" = none
  bool : mg "bool" = none
  tuple : mg "tuple" = none
  list : mg "list" = none
  max : mg "max" = none
  min : mg "min" = none
  repr : mg "repr" = none
  set : mg "set" = none
  sum : mg "sum" = none
  sorted : mg "sorted" = none
def Cst (mg : Str → Option Value) (x : Str) (v : Int) : Prop := ∃ t, mg x = some (.int v t)
def DefAt (K : PySem.W.Frag) (mg : Str → Option Value) (x : Str) (st : Stmt) : Prop := ∃ f fd, Fun K x x st f fd ∧ mg x = some (.ref f)
def Use (P : Program) (w : World) (K : PySem.W.Frag) (mg : Str → Option Value) (base : Heap) (x : Str) (k : Nat) (ps : List Str) (sp : Sp) : Prop :=
  ∃ f fd, FnOk P w K mg base CX0 k f fd ps sp ∧ mg x = some (.ref f) ∧ PySem.W.keepIn K (.ref f) = true ∧ Binds K fd ps []
def UseG (P : Program) (w : World) (K : PySem.W.Frag) (mg : Str → Option Value) (base : Heap) (x : Str) (k : Nat) (ps : List Str) (sp : Sp) : Prop :=
  ∃ f fd, FnG P w K mg base k f fd ps sp ∧ mg x = some (.ref f) ∧ PySem.W.keepIn K (.ref f) = true ∧ Binds K fd ps []

section
variable {P : Program} {w : World} {K : PySem.W.Frag} {mg : Str → Option Value} {base : Heap} {x : Str} {st : Stmt} {k : Nat} {ps : List Str} {sp : Sp}
theorem use_of (D : DefAt K mg x st) (ok : ∀ f fd, Fun K x x st f fd → FnOk P w K mg base CX0 k f fd ps sp)
    (h : ∀ (kV doc pm : Value) (an : Option Addr) (cdv ct : Value) (us : List Value), us.length = ps.length → bindArgs (PySem.W.fnOf x x (defArgs st) (defBody st) (defScope st) .none kV doc pm an cdv ct) ⟨us, []⟩ = pure (ps.zip us)) :
    Use P w K mg base x k ps sp := by
  obtain ⟨f, fd, F, hm⟩ := D
  exact ⟨f, fd, ok f fd F, hm, F.kp, F.binds h⟩
theorem use_ofG (D : DefAt K mg x st) (ok : ∀ f fd, Fun K x x st f fd → FnG P w K mg base k f fd ps sp)
    (h : ∀ (kV doc pm : Value) (an : Option Addr) (cdv ct : Value) (us : List Value), us.length = ps.length → bindArgs (PySem.W.fnOf x x (defArgs st) (defBody st) (defScope st) .none kV doc pm an cdv ct) ⟨us, []⟩ = pure (ps.zip us)) :
    UseG P w K mg base x k ps sp := by
  obtain ⟨f, fd, F, hm⟩ := D
  exact ⟨f, fd, ok f fd F, hm, F.kp, F.binds h⟩
end
section
variable {X : Cx} {x : Str} {j k : Nat} {ps : List Str} {sp : Sp} {e : Expr} {es : List Expr} {t : TA} {p pos : Pos} {v : Int}
theorem pe_use (u : Use X.prog X.w X.K X.mg X.base x j ps sp) (le : j ≤ k) (hr : Room k X.A) (hg : Gl X x) (ha : PA X (e :: es) t)
    (hdb : (x == ("__debug__" : Str)) = false := by decide) (he : starEach (e :: es) X.env = (false, eval e X.env) :: starEach es X.env := by rfl)
    (hpl : (backTo pos (starEach es X.env)).any (·.1) = false := by rfl) : PE X (.Call (.Name x p) (e :: es) [] pos) (tCall sp [] E0 t) := by
  obtain ⟨f, fd, F, hm, kp, b⟩ := u
  exact pe_call F (hr.mono le) hg hm kp b .nil pass0 ha hdb he hpl
theorem pe_useG (u : UseG X.prog X.w X.K X.mg X.base x j ps sp) (gd : X.A.guards = some []) (le : j ≤ k) (hr : Room k X.A) (hg : Gl X x) (ha : PA X (e :: es) t)
    (hdb : (x == ("__debug__" : Str)) = false := by decide) (he : starEach (e :: es) X.env = (false, eval e X.env) :: starEach es X.env := by rfl)
    (hpl : (backTo pos (starEach es X.env)).any (·.1) = false := by rfl) : PE X (.Call (.Name x p) (e :: es) [] pos) (tCall sp [] E0 t) := by
  obtain ⟨f, fd, F, hm, kp, b⟩ := u
  exact pe_callG F gd (hr.mono le) hg hm kp b .nil ha hdb he hpl
theorem pe_cst (hg : Gl X x) (h : Cst X.mg x v) (hd : (x == ("__debug__" : Str)) = false := by decide) : PE X (.Name x pos) (tC (.int v)) := by
  obtain ⟨t, h⟩ := h
  exact pe_glob hg h ⟨t, rfl⟩ hd
end
/-- seqs kept -/
theorem sameT {K : PySem.W.Frag} {H H' : Hp} {a : Addr} {xs : List V} (e : Same H H') (h : SqT K H a xs) : SqT K H' a xs := by
  rcases h with (h | ⟨o, h⟩) | h
  · exact .inl (.inl (e _ _ h))
  · exact .inl (.inr ⟨o, e _ _ h⟩)
  · exact .inr h
theorem same_new {H : Hp} {p : Addr} {o : HO} (h : H p = none) : Same H (upd H p o) := fun b x e => by
  rw [upd_ne (ne_of_none e h)]
  exact e
/-- an object that H does not know was changed -/
theorem same_mut {H H' : Hp} {p : Addr} {o : HO} (e : Same H H') (h : H p = none) : Same H (upd H' p o) := fun a u ha => by
  rw [upd_ne (ne_of_none ha h)]
  exact e a u ha
theorem sqT {K : PySem.W.Frag} {H : Hp} {a : Addr} {xs : List V} (h : H a = some (.tup xs)) : SqT K H a xs := .inl (.inl h)
theorem sqL {K : PySem.W.Frag} {H : Hp} {a : Addr} {xs : List V} (h : H a = some (.lst xs)) : SqL K H a xs := .inl (.inl h)
end KR
/-! loops over enumerate(tuple), over a tuple, over a range, by an invariant -/
namespace KR
open PySem PySem.Spec PyProof.Rows L2
theorem for_enumT {K : PySem.W.Frag} {a : Addr} {xs : List V} {g : TG} {tb : TS} {D : Ends} {σ : L2.St} {H : Hp} (Pv : Nat → L2.St → Hp → Prop) (h0 : Pv 0 σ H)
    (hq : ∀ i σ H, Pv i σ H → SqT K H a xs)
    (hs : ∀ (i : Nat) (x : V) (T : Addr) (σ : L2.St) (H : Hp), xs[i]? = some x → Pv i σ H → H T = none →
      g (.ref T) σ (upd H T (.tup [.int (i : Nat), x])) fun σ2 H2 => tb { D with nx := Pv (i + 1), ct := Pv (i + 1), bk := D.nx } σ2 H2)
    (hd : ∀ σ H, Pv xs.length σ H → D.nx σ H) :
    ∃ W : Nat → Nat → L2.St → Hp → Prop, (∃ m, W 0 m σ H) ∧ ∀ i m σ H, W i m σ H →
      ((IteT K a).stop i H ∧ D.nx σ H) ∨ ((IteT K a).go i H ∧ ∃ N : L2.St → Hp → Prop, (∀ σ' H', N σ' H' → ∃ m', m' < m ∧ W (i + 1) m' σ' H') ∧
        ∀ v H', (IteT K a).yld i H v H' → g v σ H' fun σ2 H2 => tb { D with nx := N, ct := N, bk := D.nx } σ2 H2) := by
  refine ⟨fun i m σ H => m = xs.length - i ∧ i ≤ xs.length ∧ Pv i σ H, ⟨xs.length, rfl, Nat.zero_le _, h0⟩, ?_⟩
  rintro i m σ H ⟨rfl, hi, p⟩
  have q := hq i σ H p
  by_cases hlt : i < xs.length
  · have hx : xs[i]? = some xs[i] := List.getElem?_eq_getElem hlt
    refine .inr ⟨⟨xs, _, q, hx⟩, Pv (i + 1), fun σ' H' p' => ⟨xs.length - (i + 1), by omega, rfl, hlt, p'⟩, fun v H' y => ?_⟩
    obtain ⟨T, x', rfl, hT, rfl, f1⟩ := y
    exact hs i x' T σ H (f1 xs q) p hT
  · have e : i = xs.length := by omega
    subst e
    exact .inl ⟨⟨xs, q, Nat.le_refl _⟩, hd σ H p⟩
theorem for_enumL {K : PySem.W.Frag} {a : Addr} {xs : List V} {g : TG} {tb : TS} {D : Ends} {σ : L2.St} {H : Hp} (Pv : Nat → L2.St → Hp → Prop) (h0 : Pv 0 σ H)
    (hq : ∀ i σ H, Pv i σ H → SqL K H a xs)
    (hs : ∀ (i : Nat) (x : V) (T : Addr) (σ : L2.St) (H : Hp), xs[i]? = some x → Pv i σ H → H T = none →
      g (.ref T) σ (upd H T (.tup [.int (i : Nat), x])) fun σ2 H2 => tb { D with nx := Pv (i + 1), ct := Pv (i + 1), bk := D.nx } σ2 H2)
    (hd : ∀ σ H, Pv xs.length σ H → D.nx σ H) :
    ∃ W : Nat → Nat → L2.St → Hp → Prop, (∃ m, W 0 m σ H) ∧ ∀ i m σ H, W i m σ H →
      ((Ite K a).stop i H ∧ D.nx σ H) ∨ ((Ite K a).go i H ∧ ∃ N : L2.St → Hp → Prop, (∀ σ' H', N σ' H' → ∃ m', m' < m ∧ W (i + 1) m' σ' H') ∧
        ∀ v H', (Ite K a).yld i H v H' → g v σ H' fun σ2 H2 => tb { D with nx := N, ct := N, bk := D.nx } σ2 H2) := by
  refine ⟨fun i m σ H => m = xs.length - i ∧ i ≤ xs.length ∧ Pv i σ H, ⟨xs.length, rfl, Nat.zero_le _, h0⟩, ?_⟩
  rintro i m σ H ⟨rfl, hi, p⟩
  have q := hq i σ H p
  by_cases hlt : i < xs.length
  · have hx : xs[i]? = some xs[i] := List.getElem?_eq_getElem hlt
    refine .inr ⟨⟨xs, _, q, hx⟩, Pv (i + 1), fun σ' H' p' => ⟨xs.length - (i + 1), by omega, rfl, hlt, p'⟩, fun v H' y => ?_⟩
    obtain ⟨T, x', rfl, hT, rfl, f1⟩ := y
    exact hs i x' T σ H (f1 xs q) p hT
  · have e : i = xs.length := by omega
    subst e
    exact .inl ⟨⟨xs, q, Nat.le_refl _⟩, hd σ H p⟩
/-- an item of a mapped list -/
theorem map_at {α β : Type} {f : α → β} {xs : List α} {i : Nat} {y : β} (h : (xs.map f)[i]? = some y) : ∃ x, xs[i]? = some x ∧ y = f x := by
  rw [List.getElem?_map] at h
  cases e : xs[i]? with
  | none =>
    rw [e] at h
    cases h
  | some x =>
    rw [e] at h
    exact ⟨x, rfl, (Option.some.inj h).symm⟩
theorem at_map {α β : Type} {f : α → β} {xs : List α} {i : Nat} {x : α} (h : xs[i]? = some x) : (xs.map f)[i]? = some (f x) := by
  rw [List.getElem?_map, h]
  rfl
/-- a seq's place -/
theorem atI_of {xs : List V} {i : Int} {j : Nat} {v : V} (e : i = (j : Int)) (h : xs[j]? = some v) : atI xs i = some v := at_of e h
end KR
/-! comprehensions of two clauses: a list, then a range -/
namespace KR
open PySem PySem.Spec PyProof.Rows L2
theorem in_range {lo : Int} {n : Nat} {g1 : TG} {tt1 : TT} {te : TE} {vs1 : List Nat} {σ2 : L2.St} {H4 : Hp} {D : Addr} {Nx : Hp → Prop} (Pw : Nat → Hp → Prop) (h0 : Pw 0 H4)
    (hs : ∀ j H, j < n → Pw j H → g1 (.int (lo + (j : Nat))) (wipe σ2 vs1) H fun σ3 H5 => wipe σ3 vs1 = wipe σ2 vs1 ∧ tt1 σ3 H5 fun b H6 =>
      if b = true then te σ3 H6 fun y H7 => ∃ acc, H7 D = some (.lst acc) ∧ acc.length < sizeLine ∧ Pw (j + 1) (upd H7 D (.lst (acc ++ [y]))) else Pw (j + 1) H6)
    (hd : ∀ H, Pw n H → Nx H) :
    ∃ W1 : Nat → Nat → Hp → Prop, (∃ m, W1 0 m H4) ∧ ∀ j k H, W1 j k H →
      ((Itr lo n).stop j H ∧ Nx H) ∨ ((Itr lo n).go j H ∧ ∃ Nx1 : Hp → Prop, (∀ H', Nx1 H' → ∃ k', k' < k ∧ W1 (j + 1) k' H') ∧
        ∀ x H', (Itr lo n).yld j H x H' → g1 x (wipe σ2 vs1) H' fun σ3 H5 => wipe σ3 vs1 = wipe σ2 vs1 ∧ tt1 σ3 H5 fun b H6 =>
          if b = true then te σ3 H6 fun y H7 => ∃ acc, H7 D = some (.lst acc) ∧ acc.length < sizeLine ∧ Nx1 (upd H7 D (.lst (acc ++ [y]))) else Nx1 H6) := by
  refine ⟨fun j k H => k = n - j ∧ j ≤ n ∧ Pw j H, ⟨n, by simp, Nat.zero_le _, h0⟩, ?_⟩
  rintro j k H ⟨rfl, hj, p⟩
  by_cases hlt : j < n
  · refine .inr ⟨hlt, Pw (j + 1), fun H' p' => ⟨n - (j + 1), by omega, rfl, hlt, p'⟩, fun x H' y => ?_⟩
    obtain ⟨e, y⟩ := y
    subst e y
    exact hs j _ hlt p
  · have e : j = n := by omega
    subst e
    exact .inl ⟨Nat.le_refl _, hd H p⟩
theorem lc2_list {K : PySem.W.Frag} {a : Addr} {xs : List V} {g : TG} {tt : TT} {wi1 : TI} {g1 : TG} {tt1 : TT} {te : TE} {vs vs1 : List Nat} {σ : L2.St} {H1 : Hp} {D : Addr} {Qd : Hp → Prop}
    (Pv : Nat → Hp → Prop) (h0 : Pv 0 (upd H1 D (.lst []))) (hl : ∀ i H, i ≤ xs.length → Pv i H → SqL K H a xs)
    (hs : ∀ i x H, xs[i]? = some x → Pv i H → g x (wipe σ vs) H fun σ2 H2 => wipe σ2 vs = wipe σ vs ∧ tt σ2 H2 fun b H3 =>
      if b = true then wi1 σ2 H3 fun J1 H4 => ∃ W1 : Nat → Nat → Hp → Prop, (∃ m, W1 0 m H4) ∧ ∀ j k H, W1 j k H →
        (J1.stop j H ∧ Pv (i + 1) H) ∨ (J1.go j H ∧ ∃ Nx1 : Hp → Prop, (∀ H', Nx1 H' → ∃ k', k' < k ∧ W1 (j + 1) k' H') ∧ ∀ x H', J1.yld j H x H' →
          g1 x (wipe σ2 vs1) H' fun σ3 H5 => wipe σ3 vs1 = wipe σ2 vs1 ∧ tt1 σ3 H5 fun b H6 =>
          if b = true then te σ3 H6 fun y H7 => ∃ acc, H7 D = some (.lst acc) ∧ acc.length < sizeLine ∧ Nx1 (upd H7 D (.lst (acc ++ [y]))) else Nx1 H6)
      else Pv (i + 1) H3) (hd : ∀ H, Pv xs.length H → Qd H) :
    ∃ W : Nat → Nat → Hp → Prop, (∃ m, W 0 m (upd H1 D (.lst []))) ∧ ∀ i m H, W i m H →
      ((Itl K a).stop i H ∧ Qd H) ∨ ((Itl K a).go i H ∧ ∃ Nx : Hp → Prop, (∀ H', Nx H' → ∃ m', m' < m ∧ W (i + 1) m' H') ∧ ∀ x H', (Itl K a).yld i H x H' →
        g x (wipe σ vs) H' fun σ2 H2 => wipe σ2 vs = wipe σ vs ∧ tt σ2 H2 fun b H3 =>
        if b = true then wi1 σ2 H3 fun J1 H4 => ∃ W1 : Nat → Nat → Hp → Prop, (∃ m, W1 0 m H4) ∧ ∀ j k H, W1 j k H →
          (J1.stop j H ∧ Nx H) ∨ (J1.go j H ∧ ∃ Nx1 : Hp → Prop, (∀ H', Nx1 H' → ∃ k', k' < k ∧ W1 (j + 1) k' H') ∧ ∀ x H', J1.yld j H x H' →
            g1 x (wipe σ2 vs1) H' fun σ3 H5 => wipe σ3 vs1 = wipe σ2 vs1 ∧ tt1 σ3 H5 fun b H6 =>
            if b = true then te σ3 H6 fun y H7 => ∃ acc, H7 D = some (.lst acc) ∧ acc.length < sizeLine ∧ Nx1 (upd H7 D (.lst (acc ++ [y]))) else Nx1 H6)
        else Nx H3) := by
  refine ⟨fun i m H => m = xs.length - i ∧ i ≤ xs.length ∧ Pv i H, ⟨xs.length, by simp, Nat.zero_le _, h0⟩, ?_⟩
  rintro i m H ⟨rfl, hi, p⟩
  have q := hl i H hi p
  by_cases hlt : i < xs.length
  · refine .inr ⟨⟨xs, xs[i], q, by simp [hlt]⟩, Pv (i + 1), fun H' p' => ⟨xs.length - (i + 1), by omega, rfl, hlt, p'⟩, fun x H' y => ?_⟩
    obtain ⟨e, y⟩ := y
    subst e
    exact hs i x _ (y xs q) p
  · have e : i = xs.length := by omega
    subst e
    exact .inl ⟨⟨xs, q, Nat.le_refl _⟩, hd H p⟩
end KR
/-! the rules with the written part told, for a comprehension's block -/
namespace KR
open PySem PySem.Spec PyProof.Rows L2
section
variable {X : Cx} {K : PySem.W.Frag} {tg l e e2 o : Expr} {tl te to : TE} {ta t : TA} {es : List Expr} {T id : String} {r : V → List V → Hp → VK → Prop} {name : Str}
theorem k_ixl (hK : X.K = K) : IxR X (rIxL K) := by
  subst hK
  exact ix_list
theorem k_ixt (hK : X.K = K) : IxR X (rIxT K) := by
  subst hK
  exact ix_tup
theorem k_list (hK : X.K = K) (hl : PE X l tl) : PI X tg l (iList K tl) := by
  subst hK
  exact pi_list hl
theorem k_tup (hK : X.K = K) (hl : PE X l tl) : PI X tg l (iTup K tl) := by
  subst hK
  exact pi_tup hl
theorem k_isi (hK : X.K = K) : CallR X (.builtin "isinstance") (rIsi K) := by
  subst hK
  exact call_isi
theorem k_slt (hK : X.K = K) : SlR X (rSlT K) := by
  subst hK
  exact sl_tup
theorem k_sll (hK : X.K = K) : SlR X (rSlL K) := by
  subst hK
  exact sl_list
theorem k_catT (hK : X.K = K) : OpR X (binaryOp .Add) (rCatT K) := by
  subst hK
  exact op_catT
theorem k_in (hK : X.K = K) : OpR X (compareOp .In) (rIn K false) := by
  subst hK
  exact op_in_seq
theorem k_notIn (hK : X.K = K) : OpR X (compareOp .NotIn) (rIn K true) := by
  subst hK
  exact op_notIn_seq
def rLenK (K : PySem.W.Frag) : List V → Hp → VK → Prop := fun xs H Q => ∃ p ys, xs = [.ref p] ∧ (SqL K H p ys ∨ SqT K H p ys) ∧ Q (.int ys.length) H
theorem k_len (hK : X.K = K) : CallR X (.builtin "len") (rLenK K) := by
  subst hK
  exact call_len_seq
def rListK (K : PySem.W.Frag) : List V → Hp → VK → Prop := fun xs H Q => ∃ p ys, xs = [.ref p] ∧ (SqL K H p ys ∨ SqT K H p ys) ∧ ∀ l, H l = none → Q (.ref l) (upd H l (.lst ys))
theorem k_listOf (hK : X.K = K) : CallR X (.type "list") (rListK K) := by
  subst hK
  exact call_list_of
def rTupK (K : PySem.W.Frag) : List V → Hp → VK → Prop := fun xs H Q => ∃ p ys, xs = [.ref p] ∧ ((SqL K H p ys ∧ ∀ l, H l = none → Q (.ref l) (upd H l (.tup ys))) ∨ (SqT K H p ys ∧ Q (.ref p) H))
theorem k_tupOf (hK : X.K = K) : CallR X (.type "tuple") (rTupK K) := by
  subst hK
  exact call_tuple_of
theorem k_eqD (hK : X.K = K) (hu : X.A.units + 64 < cLine) : OpR X (compareOp .Eq) (rEqD K) := by
  subst hK
  exact op_eqD hu
theorem k_neD (hK : X.K = K) (hu : X.A.units + 64 < cLine) : OpR X (compareOp .NotEq) (rNeD K) := by
  subst hK
  exact op_neD hu
theorem k_maxT (hK : X.K = K) (hc : X.calm = true) (hu : X.A.units + 64 < cLine) : CallR X (.builtin "max") (rMaxT K) := by
  subst hK
  exact call_maxT hc hu
theorem k_max (hK : X.K = K) (hc : X.calm = true) : CallR X (.builtin "max") (rMax K) := by
  subst hK
  exact cr_max hc
theorem k_sum (hK : X.K = K) (hc : X.calm = true) : CallR X (.builtin "sum") (rSum K) := by
  subst hK
  exact cr_sum hc
theorem k_repr (hK : X.K = K) (gd : X.A.guards = some []) (hu : X.A.units + 64 < cLine) : CallR X (.builtin "repr") (rRepr K) := by
  subst hK
  exact call_reprD gd hu
theorem k_enumT {p pos tpos : Pos} {elts : List Expr} {kk : Nat} (hK : X.K = K) (hg : Gl X "enumerate") (hm : X.mg "enumerate" = none) (ha : PA X [e] ta)
    (hs : starEach [e] X.env = [(false, eval e X.env)] := by rfl) : PI X (.Tuple elts kk tpos) (.Call (.Name "enumerate" p) [e] [] pos) (iEnumT K ta) := by
  subst hK
  exact pi_enumT hg hm ha hs
theorem k_enum {p pos tpos : Pos} {elts : List Expr} {kk : Nat} (hK : X.K = K) (hg : Gl X "enumerate") (hm : X.mg "enumerate" = none) (ha : PA X [e] ta)
    (hs : starEach [e] X.env = [(false, eval e X.env)] := by rfl) : PI X (.Tuple elts kk tpos) (.Call (.Name "enumerate" p) [e] [] pos) (iEnum K ta) := by
  subst hK
  exact pi_enum hg hm ha hs
theorem k_zip {p pos tpos : Pos} {elts : List Expr} {kk : Nat} (hK : X.K = K) (hg : Gl X "zip") (hm : X.mg "zip" = none) (ha : PA X [e, e2] ta)
    (hs : starEach [e, e2] X.env = (false, eval e X.env) :: starEach [e2] X.env := by rfl) (hpl : (backTo pos (starEach [e2] X.env)).any (·.1) = false := by rfl) :
    PI X (.Tuple elts kk tpos) (.Call (.Name "zip" p) [e, e2] [] pos) (RZ.iZipA K ta) := by
  subst hK
  exact RZ.pi_zipA hg hm ha hs hpl
def tLzip (K : PySem.W.Frag) (ta : TA) : TE := fun σ H Q => ta σ H fun vs H1 => ∃ a b xs ys, vs = [.ref a, .ref b] ∧ SqT K H1 a xs ∧ SqT K H1 b ys ∧ xs.length = ys.length ∧ xs.length < sizeLine ∧ Zipped xs ys H1 Q
theorem k_lzip {p p2 pos pos2 : Pos} (hK : X.K = K) (hc : X.calm = true) (hg : Gl X "list") (hm : X.mg "list" = none) (hg2 : Gl X "zip") (hm2 : X.mg "zip" = none) (ha : PA X [e, e2] ta)
    (hs : starEach [e, e2] X.env = (false, eval e X.env) :: starEach [e2] X.env := by rfl) (hpl : (backTo pos2 (starEach [e2] X.env)).any (·.1) = false := by rfl)
    (hs1 : starEach [.Call (.Name "zip" p2) [e, e2] [] pos2] X.env = [(false, eval (.Call (.Name "zip" p2) [e, e2] [] pos2) X.env)] := by rfl) :
    PE X (.Call (.Name "list" p) [.Call (.Name "zip" p2) [e, e2] [] pos2] [] pos) (tLzip K ta) := by
  subst hK
  exact pe_lzip hc hg hm hg2 hm2 ha hs hpl hs1
theorem k_bm {apos cpos : Pos} (hK : X.K = K) (pa : PlainAttrs T) (slot : Slot T name id) (hty : typeOf (.builtin id) = pure (.type "method_descriptor")) (hm : MtR X id r) (ho : PE X o to) (ha : PA X (e :: es) t)
    (hbase : attributeBase o name X.env (eval o X.env) = eval o X.env := by rfl)
    (hfew : ((backTo cpos (starEach (e :: es) X.env)).all (fun x => !x.1) && (backToKw cpos (keywordEach [] X.env)).all (fun x => x.1.isSome)
      && decide ((e :: es).length + ([] : List Keyword).length + (if ([] : List Keyword).isEmpty then 0 else 1) < 30)) = true := by rfl)
    (hline : (apos.endLine == cpos.line) = true := by rfl) (hs : starEach (e :: es) X.env = (false, eval e X.env) :: starEach es X.env := by rfl)
    (hplain : (backTo cpos (starEach es X.env)).any (·.1) = false := by rfl) : PE X (.Call (.Attribute o name apos) (e :: es) [] cpos) (tBM K T r to t) := by
  subst hK
  exact pe_bm pa slot hty hm ho ha hbase hfew hline hs hplain
theorem k_star {p : Pos} {e : Expr} (hK : X.K = K) (he : PE X e te) (hr : PA X es t) (hs : starEach (.Starred e p :: es) X.env = (true, eval e X.env) :: starEach es X.env := by rfl) : PA X (.Starred e p :: es) (StX.tStar K te t) := by
  subst hK
  exact StX.pa_star he hr hs
theorem k_fld {apos : Pos} {f : Str} (hK : X.K = K) (h : PE X o te) (hx : attributeBase o f X.env (eval o X.env) = eval o X.env) : PE X (.Attribute o f apos) (tFld K te f) := by
  subst hK
  exact pe_fld h hx
end
end KR
/-! functions of math, called by a name that the text brings in -/
namespace KR
open PySem PySem.Spec PyProof.Rows L2
section
variable {X : Cx}
theorem pe_callM {x : Str} {id : String} {e : Expr} {es : List Expr} {p pos : Pos} {r : List V → Hp → VK → Prop} {t : TA} (hc : CallR X (.builtin id) r) (hg : Gl X x) (hm : X.mg x = some (.builtin id)) (ha : PA X (e :: es) t)
    (hdb : (x == ("__debug__" : Str)) = false := by decide) (he : starEach (e :: es) X.env = (false, eval e X.env) :: starEach es X.env := by rfl)
    (hpl : (backTo pos (starEach es X.env)).any (·.1) = false := by rfl) : PE X (.Call (.Name x p) (e :: es) [] pos) (tCB r t) := by
  refine ⟨fun pins s σ H Q I h => ?_⟩
  refine Call_ (ld_glob I hg hm ?_ hdb)
  refine PyProof.Rows.callWith_builtin1 ?_ he hpl
  refine thn (ha.run pos pins s σ H _ I h) fun vs s1 ⟨xs, H1, I1, hv, q1⟩ => ?_
  exact hc pins s1 σ H1 xs vs Q I1 hv q1
def rFac : List V → Hp → VK → Prop := fun vs H Q => ∃ n : Nat, vs = [.int (n : Int)] ∧ n ≤ 100 ∧ Q (.int ((Builtin.Math.factorialNat n : Nat) : Int)) H
theorem fac_log : ∀ n : _root_.Fin 101, ((Builtin.Math.factorialNat n.val : Nat) : Int).natAbs.log2 < PySem.bitsLine := by decide +kernel
theorem cr_fac : CallR X (.builtin "math.factorial") rFac := by
  intro pins s σ H xs us Q I hv h
  obtain ⟨n, rfl, hn, q⟩ := h
  cases hv with
  | cons hu hr =>
    cases hr
    obtain ⟨t, rfl⟩ := hu
    refine PySem.W.mg_factorial ?_ ?_ ?_ (fac_log ⟨n, by omega⟩) ⟨.int _, H, I.tok _, ⟨_, rfl⟩, q⟩
    · show ¬ (n : Int) > 2 ^ 63 - 1
      omega
    · omega
    · show ¬ (n : Int) > 20000
      omega
def rComb : List V → Hp → VK → Prop := fun vs H Q => ∃ a b : Nat, vs = [.int (a : Int), .int (b : Int)] ∧ a ≤ 1000 ∧ b ≤ 1000 ∧ Q (.int (PySem.W.mcComb a b)) H
theorem cr_comb : CallR X (.builtin "math.comb") rComb := by
  intro pins s σ H xs us Q I hv h
  obtain ⟨a, b, rfl, ha, hb, q⟩ := h
  cases hv with
  | cons hu hr =>
    cases hr with
    | cons hw hr =>
      cases hr
      obtain ⟨t, rfl⟩ := hu
      obtain ⟨t2, rfl⟩ := hw
      exact PySem.W.mc_comb (by omega) (by omega) (by omega) (.inl (by omega)) fun _ => ⟨.int _, H, I.tok _, ⟨_, rfl⟩, q⟩
end
end KR
namespace KQ
open PySem PySem.Spec PyProof.Rows L2 KR
def topS (i : Nat) : Stmt := PySem.Challenge.pw_fittingdoors_k37_forms_counted_and_liste.main.body.getD i (.Pass ⟨0, 0, 0, 0⟩)
section
variable {P : Program} {w : World} {K : PySem.W.Frag} {mg : Str → Option Value} {base : Heap}
abbrev s_is_integer : Stmt := topS 5
theorem sc_is_integer : FnScope ["value"] ["value"] (defScope s_is_integer) := ⟨rfl, rfl, rfl, by decide +kernel, rfl, by decide +kernel, by decide +kernel⟩
def spIsInteger : Sp := fun vs H Q _ => ∃ i : Int, vs = [.int i] ∧ Q (.bl true) H
theorem ok_is_integer (D : DefAt K mg "is_integer" s_is_integer) (T : Bt mg) : Use P w K mg base "is_integer" 1 ["value"] spIsInteger := by
  refine use_of D (fun f fd F => F.ok sc_is_integer (fun vs H Q E h => ?_) (fun cdv A outer s H vs Q E hr h => ?_)) (fun _ _ _ _ _ _ us hl => match us, hl with | [_], _ => rfl)
  · obtain ⟨i, rfl, _⟩ := h
    rfl
  · obtain ⟨i, rfl, q⟩ := h
    refine ⟨_, (pss_one (ps_ret (pe_and (pe_callB (k_isi (K := K) rfl) (by rfl) T.isinstance (by decide +kernel) (pa_cons (pv 0) (pa_cons (pe_bltn (v := .ty "int") (by rfl) T.int (by decide +kernel) rfl) pa_nil))) (pe_one (pe_not (pe_callB (k_isi (K := K) rfl) (by rfl) T.isinstance (by decide +kernel) (pa_cons (pv 0) (pa_cons (pe_bltn (v := .ty "bool") (by rfl) T.bool (by decide +kernel) rfl) pa_nil)))))))), ?_⟩
    refine ⟨_, rfl, _, _, _, _, true, rfl, .ty _, .base (.int i), kit_ty (by decide +kernel), true, rfl, iteT ?_⟩
    exact ⟨_, rfl, _, _, _, _, false, rfl, .ty _, .base (.int i), kit_ty (by decide +kernel), _, rfl, q⟩
abbrev s_is_integer_within : Stmt := topS 6
theorem sc_is_integer_within : FnScope ["value", "least", "most"] ["value", "least", "most"] (defScope s_is_integer_within) := ⟨rfl, rfl, rfl, by decide +kernel, rfl, by decide +kernel, by decide +kernel⟩
def spIntW : Sp := fun vs H Q _ => ∃ i lo hi : Int, vs = [.int i, .int lo, .int hi] ∧ Q (.bl (decide (lo ≤ i ∧ i ≤ hi))) H
theorem ok_is_integer_within (D : DefAt K mg "is_integer_within" s_is_integer_within) (T : Bt mg) (u_is_integer : Use P w K mg base "is_integer" 1 ["value"] spIsInteger) :
    Use P w K mg base "is_integer_within" 2 ["value", "least", "most"] spIntW := by
  refine use_of D (fun f fd F => F.ok sc_is_integer_within (fun vs H Q E h => ?_) (fun cdv A outer s H vs Q E hr h => ?_)) (fun _ _ _ _ _ _ us hl => match us, hl with | [_, _, _], _ => rfl)
  · obtain ⟨i, lo, hi, rfl, _⟩ := h
    rfl
  · obtain ⟨i, lo, hi, rfl, q⟩ := h
    refine ⟨_, (pss_one (ps_ret (pe_and (pe_use u_is_integer (by decide) hr (by rfl) (pa_cons (pv 0) pa_nil)) (pe_one (pe_chain op_le op_le (pv 1) (pv 0) (pv 2)))))), ?_⟩
    refine ⟨_, rfl, i, rfl, true, rfl, iteT ?_⟩
    refine ⟨_, rfl, _, rfl, lo, i, rfl, rfl, _, rfl, ?_⟩
    by_cases h1 : lo ≤ i
    · rw [decide_eq_true h1]
      refine iteT ⟨_, rfl, i, hi, rfl, rfl, ?_⟩
      have e : decide (lo ≤ i ∧ i ≤ hi) = decide (i ≤ hi) := by simp [h1]
      rw [e] at q
      exact q
    · rw [decide_eq_false h1]
      refine iteF ?_
      have e : decide (lo ≤ i ∧ i ≤ hi) = false := by simp [h1]
      rw [e] at q
      exact q
def spTupW (K : PySem.W.Frag) : Sp := fun vs H Q _ => ∃ (a : Addr) (xs : List V) (lo hi : Int), vs = [.ref a, .int lo, .int hi] ∧ SqT K H a xs ∧ TyX K H (.ref a) (.type "tuple") ∧ Q (.bl (decide (lo ≤ xs.length ∧ (xs.length : Int) ≤ hi))) H
end
end KQ
/-! methods and instances by their names -/
namespace KR
open PySem PySem.Spec PyProof.Rows L2
def MAt (K : PySem.W.Frag) (C : Addr) (m qual : Str) (st : Stmt) : Prop := ∃ f fd, Fun K m qual st f fd ∧ Meth K C m f
def IAt (K : PySem.W.Frag) (C : Addr) (qual : Str) (st : Stmt) : Prop := ∃ f fd, Fun K "__init__" qual st f fd ∧ Mk K C f
def MUse (P : Program) (w : World) (K : PySem.W.Frag) (mg : Str → Option Value) (base : Heap) (C : Addr) (m : Str) (k : Nat) (ps : List Str) (sp : Sp) : Prop :=
  ∃ f fd, FnOk P w K mg base CX0 k f fd ps sp ∧ Meth K C m f ∧ Binds K fd ps []
def KUse (P : Program) (w : World) (K : PySem.W.Frag) (mg : Str → Option Value) (base : Heap) (C : Addr) (x : Str) (k : Nat) (ps : List Str) (sp : Sp) : Prop :=
  ∃ f fd, FnOk P w K mg base CX0 k f fd ps sp ∧ Mk K C f ∧ mg x = some (.ref C) ∧ Binds K fd ps []
section
variable {P : Program} {w : World} {K : PySem.W.Frag} {mg : Str → Option Value} {base : Heap} {x m qual : Str} {st : Stmt} {k : Nat} {ps : List Str} {sp : Sp} {C : Addr}
theorem muse_of (D : MAt K C m qual st) (ok : ∀ f fd, Fun K m qual st f fd → FnOk P w K mg base CX0 k f fd ps sp)
    (h : ∀ (kV doc pm : Value) (an : Option Addr) (cdv ct : Value) (us : List Value), us.length = ps.length → bindArgs (PySem.W.fnOf m qual (defArgs st) (defBody st) (defScope st) .none kV doc pm an cdv ct) ⟨us, []⟩ = pure (ps.zip us)) :
    MUse P w K mg base C m k ps sp := by
  obtain ⟨f, fd, F, hm⟩ := D
  exact ⟨f, fd, ok f fd F, hm, F.binds h⟩
theorem kuse_of (D : IAt K C qual st) (hm : mg x = some (.ref C)) (ok : ∀ f fd, Fun K "__init__" qual st f fd → FnOk P w K mg base CX0 k f fd ps sp)
    (h : ∀ (kV doc pm : Value) (an : Option Addr) (cdv ct : Value) (us : List Value), us.length = ps.length → bindArgs (PySem.W.fnOf "__init__" qual (defArgs st) (defBody st) (defScope st) .none kV doc pm an cdv ct) ⟨us, []⟩ = pure (ps.zip us)) :
    KUse P w K mg base C x k ps sp := by
  obtain ⟨f, fd, F, mk⟩ := D
  exact ⟨f, fd, ok f fd F, mk, hm, F.binds h⟩
end
section
variable {X : Cx} {x m : Str} {j k : Nat} {ps : List Str} {sp : Sp} {o e : Expr} {es : List Expr} {ta : TE} {t : TA} {p pos apos : Pos} {C : Addr}
theorem pe_mUse {pl : Sem Bool} (he : PE X o ta) (c : Cls X.K C) (u : MUse X.prog X.w X.K X.mg X.base C m j ps sp) (le : j ≤ k) (hr : Room k X.A) (ha : PA X (e :: es) t)
    (hst : starEach (e :: es) X.env = (false, eval e X.env) :: starEach es X.env := by rfl) (hpl : (backTo pos (starEach es X.env)).any (·.1) = false := by rfl)
    (ht : eval (.Call (.Attribute o m apos) (e :: es) [] pos) X.env = (do
      let ov ← eval o X.env
      standAt apos.atName
      let (f, first) ← holding [ov] (getMethod ov m pl)
      callWith pos f first (backTo pos (starEach (e :: es) X.env)) (backToKw pos (keywordEach [] X.env))) := by rfl) :
    PE X (.Call (.Attribute o m apos) (e :: es) [] pos) (tMeth C m sp [] E0 ta t) := by
  obtain ⟨f, fd, F, hm, b⟩ := u
  exact pe_meth he c hm F (hr.mono le) b .nil pass0 ha hst hpl ht
theorem pe_kUse (u : KUse X.prog X.w X.K X.mg X.base C x j ps sp) (le : j + 1 ≤ k) (hr : Room k X.A) (hg : Gl X x) (ha : PA X (e :: es) t)
    (hdb : (x == ("__debug__" : Str)) = false := by decide) (he : starEach (e :: es) X.env = (false, eval e X.env) :: starEach es X.env := by rfl)
    (hpl : (backTo pos (starEach es X.env)).any (·.1) = false := by rfl) : PE X (.Call (.Name x p) (e :: es) [] pos) (tMake C sp [] E0 t) := by
  obtain ⟨f, fd, F, mk, hm, b⟩ := u
  exact pe_make mk F (hr.mono le) hg hm b .nil pass0 ha hdb he hpl
end
theorem ixN_nat {n j : Nat} {i : Int} (e : i = (j : Int)) (h : j < n) : ixN n i = some j := by
  subst e
  unfold ixN
  rw [if_pos (by omega), if_pos (by omega)]
  rfl
end KR
/-! tuples known or not -/
namespace KQ
open PySem PySem.Spec PyProof.Rows L2 KR
theorem rdT {K : PySem.W.Frag} {H : Hp} {a : Addr} {xs : List V} (h : Rd H a (.tup xs)) : SqT K H a xs := .inl h
theorem _root_.L2.Rd.mono {H H' : Hp} {a : Addr} {u : HO} (h : Rd H a u) (s : Same H H') : Rd H' a u := by
  rcases h with h | ⟨o, h⟩
  · exact .inl (s _ _ h)
  · exact .inr ⟨o, s _ _ h⟩
theorem _root_.L2.Rd.ne {H : Hp} {a b : Addr} {xs : List V} {u : HO} (h : Rd H a (.tup xs)) (e : H b = some u) (h1 : ∀ ys, u ≠ .tup ys) (h2 : ∀ o v, u ≠ .frz o v) : a ≠ b := fun z => by
  rw [z] at h
  rcases h with h | ⟨o, h⟩
  · rw [e] at h
    exact h1 _ (Option.some.inj h)
  · rw [e] at h
    exact h2 _ _ (Option.some.inj h)
theorem _root_.L2.Rd.put {H : Hp} {a b : Addr} {u o : HO} (h : Rd H a u) (n : a ≠ b) : Rd (upd H b o) a u := by
  rcases h with h | ⟨p, h⟩
  · exact .inl (by rw [upd_ne n]; exact h)
  · exact .inr ⟨p, by rw [upd_ne n]; exact h⟩
theorem tyRd {K : PySem.W.Frag} {H : Hp} {a : Addr} {xs : List V} (h : Rd H a (.tup xs)) : TyX K H (.ref a) (.type "tuple") := by
  rcases h with h | ⟨o, h⟩
  · exact .base (.tup h)
  · exact .fTuple h
theorem rd_upd {H : Hp} {a b : Addr} {xs : List V} {u o : HO} (h : Rd H a (.tup xs)) (e : H b = some u) (n1 : u ≠ .tup xs) (n2 : ∀ p, u ≠ .frz p (.tup xs)) : Rd (upd H b o) a (.tup xs) := h.put fun z => by
  rcases h with h | ⟨p, h⟩
  · rw [z, e] at h
    exact n1 (Option.some.inj h)
  · rw [z, e] at h
    exact n2 p (Option.some.inj h)
theorem rd_lst {H : Hp} {a b : Addr} {xs ys : List V} {o : HO} (h : Rd H a (.tup xs)) (e : H b = some (.lst ys)) : Rd (upd H b o) a (.tup xs) := rd_upd h e (fun z => by cases z) fun p z => by cases z
theorem rd_none {H : Hp} {a : Addr} {xs : List V} (h : Rd H a (.tup xs)) (n : H a = none) : False := by
  rcases h with h | ⟨p, h⟩ <;> (rw [n] at h; cases h)
theorem rd_new {H : Hp} {a b : Addr} {xs : List V} {o : HO} (h : Rd H a (.tup xs)) (n : H b = none) : Rd (upd H b o) a (.tup xs) := h.put fun z => rd_none h (z ▸ n)
end KQ
/-! partings: the mathematics -/
namespace KM
/-- blocks numbered as they are first met, m of them ahead -/
def Rg : Int → List Int → Prop
  | _, [] => True
  | m, x :: r => 0 ≤ x ∧ x ≤ m ∧ Rg (if x = m then m + 1 else m) r
/-- how many blocks, m of them ahead -/
def bc : Int → List Int → Int
  | m, [] => m
  | m, x :: r => bc (if x = m then m + 1 else m) r
structure Par (p : List Int) : Prop where
  ne : p ≠ []
  le : p.length ≤ 60
  rg : Rg 0 p
theorem bc_app : ∀ (m : Int) (xs ys : List Int), bc m (xs ++ ys) = bc (bc m xs) ys
  | _, [], _ => rfl
  | m, x :: xs, ys => bc_app (if x = m then m + 1 else m) xs ys
theorem rg_app : ∀ (m : Int) (xs ys : List Int), Rg m (xs ++ ys) ↔ Rg m xs ∧ Rg (bc m xs) ys
  | _, [], _ => ⟨fun h => ⟨trivial, h⟩, fun h => h.2⟩
  | m, x :: xs, ys => by
    show (0 ≤ x ∧ x ≤ m ∧ Rg _ (xs ++ ys)) ↔ (0 ≤ x ∧ x ≤ m ∧ Rg _ xs) ∧ _
    rw [rg_app]
    exact ⟨fun ⟨a, b, c, d⟩ => ⟨⟨a, b, c⟩, d⟩, fun ⟨⟨a, b, c⟩, d⟩ => ⟨a, b, c, d⟩⟩
theorem bc_ge : ∀ (m : Int) (xs : List Int), m ≤ bc m xs
  | _, [] => Int.le_refl _
  | m, x :: xs => by
    have h := bc_ge (if x = m then m + 1 else m) xs
    show m ≤ bc (if x = m then m + 1 else m) xs
    split at h <;> split <;> first | omega | contradiction
theorem bc_le : ∀ (m : Int) (xs : List Int), bc m xs ≤ m + xs.length
  | m, [] => by
    show m ≤ m + ((0 : Nat) : Int)
    omega
  | m, x :: xs => by
    have h := bc_le (if x = m then m + 1 else m) xs
    show bc (if x = m then m + 1 else m) xs ≤ m + ((xs.length + 1 : Nat) : Int)
    split at h <;> split <;> first | omega | contradiction
theorem rg_at {p : List Int} {i : Nat} {x : Int} (h : Rg 0 p) (hx : p[i]? = some x) : 0 ≤ x ∧ x ≤ bc 0 (p.take i) := by
  obtain ⟨hi, e⟩ := List.getElem?_eq_some_iff.mp hx
  have e2 : p = p.take i ++ (x :: p.drop (i + 1)) := by
    rw [← e, List.getElem_cons_drop, List.take_append_drop]
  rw [e2, rg_app] at h
  have h2 : 0 ≤ x ∧ x ≤ bc 0 (p.take i) ∧ Rg _ (p.drop (i + 1)) := h.2
  exact ⟨h2.1, h2.2.1⟩
theorem bc_take {p : List Int} {i : Nat} {x : Int} (hx : p[i]? = some x) : bc 0 (p.take (i + 1)) = if x = bc 0 (p.take i) then bc 0 (p.take i) + 1 else bc 0 (p.take i) := by
  rw [List.take_add_one, hx, bc_app]
  rfl
/-- all values lie below the number of blocks, each number below it is one -/
theorem rg_mem : ∀ (m : Int) (p : List Int), 0 ≤ m → Rg m p → (∀ x ∈ p, 0 ≤ x ∧ x < bc m p) ∧ ∀ y, m ≤ y → y < bc m p → y ∈ p
  | m, [], hm, _ => ⟨fun x hx => (nomatch hx), fun y h1 h2 => by
    have h2' : y < m := h2
    omega⟩
  | m, x :: r, hm, h => by
    obtain ⟨h0, h1, h2⟩ := h
    have hm2 : 0 ≤ (if x = m then m + 1 else m) := by split <;> omega
    obtain ⟨ih1, ih2⟩ := rg_mem (if x = m then m + 1 else m) r hm2 h2
    have e : bc m (x :: r) = bc (if x = m then m + 1 else m) r := rfl
    have g := bc_ge (if x = m then m + 1 else m) r
    rw [e]
    refine ⟨fun y hy => ?_, fun y h3 h4 => ?_⟩
    · rcases List.mem_cons.mp hy with q | q
      · subst q
        refine ⟨h0, ?_⟩
        split at g <;> split <;> first | omega | contradiction
      · exact ih1 y q
    · by_cases hy : x = y
      · rw [hy]
        exact List.mem_cons_self
      · refine List.mem_cons_of_mem _ (ih2 y ?_ h4)
        split <;> omega
theorem par_max {p : List Int} (h : Par p) {m : Int} (hm : m ∈ p) (hle : ∀ y ∈ p, y ≤ m) : m + 1 = bc 0 p := by
  obtain ⟨h1, h2⟩ := rg_mem 0 p (Int.le_refl _) h.rg
  have a := (h1 m hm).2
  have b0 := (h1 m hm).1
  by_cases e : m + 1 = bc 0 p
  · exact e
  · have := hle (bc 0 p - 1) (h2 _ (by omega) (by omega))
    omega
/-- two partings with the same kernel are one -/
theorem rg_unique : ∀ (n : Nat) (p q : List Int), p.length = n → q.length = n → Rg 0 p → Rg 0 q →
    (∀ (i j : Nat) (x y u v : Int), p[i]? = some x → p[j]? = some y → q[i]? = some u → q[j]? = some v → (x = y ↔ u = v)) → p = q ∧ bc 0 p = bc 0 q
  | 0, p, q, hp, hq, _, _, _ => by
    rw [List.eq_nil_of_length_eq_zero hp, List.eq_nil_of_length_eq_zero hq]
    exact ⟨rfl, rfl⟩
  | n + 1, p, q, hp, hq, rp, rq, h => by
    obtain ⟨p', x, rfl⟩ : ∃ p' x, p = p' ++ [x] := ⟨p.dropLast, p.getLast (by intro e; rw [e] at hp; cases hp), (List.dropLast_concat_getLast _).symm⟩
    obtain ⟨q', u, rfl⟩ : ∃ q' u, q = q' ++ [u] := ⟨q.dropLast, q.getLast (by intro e; rw [e] at hq; cases hq), (List.dropLast_concat_getLast _).symm⟩
    have lp : p'.length = n := by simpa using hp
    have lq : q'.length = n := by simpa using hq
    rw [rg_app] at rp rq
    have gp : ∀ {i : Nat} {z : Int}, p'[i]? = some z → (p' ++ [x])[i]? = some z := fun {i z} e => by
      have := (List.getElem?_eq_some_iff.mp e).1
      rw [List.getElem?_append_left this]
      exact e
    have gq : ∀ {i : Nat} {z : Int}, q'[i]? = some z → (q' ++ [u])[i]? = some z := fun {i z} e => by
      have := (List.getElem?_eq_some_iff.mp e).1
      rw [List.getElem?_append_left this]
      exact e
    obtain ⟨e1, e2⟩ := rg_unique n p' q' lp lq rp.1 rq.1 fun i j a b c d h1 h2 h3 h4 => h i j a b c d (gp h1) (gp h2) (gq h3) (gq h4)
    subst e1
    have lastp : (p' ++ [x])[n]? = some x := by
      rw [List.getElem?_append_right (by omega), lp]
      simp
    have lastq : (p' ++ [u])[n]? = some u := by
      rw [List.getElem?_append_right (by omega), lp]
      simp
    obtain ⟨x0, x1, _⟩ := rp.2
    obtain ⟨u0, u1, _⟩ := rq.2
    obtain ⟨m1, m2⟩ := rg_mem 0 p' (Int.le_refl _) rp.1
    have exu : x = u := by
      by_cases hx : x < bc 0 p'
      · obtain ⟨i, hi, ei⟩ := List.getElem_of_mem (m2 x x0 hx)
        have e3 : p'[i]? = some x := by rw [List.getElem?_eq_getElem hi, ei]
        exact ((h i n x x x u (gp e3) lastp (gq e3) lastq).mp rfl)
      · by_cases hu : u < bc 0 p'
        · obtain ⟨i, hi, ei⟩ := List.getElem_of_mem (m2 u u0 hu)
          have e3 : p'[i]? = some u := by rw [List.getElem?_eq_getElem hi, ei]
          exact ((h i n u x u u (gp e3) lastp (gq e3) lastq).mpr rfl).symm
        · omega
    subst exu
    exact ⟨rfl, rfl⟩

/-! ### numbering -/
variable {α : Type} [DecidableEq α]
def ins (ks : List α) (x : α) : List α := if x ∈ ks then ks else ks ++ [x]
def firsts (xs : List α) : List α := xs.foldl ins []
def num (xs : List α) : List Int := xs.map fun x => (((firsts xs).idxOf x : Nat) : Int)
theorem firsts_snoc (xs : List α) (x : α) : firsts (xs ++ [x]) = ins (firsts xs) x := by
  unfold firsts
  rw [List.foldl_append]
  rfl
theorem ins_nodup {ks : List α} (h : ks.Nodup) (x : α) : (ins ks x).Nodup := by
  unfold ins
  split
  · exact h
  · rename_i hx
    rw [List.nodup_append]
    refine ⟨h, by simp, fun a ha b hb => ?_⟩
    rw [List.mem_singleton.mp hb]
    intro e
    exact hx (e ▸ ha)
theorem mem_ins {ks : List α} {x y : α} : y ∈ ins ks x ↔ y ∈ ks ∨ y = x := by
  unfold ins
  split
  · rename_i hx
    exact ⟨Or.inl, fun h => h.elim id fun e => e ▸ hx⟩
  · rw [List.mem_append, List.mem_singleton]
theorem firsts_rec {P : List α → Prop} (h0 : P []) (hs : ∀ xs x, P xs → P (xs ++ [x])) : ∀ xs, P xs := by
  intro xs
  have : ∀ n (xs : List α), xs.length = n → P xs := by
    intro n
    induction n with
    | zero =>
      intro xs h
      rw [List.eq_nil_of_length_eq_zero h]
      exact h0
    | succ n ih =>
      intro xs h
      have hne : xs ≠ [] := by
        intro e
        rw [e] at h
        cases h
      rw [← List.dropLast_concat_getLast hne]
      exact hs _ _ (ih _ (by rw [List.length_dropLast, h]; rfl))
  exact this _ xs rfl
theorem firsts_nodup (xs : List α) : (firsts xs).Nodup := by
  refine firsts_rec (P := fun xs => (firsts xs).Nodup) (by exact List.nodup_nil) (fun xs x h => ?_) xs
  rw [firsts_snoc]
  exact ins_nodup h x
theorem mem_firsts {y : α} (xs : List α) : y ∈ firsts xs ↔ y ∈ xs := by
  refine firsts_rec (P := fun xs => y ∈ firsts xs ↔ y ∈ xs) (by exact Iff.rfl) (fun xs x h => ?_) xs
  rw [firsts_snoc, mem_ins, h, List.mem_append, List.mem_singleton]
theorem idx_ins {ks : List α} {x y : α} (hy : y ∈ ks) : (ins ks x).idxOf y = ks.idxOf y := by
  unfold ins
  split
  · rfl
  · rw [List.idxOf_append, if_pos hy]
theorem num_snoc (xs : List α) (x : α) : num (xs ++ [x]) = num xs ++ [if x ∈ firsts xs then (((firsts xs).idxOf x : Nat) : Int) else ((firsts xs).length : Int)] := by
  unfold num
  rw [List.map_append, firsts_snoc]
  congr 1
  · refine List.map_congr_left fun y hy => ?_
    rw [idx_ins ((mem_firsts xs).mpr hy)]
  · show [_] = [_]
    congr 1
    split
    · rename_i h
      show (((ins (firsts xs) x).idxOf x : Nat) : Int) = _
      rw [idx_ins h]
    · rename_i h
      show (((ins (firsts xs) x).idxOf x : Nat) : Int) = _
      unfold ins
      rw [if_neg h, List.idxOf_append, if_neg h]
      simp
theorem firsts_len (xs : List α) : ((firsts xs).length : Int) = bc 0 (num xs) ∧ Rg 0 (num xs) := by
  refine firsts_rec (P := fun xs => ((firsts xs).length : Int) = bc 0 (num xs) ∧ Rg 0 (num xs)) ⟨rfl, trivial⟩ (fun xs x h => ?_) xs
  obtain ⟨h1, h2⟩ := h
  rw [num_snoc, firsts_snoc, bc_app, rg_app, ← h1]
  unfold ins
  by_cases hx : x ∈ firsts xs
  · rw [if_pos hx, if_pos hx]
    have hl := List.idxOf_lt_length_of_mem hx
    refine ⟨?_, h2, ?_⟩
    · show _ = if _ then _ else _
      rw [if_neg (by omega)]
    · exact ⟨by omega, by omega, trivial⟩
  · rw [if_neg hx, if_neg hx]
    refine ⟨?_, h2, ?_⟩
    · show _ = if _ then _ else _
      rw [if_pos rfl, List.length_append]
      show ((_ + 1 : Nat) : Int) = _
      show _ = bc _ []
      show _ = (_ : Int) + 1
      omega
    · exact ⟨by omega, by omega, trivial⟩
theorem num_rg (xs : List α) : Rg 0 (num xs) := (firsts_len xs).2
theorem num_len (xs : List α) : (num xs).length = xs.length := by
  unfold num
  rw [List.length_map]
theorem num_get {xs : List α} {i : Nat} {x : α} (h : xs[i]? = some x) : (num xs)[i]? = some (((firsts xs).idxOf x : Nat) : Int) := by
  unfold num
  rw [List.getElem?_map, h]
  rfl
theorem num_ker {xs : List α} {i j : Nat} {x y : α} {u v : Int} (hi : xs[i]? = some x) (hj : xs[j]? = some y) (ui : (num xs)[i]? = some u) (vj : (num xs)[j]? = some v) : u = v ↔ x = y := by
  rw [num_get hi] at ui
  rw [num_get hj] at vj
  cases ui
  cases vj
  constructor
  · intro e
    have e' : (firsts xs).idxOf x = (firsts xs).idxOf y := by omega
    have hx := (mem_firsts xs).mpr (List.mem_of_getElem? hi)
    have hy := (mem_firsts xs).mpr (List.mem_of_getElem? hj)
    have a := List.getElem_idxOf (List.idxOf_lt_length_of_mem hx)
    have b := List.getElem_idxOf (List.idxOf_lt_length_of_mem hy)
    rw [← a, ← b]
    congr 1
  · intro e
    rw [e]
theorem num_par {xs : List α} (h : xs ≠ []) (hl : xs.length ≤ 60) : Par (num xs) :=
  ⟨fun e => h (List.eq_nil_of_length_eq_zero (by rw [← num_len xs, e]; rfl)), by rw [num_len]; exact hl, num_rg xs⟩
/-- a parting is told by its kernel -/
theorem num_is {xs : List α} {q : List Int} (hl : q.length = xs.length) (hq : Rg 0 q)
    (h : ∀ (i j : Nat) (x y : α) (u v : Int), xs[i]? = some x → xs[j]? = some y → q[i]? = some u → q[j]? = some v → (x = y ↔ u = v)) : num xs = q := by
  refine (rg_unique xs.length (num xs) q (num_len xs) hl (num_rg xs) hq fun i j a b u v h1 h2 h3 h4 => ?_).1
  have li := (List.getElem?_eq_some_iff.mp h1).1
  have lj := (List.getElem?_eq_some_iff.mp h2).1
  rw [num_len] at li lj
  have gi : xs[i]? = some xs[i] := List.getElem?_eq_getElem li
  have gj : xs[j]? = some xs[j] := List.getElem?_eq_getElem lj
  rw [num_ker gi gj h1 h2]
  exact h i j _ _ u v gi gj h3 h4
end KM
namespace KQ
open PySem PySem.Spec PyProof.Rows L2 KR KM
section
variable {P : Program} {w : World} {K : PySem.W.Frag} {mg : Str → Option Value} {base : Heap}
/-- a tuple of whole numbers stands at a -/
def TI (H : Hp) (a : Addr) (p : List Int) : Prop := Rd H a (.tup (p.map V.int))
theorem TI.mono {H H' : Hp} {a : Addr} {p : List Int} (h : TI H a p) (e : Same H H') : TI H' a p := Rd.mono h e
theorem TI.ty {H : Hp} {a : Addr} {p : List Int} (h : TI H a p) : TyX K H (.ref a) (.type "tuple") := tyRd h
theorem TI.seq {H : Hp} {a : Addr} {p : List Int} (h : TI H a p) : SqT K H a (p.map V.int) := .inl h
def spFwb : Sp := fun vs H Q _ => ∃ a p, vs = [.ref a] ∧ TI H a p ∧ Par p ∧ ∀ H', Same H H' → Q .non H'
def spIsPar : Sp := fun vs H Q _ => ∃ a p, vs = [.ref a] ∧ TI H a p ∧ Par p ∧ ∀ H', Same H H' → Q (.bl true) H'
theorem par_le {p : List Int} (h : Par p) : decide ((1 : Int) ≤ ((p.map V.int).length : Int) ∧ ((p.map V.int).length : Int) ≤ 60) = true := by
  refine decide_eq_true ?_
  rw [List.length_map]
  have h1 := h.le
  have h2 : p.length ≠ 0 := fun e => h.ne (List.eq_nil_of_length_eq_zero e)
  omega
def spNeed : Sp := fun vs H Q _ => ∃ a p, vs = [.ref a] ∧ TI H a p ∧ Par p ∧ ∀ H', Same H H' → Q (.ref a) H'
def spNeedOf : Sp := fun vs H Q _ => ∃ a p, vs = [.ref a, .int (p.length : Int)] ∧ TI H a p ∧ Par p ∧ ∀ H', Same H H' → Q (.ref a) H'
def spTwo : Sp := fun vs H Q _ => ∃ a b p r, vs = [.ref a, .ref b] ∧ TI H a p ∧ TI H b r ∧ Par p ∧ Par r ∧ p.length = r.length ∧ ∀ H', Same H H' → Q .non H'
def spCount : Sp := fun vs H Q _ => ∃ a p, vs = [.ref a] ∧ TI H a p ∧ Par p ∧ Q (.int (bc 0 p)) H
def spSize : Sp := fun vs H Q _ => ∃ a p, vs = [.ref a] ∧ TI H a p ∧ Par p ∧ ∀ H', Same H H' → Q (.int (bc 0 p)) H'
end
end KQ
namespace KQ
open PySem PySem.Spec PyProof.Rows L2 KR KM
/-! ### a dict of the first ones' places -/
section
variable {α κ : Type} [DecidableEq α] [DecidableEq κ]
def dg (f : α → κ) (ks : List α) : List (κ × V) := ks.zipIdx.map fun p => (f p.1, V.int ((p.2 : Nat) : Int))
theorem dg_len (f : α → κ) (ks : List α) : (dg f ks).length = ks.length := by
  unfold dg
  rw [List.length_map, List.length_zipIdx]
theorem dg_snoc (f : α → κ) (ks : List α) (x : α) : dg f (ks ++ [x]) = dg f ks ++ [(f x, V.int ((ks.length : Nat) : Int))] := by
  unfold dg
  rw [List.zipIdx_append, List.map_append]
  simp
theorem dg_any {f : α → κ} (hf : ∀ a b, f a = f b → a = b) (ks : List α) (x : α) : ((dg f ks).any fun kv => decide (kv.1 = f x)) = decide (x ∈ ks) := by
  refine firsts_rec (P := fun ks => ((dg f ks).any fun kv => decide (kv.1 = f x)) = decide (x ∈ ks)) (by simp [dg]) (fun ks y h => ?_) ks
  rw [dg_snoc, List.any_append, h]
  simp only [List.any_cons, List.any_nil, Bool.or_false, List.mem_append, List.mem_singleton]
  by_cases e : x = y
  · subst e
    simp
  · have e2 : f y ≠ f x := fun q => e (hf _ _ q).symm
    simp [e, e2]
theorem dg_val {f : α → κ} (hf : ∀ a b, f a = f b → a = b) (ks : List α) (x : α) (h : ks.Nodup) :
    valV (dg f ks) (f x) = if x ∈ ks then some (V.int ((ks.idxOf x : Nat) : Int)) else none := by
  refine firsts_rec (P := fun ks => ks.Nodup → valV (dg f ks) (f x) = if x ∈ ks then some (V.int ((ks.idxOf x : Nat) : Int)) else none) (fun _ => rfl) (fun ks y ih hn => ?_) ks h
  rw [List.nodup_append] at hn
  have ih := ih hn.1
  have hy : y ∉ ks := fun hm => hn.2.2 y hm y (List.mem_singleton.mpr rfl) rfl
  unfold valV at ih ⊢
  rw [dg_snoc, List.find?_append, Option.map_or, ih]
  by_cases hx : x ∈ ks
  · rw [if_pos hx, if_pos (List.mem_append_left _ hx), List.idxOf_append, if_pos hx]
    rfl
  · rw [if_neg hx]
    by_cases e : x = y
    · subst e
      rw [if_pos (List.mem_append_right _ (List.mem_singleton.mpr rfl)), List.idxOf_append, if_neg hx]
      simp
    · have e2 : f y ≠ f x := fun q => e (hf _ _ q).symm
      rw [if_neg (by simp [hx, e])]
      simp [e2]
theorem dg_put {f : α → κ} (hf : ∀ a b, f a = f b → a = b) (ks : List α) (x : α) (hx : x ∉ ks) : putK (dg f ks) (f x) (V.int ((ks.length : Nat) : Int)) = dg f (ks ++ [x]) := by
  unfold putK
  rw [if_neg (by rw [dg_any hf]; simp [hx]), dg_snoc]
end
def kI (x : Int) : L2.Key := Sum.inl x
theorem kI_inj : ∀ a b, kI a = kI b → a = b := fun _ _ e => Sum.inl.inj e
def kP (x : Int × Int) : List L2.Key := [Sum.inl x.1, Sum.inl x.2]
theorem kP_inj : ∀ a b, kP a = kP b → a = b := fun a b e => by
  unfold kP at e
  simp only [List.cons.injEq, Sum.inl.injEq, and_true] at e
  exact Prod.ext e.1 e.2
theorem take_snoc {α : Type} {xs : List α} {i : Nat} {x : α} (h : xs[i]? = some x) : xs.take (i + 1) = xs.take i ++ [x] := by
  rw [List.take_add_one, h]
  rfl
theorem small_of {n : Nat} (h : n ≤ 100000) : n < sizeLine := Nat.lt_of_le_of_lt h (by decide)
/-- one more: what comes, where the key is there, where it isn't -/
theorem num_old {α : Type} [DecidableEq α] {xs : List α} {x : α} (h : x ∈ firsts xs) : num (xs ++ [x]) = num xs ++ [(((firsts xs).idxOf x : Nat) : Int)] ∧ firsts (xs ++ [x]) = firsts xs := by
  rw [num_snoc, firsts_snoc, if_pos h]
  exact ⟨rfl, if_pos h⟩
theorem num_new {α : Type} [DecidableEq α] {xs : List α} {x : α} (h : x ∉ firsts xs) : num (xs ++ [x]) = num xs ++ [((firsts xs).length : Int)] ∧ firsts (xs ++ [x]) = firsts xs ++ [x] := by
  rw [num_snoc, firsts_snoc, if_neg h]
  exact ⟨rfl, if_neg h⟩
theorem firsts_le {α : Type} [DecidableEq α] (xs : List α) : (firsts xs).length ≤ xs.length := by
  refine firsts_rec (P := fun xs => (firsts xs).length ≤ xs.length) (Nat.le_refl _) (fun xs x h => ?_) xs
  rw [firsts_snoc]
  unfold ins
  split
  · rw [List.length_append]
    omega
  · rw [List.length_append, List.length_append]
    show _ + 1 ≤ _ + 1
    omega
section
variable {P : Program} {w : World} {K : PySem.W.Frag} {mg : Str → Option Value} {base : Heap}
/-- numbered of whole numbers: a tuple (b = true), a list -/
def spNumT : Sp := fun vs H Q _ => ∃ a xs, vs = [.ref a] ∧ TI H a xs ∧ xs.length ≤ 1000 ∧ ∀ H' p, Same H H' → TI H' p (num xs) → Q (.ref p) H'
def spNumL : Sp := fun vs H Q _ => ∃ (a : Addr) (xs : List Int), vs = [.ref a] ∧ H a = some (.lst (xs.map V.int)) ∧ xs.length ≤ 1000 ∧ ∀ H' p, Same H H' → TI H' p (num xs) → Q (.ref p) H'
/-- of pairs -/
def PairsAt (H : Hp) (ts : List Addr) (xs : List (Int × Int)) : Prop := ts.length = xs.length ∧ ∀ (i : Nat) (t : Addr), ts[i]? = some t → ∃ x, xs[i]? = some x ∧ H t = some (.tup [.int x.1, .int x.2])
def spNumP : Sp := fun vs H Q _ => ∃ (a : Addr) (ts : List Addr) (xs : List (Int × Int)), vs = [.ref a] ∧ H a = some (.lst (ts.map V.ref)) ∧ PairsAt H ts xs ∧ xs.length ≤ 1000 ∧ ∀ H' p, Same H H' → TI H' p (num xs) → Q (.ref p) H'
end
end KQ
namespace KQ
open PySem PySem.Spec PyProof.Rows L2 KR KM
section
variable {P : Program} {w : World} {K : PySem.W.Frag} {mg : Str → Option Value} {base : Heap}
def spPof : Sp := fun vs H Q _ => ∃ a xs, vs = [.ref a] ∧ TI H a xs ∧ xs ≠ [] ∧ xs.length ≤ 60 ∧ ∀ H' p, Same H H' → TI H' p (num xs) → Q (.ref p) H'
/-- unlike doors below many -/
structure Drs (ds : List Int) (many : Int) : Prop where
  ne : ds ≠ []
  le : ds.length ≤ 60
  nd : ds.Nodup
  at_ : ∀ d ∈ ds, 0 ≤ d ∧ d < many
def spDrs : Sp := fun vs H Q _ => ∃ a ds many, vs = [.ref a, .int many] ∧ TI H a ds ∧ Drs ds many ∧ ∀ H', Same H H' → Q .non H'
end
end KQ
namespace KM
/-! doors by block; all partings -/
def doorsOf (p : List Int) (b : Int) : List Int := (p.zipIdx.filter fun q => decide (q.1 = b)).map fun q => ((q.2 : Nat) : Int)
theorem doorsOf_snoc (p : List Int) (x b : Int) : doorsOf (p ++ [x]) b = doorsOf p b ++ (if x = b then [((p.length : Nat) : Int)] else []) := by
  unfold doorsOf
  rw [List.zipIdx_append, List.filter_append, List.map_append]
  by_cases h : x = b
  · simp [h]
  · simp [h]
theorem doorsOf_len (p : List Int) (b : Int) : (doorsOf p b).length ≤ p.length := by
  unfold doorsOf
  rw [List.length_map]
  refine Nat.le_trans (List.length_filter_le _ _) ?_
  rw [List.length_zipIdx]
  exact Nat.le_refl _
theorem doorsOf_small (p : List Int) (b : Int) : ∀ x ∈ doorsOf p b, 0 ≤ x ∧ x < p.length := by
  intro x hx
  unfold doorsOf at hx
  obtain ⟨q, hq, rfl⟩ := List.mem_map.mp hx
  have h1 := (List.mem_filter.mp hq).1
  have h2 := List.mem_zipIdx h1
  omega
/-- a row and one door more, into each block and a new one -/
def ext (row : List Int) : List (List Int) := (List.range (bc 0 row + 1).toNat).map fun b => row ++ [((b : Nat) : Int)]
def allP : Nat → List (List Int)
  | 0 => [[0]]
  | n + 1 => (allP n).flatMap ext
theorem allP_ok : ∀ (n : Nat), ∀ r ∈ allP n, Rg 0 r ∧ r.length = n + 1
  | 0, r, h => by
    rw [List.mem_singleton.mp h]
    exact ⟨⟨Int.le_refl _, Int.le_refl _, trivial⟩, rfl⟩
  | n + 1, r, h => by
    obtain ⟨q, hq, hr⟩ := List.mem_flatMap.mp h
    obtain ⟨b, hb, rfl⟩ := List.mem_map.mp hr
    obtain ⟨h1, h2⟩ := allP_ok n q hq
    have hb := List.mem_range.mp hb
    have := bc_ge 0 q
    refine ⟨?_, by rw [List.length_append, h2]; rfl⟩
    rw [rg_app]
    exact ⟨h1, by omega, by omega, trivial⟩
theorem allP_count : ∀ n : Fin 8, (allP n.val).length ≤ 4140 := by decide +kernel
theorem ext_len (row : List Int) : (ext row).length = (bc 0 row + 1).toNat := by
  unfold ext
  rw [List.length_map, List.length_range]
theorem flat_take {α β : Type} (f : α → List β) {xs : List α} {i : Nat} {x : α} (h : xs[i]? = some x) : (xs.take (i + 1)).flatMap f = (xs.take i).flatMap f ++ f x := by
  rw [List.take_add_one, h]
  simp
theorem flat_le {α β : Type} (f : α → List β) {xs : List α} {i : Nat} {x : α} (h : xs[i]? = some x) : ((xs.take i).flatMap f).length + (f x).length ≤ (xs.flatMap f).length := by
  have e : xs = xs.take (i + 1) ++ xs.drop (i + 1) := (List.take_append_drop _ _).symm
  have e2 : (xs.flatMap f).length = ((xs.take (i + 1)).flatMap f).length + ((xs.drop (i + 1)).flatMap f).length := by
    conv => lhs; rw [e]
    rw [List.flatMap_append, List.length_append]
  rw [e2, flat_take f h, List.length_append]
  omega
theorem ext_take {row : List Int} {j : Nat} (hj : j < (bc 0 row + 1).toNat) : (ext row).take (j + 1) = (ext row).take j ++ [row ++ [((j : Nat) : Int)]] := by
  have h : (ext row)[j]? = some (row ++ [((j : Nat) : Int)]) := by
    unfold ext
    rw [List.getElem?_map, List.getElem?_range hj]
    rfl
  rw [List.take_add_one, h]
  rfl
end KM
namespace KQ
open PySem PySem.Spec PyProof.Rows L2 KR KM StX
section
variable {P : Program} {w : World} {K : PySem.W.Frag} {mg : Str → Option Value} {base : Heap}
/-- a list of tuples of whole numbers; a tuple of such -/
def LT (H : Hp) (a : Addr) (xss : List (List Int)) : Prop := ∃ ts : List Addr, H a = some (.lst (ts.map V.ref)) ∧ ts.length = xss.length ∧ ∀ (i : Nat) (t : Addr), ts[i]? = some t → ∃ xs, xss[i]? = some xs ∧ TI H t xs
def TT (H : Hp) (a : Addr) (xss : List (List Int)) : Prop := ∃ ts : List Addr, H a = some (.tup (ts.map V.ref)) ∧ ts.length = xss.length ∧ ∀ (i : Nat) (t : Addr), ts[i]? = some t → ∃ xs, xss[i]? = some xs ∧ TI H t xs
theorem TT.mono {H H' : Hp} {a : Addr} {xss : List (List Int)} (h : TT H a xss) (e : Same H H') : TT H' a xss := by
  obtain ⟨ts, h1, h2, h3⟩ := h
  exact ⟨ts, e _ _ h1, h2, fun i t ht => let ⟨xs, q1, q2⟩ := h3 i t ht; ⟨xs, q1, q2.mono e⟩⟩
theorem LT.mono {H H' : Hp} {a : Addr} {xss : List (List Int)} (h : LT H a xss) (e : Same H H') : LT H' a xss := by
  obtain ⟨ts, h1, h2, h3⟩ := h
  exact ⟨ts, e _ _ h1, h2, fun i t ht => let ⟨xs, q1, q2⟩ := h3 i t ht; ⟨xs, q1, q2.mono e⟩⟩
def pick (p ds : List Int) : List Int := ds.map fun d => p.getD d.toNat 0
theorem get_of {p : List Int} {d : Int} (h0 : 0 ≤ d) (h1 : d < p.length) : p[d.toNat]? = some (p.getD d.toNat 0) := by
  have h : d.toNat < p.length := by omega
  rw [List.getElem?_eq_getElem h, List.getD_eq_getElem?_getD, List.getElem?_eq_getElem h]
  rfl
def spSome : Sp := fun vs H Q _ => ∃ a b p ds, vs = [.ref a, .ref b] ∧ TI H a p ∧ TI H b ds ∧ Par p ∧ Drs ds p.length ∧ ∀ H' r, Same H H' → TI H' r (num (pick p ds)) → Q (.ref r) H'
/-- the rows: a list of lists -/
def Rows (H : Hp) (a : Addr) (p : List Int) (many : Nat) : Prop := ∃ rs : List Addr, H a = some (.lst (rs.map V.ref)) ∧ rs.length = many ∧ rs.Nodup ∧ ∀ (b : Nat) (t : Addr), rs[b]? = some t → H t = some (.lst ((doorsOf p b).map V.int))
def spRows : Sp := fun vs H Q _ => ∃ a p, vs = [.ref a] ∧ TI H a p ∧ Par p ∧ ∀ H' l, Same H H' → Rows H' l p (bc 0 p).toNat → Q (.ref l) H'
end
end KQ
namespace KQ
open PySem PySem.Spec PyProof.Rows L2 KR KM StX
section
variable {P : Program} {w : World} {K : PySem.W.Frag} {mg : Str → Option Value} {base : Heap}
def blockList (p : List Int) : List (List Int) := (List.range (bc 0 p).toNat).map fun b => doorsOf p ((b : Nat) : Int)
theorem blockList_at {p : List Int} {b : Nat} (h : b < (bc 0 p).toNat) : (blockList p)[b]? = some (doorsOf p b) := by
  unfold blockList
  rw [List.getElem?_map, List.getElem?_range h]
  rfl
def spBlocks : Sp := fun vs H Q _ => ∃ a p, vs = [.ref a] ∧ TI H a p ∧ Par p ∧ ∀ H' r, Same H H' → TT H' r (blockList p) → Q (.ref r) H'
def besideP (p r : List Int) : List Int := p ++ r.map fun b => bc 0 p + b
def spBeside : Sp := fun vs H Q _ => ∃ a b p r, vs = [.ref a, .ref b] ∧ TI H a p ∧ TI H b r ∧ Par p ∧ Par r ∧ p.length + r.length ≤ 60 ∧ ∀ H' t, Same H H' → TI H' t (besideP p r) → Q (.ref t) H'
/-- two doors in one block of the one are in one block of the other -/
def Finer (p r : List Int) : Prop := ∀ (i j : Nat) (x y z : Int), p[i]? = some x → p[j]? = some x → r[i]? = some y → r[j]? = some z → y = z
def spLies : Sp := fun vs H Q _ => ∃ a b p r, vs = [.ref a, .ref b] ∧ TI H a p ∧ TI H b r ∧ p.length = r.length ∧ p.length ≤ 60 ∧ ∀ H' c, Same H H' → (c = true ↔ Finer p r) → Q (.bl c) H'
/-- what the dict knows: each block of the one so far with that of the other at its first door -/
def Known (p r : List Int) (i : Nat) (kvs : List (L2.Key × V)) : Prop := kvs.length ≤ i ∧ ∀ x : Int, (∀ v, valV kvs (kI x) = some v → ∃ (j : Nat) (y : Int), j < i ∧ p[j]? = some x ∧ r[j]? = some y ∧ v = .int y) ∧
  (valV kvs (kI x) = none → ∀ j, j < i → p[j]? ≠ some x)
theorem valV_put {κ : Type} [DecidableEq κ] (kvs : List (κ × V)) (k k' : κ) (v : V) (h : valV kvs k = none) : valV (putK kvs k v) k' = if k' = k then some v else valV kvs k' := by
  have hn : (kvs.any fun kv => decide (kv.1 = k)) = false := by
    unfold valV at h
    rw [Option.map_eq_none_iff, List.find?_eq_none] at h
    rw [List.any_eq_false]
    exact h
  unfold putK
  rw [if_neg (by rw [hn]; exact Bool.false_ne_true)]
  unfold valV
  rw [List.find?_append, Option.map_or]
  by_cases e : k' = k
  · subst e
    rw [if_pos rfl]
    unfold valV at h
    rw [h]
    simp
  · rw [if_neg e]
    have e2 : ¬ k = k' := fun q => e q.symm
    simp [e2]
theorem putK_len {κ : Type} [DecidableEq κ] (kvs : List (κ × V)) (k : κ) (v : V) : (putK kvs k v).length ≤ kvs.length + 1 := length_putK kvs k v
end
end KQ
namespace KQ
open PySem PySem.Spec PyProof.Rows L2 KR KM StX
section
variable {P : Program} {w : World} {K : PySem.W.Frag} {mg : Str → Option Value} {base : Heap}
def spFiner : Sp := fun vs H Q _ => ∃ a b p r, vs = [.ref a, .ref b] ∧ TI H a p ∧ TI H b r ∧ Par p ∧ Par r ∧ p.length = r.length ∧ ∀ H' c, Same H H' → (c = true ↔ Finer p r) → Q (.bl c) H'
def spBelow : Sp := fun vs H Q _ => ∃ a b p r, vs = [.ref a, .ref b] ∧ TI H a p ∧ TI H b r ∧ Par p ∧ Par r ∧ p.length = r.length ∧ ∀ H' t, Same H H' → TI H' t (num (p.zip r)) → Q (.ref t) H'
theorem zipped_pairs {p r : List Int} {H H' : Hp} {ts : List Addr} (hl : p.length = r.length) (tl : ts.length = (p.map V.int).length)
    (tt : ∀ (i : Nat) (t : Addr), ts[i]? = some t → H t = none ∧ ∃ x y, (p.map V.int)[i]? = some x ∧ (r.map V.int)[i]? = some y ∧ H' t = some (.tup [x, y])) : PairsAt H' ts (p.zip r) := by
  refine ⟨?_, fun i t ht => ?_⟩
  · rw [tl, List.length_map, List.length_zip]
    omega
  · obtain ⟨_, x, y, h1, h2, h3⟩ := tt i t ht
    obtain ⟨x', hx, rfl⟩ := map_at h1
    obtain ⟨y', hy, rfl⟩ := map_at h2
    refine ⟨(x', y'), ?_, h3⟩
    rw [List.getElem?_zip_eq_some]
    exact ⟨hx, hy⟩
def spPofD : Sp := fun vs H Q _ => ∃ n : Nat, vs = [.int ((n + 1 : Nat) : Int)] ∧ n < 8 ∧ ∀ H' t, Same H H' → TT H' t (allP n) → Q (.ref t) H'
end
end KQ
namespace KM
/-! ### clumps: roots -/
def up (hs : List Nat) (x : Nat) : Nat := hs.getD x x
def Dn (hs : List Nat) : Prop := ∀ x, up hs x ≤ x
def rt (hs : List Nat) : Nat → Nat → Nat
  | 0, x => x
  | f + 1, x => if up hs x = x then x else rt hs f (up hs x)
/-- more fuel changes nothing -/
theorem rt_more {hs : List Nat} (h : Dn hs) : ∀ (f x k : Nat), x ≤ f → rt hs (f + k) x = rt hs f x := by
  intro f
  induction f with
  | zero =>
    intro x k hx
    have e0 : x = 0 := by omega
    subst e0
    have e : up hs 0 = 0 := by have := h 0; omega
    cases k with
    | zero => rfl
    | succ k =>
      show rt hs (0 + (k + 1)) 0 = 0
      rw [Nat.zero_add]
      show (if up hs 0 = 0 then 0 else _) = 0
      rw [if_pos e]
  | succ f ih =>
    intro x k hx
    rw [show f + 1 + k = (f + k) + 1 by omega]
    show (if up hs x = x then x else rt hs (f + k) (up hs x)) = (if up hs x = x then x else rt hs f (up hs x))
    have hx0 := h x
    by_cases e : up hs x = x
    · rw [if_pos e, if_pos e]
    · rw [if_neg e, if_neg e, ih _ k (by omega)]
def root (hs : List Nat) (x : Nat) : Nat := rt hs x x
theorem root_fuel {hs : List Nat} (h : Dn hs) {f x : Nat} (hx : x ≤ f) : rt hs f x = root hs x := by
  have := rt_more h x x (f - x) (Nat.le_refl _)
  rw [show x + (f - x) = f by omega] at this
  exact this
theorem root_at {hs : List Nat} (h : Dn hs) (x : Nat) : root hs x = if up hs x = x then x else root hs (up hs x) := by
  have hx0 := h x
  cases x with
  | zero =>
    rw [if_pos (by omega)]
    rfl
  | succ x =>
    show (if up hs (x + 1) = x + 1 then x + 1 else rt hs x (up hs (x + 1))) = _
    by_cases e : up hs (x + 1) = x + 1
    · rw [if_pos e, if_pos e]
    · rw [if_neg e, if_neg e, root_fuel h (by omega)]
theorem root_self {hs : List Nat} (h : Dn hs) {x : Nat} (e : up hs x = x) : root hs x = x := by
  rw [root_at h, if_pos e]
theorem root_up {hs : List Nat} (h : Dn hs) (x : Nat) : root hs (up hs x) = root hs x := by
  rw [root_at h x]
  by_cases e : up hs x = x
  · rw [if_pos e, e, root_self h e]
  · rw [if_neg e]
theorem root_le {hs : List Nat} (h : Dn hs) : ∀ (n x : Nat), x ≤ n → root hs x ≤ x ∧ up hs (root hs x) = root hs x
  | 0, x, hx => by
    have e0 : x = 0 := by omega
    subst e0
    have e : up hs 0 = 0 := by have := h 0; omega
    rw [root_self h e]
    exact ⟨Nat.le_refl _, e⟩
  | n + 1, x, hx => by
    have hx0 := h x
    by_cases e : up hs x = x
    · rw [root_self h e]
      exact ⟨Nat.le_refl _, e⟩
    · have ih := root_le h n (up hs x) (by omega)
      rw [root_up h] at ih
      exact ⟨by omega, ih.2⟩
theorem up_root {hs : List Nat} (h : Dn hs) (x : Nat) : up hs (root hs x) = root hs x := (root_le h x x (Nat.le_refl _)).2
theorem root_le' {hs : List Nat} (h : Dn hs) (x : Nat) : root hs x ≤ x := (root_le h x x (Nat.le_refl _)).1
theorem up_set {hs : List Nat} {x v y : Nat} (hx : x < hs.length) : up (hs.set x v) y = if y = x then v else up hs y := by
  unfold up
  rw [List.getD_eq_getElem?_getD, List.getElem?_set, List.getD_eq_getElem?_getD]
  by_cases e : x = y
  · subst e
    simp [hx]
  · have e2 : ¬ y = x := fun q => e q.symm
    simp [e, e2]
theorem dn_set {hs : List Nat} (h : Dn hs) {x v : Nat} (hx : x < hs.length) (hv : v ≤ x) : Dn (hs.set x v) := fun y => by
  rw [up_set hx]
  split
  · omega
  · exact h y
/-- a shorter way: the roots stay -/
theorem root_halve {hs : List Nat} (h : Dn hs) {x : Nat} (hx : x < hs.length) : ∀ (n y : Nat), y ≤ n → root (hs.set x (up hs (up hs x))) y = root hs y := by
  have hv : up hs (up hs x) ≤ x := Nat.le_trans (h _) (h x)
  have h2 := dn_set h hx hv
  intro n
  induction n with
  | zero =>
    intro y hy
    have e0 : y = 0 := by omega
    subst e0
    have a := root_le' h 0
    have b := root_le' h2 0
    omega
  | succ n ih =>
    intro y hy
    rw [root_at h2, up_set hx]
    by_cases e : y = x
    · subst e
      rw [if_pos rfl]
      by_cases e2 : up hs (up hs y) = y
      · have e3 : up hs y = y := by
          have := h (up hs y)
          have := h y
          omega
        rw [if_pos e2, root_self h e3]
      · have lt : up hs (up hs y) < y := by
          have := h (up hs y)
          have := h y
          omega
        rw [if_neg e2, ih _ (by omega), root_up h, root_up h]
    · rw [if_neg e]
      have hy0 := h y
      by_cases e2 : up hs y = y
      · rw [if_pos e2, root_self h e2]
      · rw [if_neg e2, ih _ (by omega), root_up h]
/-- two roots made one -/
theorem root_unite {hs : List Nat} (h : Dn hs) {a b : Nat} (hb : b < hs.length) (ea : up hs a = a) (eb : up hs b = b) (lt : a < b) : ∀ (n y : Nat), y ≤ n → root (hs.set b a) y = if root hs y = b then a else root hs y := by
  have h2 := dn_set h hb (Nat.le_of_lt lt)
  intro n
  induction n with
  | zero =>
    intro y hy
    have e0 : y = 0 := by omega
    subst e0
    have p := root_le' h 0
    have q := root_le' h2 0
    rw [if_neg (by omega)]
    omega
  | succ n ih =>
    intro y hy
    rw [root_at h2, up_set hb]
    by_cases e : y = b
    · subst e
      rw [if_pos rfl, if_neg (by omega), ih _ (by omega), root_self h ea, root_self h eb, if_neg (by omega), if_pos rfl]
    · rw [if_neg e]
      have hy0 := h y
      by_cases e2 : up hs y = y
      · rw [if_pos e2, root_self h e2, if_neg e]
      · rw [if_neg e2, ih _ (by omega), root_up h]
/-! ### what is glued together -/
def J (R : Nat → Nat → Prop) (a b x y : Nat) : Prop := R x y ∨ (R x a ∧ R b y) ∨ (R x b ∧ R a y)
def glue (ts : List (Nat × Nat)) : Nat → Nat → Prop := ts.foldl (fun R t => J R t.1 t.2) Eq
theorem glue_snoc (ts : List (Nat × Nat)) (t : Nat × Nat) : glue (ts ++ [t]) = J (glue ts) t.1 t.2 := by
  unfold glue
  rw [List.foldl_append]
  rfl
structure Eqv (R : Nat → Nat → Prop) : Prop where
  refl : ∀ x, R x x
  symm : ∀ x y, R x y → R y x
  trans : ∀ x y z, R x y → R y z → R x z
theorem J_eqv {R : Nat → Nat → Prop} (h : Eqv R) (a b : Nat) : Eqv (J R a b) := by
  refine ⟨fun x => .inl (h.refl x), fun x y q => ?_, fun x y z q1 q2 => ?_⟩
  · rcases q with q | ⟨q, r⟩ | ⟨q, r⟩
    · exact .inl (h.symm _ _ q)
    · exact .inr (.inr ⟨h.symm _ _ r, h.symm _ _ q⟩)
    · exact .inr (.inl ⟨h.symm _ _ r, h.symm _ _ q⟩)
  · have t := h.trans
    have s := h.symm
    rcases q1 with q1 | ⟨q1, r1⟩ | ⟨q1, r1⟩ <;> rcases q2 with q2 | ⟨q2, r2⟩ | ⟨q2, r2⟩
    · exact .inl (t _ _ _ q1 q2)
    · exact .inr (.inl ⟨t _ _ _ q1 q2, r2⟩)
    · exact .inr (.inr ⟨t _ _ _ q1 q2, r2⟩)
    · exact .inr (.inl ⟨q1, t _ _ _ r1 q2⟩)
    · exact .inr (.inl ⟨q1, r2⟩)
    · exact .inl (t _ _ _ q1 r2)
    · exact .inr (.inr ⟨q1, t _ _ _ r1 q2⟩)
    · exact .inl (t _ _ _ q1 r2)
    · exact .inr (.inr ⟨q1, r2⟩)
theorem glue_eqv (ts : List (Nat × Nat)) : Eqv (glue ts) := by
  refine firsts_rec' (P := fun ts => Eqv (glue ts)) ⟨fun _ => rfl, fun _ _ h => Eq.symm h, fun _ _ _ h1 h2 => Eq.trans h1 h2⟩ (fun ts t h => ?_) ts
  rw [glue_snoc]
  exact J_eqv h _ _
where
  firsts_rec' {α : Type} {P : List α → Prop} (h0 : P []) (hs : ∀ xs x, P xs → P (xs ++ [x])) : ∀ xs, P xs := by
    intro xs
    have : ∀ n (xs : List α), xs.length = n → P xs := by
      intro n
      induction n with
      | zero =>
        intro xs h
        rw [List.eq_nil_of_length_eq_zero h]
        exact h0
      | succ n ih =>
        intro xs h
        have hne : xs ≠ [] := by
          intro e
          rw [e] at h
          cases h
        rw [← List.dropLast_concat_getLast hne]
        exact hs _ _ (ih _ (by rw [List.length_dropLast, h]; rfl))
    exact this _ xs rfl
/-- the roots behind a tie -/
theorem tie_roots {hs hs' : List Nat} {R : Nat → Nat → Prop} {a b : Nat} (e : Eqv R) (h : ∀ x y, root hs x = root hs y ↔ R x y)
    (h' : ∀ y, root hs' y = if root hs y = max (root hs a) (root hs b) then min (root hs a) (root hs b) else root hs y) (x y : Nat) : root hs' x = root hs' y ↔ J R a b x y := by
  unfold J
  rw [h' x, h' y, ← h x y, ← h x a, ← h b y, ← h x b, ← h a y]
  generalize root hs x = rx
  generalize root hs y = ry
  generalize root hs a = ra
  generalize root hs b = rb
  rcases Nat.lt_trichotomy ra rb with g | g | g
  · rw [Nat.max_eq_right (by omega), Nat.min_eq_left (by omega)]
    split <;> split <;> omega
  · subst g
    rw [Nat.max_self, Nat.min_self]
    split <;> split <;> omega
  · rw [Nat.max_eq_left (by omega), Nat.min_eq_right (by omega)]
    split <;> split <;> omega
/-- labels behind a tie -/
theorem tie_labels {L L' : Nat → Int} {R : Nat → Nat → Prop} {a b : Nat} {S : Nat → Prop} (h : ∀ x y, S x → S y → (L x = L y ↔ R x y)) (sa : S a) (sb : S b)
    (h' : ∀ y, S y → L' y = if L y = L b then L a else L y) (x y : Nat) (sx : S x) (sy : S y) : L' x = L' y ↔ J R a b x y := by
  unfold J
  rw [h' x sx, h' y sy, ← h x y sx sy, ← h x a sx sa, ← h b y sb sy, ← h x b sx sb, ← h a y sa sy]
  generalize L x = rx
  generalize L y = ry
  generalize L a = ra
  generalize L b = rb
  split <;> split <;> omega
theorem up_range (n x : Nat) : up (List.range n) x = x := by
  unfold up
  rw [List.getD_eq_getElem?_getD]
  by_cases h : x < n
  · rw [List.getElem?_range h]
    rfl
  · rw [List.getElem?_eq_none (by rw [List.length_range]; omega)]
    rfl
theorem dn_range (n : Nat) : Dn (List.range n) := fun x => by
  rw [up_range]
  exact Nat.le_refl _
theorem root_range (n x : Nat) : root (List.range n) x = x := root_self (dn_range n) (up_range n x)
end KM
namespace KQ
open PySem PySem.Spec PyProof.Rows L2 KR KM StX
section
variable {P : Program} {w : World} {K : PySem.W.Frag} {mg : Str → Option Value} {base : Heap}
/-! ### clumps -/
def cf (l : Addr) (m : Int) : List (Str × V) := putF "many" (.int m) (putF "heads" (.ref l) [])
theorem hm_ne : ¬ (("heads" : Str) = "many") := by decide +kernel
theorem cf_heads (l : Addr) (m : Int) : (cf l m).lookup ("heads" : Str) = some (.ref l) := by
  unfold cf
  rw [lookup_putF, if_neg hm_ne, lookup_putF, if_pos rfl]
theorem cf_many (l : Addr) (m : Int) : (cf l m).lookup ("many" : Str) = some (.int m) := by
  unfold cf
  rw [lookup_putF, if_pos rfl]
theorem cf_no (l : Addr) (m : Int) {x : Str} (h1 : ¬ x = "many") (h2 : ¬ x = "heads") : (cf l m).lookup x = none := by
  unfold cf
  rw [lookup_putF, if_neg h1, lookup_putF, if_neg h2]
  rfl
theorem cf_eq (l : Addr) (m : Int) : cf l m = ([("heads", V.ref l), ("many", V.int m)] : List (Str × V)) := by
  show (if ("heads" : Str) = "many" then [(("heads" : Str), V.int m)] else (("heads" : Str), V.ref l) :: putF "many" (V.int m) []) = _
  rw [if_neg hm_ne]
  rfl
theorem cf_put (l : Addr) (m m' : Int) : putF "many" (.int m') (cf l m) = cf l m' := by
  rw [cf_eq, cf_eq]
  show (if ("heads" : Str) = "many" then _ else (("heads" : Str), V.ref l) :: (if ("many" : Str) = "many" then [(("many" : Str), V.int m')] else _)) = _
  rw [if_neg hm_ne, if_pos rfl]
def hv (hs : List Nat) : List V := hs.map fun n => V.int ((n : Nat) : Int)
/-- clumps stand at o, their heads in the list at l -/
def CAt (C : Addr) (H : Hp) (o l : Addr) (hs : List Nat) (m : Int) : Prop := (∃ dx, H o = some (.ins C dx (cf l m))) ∧ H l = some (.lst (hv hs))
def But (l : Addr) (H H' : Hp) : Prop := ∀ b u, H b = some u → b ≠ l → H' b = some u
theorem hv_at {hs : List Nat} {x : Nat} (h : x < hs.length) : (hv hs)[x]? = some (.int ((up hs x : Nat) : Int)) := by
  unfold hv up
  rw [List.getElem?_map, List.getElem?_eq_getElem h, List.getD_eq_getElem?_getD, List.getElem?_eq_getElem h]
  rfl
theorem hv_set (hs : List Nat) (x v : Nat) : (hv hs).set x (.int ((v : Nat) : Int)) = hv (hs.set x v) := by
  unfold hv
  rw [List.map_set]
theorem hv_len (hs : List Nat) : (hv hs).length = hs.length := List.length_map ..
theorem rgV_hv (n : Nat) : rgV 0 ((n : Nat) : Int) = hv (List.range n) := by
  unfold rgV hv
  rw [show (((n : Nat) : Int) - 0).toNat = n by omega]
  refine List.map_congr_left fun x _ => ?_
  show V.int (0 + _) = _
  rw [Int.zero_add]
def spInit (C : Addr) : Sp := fun vs H Q _ => ∃ (o dx : Addr) (n : Nat), vs = [.ref o, .int ((n : Nat) : Int)] ∧ H o = some (.ins C dx []) ∧ n ≤ 1000 ∧
  ∀ H' l, CAt C H' o l (List.range n) n → H l = none → But o H H' → Q .non H'
def spHead (C : Addr) : Sp := fun vs H Q _ => ∃ (o l : Addr) (hs : List Nat) (m : Int) (x : Nat), vs = [.ref o, .int ((x : Nat) : Int)] ∧ CAt C H o l hs m ∧ Dn hs ∧ x < hs.length ∧
  ∀ H' hs', CAt C H' o l hs' m → Dn hs' → hs'.length = hs.length → (∀ y, root hs' y = root hs y) → But l H H' → Q (.int ((root hs x : Nat) : Int)) H'
def spUnite (C : Addr) : Sp := fun vs H Q _ => ∃ (o l : Addr) (hs : List Nat) (m : Int) (a b : Nat), vs = [.ref o, .int ((a : Nat) : Int), .int ((b : Nat) : Int)] ∧ CAt C H o l hs m ∧ Dn hs ∧ a < hs.length ∧ b < hs.length ∧
  ∀ H' hs', CAt C H' o l hs' (if root hs a = root hs b then m else m - 1) → Dn hs' → hs'.length = hs.length →
    (∀ y, root hs' y = if root hs y = max (root hs a) (root hs b) then min (root hs a) (root hs b) else root hs y) → (∀ c u, H c = some u → c ≠ l → c ≠ o → H' c = some u) → Q (.bl (!decide (root hs a = root hs b))) H'
end
end KQ
namespace KQ
open PySem PySem.Spec PyProof.Rows L2 KR KM StX
section
variable {P : Program} {w : World} {K : PySem.W.Frag} {mg : Str → Option Value} {base : Heap}
def tiesOf (p r : List Int) : List (Nat × Nat) := (p.zip r).map fun q => (q.1.toNat, (bc 0 p + q.2).toNat)
theorem ties_at {p r : List Int} {i : Nat} {x y : Int} (hx : p[i]? = some x) (hy : r[i]? = some y) : (tiesOf p r)[i]? = some (x.toNat, (bc 0 p + y).toNat) := by
  unfold tiesOf
  refine at_map (x := (x, y)) ?_
  rw [List.getElem?_zip_eq_some]
  exact ⟨hx, hy⟩
theorem ties_len {p r : List Int} (h : p.length = r.length) : (tiesOf p r).length = p.length := by
  unfold tiesOf
  rw [List.length_map, List.length_zip]
  omega
def spAbove : Sp := fun vs H Q _ => ∃ a b p r, vs = [.ref a, .ref b] ∧ TI H a p ∧ TI H b r ∧ Par p ∧ Par r ∧ p.length = r.length ∧
  ∀ H' t (L : Nat → Int), Same H H' → (∀ x y, L x = L y ↔ glue (tiesOf p r) x y) → TI H' t (num (p.map fun b => L b.toNat)) → Q (.ref t) H'
end
end KQ
namespace KQ
open PySem PySem.Spec PyProof.Rows L2 KR KM StX
section
variable {P : Program} {w : World} {K : PySem.W.Frag} {mg : Str → Option Value} {base : Heap}
theorem nb {i : Int} {b : Nat} (h0 : 0 ≤ i) (h : i < 2 ^ b) : i.natAbs < 2 ^ b := by
  have : ((i.natAbs : Nat) : Int) < ((2 ^ b : Nat) : Int) := by
    rw [Int.natAbs_of_nonneg h0]
    push_cast
    exact h
  omega
theorem fm {i j : Int} (h : 0 < j) : 0 ≤ i.fmod j ∧ i.fmod j < j := ⟨Int.fmod_nonneg_of_pos _ h, Int.fmod_lt_of_pos _ h⟩
abbrev s__law_mixed : Stmt := topS 21
theorem sc__law_mixed : FnScope ["cell", "n", "blend"] ["cell", "n"] (defScope s__law_mixed) := ⟨rfl, rfl, rfl, by decide +kernel, rfl, by decide +kernel, by decide +kernel⟩
def spMixed : Sp := fun vs H Q _ => ∃ c n, vs = [.int c, .int n] ∧ 0 ≤ c ∧ c < 2 ^ 40 ∧ 0 ≤ n ∧ n < 2 ^ 24 ∧ ∀ r, 0 ≤ r → r < 2 ^ 31 → Q (.int r) H
theorem ok_mixed (D : DefAt K mg "_law_mixed" s__law_mixed) (T : Bt mg) : Use P w K mg base "_law_mixed" 1 ["cell", "n"] spMixed := by
  refine use_of D (fun f fd F => F.ok sc__law_mixed (fun vs H Q E h => ?_) (fun cdv A outer s H vs Q E hr h => ?_)) (fun _ _ _ _ _ _ us hl => match us, hl with | [_, _], _ => rfl)
  · obtain ⟨c, n, rfl, _⟩ := h
    rfl
  · obtain ⟨c, n, rfl, c0, c1, n0, n1, q⟩ := h
    refine ⟨_, (pss_cons (ps_set (i := 2) sc__law_mixed.nd rfl (Or.inl rfl) (pe_op op_add (pe_op op_add (pe_op op_modN (pe_callTy call_int1 (by rfl) T.int (by decide +kernel) (pa_cons (pe_op op_mulW (pe_op op_mulW (pv 0) (pe_op op_add pe_int (pe_op op_mulW pe_int (pv 1)))) pe_int) pa_nil)) pe_int) (pe_op op_mulW (pe_op op_mulW pe_int (pv 1)) (pv 1))) (pe_op op_mulW pe_int (pv 1))))
      (pss_one (ps_ret (pe_op op_fdivW (pe_op op_modN (pe_callTy call_int1 (by rfl) T.int (by decide +kernel) (pa_cons (pe_op op_mulW (pv 2) pe_int) pa_nil)) pe_int) pe_int)))), ?_⟩
    have e2 : (2 : Int) ^ 24 = 16777216 := by decide
    have hn : n.natAbs < 2 ^ 24 := nb n0 n1
    have hc : c.natAbs < 2 ^ 40 := nb c0 c1
    have h1 : (2 * n).natAbs < 2 ^ (2 + 24) := wide_lt (by decide) hn
    have h2 : (1 + 2 * n).natAbs < 2 ^ 27 := nb (by omega) (by omega)
    have h3 : (c * (1 + 2 * n)).natAbs < 2 ^ (40 + 27) := wide_lt hc h2
    have h4 : (7919 * n).natAbs < 2 ^ (13 + 24) := wide_lt (by decide) hn
    have h5 : (7919 * n * n).natAbs < 2 ^ (37 + 24) := wide_lt h4 hn
    have h6 : (104729 * n).natAbs < 2 ^ (17 + 24) := wide_lt (by decide) hn
    have f1 := fm (i := c * (1 + 2 * n) * 48271) (j := 2147483647) (by decide)
    generalize hX : (c * (1 + 2 * n) * 48271).fmod 2147483647 = X at f1
    have e3 : (2 : Nat) ^ (37 + 24) = 2305843009213693952 := by decide
    have e4 : (2 : Nat) ^ (17 + 24) = 2199023255552 := by decide
    have e5 : (2 : Nat) ^ 70 = 1180591620717411303424 := by decide
    have h7 : (X + 7919 * n * n + 104729 * n).natAbs < 2 ^ 70 := by
      generalize 7919 * n * n = u at *
      generalize 104729 * n = v at *
      omega
    generalize hY : X + 7919 * n * n + 104729 * n = Y at h7
    have f2 := fm (i := Y * 69621) (j := 2147483629) (by decide)
    generalize hZ : (Y * 69621).fmod 2147483629 = Z at f2
    subst hZ hY hX
    refine ⟨_, rfl, _, rfl, 2, n, rfl, rfl, wide_mul (by decide : (2 : Int).natAbs < 2 ^ 2) hn (by decide) (by decide) (by decide), 1, 2 * n, rfl, rfl, c, 1 + 2 * n, rfl, rfl, wide_mul hc h2 (by decide) (by decide) (by decide), ?_⟩
    refine ⟨c * (1 + 2 * n), 48271, rfl, rfl, wide_mul h3 (by decide : (48271 : Int).natAbs < 2 ^ 16) (by decide) (by decide) (by decide), .inl ⟨_, rfl, ?_⟩⟩
    refine ⟨_, 2147483647, rfl, rfl, (show (2147483647 : Int) ≠ 0 by decide), ?_⟩
    refine ⟨_, rfl, 7919, n, rfl, rfl, wide_mul (by decide : (7919 : Int).natAbs < 2 ^ 13) hn (by decide) (by decide) (by decide), _, rfl, 7919 * n, n, rfl, rfl, wide_mul h4 hn (by decide) (by decide) (by decide), ?_⟩
    refine ⟨_, _, rfl, rfl, _, rfl, 104729, n, rfl, rfl, wide_mul (by decide : (104729 : Int).natAbs < 2 ^ 17) hn (by decide) (by decide) (by decide), _, _, rfl, rfl, ?_⟩
    refine ⟨_, rfl, _, 69621, rfl, rfl, wide_mul h7 (by decide : (69621 : Int).natAbs < 2 ^ 17) (by decide) (by decide) (by decide), .inl ⟨_, rfl, ?_⟩⟩
    refine ⟨_, 2147483629, rfl, rfl, (show (2147483629 : Int) ≠ 0 by decide), _, 7, rfl, rfl, wide_div (by decide) (by decide : (7 : Int).natAbs < 2 ^ 3) (by decide) (by decide), ?_⟩
    exact q _ (by omega) (by omega)
theorem depth0 : ∀ (ns : List Int), PyData.depthAll (ns.map .int) = 0
  | [] => rfl
  | n :: r => by simp only [List.map, PyData.depthAll, PyData.depth, depth0 r]; rfl
theorem lay0 : ∀ (ns : List Int), PyData.canLayAll0 (ns.map .int) = true
  | [] => rfl
  | n :: r => by simp only [List.map, PyData.canLayAll0, PyData.canLay0, lay0 r, Bool.and_self]
theorem shaped_ints (ns : List Int) : SeqAt.shaped (.list (ns.map .int)) = true := by
  unfold SeqAt.shaped
  simp only [PyData.canLay0, lay0, PyData.depth, depth0]
  rfl
theorem eqv_nil (ns : List Int) : (!PyData.eqv (.list (ns.map .int)) (.list [])) = !ns.isEmpty := by
  cases ns <;> rfl
abbrev s__law_draw : Stmt := topS 23
theorem sc__law_draw : FnScope ["m", "limit", "n", "lot", "here", "cell"] ["m", "limit"] (defScope s__law_draw) := ⟨rfl, rfl, rfl, by decide +kernel, rfl, by decide +kernel, by decide +kernel⟩
/-- the state of the draws: the dict, its lists, at most b draws so far -/
structure MS (H : Hp) (m c g : Addr) (b : Int) : Prop where
  ex : ∃ (cs gs : List Int) (n : Int), H m = some (.dK [(.inr "cells", .ref c), (.inr "great", .ref g), (.inr "spot", .int n)]) ∧ H c = some (.lst (cs.map V.int)) ∧ H g = some (.lst (gs.map V.int)) ∧
    cs.length = 64 ∧ (∀ x ∈ cs, 0 ≤ x ∧ x < 2147483647) ∧ c ≠ g ∧ gs.length ≤ 63 ∧ 0 ≤ n ∧ n ≤ b
/-- all but m and g stays -/
def Kept (H H' : Hp) (m g : Addr) : Prop := ∀ a u, H a = some u → a ≠ m → a ≠ g → H' a = some u
def spDraw : Sp := fun vs H Q _ => ∃ m c g b limit, vs = [.ref m, .int limit] ∧ MS H m c g b ∧ b ≤ 1000000 ∧ 1 ≤ limit ∧ limit ≤ 2 ^ 30 ∧ ∀ H' d, Kept H H' m g → MS H' m c g (b + 1) → 0 ≤ d → d < limit → Q (.int d) H'
theorem ok_draw (D : DefAt K mg "_law_draw" s__law_draw) (T : Bt mg) (u__law_mixed : Use P w K mg base "_law_mixed" 1 ["cell", "n"] spMixed) : Use P w K mg base "_law_draw" 2 ["m", "limit"] spDraw := by
  refine use_of D (fun f fd F => F.ok sc__law_draw (fun vs H Q E h => ?_) (fun cdv A outer s H vs Q E hr h => ?_)) (fun _ _ _ _ _ _ us hl => match us, hl with | [_, _], _ => rfl)
  · obtain ⟨m, c, g, b, limit, rfl, _⟩ := h
    rfl
  · obtain ⟨m, c, g, b, limit, rfl, ⟨cs, gs, n, hm, hc, hg, lc, rc, cg, lg, n0, n1⟩, b1, l1, l2, q⟩ := h
    refine ⟨_, (pss_cons (ps_set (i := 2) sc__law_draw.nd rfl (Or.inl rfl) (pe_dget (hu_of hr) (pv 0) pe_str (fun _ _ => rfl)))
      (pss_cons (ps_dput (hu_of hr) (pv 0) pe_str (pe_op op_add (pv 2) pe_int) rfl)
      (pss_cons (ps_if (pt_cmpR (k_neD (K := K) rfl hr.units) (pe_dget (hu_of hr) (pv 0) pe_str (fun _ _ => rfl)) (pe_lst pa_nil) (nomark _)) (pss_cons (ps_set (i := 3) sc__law_draw.nd rfl (Or.inl rfl) (pe_dget (hu_of hr) (pv 0) pe_str (fun _ _ => rfl)))
      (pss_cons (ps_set (i := 4) sc__law_draw.nd rfl (Or.inl rfl) (pe_op op_modN (pe_callTy call_int1 (by rfl) T.int (by decide +kernel) (pa_cons (pv 2) pa_nil)) (pe_callB (k_len (K := K) rfl) (by rfl) T.len PySem.boot_len (pa_cons (pv 3) pa_nil))))
      (pss_cons (ps_set (i := 5) sc__law_draw.nd rfl (Or.inl rfl) (pe_ix (k_ixl (K := K) rfl) (pv 3) (pv 4) (fun _ _ => rfl)))
      (pss_one (ps_if (pt_cmpR op_gt (pv 5) pe_int (nomark _)) (pss_cons (ps_asg (pe_op op_fdivW (pv 5) (pv 1)) (pg_sub (pv 3) (pv 4) set_list))
      (pss_one (ps_ret (pe_op op_modN (pe_callTy call_int1 (by rfl) T.int (by decide +kernel) (pa_cons (pv 5) pa_nil)) (pv 1))))) pss_nil))))) pss_nil)
      (pss_cons (ps_set (i := 3) sc__law_draw.nd rfl (Or.inl rfl) (pe_dget (hu_of hr) (pv 0) pe_str (fun _ _ => rfl)))
      (pss_one (ps_ret (pe_op op_modN (pe_callTy call_int1 (by rfl) T.int (by decide +kernel) (pa_cons (pe_use u__law_mixed (by decide) hr (by rfl) (pa_cons (pe_use u__law_mixed (by decide) hr (by rfl) (pa_cons (pe_op op_add (pe_ix (k_ixl (K := K) rfl) (pv 3) (pe_op op_modN (pe_callTy call_int1 (by rfl) T.int (by decide +kernel) (pa_cons (pv 2) pa_nil)) pe_int) (fun _ _ => rfl)) (pe_op op_mulW pe_int (pe_op op_fdivW (pv 2) pe_int))) (pa_cons (pv 2) pa_nil))) (pa_cons (pe_op op_add (pv 2) pe_int) pa_nil))) pa_nil)) (pv 1)))))))), ?_⟩
    have mc : m ≠ c := fun e => by rw [e, hc] at hm; cases hm
    have mg' : m ≠ g := fun e => by rw [e, hg] at hm; cases hm
    have e2 : (2 : Int) ^ 30 = 1073741824 := by decide
    refine ⟨_, rfl, m, _, rfl, .k (k := .inr "spot") hm, ?_⟩
    refine ⟨_, rfl, _, _, rfl, rfl, _, rfl, m, _, rfl, .k (k := .inr "spot") hm (small_of (Nat.le_of_ble_eq_true rfl)), ?_⟩
    rw [show putK [((.inr "cells" : L2.Key), V.ref c), (.inr "great", .ref g), (.inr "spot", .int n)] (.inr "spot") (V.int (n + 1)) = [(.inr "cells", .ref c), (.inr "great", .ref g), (.inr "spot", .int (n + 1))] from rfl]
    generalize hH1 : upd H m (.dK [((.inr "cells" : L2.Key), V.ref c), (.inr "great", .ref g), (.inr "spot", .int (n + 1))]) = H1
    have hm1 : H1 m = some (.dK [((.inr "cells" : L2.Key), V.ref c), (.inr "great", .ref g), (.inr "spot", .int (n + 1))]) := by rw [← hH1, upd_same]
    have hc1 : H1 c = some (.lst (cs.map V.int)) := by rw [← hH1, upd_ne mc.symm]; exact hc
    have hg1 : H1 g = some (.lst (gs.map V.int)) := by rw [← hH1, upd_ne mg'.symm]; exact hg
    have k1 : Kept H H1 m g := fun a u ha na _ => by rw [← hH1, upd_ne na]; exact ha
    refine ⟨_, rfl, m, _, rfl, .k (k := .inr "great") hm1, Nat.zero_le _, fun p np => ?_⟩
    have npg : p ≠ g := fun e => by rw [e, hg1] at np; cases np
    have npm : p ≠ m := fun e => by rw [e, hm1] at np; cases np
    have npc : p ≠ c := fun e => by rw [e, hc1] at np; cases np
    have hm2 : (upd H1 p (.lst [])) m = some (.dK [((.inr "cells" : L2.Key), V.ref c), (.inr "great", .ref g), (.inr "spot", .int (n + 1))]) := by rw [upd_ne npm.symm]; exact hm1
    have hc2 : (upd H1 p (.lst [])) c = some (.lst (cs.map V.int)) := by rw [upd_ne npc.symm]; exact hc1
    have hg2 : (upd H1 p (.lst [])) g = some (.lst (gs.map V.int)) := by rw [upd_ne npg.symm]; exact hg1
    have k2 : Kept H (upd H1 p (.lst [])) m g := fun a u ha na nb => by rw [upd_ne (ne_of_none (k1 a u ha na nb) np)]; exact k1 a u ha na nb
    refine ⟨.list (gs.map PyData.int), .list [], .lst (sqL hg2) (dpAll_ints gs), .lst (sqL (xs := []) upd_same) .nil, shaped_ints gs, rfl, _, rfl, ?_⟩
    rw [eqv_nil]
    generalize hH2 : upd H1 p (.lst []) = H2 at *
    have fin : ∀ H3, (∀ a u, H2 a = some u → a ≠ g → H3 a = some u) → (∃ gs' : List Int, H3 g = some (.lst (gs'.map V.int)) ∧ gs'.length = gs.length) → Kept H H3 m g ∧ MS H3 m c g (b + 1) := by
      intro H3 h3 ⟨gs', hg3, lg3⟩
      exact ⟨fun a u ha na nb => h3 a u (k2 a u ha na nb) nb, ⟨cs, gs', n + 1, h3 _ _ hm2 mg', h3 _ _ hc2 cg, hg3, lc, rc, cg, by omega, by omega, by omega⟩⟩
    have fin2 := fin H2 (fun a u ha _ => ha) ⟨gs, hg2, rfl⟩
    have f64 := fm (i := n) (j := 64) (by decide)
    have hat : ∃ x, cs[(n.fmod 64).toNat]? = some x ∧ 0 ≤ x ∧ x < 2147483647 := by
      have hl : (n.fmod 64).toNat < cs.length := by omega
      exact ⟨_, List.getElem?_eq_getElem hl, rc _ (List.getElem_mem hl)⟩
    obtain ⟨x, hx, x0, x1⟩ := hat
    have hd : 0 ≤ n / 64 ∧ n / 64 ≤ n := ⟨by omega, by omega⟩
    have e24 : (2 : Int) ^ 24 = 16777216 := by decide
    have e40 : (2 : Int) ^ 40 = 1099511627776 := by decide
    have e31 : (2 : Int) ^ 31 = 2147483648 := by decide
    cases gs with
    | nil =>
      refine ⟨_, rfl, m, _, rfl, .k (k := .inr "cells") hm2, ?_⟩
      refine ⟨_, rfl, _, rfl, .inl ⟨n, rfl, n, 64, rfl, rfl, (show (64 : Int) ≠ 0 by decide), c, _, n.fmod 64, V.int x, rfl, rfl, sqL hc2, atI_of (j := (n.fmod 64).toNat) (by omega) (at_map hx), ?_⟩⟩
      refine ⟨_, rfl, n, 64, rfl, rfl, wide_div (by decide) (by decide : (64 : Int).natAbs < 2 ^ 7) (by decide) (by decide), 31, n / 64, rfl, rfl, wide_mul (by decide : (31 : Int).natAbs < 2 ^ 5) (nb (b := 24) (by omega) (by omega)) (by decide) (by decide) (by decide), x, 31 * (n / 64), rfl, rfl, _, rfl, ?_⟩
      refine ⟨x + 31 * (n / 64), n, rfl, by omega, by omega, by omega, by omega, fun r r0 r1 => ⟨_, rfl, n, 7, rfl, rfl, r, n + 7, rfl, r0, by omega, by omega, by omega, fun r2 r3 r4 => .inl ⟨r2, rfl, _, rfl, r2, limit, rfl, rfl, (show limit ≠ 0 by omega), ?_⟩⟩⟩
      exact q _ _ fin2.1 fin2.2 (fm (by omega)).1 (fm (by omega)).2
    | cons g0 gr =>
      have fG := fm (i := n) (j := (((g0 :: gr).length : Nat) : Int)) (by rw [List.length_cons]; omega)
      have hat2 : ∃ y, (g0 :: gr)[(n.fmod ((g0 :: gr).length : Nat)).toNat]? = some y := ⟨_, List.getElem?_eq_getElem (by omega)⟩
      obtain ⟨y, hy⟩ := hat2
      refine ⟨_, rfl, m, _, rfl, .k (k := .inr "great") hm2, ?_⟩
      refine ⟨_, rfl, .inl ⟨n, rfl, _, rfl, g, _, rfl, .inl (sqL hg2), n, _, rfl, rfl, ?_, ?_⟩⟩
      · rw [List.length_map, List.length_cons]
        omega
      rw [List.length_map]
      refine ⟨_, rfl, _, rfl, g, _, _, V.int y, rfl, rfl, sqL hg2, atI_of (j := (n.fmod ((g0 :: gr).length : Nat)).toNat) (by omega) (at_map hy), ?_⟩
      refine ⟨_, rfl, y, 0, rfl, rfl, _, rfl, ?_⟩
      by_cases hpos : 0 < y
      · rw [decide_eq_true hpos]
        refine ⟨_, rfl, _, rfl, y, limit, rfl, rfl, wide_div (by omega) (nb (b := 31) (by omega) (by omega)) (by decide) (by decide), _, rfl, _, rfl, g, _, _, (n.fmod ((g0 :: gr).length : Nat)).toNat, rfl, rfl, hg2, ?_, ?_⟩
        · unfold ixN
          rw [List.length_map, if_pos fG.1, if_pos fG.2]
        refine ⟨_, rfl, .inl ⟨y, rfl, _, rfl, y, limit, rfl, rfl, (show limit ≠ 0 by omega), ?_⟩⟩
        have fin3 := fin (upd H2 g (.lst (((g0 :: gr).map V.int).set (n.fmod ((g0 :: gr).length : Nat)).toNat (V.int (y / limit))))) (fun a u ha na => by rw [upd_ne na]; exact ha)
          ⟨(g0 :: gr).set (n.fmod ((g0 :: gr).length : Nat)).toNat (y / limit), by rw [upd_same, List.map_set], by rw [List.length_set]⟩
        exact q _ _ fin3.1 fin3.2 (fm (by omega)).1 (fm (by omega)).2
      · rw [decide_eq_false hpos]
        refine ⟨_, rfl, m, _, rfl, .k (k := .inr "cells") hm2, ?_⟩
        refine ⟨_, rfl, _, rfl, .inl ⟨n, rfl, n, 64, rfl, rfl, (show (64 : Int) ≠ 0 by decide), c, _, n.fmod 64, V.int x, rfl, rfl, sqL hc2, atI_of (j := (n.fmod 64).toNat) (by omega) (at_map hx), ?_⟩⟩
        refine ⟨_, rfl, n, 64, rfl, rfl, wide_div (by decide) (by decide : (64 : Int).natAbs < 2 ^ 7) (by decide) (by decide), 31, n / 64, rfl, rfl, wide_mul (by decide : (31 : Int).natAbs < 2 ^ 5) (nb (b := 24) (by omega) (by omega)) (by decide) (by decide) (by decide), x, 31 * (n / 64), rfl, rfl, _, rfl, ?_⟩
        refine ⟨x + 31 * (n / 64), n, rfl, by omega, by omega, by omega, by omega, fun r r0 r1 => ⟨_, rfl, n, 7, rfl, rfl, r, n + 7, rfl, r0, by omega, by omega, by omega, fun r2 r3 r4 => .inl ⟨r2, rfl, _, rfl, r2, limit, rfl, rfl, (show limit ≠ 0 by omega), ?_⟩⟩⟩
        exact q _ _ fin2.1 fin2.2 (fm (by omega)).1 (fm (by omega)).2
end
end KQ
namespace KQ
open PySem PySem.Spec PyProof.Rows L2 KR KM StX
section
variable {P : Program} {w : World} {K : PySem.W.Frag} {mg : Str → Option Value} {base : Heap}
theorem sameSL {K : PySem.W.Frag} {H H' : Hp} {a : Addr} {xs : List V} (e : Same H H') (h : SqL K H a xs) : SqL K H' a xs := by
  rcases h with (h | ⟨o, h⟩) | h
  · exact .inl (.inl (e _ _ h))
  · exact .inl (.inr ⟨o, e _ _ h⟩)
  · exact .inr h
def Cells (cs : List Int) : Prop := cs.length = 64 ∧ ∀ x ∈ cs, 0 ≤ x ∧ x < 2147483647
theorem Cells.set {cs : List Int} (h : Cells cs) (j : Nat) {v : Int} (h0 : 0 ≤ v) (h1 : v < 2147483647) : Cells (cs.set j v) := by
  refine ⟨by rw [List.length_set]; exact h.1, fun x hx => ?_⟩
  rcases List.mem_or_eq_of_mem_set hx with hx | rfl
  · exact h.2 x hx
  · exact ⟨h0, h1⟩
theorem Cells.at_ {cs : List Int} (h : Cells cs) {j : Nat} (hj : j < 64) : ∃ x, cs[j]? = some x ∧ 0 ≤ x ∧ x < 2147483647 :=
  ⟨_, List.getElem?_eq_getElem (by rw [h.1]; exact hj), h.2 _ (List.getElem_mem _)⟩
theorem ixN_of {n : Nat} {i : Int} (h0 : 0 ≤ i) (h1 : i < (n : Int)) : ixN n i = some i.toNat := by
  unfold ixN
  rw [if_pos h0, if_pos h1]
abbrev s__law_folded : Stmt := topS 22
theorem sc__law_folded : FnScope ["script", "found", "n", "cell"] ["script"] (defScope s__law_folded) := ⟨rfl, rfl, rfl, by decide +kernel, rfl, by decide +kernel, by decide +kernel⟩
def spFolded (K : PySem.W.Frag) : Sp := fun vs H Q _ => ∃ (a : Addr) (ns : List Int), vs = [.ref a] ∧ SqL K H a (ns.map V.int) ∧ ns.length ≤ 63 ∧
  ∀ H' l cs, Same H H' → H l = none → H' l = some (.lst (List.map V.int cs)) → Cells cs → Q (.ref l) H'
theorem ok_folded (D : DefAt K mg "_law_folded" s__law_folded) (T : Bt mg) : Use P w K mg base "_law_folded" 1 ["script"] (spFolded K) := by
  refine use_of D (fun f fd F => F.ok sc__law_folded (fun vs H Q E h => ?_) (fun cdv A outer s H vs Q E hr h => ?_)) (fun _ _ _ _ _ _ us hl => match us, hl with | [_], _ => rfl)
  · obtain ⟨a, ns, rfl, _⟩ := h
    rfl
  · obtain ⟨a, ns, rfl, hs, hl, q⟩ := h
    refine ⟨_, (pss_cons (ps_setLc (i := 1) (own := [("n", 2)]) rfl sc__law_folded.nd rfl rfl (sw_true rfl rfl rfl (by decide +kernel)) (pi_range1 (by rfl) T.range (pa_cons pe_int pa_nil)) (blkOk_by (N := ["script", "found", "n", "cell"]) (sc := defScope s__law_folded) (by decide +kernel)) (fun _ _ _ _ _ => (pg_name (i := 2) sc__law_folded.nd rfl (Or.inl rfl))) (fun _ _ _ _ _ => pts_nil) (fun _ _ _ _ _ => (pe_op op_add pe_int (pv 2))))
      (pss_cons (ps_for PassesOwn.never rfl (k_enum (K := K) rfl (by rfl) T.enumerate (pa_cons (pv 0) pa_nil)) (pg_tup rfl (pgs_cons (pg_name (i := 2) sc__law_folded.nd rfl (Or.inl rfl)) (pgs_cons (pg_name (i := 3) sc__law_folded.nd rfl (Or.inl rfl)) pgs_nil)))
      (pss_one (ps_asg (pe_op op_modN (pe_callTy call_int1 (by rfl) T.int (by decide +kernel) (pa_cons (pe_op op_add (pe_op op_mulW (pe_ix (k_ixl (K := K) rfl) (pv 1) (pe_op op_modN (pe_callTy call_int1 (by rfl) T.int (by decide +kernel) (pa_cons (pv 2) pa_nil)) pe_int) (fun _ _ => rfl)) pe_int) (pv 3)) pa_nil)) pe_int) (pg_sub (pv 1) (pe_op op_modN (pe_callTy call_int1 (by rfl) T.int (by decide +kernel) (pa_cons (pv 2) pa_nil)) pe_int) set_list))))
      (pss_cons (ps_for PassesOwn.never rfl (pi_range2 (by rfl) T.range (pa_cons pe_int (pa_cons pe_int pa_nil))) (pg_name (i := 2) sc__law_folded.nd rfl (Or.inl rfl))
      (pss_one (ps_asg (pe_op op_modN (pe_callTy call_int1 (by rfl) T.int (by decide +kernel) (pa_cons (pe_op op_add (pe_ix (k_ixl (K := K) rfl) (pv 1) (pv 2) (fun _ _ => rfl)) (pe_op op_mulW (pe_ix (k_ixl (K := K) rfl) (pv 1) (pe_op op_sub (pv 2) pe_int) (fun _ _ => rfl)) pe_int)) pa_nil)) pe_int) (pg_sub (pv 1) (pv 2) set_list))))
      (pss_one (ps_ret (pv 1)))))), ?_⟩
    refine ⟨_, rfl, by decide, by decide, fun L nL => ?_⟩
    refine lc_range (fun i H1 => Same H H1 ∧ H1 L = some (.lst (((List.range i).map fun k => (17 + (k : Nat) : Int)).map V.int))) ⟨same_new nL, upd_same⟩ ?_ ?_
    · rintro i H1 hi ⟨sm, eL⟩
      refine ⟨rfl, _, rfl, _, _, rfl, rfl, _, eL, ?_, same_mut sm nL, ?_⟩
      · rw [List.length_map, List.length_map, List.length_range]
        exact small_of (by omega)
      · rw [upd_same, List.range_succ, List.map_append, List.map_append, Int.zero_add]
        rfl
    · rintro H1 ⟨sm, eL⟩
      refine ⟨_, rfl, a, _, rfl, sameSL sm hs, for_enumL (K := K) (a := a) (xs := ns.map V.int)
        (fun i σ H2 => ∃ y2 y3, σ = [some (.ref a), some (.ref L), y2, y3] ∧ Same H H2 ∧ ∃ cs, H2 L = some (.lst (List.map V.int cs)) ∧ Cells cs)
        ⟨none, none, rfl, sm, _, eL, ?_⟩ (fun i σ H2 ⟨_, _, _, sm, _⟩ => sameSL sm hs) ?_ ?_⟩
      · refine ⟨by rw [List.length_map, List.length_range]; rfl, fun x hx => ?_⟩
        obtain ⟨k, hk, rfl⟩ := List.mem_map.mp hx
        have := List.mem_range.mp hk
        have e : ((64 : Int)).toNat = 64 := rfl
        omega
      · rintro i v T1 σ H2 hi ⟨y2, y3, rfl, sm, cs, eL, ok⟩ hT
        obtain ⟨x, hx, rfl⟩ := map_at hi
        have nTL : T1 ≠ L := fun e => by rw [e, eL] at hT; cases hT
        have eL2 : (upd H2 T1 (.tup [.int (i : Nat), .int x])) L = some (.lst (cs.map V.int)) := by rw [upd_ne nTL.symm]; exact eL
        have f64 := fm (i := ((i : Nat) : Int)) (j := 64) (by decide)
        obtain ⟨y, hy, y0, y1⟩ := ok.at_ (j := (((i : Nat) : Int).fmod 64).toNat) (by omega)
        refine ⟨T1, _, rfl, .inl (.inl upd_same), rfl, _, _, rfl, _, [], rfl, rfl, ?_⟩
        refine ⟨_, rfl, _, rfl, .inl ⟨_, rfl, _, 64, rfl, rfl, (show (64 : Int) ≠ 0 by decide), L, _, _, V.int y, rfl, rfl, sqL eL2, atI_of (j := (((i : Nat) : Int).fmod 64).toNat) (by omega) (at_map hy), ?_⟩⟩
        refine ⟨y, 48271, rfl, rfl, wide_mul (nb (b := 31) y0 (by omega)) (by decide : (48271 : Int).natAbs < 2 ^ 16) (by decide) (by decide) (by decide), _, rfl, y * 48271, x, rfl, rfl, .inl ⟨_, rfl, ?_⟩⟩
        refine ⟨_, 2147483647, rfl, rfl, (show (2147483647 : Int) ≠ 0 by decide), _, rfl, _, rfl, .inl ⟨_, rfl, _, 64, rfl, rfl, (show (64 : Int) ≠ 0 by decide), L, _, _, (((i : Nat) : Int).fmod 64).toNat, rfl, rfl, eL2, ?_, ?_⟩⟩
        · rw [List.length_map, ok.1]
          exact ixN_of f64.1 f64.2
        have fz := fm (i := y * 48271 + x) (j := 2147483647) (by decide)
        refine ⟨some (.int (i : Nat)), some (.int x), rfl, same_mut (same_new hT |> sm.trans) nL, cs.set (((i : Nat) : Int).fmod 64).toNat _, ?_, ok.set _ fz.1 fz.2⟩
        rw [upd_same, List.map_set]
      · rintro σ H2 ⟨y2, y3, rfl, sm, cs, eL, ok⟩
        refine ⟨1, 64, rfl, by decide, for_range (lo := 1) (n := ((64 : Int) - 1).toNat)
          (fun i σ H3 => ∃ y2, σ = [some (.ref a), some (.ref L), y2, y3] ∧ Same H H3 ∧ ∃ cs, H3 L = some (.lst (List.map V.int cs)) ∧ Cells cs)
          ⟨y2, rfl, sm, cs, eL, ok⟩ ?_ ?_⟩
        · rintro i σ H3 hi ⟨y2, rfl, sm, cs, eL, ok⟩
          have hi63 : i < 63 := hi
          obtain ⟨x, hx, x0, x1⟩ := ok.at_ (j := i + 1) (by omega)
          obtain ⟨y, hy, y0, y1⟩ := ok.at_ (j := i) (by omega)
          refine ⟨_, rfl, _, rfl, L, _, 1 + (i : Nat), V.int x, rfl, rfl, sqL eL, atI_of (j := i + 1) (by omega) (at_map hx), ?_⟩
          refine ⟨_, rfl, _, rfl, _, _, rfl, rfl, L, _, 1 + (i : Nat) - 1, V.int y, rfl, rfl, sqL eL, atI_of (j := i) (by omega) (at_map hy), ?_⟩
          refine ⟨y, 16807, rfl, rfl, wide_mul (nb (b := 31) y0 (by omega)) (by decide : (16807 : Int).natAbs < 2 ^ 15) (by decide) (by decide) (by decide), x, y * 16807, rfl, rfl, .inl ⟨_, rfl, ?_⟩⟩
          refine ⟨_, 2147483647, rfl, rfl, (show (2147483647 : Int) ≠ 0 by decide), _, rfl, _, rfl, L, _, 1 + (i : Nat), i + 1, rfl, rfl, eL, ?_, ?_⟩
          · rw [List.length_map, ok.1]
            exact ixN_nat (by omega) (by omega)
          have fz := fm (i := x + y * 16807) (j := 2147483647) (by decide)
          refine ⟨_, rfl, same_mut sm nL, cs.set (i + 1) _, ?_, ok.set _ fz.1 fz.2⟩
          rw [upd_same, List.map_set]
        · rintro σ H3 ⟨y2, rfl, sm, cs, eL, ok⟩
          exact ⟨_, rfl, q _ _ _ sm nL eL ok⟩
abbrev s__law_begun : Stmt := topS 24
theorem sc__law_begun : FnScope ["script", "m", "cell"] ["script"] (defScope s__law_begun) := ⟨rfl, rfl, rfl, by decide +kernel, rfl, by decide +kernel, by decide +kernel⟩
def spBegun (K : PySem.W.Frag) : Sp := fun vs H Q _ => ∃ (a : Addr) (ns : List Int), vs = [.ref a] ∧ SqL K H a (ns.map V.int) ∧ ns.length ≤ 63 ∧
  ∀ H' m c g, MS H' m c g 0 → Q (.ref m) H'
theorem ok_begun (D : DefAt K mg "_law_begun" s__law_begun) (T : Bt mg) (u__law_folded : Use P w K mg base "_law_folded" 1 ["script"] (spFolded K)) : Use P w K mg base "_law_begun" 2 ["script"] (spBegun K) := by
  refine use_of D (fun f fd F => F.ok sc__law_begun (fun vs H Q E h => ?_) (fun cdv A outer s H vs Q E hr h => ?_)) (fun _ _ _ _ _ _ us hl => match us, hl with | [_], _ => rfl)
  · obtain ⟨a, ns, rfl, _⟩ := h
    rfl
  · obtain ⟨a, ns, rfl, hs, hl, q⟩ := h
    refine ⟨_, (pss_cons (ps_set (i := 1) sc__law_begun.nd rfl (Or.inl rfl) (pe_disp (pps_cons pe_str (pe_use u__law_folded (by decide) hr (by rfl) (pa_cons (pv 0) pa_nil)) (pps_cons pe_str (pe_lst pa_nil) (pps_cons pe_str pe_int pps_nil))) (by rfl) (by rfl) (fun z => by cases z) (by decide)))
      (pss_cons (ps_dput (hu_of hr) (pv 1) pe_str (pe_lc (own := [("cell", 2)]) rfl sc__law_begun.nd (k_list (K := K) rfl (pv 0)) (blkOk_by (N := ["script", "m", "cell"]) (sc := defScope s__law_begun) (by decide +kernel)) (fun _ _ _ _ _ => (pg_name (i := 2) sc__law_begun.nd rfl (Or.inl rfl))) (fun _ _ _ _ _ => pts_nil) (fun _ _ _ _ _ => (pe_ifExp (pt_cmpR op_ge (pv 2) (pe_op op_pow pe_int pe_int) (nomark _)) (pv 2) pe_int))) rfl)
      (pss_one (ps_ret (pv 1))))), ?_⟩
    refine fun m nm => ⟨_, rfl, a, ns, rfl, sameSL (same_new nm) hs, hl, fun H1 c cs s1 nc hc ok => ⟨Nat.zero_le _, fun g ng => ?_⟩⟩
    have mc : m ≠ c := fun e => by rw [← e, upd_same] at nc; cases nc
    have hm1 : H1 m = some (.dK []) := s1 _ _ upd_same
    have mg1 : m ≠ g := fun e => by rw [e, ng] at hm1; cases hm1
    have cg : c ≠ g := fun e => by rw [e, ng] at hc; cases hc
    refine ⟨by rw [upd_ne mg1]; exact hm1, [(.inr "cells", .ref c), (.inr "great", .ref g), (.inr "spot", .int 0)], rfl, Nat.le_of_ble_eq_true rfl, ?_⟩
    rw [show mergeK [] [((.inr "cells" : L2.Key), V.ref c), (.inr "great", .ref g), (.inr "spot", .int 0)] = [(.inr "cells", .ref c), (.inr "great", .ref g), (.inr "spot", .int 0)] from rfl]
    generalize hH2 : upd (upd H1 g (.lst [])) m (.dK [((.inr "cells" : L2.Key), V.ref c), (.inr "great", .ref g), (.inr "spot", .int 0)]) = H2
    have hm2 : H2 m = some (.dK [((.inr "cells" : L2.Key), V.ref c), (.inr "great", .ref g), (.inr "spot", .int 0)]) := by rw [← hH2, upd_same]
    have hc2 : H2 c = some (.lst (cs.map V.int)) := by rw [← hH2, upd_ne mc.symm, upd_ne cg]; exact hc
    have hs2 : SqL K H2 a (ns.map V.int) := by
      refine sameSL (fun b u hb => ?_) hs
      have h1 : H1 b = some u := (Same.trans (same_new nm) s1) b u hb
      rw [← hH2, upd_ne (ne_of_none hb nm), upd_ne (ne_of_none h1 ng)]
      exact h1
    refine ⟨_, rfl, a, rfl, ⟨_, hs2⟩, fun L nL => ?_⟩
    have Lm : L ≠ m := fun e => by rw [e, hm2] at nL; cases nL
    have Lc : L ≠ c := fun e => by rw [e, hc2] at nL; cases nL
    refine lc_list (K := K) (a := a) (xs := ns.map V.int) (fun i H3 => Same H2 H3 ∧ ∃ gs : List Int, H3 L = some (.lst (gs.map V.int)) ∧ gs.length = i) ⟨same_new nL, [], upd_same, rfl⟩
      (fun i H3 _ ⟨sm, _⟩ => sameSL sm hs2) ?_ ?_
    · rintro i v H3 hi ⟨sm, gs, eL, lg⟩
      obtain ⟨x, hx, rfl⟩ := map_at hi
      have hi63 : i < ns.length := (List.getElem?_eq_some_iff.mp hx).1
      have put : ∀ y : Int, ∃ acc, H3 L = some (.lst acc) ∧ acc.length < sizeLine ∧ (Same H2 (upd H3 L (.lst (acc ++ [V.int y]))) ∧ ∃ gs : List Int, upd H3 L (.lst (acc ++ [V.int y])) L = some (.lst (gs.map V.int)) ∧ gs.length = i + 1) := fun y =>
        ⟨_, eL, by rw [List.length_map]; exact small_of (by omega), same_mut sm nL, gs ++ [y], by rw [upd_same, List.map_append]; rfl, by rw [List.length_append, lg]; rfl⟩
      refine ⟨rfl, _, rfl, 10, 18, rfl, rfl, ⟨by decide, by decide, by decide⟩, x, _, rfl, rfl, _, rfl, ?_⟩
      by_cases hx2 : (10 : Int) ^ (18 : Int).toNat ≤ x
      · rw [decide_eq_true hx2]
        exact ⟨_, rfl, put x⟩
      · rw [decide_eq_false hx2]
        exact put 0
    · rintro H3 ⟨sm, gs, eL, lg⟩
      rw [List.length_map] at lg
      have hm3 := sm _ _ hm2
      refine ⟨_, rfl, m, _, rfl, .k (k := .inr "great") hm3 (small_of (Nat.le_of_ble_eq_true rfl)), ?_⟩
      rw [show putK [((.inr "cells" : L2.Key), V.ref c), (.inr "great", .ref g), (.inr "spot", .int 0)] (.inr "great") (V.ref L) = [(.inr "cells", .ref c), (.inr "great", .ref L), (.inr "spot", .int 0)] from rfl]
      refine ⟨_, rfl, q _ m c L ⟨cs, gs, 0, upd_same, ?_, ?_, ok.1, ok.2, Lc.symm, by omega, Int.le_refl _, Int.le_refl _⟩⟩
      · rw [upd_ne mc.symm]
        exact sm _ _ hc2
      · rw [upd_ne Lm]
        exact eL
end
end KQ
namespace KQ
open PySem PySem.Spec PyProof.Rows L2 KR KM StX
/-! ### data that repr shows in short -/
structure Nc (k W : Nat) (d : PyData) : Prop where
  sh : d.showable = true
  nd : d.hasDict = false
  dp : d.depth ≤ k
  lf : d.leavesShort 13 = true
  wt : d.weight ≤ W
structure NcA (k W : Nat) (ds : List PyData) : Prop where
  sh : PyData.showableAll ds = true
  nd : PyData.hasDictAll ds = false
  dp : PyData.depthAll ds ≤ k
  lf : PyData.leavesShortAll 13 ds = true
  wt : PyData.weightAll ds ≤ W
theorem Nc.le {k W k' W' : Nat} {d : PyData} (h : Nc k W d) (h1 : k ≤ k') (h2 : W ≤ W') : Nc k' W' d := ⟨h.sh, h.nd, Nat.le_trans h.dp h1, h.lf, Nat.le_trans h.wt h2⟩
theorem NcA.le {k W k' W' : Nat} {d : List PyData} (h : NcA k W d) (h1 : k ≤ k') (h2 : W ≤ W') : NcA k' W' d := ⟨h.sh, h.nd, Nat.le_trans h.dp h1, h.lf, Nat.le_trans h.wt h2⟩
theorem nc_nat : ∀ i : Fin 1024, Nc 0 10 (.int ((i.val : Nat) : Int)) := fun i => by
  have e : ((i.val : Int)).natAbs = i.val := rfl
  have hlog : i.val.log2 < 10 := by
    by_cases h0 : i.val = 0
    · rw [h0]
      decide
    · exact (Nat.log2_lt h0).2 (by have := i.isLt; omega)
  refine ⟨?_, rfl, Nat.le_refl _, ?_, ?_⟩
  · simp only [PyData.showable, e]
    exact decide_eq_true (by omega)
  · simp only [PyData.leavesShort]
    exact decide_eq_true (PyData.shown_int_le (by have := i.isLt; rw [e]; omega))
  · simp only [PyData.weight, e]
    split <;> omega
theorem nc_int {i : Int} (h0 : 0 ≤ i) (h1 : i < 1024) : Nc 0 10 (.int i) := by
  have h := nc_nat ⟨i.toNat, by omega⟩
  have e : ((i.toNat : Nat) : Int) = i := by omega
  rw [show (((⟨i.toNat, by omega⟩ : Fin 1024).val : Nat) : Int) = i from e] at h
  exact h
theorem nc_bool (b : Bool) : Nc 0 0 (.bool b) := ⟨rfl, rfl, Nat.le_refl _, rfl, Nat.le_refl _⟩
theorem nc_nil (k : Nat) : NcA k 0 [] := ⟨rfl, rfl, Nat.zero_le _, rfl, Nat.le_refl _⟩
theorem nc_cons {k W1 W2 : Nat} {d : PyData} {ds : List PyData} (h : Nc k W1 d) (hs : NcA k W2 ds) : NcA k (W1 + 1 + W2) (d :: ds) := by
  refine ⟨?_, ?_, ?_, ?_, ?_⟩
  · simp only [PyData.showableAll, h.sh, hs.sh]; rfl
  · simp only [PyData.hasDictAll, h.nd, hs.nd]; rfl
  · have a := h.dp
    have b := hs.dp
    simp only [PyData.depthAll]
    exact Nat.max_le.mpr ⟨a, b⟩
  · simp only [PyData.leavesShortAll, h.lf, hs.lf]; rfl
  · have a := h.wt
    have b := hs.wt
    simp only [PyData.weightAll]
    omega
theorem nc_all {k W : Nat} : ∀ {ds : List PyData}, (∀ d ∈ ds, Nc k W d) → NcA k ((W + 1) * ds.length) ds
  | [], _ => (nc_nil k).le (Nat.le_refl _) (Nat.zero_le _)
  | d :: ds, h => by
    refine (nc_cons (h d List.mem_cons_self) (nc_all fun x hx => h x (List.mem_cons_of_mem _ hx))).le (Nat.le_refl _) ?_
    rw [List.length_cons, Nat.mul_add]
    omega
theorem nc_tup {k W : Nat} {ds : List PyData} (h : NcA k W ds) : Nc (k + 1) W (.tuple ds) := by
  refine ⟨by simp only [PyData.showable, h.sh], by simp only [PyData.hasDict, h.nd], ?_, by simp only [PyData.leavesShort, h.lf], by simp only [PyData.weight]; exact h.wt⟩
  have := h.dp
  simp only [PyData.depth]
  omega
theorem nc_lst {k W : Nat} {ds : List PyData} (h : NcA k W ds) : Nc (k + 1) W (.list ds) := by
  refine ⟨by simp only [PyData.showable, h.sh], by simp only [PyData.hasDict, h.nd], ?_, by simp only [PyData.leavesShort, h.lf], by simp only [PyData.weight]; exact h.wt⟩
  have := h.dp
  simp only [PyData.depth]
  omega
theorem nc_ints {p : List Int} (h : ∀ x ∈ p, 0 ≤ x ∧ x < 1024) : NcA 0 (11 * p.length) (p.map PyData.int) := by
  have := nc_all (k := 0) (W := 10) (ds := p.map PyData.int) (fun d hd => by
    obtain ⟨x, hx, rfl⟩ := List.mem_map.mp hd
    exact nc_int (h x hx).1 (h x hx).2)
  rw [List.length_map] at this
  exact this
section
variable {P : Program} {w : World} {K : PySem.W.Frag} {mg : Str → Option Value} {base : Heap}
theorem dp_ti {H : Hp} {a : Addr} {p : List Int} (h : TI H a p) : Dp K H (.ref a) (.tuple (p.map PyData.int)) := .tup (h.seq) (dpAll_ints p)
abbrev s__law_like : Stmt := topS 25
theorem sc__law_like : FnScope ["got", "due"] ["got", "due"] (defScope s__law_like) := ⟨rfl, rfl, rfl, by decide +kernel, rfl, by decide +kernel, by decide +kernel⟩
def spLike (K : PySem.W.Frag) : Sp := fun vs H Q _ => ∃ x y d, vs = [x, y] ∧ Dp K H x d ∧ Dp K H y d ∧ isDisplay d = true ∧ Nc 20 (2 ^ 20) d ∧ Q (.bl true) H
theorem ok_like (D : DefAt K mg "_law_like" s__law_like) (T : Bt mg) : UseG P w K mg base "_law_like" 1 ["got", "due"] (spLike K) := by
  refine use_ofG D (fun f fd F => Fun.okG F sc__law_like (fun vs H Q E h => ?_) (fun cdv A outer s H vs Q E gd hr h => ?_)) (fun _ _ _ _ _ _ us hl => match us, hl with | [_, _], _ => rfl)
  · obtain ⟨x, y, d, rfl, _⟩ := h
    rfl
  · obtain ⟨x, y, d, rfl, hx, hy, dis, nc, q⟩ := h
    refine ⟨_, (pss_one (ps_ret (pe_cmpR op_eq (pe_callB (k_repr (K := K) rfl gd hr.units) (by rfl) T.repr (by decide +kernel) (pa_cons (pv 0) pa_nil)) (pe_callB (k_repr (K := K) rfl gd hr.units) (by rfl) T.repr (by decide +kernel) (pa_cons (pv 1) pa_nil)) (nomark _)))), ?_⟩
    have hl := PyData.shown_fits (B := 13) (by decide) (by decide) nc.lf nc.wt
    have dp : d.depth ≤ 30 := Nat.le_trans nc.dp (by decide)
    refine ⟨_, rfl, x, d, rfl, hx, dis, nc.sh, nc.nd, dp, hl, _, rfl, y, d, rfl, hy, dis, nc.sh, nc.nd, dp, hl, ?_⟩
    refine ⟨rfl, ?_⟩
    rw [decide_eq_true rfl]
    exact q
theorem Kept.trans {H H1 H2 : Hp} {m g : Addr} (h : Kept H H1 m g) (h2 : Kept H1 H2 m g) : Kept H H2 m g := fun a u ha na nb => h2 a u (h a u ha na nb) na nb
theorem Kept.of {H H' : Hp} {m g : Addr} (h : Same H H') : Kept H H' m g := fun a u ha _ _ => h a u ha
theorem MS.mono {H H' : Hp} {m c g : Addr} {b : Int} (h : MS H m c g b) (s : Same H H') : MS H' m c g b := by
  obtain ⟨cs, gs, n, h1, h2, h3, r⟩ := h
  exact ⟨cs, gs, n, s _ _ h1, s _ _ h2, s _ _ h3, r⟩
theorem MS.le {H : Hp} {m c g : Addr} {b b' : Int} (h : MS H m c g b) (l : b ≤ b') : MS H m c g b' := by
  obtain ⟨cs, gs, n, h1, h2, h3, h4, h5, h6, h7, h8, h9⟩ := h
  exact ⟨cs, gs, n, h1, h2, h3, h4, h5, h6, h7, h8, by omega⟩
/-- the state stays where another object is changed -/
theorem MS.put {H : Hp} {m c g : Addr} {b : Int} (h : MS H m c g b) {a : Addr} {o : HO} (n1 : a ≠ m) (n2 : a ≠ c) (n3 : a ≠ g) : MS (L2.upd H a o) m c g b := by
  obtain ⟨cs, gs, n, h1, h2, h3, r⟩ := h
  exact ⟨cs, gs, n, by rw [upd_ne n1.symm]; exact h1, by rw [upd_ne n2.symm]; exact h2, by rw [upd_ne n3.symm]; exact h3, r⟩
theorem MS.ne {H : Hp} {m c g : Addr} {b : Int} (h : MS H m c g b) {a : Addr} (n : H a = none) : a ≠ m ∧ a ≠ c ∧ a ≠ g := by
  obtain ⟨cs, gs, k, h1, h2, h3, r⟩ := h
  exact ⟨ne_of_none h1 n |>.symm, ne_of_none h2 n |>.symm, ne_of_none h3 n |>.symm⟩
theorem kept_mut {H H' : Hp} {m g p : Addr} {o : HO} (e : Kept H H' m g) (h : H p = none) : Kept H (L2.upd H' p o) m g := fun a u ha na nb => by
  rw [upd_ne (ne_of_none ha h)]
  exact e a u ha na nb
theorem Kept.ti {H H' : Hp} {m c g a : Addr} {b : Int} {p : List Int} (h : Kept H H' m g) (s : MS H m c g b) (t : TI H a p) : TI H' a p := by
  obtain ⟨cs, gs, k, h1, h2, h3, r⟩ := s
  have t : Rd H a (.tup (p.map V.int)) := t
  have n1 : a ≠ m := t.ne h1 (fun _ z => by cases z) (fun _ _ z => by cases z)
  have n2 : a ≠ g := t.ne h3 (fun _ z => by cases z) (fun _ _ z => by cases z)
  rcases t with t | ⟨o, t⟩
  · exact .inl (h _ _ t n1 n2)
  · exact .inr ⟨o, h _ _ t n1 n2⟩
theorem erase_perm {α : Type} : ∀ {ls : List α} {k : Nat} {x : α}, ls[k]? = some x → ([x] ++ ls.eraseIdx k).Perm ls
  | [], k, x, h => by simp at h
  | a :: r, 0, x, h => by
    obtain rfl : a = x := Option.some.inj h
    exact List.Perm.refl _
  | a :: r, k + 1, x, h => by
    have h' : r[k]? = some x := h
    exact (List.Perm.swap a x _).trans (List.Perm.cons a (erase_perm h'))
theorem erase_map {α β : Type} (f : α → β) : ∀ (ls : List α) (k : Nat), (ls.map f).eraseIdx k = (ls.eraseIdx k).map f
  | [], k => by simp
  | a :: r, 0 => rfl
  | a :: r, k + 1 => by
    show f a :: (r.map f).eraseIdx k = f a :: (r.eraseIdx k).map f
    rw [erase_map f r k]
abbrev s__law_order : Stmt := topS 28
theorem sc__law_order : FnScope ["m", "many", "left", "turn"] ["m", "many"] (defScope s__law_order) := ⟨rfl, rfl, rfl, by decide +kernel, rfl, by decide +kernel, by decide +kernel⟩
def spOrder : Sp := fun vs H Q _ => ∃ m c g b many, vs = [.ref m, .int many] ∧ MS H m c g b ∧ b ≤ 100000 ∧ 1 ≤ many ∧ many ≤ 64 ∧
  ∀ H' l (ds : List Int), Kept H H' m g → MS H' m c g (b + many) → H' l = some (.lst (ds.map V.int)) → H l = none → ds.length = many.toNat → ds.Nodup → (∀ d ∈ ds, 0 ≤ d ∧ d < many) → Q (.ref l) H'
theorem ok_order (D : DefAt K mg "_law_order" s__law_order) (T : Bt mg) (u__law_draw : Use P w K mg base "_law_draw" 2 ["m", "limit"] spDraw) : Use P w K mg base "_law_order" 3 ["m", "many"] spOrder := by
  refine use_of D (fun f fd F => F.ok sc__law_order (fun vs H Q E h => ?_) (fun cdv A outer s H vs Q E hr h => ?_)) (fun _ _ _ _ _ _ us hl => match us, hl with | [_, _], _ => rfl)
  · obtain ⟨m, c, g, b, many, rfl, _⟩ := h
    rfl
  · obtain ⟨m, c, g, b, many, rfl, ms, hb, m1, m2, q⟩ := h
    refine ⟨_, (pss_cons (ps_set (i := 2) sc__law_order.nd rfl (Or.inr rfl) (pe_listRg rfl (by rfl) T.list (prg_1 (by rfl) T.range (pv 1))))
      (pss_one (ps_ret (pe_lc (own := [("turn", 3)]) rfl sc__law_order.nd (pi_range1 (by rfl) T.range (pa_cons (pv 1) pa_nil)) (blkOk_by (N := ["m", "many", "left", "turn"]) (sc := defScope s__law_order) (by decide +kernel)) (fun _ _ _ _ _ => (pg_name (i := 3) sc__law_order.nd rfl (Or.inl rfl))) (fun _ _ _ _ _ => pts_nil) (fun _ _ _ _ _ => (k_bm (K := K) rfl PySem.F.plainAttrs_list PySem.F.slot_list_pop PySem.F.type_list_pop mt_popAt (pv 2) (pa_cons (pe_use u__law_draw (by decide) hr (by rfl) (pa_cons (pv 0) (pa_cons (pe_callB (k_len (K := K) rfl) (by rfl) T.len PySem.boot_len (pa_cons (pv 2) pa_nil)) pa_nil))) pa_nil))))))), ?_⟩
    obtain ⟨mn, rfl⟩ : ∃ n : Nat, many = (n : Int) := ⟨many.toNat, by omega⟩
    refine ⟨_, rfl, _, rfl, RgOk.of_le (by omega) (by omega) (by omega) (by omega), fun l nl => ?_⟩
    rw [rgV_hv]
    refine ⟨_, rfl, _, rfl, by omega, by omega, fun L nL => ?_⟩
    have lL : l ≠ L := fun e => by rw [← e, upd_same] at nL; cases nL
    have nL0 : H L = none := (same_new nl).free nL
    have ms1 : MS (upd (upd H l (.lst (hv (List.range mn)))) L (.lst [])) m c g b := (ms.mono (same_new nl)).mono (same_new nL)
    refine lc_range (fun i H1 => Kept H H1 m g ∧ MS H1 m c g (b + (i : Nat)) ∧ ∃ os ls : List Nat, H1 l = some (.lst (hv ls)) ∧ H1 L = some (.lst (hv os)) ∧ os.length = i ∧ (os ++ ls).Perm (List.range mn))
      ⟨kept_mut (Kept.of (same_new nl)) nL0, by simpa using ms1, [], List.range mn, by rw [upd_ne lL, upd_same], by rw [upd_same]; rfl, rfl, List.Perm.refl _⟩ ?_ ?_
    · rintro i H1 hi ⟨kp, ms2, os, ls, el, eL, ol, pm⟩
      have hlen : ls.length = mn - i := by
        have := pm.length_eq
        rw [List.length_append, ol, List.length_range] at this
        omega
      have himn : i < mn := by omega
      refine ⟨rfl, _, rfl, .inl ⟨rfl, _, .inl (.inl el)⟩, _, rfl, _, rfl, l, _, rfl, .inl (sqL el), m, c, g, _, _, rfl, ms2, by omega, ?_, ?_, fun H2 d k2 ms3 d0 d1 => ?_⟩
      · unfold hv
        rw [List.length_map]
        omega
      · unfold hv
        rw [List.length_map]
        omega
      have hvl : (hv ls).length = ls.length := by unfold hv; rw [List.length_map]
      rw [hvl] at d1
      obtain ⟨x, hx⟩ : ∃ x, ls[d.toNat]? = some x := ⟨_, List.getElem?_eq_getElem (by omega)⟩
      have lm : l ≠ m ∧ l ≠ g := by
        have := ms.ne nl
        exact ⟨this.1, this.2.2⟩
      have Lm : L ≠ m ∧ L ≠ g := by
        have := ms.ne nL0
        exact ⟨this.1, this.2.2⟩
      have el2 := k2 l _ el lm.1 lm.2
      have eL2 := k2 L _ eL Lm.1 Lm.2
      refine ⟨l, hv ls, d, d.toNat, .int ((x : Nat) : Int), rfl, rfl, el2, by omega, by omega, ?_, at_map hx, ?_⟩
      · have := (ixN_seq (ixN_of (n := ls.length) d0 d1)).1
        rw [hvl]
        exact this
      refine ⟨_, by rw [upd_ne lL.symm]; exact eL2, ?_, ?_⟩
      · unfold hv
        rw [List.length_map]
        exact small_of (by omega)
      refine ⟨kept_mut (kept_mut (kp.trans k2) nl) nL0, ?_, os ++ [x], ls.eraseIdx d.toNat, ?_, ?_, ?_, ?_⟩
      · have := ms3
        have n1 := ms.ne nl
        have n2 := ms.ne nL0
        rw [show b + ((i + 1 : Nat) : Int) = b + (i : Nat) + 1 by omega]
        exact (ms3.put n1.1 n1.2.1 n1.2.2).put n2.1 n2.2.1 n2.2.2
      · rw [upd_ne lL, upd_same]
        unfold hv
        rw [erase_map]
      · rw [upd_same]
        unfold hv
        rw [List.map_append]
        rfl
      · rw [List.length_append, ol]
        rfl
      · rw [List.append_assoc]
        exact (List.Perm.append_left os (erase_perm hx)).trans pm
    · rintro H1 ⟨kp, ms2, os, ls, el, eL, ol, pm⟩
      have l0 : ls = [] := by
        have := pm.length_eq
        rw [List.length_append, ol, List.length_range] at this
        exact List.length_eq_zero_iff.mp (by omega)
      subst l0
      rw [List.append_nil] at pm
      rw [show ((((mn : Nat) : Int)).toNat : Nat) = mn by omega] at ms2
      refine q H1 L (os.map fun x => ((x : Nat) : Int)) kp ms2 ?_ nL0 ?_ ?_ ?_
      · rw [eL, List.map_map]
        rfl
      · rw [List.length_map, ol]
      · exact List.pairwise_map.mpr ((pm.nodup_iff.mpr List.nodup_range).imp fun h e => h (by omega))
      · intro d hd
        obtain ⟨x, hx, rfl⟩ := List.mem_map.mp hd
        have := List.mem_range.mp (pm.mem_iff.mp hx)
        omega
end
end KQ
namespace KQ
open PySem PySem.Spec PyProof.Rows L2 KR KM StX
theorem dg_new {α κ : Type} [DecidableEq α] [DecidableEq κ] {f : α → κ} (hf : ∀ a b, f a = f b → a = b) {ks : List α} {x : α} (h : ks.Nodup) (hx : x ∉ ks) : valV (dg f (ks ++ [x])) (f x) = some (V.int ((ks.length : Nat) : Int)) := by
  have hn : (ks ++ [x]).Nodup := by
    rw [List.nodup_append]
    refine ⟨h, by simp, fun a ha b hb e => ?_⟩
    rw [List.mem_singleton.mp hb] at e
    exact hx (e ▸ ha)
  rw [dg_val hf _ _ hn, if_pos (by simp), List.idxOf_append, if_neg hx]
  simp
section
variable {P : Program} {w : World} {K : PySem.W.Frag} {mg : Str → Option Value} {base : Heap}
end
end KQ
namespace KQ
open PySem PySem.Spec PyProof.Rows L2 KR KM StX
section
variable {P : Program} {w : World} {K : PySem.W.Frag} {mg : Str → Option Value} {base : Heap}
theorem Kept.free {H H1 : Hp} {m g L : Addr} (h : Kept H H1 m g) (n : H1 L = none) (n1 : L ≠ m) (n2 : L ≠ g) : H L = none := by
  cases e : H L with
  | none => rfl
  | some u =>
    rw [h L u e n1 n2] at n
    cases n
def spAny : Sp := fun vs H Q _ => ∃ m c g b many, vs = [.ref m, .int many] ∧ MS H m c g b ∧ b ≤ 100000 ∧ 1 ≤ many ∧ many ≤ 60 ∧
  ∀ H' t p, Kept H H' m g → MS H' m c g (b + 1 + many) → TI H' t p → Par p → p.length = many.toNat → Q (.ref t) H'
def spCoarser : Sp := fun vs H Q _ => ∃ m c g b a p, vs = [.ref m, .ref a] ∧ MS H m c g b ∧ b ≤ 100000 ∧ TI H a p ∧ Par p ∧
  ∀ H' t r, Kept H H' m g → MS H' m c g (b + 61) → TI H' t r → Par r → r.length = p.length → Q (.ref t) H'
def Gd (p r : List Int) (s t : Nat) : Prop := p[s]? = p[t]? → r[s]? = r[t]?
theorem finer_gd {p r : List Int} (hl : p.length = r.length) : Finer p r ↔ ∀ t, t < p.length → ∀ s, s < t → Gd p r s t := by
  constructor
  · intro h t ht s hs e
    have hp := List.getElem?_eq_getElem ht
    have hr : r[t]? = some _ := List.getElem?_eq_getElem (by omega)
    have hr2 : r[s]? = some _ := List.getElem?_eq_getElem (by omega)
    rw [hp] at e
    rw [hr, hr2, h s t _ _ _ e hp hr2 hr]
  · intro h i j x y z hi hj yi zj
    have li := (List.getElem?_eq_some_iff.mp hi).1
    have lj := (List.getElem?_eq_some_iff.mp hj).1
    rcases Nat.lt_trichotomy i j with c | c | c
    · have := h j lj i c (by rw [hi, hj])
      rw [yi, zj] at this
      exact Option.some.inj this
    · subst c
      rw [yi] at zj
      exact Option.some.inj zj
    · have := h i li j c (by rw [hi, hj])
      rw [yi, zj] at this
      exact (Option.some.inj this).symm
def spLFiner : Sp := fun vs H Q _ => ∃ a b p r, vs = [.ref a, .ref b] ∧ TI H a p ∧ TI H b r ∧ p.length ≤ 60 ∧ p.length = r.length ∧ ∀ H' c, Same H H' → (c = true ↔ Finer p r) → Q (.bl c) H'
end
end KQ
namespace KQ
open PySem PySem.Spec PyProof.Rows L2 KR KM StX
section
variable {P : Program} {w : World} {K : PySem.W.Frag} {mg : Str → Option Value} {base : Heap}
/-- tuples of whole numbers, in their order -/
def Its (H : Hp) (ts : List Addr) (xss : List (List Int)) : Prop := ts.length = xss.length ∧ ∀ (i : Nat) (t : Addr), ts[i]? = some t → ∃ xs, xss[i]? = some xs ∧ TI H t xs
theorem Its.mono {H H' : Hp} {ts : List Addr} {xss : List (List Int)} (h : Its H ts xss) (s : Same H H') : Its H' ts xss := ⟨h.1, fun i t ht => let ⟨xs, a, b⟩ := h.2 i t ht; ⟨xs, a, b.mono s⟩⟩
theorem Its.put {H : Hp} {ts : List Addr} {xss : List (List Int)} {L : Addr} {xs : List V} {o : HO} (h : Its H ts xss) (e : H L = some (.lst xs)) : Its (upd H L o) ts xss := ⟨h.1, fun i t ht => by
  obtain ⟨ys, a, b⟩ := h.2 i t ht
  refine ⟨ys, a, ?_⟩
  exact rd_lst (show TI _ _ _ from b) e⟩
theorem Its.app {H : Hp} {ts us : List Addr} {xss yss : List (List Int)} (h : Its H ts xss) (g : Its H us yss) : Its H (ts ++ us) (xss ++ yss) := by
  refine ⟨by rw [List.length_append, List.length_append, h.1, g.1], fun i t ht => ?_⟩
  by_cases hi : i < ts.length
  · rw [List.getElem?_append_left hi] at ht
    obtain ⟨xs, a, b⟩ := h.2 i t ht
    exact ⟨xs, by rw [List.getElem?_append_left (by rw [← h.1]; exact hi)]; exact a, b⟩
  · rw [List.getElem?_append_right (by omega)] at ht
    obtain ⟨xs, a, b⟩ := g.2 _ t ht
    refine ⟨xs, ?_, b⟩
    rw [List.getElem?_append_right (by rw [← h.1]; omega), ← h.1]
    exact a
theorem Its.nil {H : Hp} : Its H [] [] := ⟨rfl, fun i t ht => by simp at ht⟩
theorem Its.one {H : Hp} {t : Addr} {xs : List Int} (h : TI H t xs) : Its H [t] [xs] := ⟨rfl, fun i u hu => by
  match i, hu with
  | 0, hu =>
    obtain rfl : t = u := Option.some.inj hu
    exact ⟨xs, rfl, h⟩
  | i + 1, hu => simp at hu⟩
theorem Its.lt {H : Hp} {l : Addr} {ts : List Addr} {xss : List (List Int)} (h : Its H ts xss) (e : H l = some (.lst (ts.map V.ref))) : LT H l xss := ⟨ts, e, h.1, h.2⟩
def spLParts : Sp := fun vs H Q _ => ∃ n : Nat, vs = [.int ((n + 1 : Nat) : Int)] ∧ n < 8 ∧ ∀ H' l, Same H H' → LT H' l (allP n) → Q (.ref l) H'
end
end KQ
namespace KQ
open PySem PySem.Spec PyProof.Rows L2 KR KM StX
section
variable {P : Program} {w : World} {K : PySem.W.Frag} {mg : Str → Option Value} {base : Heap}
def LabOf (L : List Int) (x : Nat) : Int := L.getD x 0
def spHung : Sp := fun vs H Q _ => ∃ a b p r, vs = [.ref a, .ref b] ∧ TI H a p ∧ TI H b r ∧ Par p ∧ Par r ∧ p.length = r.length ∧
  ∀ H' t l cl (ls : List Int), Same H H' → H' t = some (.tup [.ref l, cl]) → H' l = some (.lst (ls.map V.int)) → ls.length = (bc 0 p + bc 0 r).toNat →
    (∀ x y, x < ls.length → y < ls.length → (LabOf ls x = LabOf ls y ↔ glue (tiesOf p r) x y)) → Q (.ref t) H'
end
end KQ
namespace KQ
open PySem PySem.Spec PyProof.Rows L2 KR KM
/-- lists of one kernel number alike -/
theorem num_congr {α β : Type} [DecidableEq α] [DecidableEq β] {xs : List α} {ys : List β} (hl : ys.length = xs.length)
    (h : ∀ (i j : Nat) (x y : α) (u v : β), xs[i]? = some x → xs[j]? = some y → ys[i]? = some u → ys[j]? = some v → (x = y ↔ u = v)) : num xs = num ys := by
  refine num_is (by rw [num_len, hl]) (num_rg ys) fun i j x y u v hi hj ui vj => ?_
  have li := (List.getElem?_eq_some_iff.mp hi).1
  have lj := (List.getElem?_eq_some_iff.mp hj).1
  have yi : ys[i]? = some _ := List.getElem?_eq_getElem (by omega)
  have yj : ys[j]? = some _ := List.getElem?_eq_getElem (by omega)
  rw [num_ker yi yj ui vj]
  exact h i j x y _ _ hi hj yi yj
/-- ties and glue -/
theorem glue_mem {t : Nat × Nat} : ∀ {ts : List (Nat × Nat)}, t ∈ ts → glue ts t.1 t.2 := by
  intro ts
  have : ∀ n (ts : List (Nat × Nat)), ts.length = n → t ∈ ts → glue ts t.1 t.2 := by
    intro n
    induction n with
    | zero => intro ts hl ht; rw [List.eq_nil_of_length_eq_zero hl] at ht; cases ht
    | succ n ih =>
      intro ts hl ht
      have hne : ts ≠ [] := fun e => by rw [e] at hl; cases hl
      rw [← List.dropLast_concat_getLast hne] at ht ⊢
      rw [glue_snoc]
      rcases List.mem_append.mp ht with ht | ht
      · exact .inl (ih _ (by rw [List.length_dropLast, hl]; rfl) ht)
      · rw [List.mem_singleton.mp ht]
        exact .inr (.inl ⟨(glue_eqv _).refl _, (glue_eqv _).refl _⟩)
  exact this _ ts rfl
theorem glue_map {φ : Nat → Nat} : ∀ (ts : List (Nat × Nat)) (R R' : Nat → Nat → Prop), (∀ x y, R' (φ x) (φ y) ↔ R x y) →
    ∀ x y, (ts.map fun t => (φ t.2, φ t.1)).foldl (fun R t => J R t.1 t.2) R' (φ x) (φ y) ↔ ts.foldl (fun R t => J R t.1 t.2) R x y
  | [], R, R', h, x, y => h x y
  | t :: ts, R, R', h, x, y => by
    refine glue_map ts (J R t.1 t.2) (J R' (φ t.2) (φ t.1)) (fun a b => ?_) x y
    unfold J
    rw [h, h, h, h, h]
    constructor
    · rintro (q | q | q)
      · exact .inl q
      · exact .inr (.inr q)
      · exact .inr (.inl q)
    · rintro (q | q | q)
      · exact .inl q
      · exact .inr (.inr q)
      · exact .inr (.inl q)
theorem zip_swap : ∀ (p r : List Int), r.zip p = (p.zip r).map fun q => (q.2, q.1)
  | [], [] => rfl
  | [], _ :: _ => rfl
  | _ :: _, [] => rfl
  | a :: p, b :: r => by
    rw [List.zip_cons_cons, List.zip_cons_cons, List.map_cons, zip_swap p r]
section
variable {p r : List Int}
theorem zip_at {i : Nat} {x y : Int} (hx : p[i]? = some x) (hy : r[i]? = some y) : (p.zip r)[i]? = some (x, y) := by
  rw [List.getElem?_zip_eq_some]
  exact ⟨hx, hy⟩
theorem tie_at {i : Nat} {x y : Int} (hx : p[i]? = some x) (hy : r[i]? = some y) : glue (tiesOf p r) x.toNat (bc 0 p + y).toNat :=
  glue_mem (t := (x.toNat, (bc 0 p + y).toNat)) (List.mem_of_getElem? (ties_at hx hy))
/-- the blocks of the one and of the other, named the other way about -/
def flip (P R x : Nat) : Nat := if x < P then R + x else if x < P + R then x - P else x
theorem flip_inj {P R x y : Nat} : flip P R x = flip P R y ↔ x = y := by
  unfold flip
  split <;> split <;> (try split) <;> (try split) <;> omega
theorem glue_flip (hp : Rg 0 p) (hr : Rg 0 r) (x y : Nat) :
    glue (tiesOf r p) (flip (bc 0 p).toNat (bc 0 r).toNat x) (flip (bc 0 p).toNat (bc 0 r).toNat y) ↔ glue (tiesOf p r) x y := by
  have e : tiesOf r p = (tiesOf p r).map fun t => (flip (bc 0 p).toNat (bc 0 r).toNat t.2, flip (bc 0 p).toNat (bc 0 r).toNat t.1) := by
    unfold tiesOf
    rw [List.map_map, zip_swap p r, List.map_map]
    refine List.map_congr_left fun q hq => ?_
    have h1 := (rg_mem 0 p (Int.le_refl _) hp).1 q.1 (List.of_mem_zip hq).1
    have h2 := (rg_mem 0 r (Int.le_refl _) hr).1 q.2 (List.of_mem_zip hq).2
    have e1 : flip (bc 0 p).toNat (bc 0 r).toNat (bc 0 p + q.2).toNat = q.2.toNat := by
      unfold flip
      rw [if_neg (by omega), if_pos (by omega)]
      omega
    have e2 : flip (bc 0 p).toNat (bc 0 r).toNat q.1.toNat = (bc 0 r + q.1).toNat := by
      unfold flip
      rw [if_pos (by omega)]
      omega
    show (q.2.toNat, (bc 0 r + q.1).toNat) = (_, _)
    rw [e1, e2]
  rw [e]
  exact glue_map (tiesOf p r) Eq Eq (fun _ _ => flip_inj) x y
/-- above of the one and the other, either way -/
theorem above_flip (hp : Rg 0 p) (hr : Rg 0 r) (hl : p.length = r.length) {L L' : Nat → Int} (h : ∀ x y, L x = L y ↔ glue (tiesOf p r) x y) (h' : ∀ x y, L' x = L' y ↔ glue (tiesOf r p) x y) :
    num (r.map fun b => L' b.toNat) = num (p.map fun b => L b.toNat) := by
  refine num_congr (by rw [List.length_map, List.length_map, hl]) fun i j x y u v hx hy hu hv => ?_
  obtain ⟨x, hx', rfl⟩ := map_at hx
  obtain ⟨y, hy', rfl⟩ := map_at hy
  obtain ⟨u, hu', rfl⟩ := map_at hu
  obtain ⟨v, hv', rfl⟩ := map_at hv
  rw [h, h']
  have a1 := (rg_mem 0 r (Int.le_refl _) hr).1 x (List.mem_of_getElem? hx')
  have a2 := (rg_mem 0 r (Int.le_refl _) hr).1 y (List.mem_of_getElem? hy')
  have f : ∀ z : Int, 0 ≤ z → z < bc 0 r → flip (bc 0 p).toNat (bc 0 r).toNat (bc 0 p + z).toNat = z.toNat := by
    intro z z0 z1
    have := bc_ge 0 p
    unfold flip
    rw [if_neg (by omega), if_pos (by omega)]
    omega
  rw [← f x a1.1 a1.2, ← f y a2.1 a2.2, glue_flip hp hr]
  have E := glue_eqv (tiesOf p r)
  have t1 := tie_at hu' hx'
  have t2 := tie_at hv' hy'
  constructor
  · intro q
    exact E.trans _ _ _ t1 (E.trans _ _ _ q (E.symm _ _ t2))
  · intro q
    exact E.trans _ _ _ (E.symm _ _ t1) (E.trans _ _ _ q t2)
/-- above by labels -/
theorem above_labels (hp : Rg 0 p) {L : Nat → Int} {ls : List Int} (hlen : bc 0 p ≤ ls.length) (h : ∀ x y, L x = L y ↔ glue (tiesOf p r) x y)
    (hg : ∀ x y, x < ls.length → y < ls.length → (LabOf ls x = LabOf ls y ↔ glue (tiesOf p r) x y)) : num (p.map fun b => LabOf ls b.toNat) = num (p.map fun b => L b.toNat) := by
  refine num_congr (by rw [List.length_map, List.length_map]) fun i j x y u v hx hy hu hv => ?_
  obtain ⟨x, hx', rfl⟩ := map_at hx
  obtain ⟨y, hy', rfl⟩ := map_at hy
  obtain ⟨u, hu', rfl⟩ := map_at hu
  obtain ⟨v, hv', rfl⟩ := map_at hv
  rw [hx'] at hu'
  rw [hy'] at hv'
  obtain rfl := Option.some.inj hu'
  obtain rfl := Option.some.inj hv'
  have a1 := (rg_mem 0 p (Int.le_refl _) hp).1 x (List.mem_of_getElem? hx')
  have a2 := (rg_mem 0 p (Int.le_refl _) hp).1 y (List.mem_of_getElem? hy')
  rw [hg x.toNat y.toNat (by omega) (by omega), h]
theorem num_at {α : Type} [DecidableEq α] {xs : List α} {i j : Nat} {x y : α} {u v : Int} (hi : xs[i]? = some x) (hj : xs[j]? = some y) (ui : (num xs)[i]? = some u) (vj : (num xs)[j]? = some v) (e : x = y) : u = v :=
  (num_ker hi hj ui vj).mpr e
theorem at_some {α : Type} {xs : List α} {i : Nat} (h : i < xs.length) : ∃ x, xs[i]? = some x := ⟨_, List.getElem?_eq_getElem h⟩
theorem finer_above1 {L : Nat → Int} : Finer p (num (p.map fun b => L b.toNat)) := by
  intro i j x y z hi hj yi zj
  exact num_at (at_map (f := fun b : Int => L b.toNat) hi) (at_map hj) yi zj rfl
theorem finer_above2 (hl : p.length = r.length) {L : Nat → Int} (h : ∀ x y, L x = L y ↔ glue (tiesOf p r) x y) : Finer r (num (p.map fun b => L b.toNat)) := by
  intro i j x y z hi hj yi zj
  have li := (List.getElem?_eq_some_iff.mp hi).1
  have lj := (List.getElem?_eq_some_iff.mp hj).1
  obtain ⟨u, hu⟩ := at_some (xs := p) (i := i) (by omega)
  obtain ⟨v, hv⟩ := at_some (xs := p) (i := j) (by omega)
  refine num_at (at_map (f := fun b : Int => L b.toNat) hu) (at_map hv) yi zj ((h _ _).mpr ?_)
  have E := glue_eqv (tiesOf p r)
  exact E.trans _ _ _ (tie_at hu hi) (E.symm _ _ (tie_at hv hj))
theorem finer_below1 (hl : p.length = r.length) : Finer (num (p.zip r)) p := by
  intro i j x y z hi hj yi zj
  have li := (List.getElem?_eq_some_iff.mp yi).1
  have lj := (List.getElem?_eq_some_iff.mp zj).1
  obtain ⟨u, hu⟩ := at_some (xs := r) (i := i) (by omega)
  obtain ⟨v, hv⟩ := at_some (xs := r) (i := j) (by omega)
  have := (num_ker (zip_at yi hu) (zip_at zj hv) hi hj).mp rfl
  exact (Prod.mk.inj this).1
theorem finer_below2 (hl : p.length = r.length) : Finer (num (p.zip r)) r := by
  intro i j x y z hi hj yi zj
  have li := (List.getElem?_eq_some_iff.mp yi).1
  have lj := (List.getElem?_eq_some_iff.mp zj).1
  obtain ⟨u, hu⟩ := at_some (xs := p) (i := i) (by omega)
  obtain ⟨v, hv⟩ := at_some (xs := p) (i := j) (by omega)
  have := (num_ker (zip_at hu yi) (zip_at hv zj) hi hj).mp rfl
  exact (Prod.mk.inj this).2
end
/-- codes of blocks -/
def Code (b v : Int) : Prop := ∃ d s : Int, 0 ≤ d ∧ (s = 1 ∨ s = -1) ∧ v = (d * 61 + b) * s
theorem code_inj {b b' v : Int} (h : Code b v) (h' : Code b' v) (b0 : 0 ≤ b) (b1 : b < 61) (c0 : 0 ≤ b') (c1 : b' < 61) : b = b' := by
  obtain ⟨d, s, d0, hs, e⟩ := h
  obtain ⟨d', s', d0', hs', e'⟩ := h'
  rcases hs with rfl | rfl <;> rcases hs' with rfl | rfl <;> omega
theorem num_codes {p xs : List Int} (hp : Rg 0 p) (p60 : p.length ≤ 60) (hl : xs.length = p.length) (h : ∀ (i : Nat) (x v : Int), p[i]? = some x → xs[i]? = some v → Code x v)
    (hf : ∀ (i j : Nat) (x u v : Int), p[i]? = some x → p[j]? = some x → xs[i]? = some u → xs[j]? = some v → u = v) : num xs = p := by
  refine num_is hl.symm hp fun i j x y u v hx hy hu hv => ⟨fun e => ?_, fun e => ?_⟩
  · have a1 := (rg_mem 0 p (Int.le_refl _) hp).1 u (List.mem_of_getElem? hu)
    have a2 := (rg_mem 0 p (Int.le_refl _) hp).1 v (List.mem_of_getElem? hv)
    have g := bc_le 0 p
    subst e
    exact code_inj (h i u x hu hx) (h j v x hv hy) a1.1 (by omega) a2.1 (by omega)
  · subst e
    exact hf i j u x y hu hv hx hy
end KQ
namespace KQ
open PySem PySem.Spec PyProof.Rows L2 KR KM StX
theorem dp_its {K : PySem.W.Frag} {H : Hp} : ∀ {ts : List Addr} {xss : List (List Int)}, Its H ts xss → DpAll K H (ts.map V.ref) (xss.map fun xs => PyData.tuple (xs.map PyData.int))
  | [], [], _ => .nil
  | [], _ :: _, h => by cases h.1
  | _ :: _, [], h => by cases h.1
  | t :: ts, xs :: xss, h => by
    obtain ⟨ys, e, ht⟩ := h.2 0 t rfl
    obtain rfl : xs = ys := Option.some.inj e
    exact .cons (dp_ti ht) (dp_its ⟨Nat.succ.inj h.1, fun i u hu => h.2 (i + 1) u hu⟩)
theorem ti_new {H : Hp} {a : Addr} {p : List Int} : TI (upd H a (.tup (p.map V.int))) a p := .inl upd_same
theorem dp_tt {K : PySem.W.Frag} {H : Hp} {a : Addr} {xss : List (List Int)} (h : KQ.TT H a xss) : Dp K H (.ref a) (.tuple (xss.map fun xs => PyData.tuple (xs.map PyData.int))) := by
  obtain ⟨ts, e, h1, h2⟩ := h
  exact .tup (sqT e) (dp_its ⟨h1, h2⟩)
theorem nc_ti {p : List Int} (h : ∀ x ∈ p, 0 ≤ x ∧ x < 1024) (hl : p.length ≤ 60) : Nc 1 660 (.tuple (p.map PyData.int)) := (nc_tup (nc_ints h)).le (Nat.le_refl _) (by omega)
theorem nc_tt {xss : List (List Int)} (n : Nat) (h : ∀ xs ∈ xss, (∀ x ∈ xs, 0 ≤ x ∧ x < 1024) ∧ xs.length ≤ n) : Nc 2 ((11 * n + 1) * xss.length) (.tuple (xss.map fun xs => PyData.tuple (xs.map PyData.int))) := by
  have := nc_all (k := 1) (W := 11 * n) (ds := xss.map fun xs => PyData.tuple (xs.map PyData.int)) (fun d hd => by
    obtain ⟨xs, hx, rfl⟩ := List.mem_map.mp hd
    exact (nc_tup (nc_ints (h xs hx).1)).le (Nat.le_refl _) (Nat.mul_le_mul (Nat.le_refl _) (h xs hx).2))
  rw [List.length_map] at this
  exact nc_tup this
theorem par_small {p : List Int} (h : Rg 0 p) (hl : p.length ≤ 60) : ∀ x ∈ p, 0 ≤ x ∧ x < 1024 := fun x hx => by
  have := (rg_mem 0 p (Int.le_refl _) h).1 x hx
  have := bc_le 0 p
  omega
end KQ
namespace KM
/-! ### heads that lead to roots, in any order -/
structure Wood (hs : List Nat) (ρ d : Nat → Nat) : Prop where
  root : ∀ x, up hs (ρ x) = ρ x
  self : ∀ x, up hs x = x → ρ x = x
  step : ∀ x, ρ (up hs x) = ρ x
  down : ∀ x, up hs x ≠ x → d (up hs x) < d x
  lt : ∀ x, x < hs.length → up hs x < hs.length
  rlt : ∀ x, x < hs.length → ρ x < hs.length
theorem wood_range (n : Nat) : Wood (List.range n) id (fun _ => 0) :=
  ⟨fun x => up_range n x, fun _ _ => rfl, fun x => up_range n x, fun x h => absurd (up_range n x) h, fun x h => by rw [up_range]; exact h, fun _ h => h⟩
theorem wood_unite {hs : List Nat} {ρ d : Nat → Nat} (w : Wood hs ρ d) {a b : Nat} (ha : a < hs.length) (hb : b < hs.length) (ea : up hs a = a) (eb : up hs b = b) (ne : a ≠ b) :
    Wood (hs.set b a) (fun y => if ρ y = b then a else ρ y) (fun y => d y + if ρ y = b then d a + 1 else 0) := by
  have ra := w.self a ea
  have rb := w.self b eb
  refine ⟨fun x => ?_, fun x => ?_, fun x => ?_, fun x => ?_, fun x hx => ?_, fun x hx => ?_⟩
  · show up (hs.set b a) (if ρ x = b then a else ρ x) = if ρ x = b then a else ρ x
    rw [up_set hb]
    by_cases e : ρ x = b
    · rw [if_pos e, if_neg ne, ea]
    · rw [if_neg e, if_neg e, w.root]
  · rw [up_set hb]
    show _ → (if ρ x = b then a else ρ x) = x
    by_cases e : x = b
    · rw [if_pos e]
      intro z
      exact absurd (z.trans e) ne
    · rw [if_neg e]
      intro z
      rw [w.self x z, if_neg e]
  · show (if ρ (up (hs.set b a) x) = b then a else ρ (up (hs.set b a) x)) = if ρ x = b then a else ρ x
    rw [up_set hb]
    by_cases e : x = b
    · subst e
      rw [if_pos rfl, ra, if_neg ne, rb, if_pos rfl]
    · rw [if_neg e, w.step]
  · show _ → d (up (hs.set b a) x) + (if ρ (up (hs.set b a) x) = b then d a + 1 else 0) < d x + (if ρ x = b then d a + 1 else 0)
    rw [up_set hb]
    by_cases e : x = b
    · subst e
      rw [if_pos rfl, ra, if_neg ne, rb, if_pos rfl]
      intro _
      omega
    · rw [if_neg e, w.step]
      intro z
      have := w.down x z
      omega
  · rw [List.length_set] at hx ⊢
    rw [up_set hb]
    split
    · exact ha
    · exact w.lt x hx
  · rw [List.length_set] at hx ⊢
    show (if ρ x = b then a else ρ x) < hs.length
    split
    · exact ha
    · exact w.rlt x hx
theorem wood_tie {ρ : Nat → Nat} {R : Nat → Nat → Prop} {a b : Nat} (h : ∀ x y, ρ x = ρ y ↔ R x y) (x y : Nat) :
    ((if ρ x = ρ b then ρ a else ρ x) = if ρ y = ρ b then ρ a else ρ y) ↔ J R a b x y := by
  unfold J
  rw [← h x y, ← h x a, ← h b y, ← h x b, ← h a y]
  generalize ρ x = rx
  generalize ρ y = ry
  generalize ρ a = ra
  generalize ρ b = rb
  split <;> split <;> omega
end KM
namespace KQ
open PySem PySem.Spec PyProof.Rows L2 KR KM StX
section
variable {P : Program} {w : World} {K : PySem.W.Frag} {mg : Str → Option Value} {base : Heap}
/-- no door closes a ring with doors ahead of it -/
def RingAt (p r : List Int) (i : Nat) : Prop := ∃ x y, p[i]? = some x ∧ r[i]? = some y ∧ glue ((tiesOf p r).take i) x.toNat (bc 0 p + y).toNat
def NoRing (p r : List Int) : Prop := ∀ i, ¬ RingAt p r i
theorem ring_lt {p r : List Int} {i : Nat} (h : RingAt p r i) : i < p.length := by
  obtain ⟨x, y, hx, _⟩ := h
  exact (List.getElem?_eq_some_iff.mp hx).1
def spNoRing : Sp := fun vs H Q _ => ∃ a b p r, vs = [.ref a, .ref b] ∧ TI H a p ∧ TI H b r ∧ Par p ∧ Par r ∧ p.length = r.length ∧
  ∀ H' c, Same H H' → (c = true ↔ NoRing p r) → Q (.bl c) H'
def Tree (p r : List Int) : Prop := bc 0 p + bc 0 r = p.length + 1 ∧ NoRing p r
def spMeets : Sp := fun vs H Q _ => ∃ a b p r, vs = [.ref a, .ref b] ∧ TI H a p ∧ TI H b r ∧ Par p ∧ Par r ∧ p.length = r.length ∧ ∀ H' c, Same H H' → (c = true ↔ Tree p r) → Q (.bl c) H'
end
end KQ
namespace KM
/-- how many unlike items -/
def dcount (xs : List Int) : Nat := (firsts xs).length
theorem sub_len {α : Type} [DecidableEq α] : ∀ {xs ys : List α}, xs.Nodup → (∀ x ∈ xs, x ∈ ys) → xs.length ≤ ys.length
  | [], _, _, _ => Nat.zero_le _
  | x :: xs, ys, h, s => by
    have hx := s x List.mem_cons_self
    rw [List.nodup_cons] at h
    have e := List.length_erase_of_mem hx
    have l := List.length_pos_of_mem hx
    have := sub_len (xs := xs) (ys := ys.erase x) h.2 fun y hy => (List.mem_erase_of_ne (fun q : y = x => h.1 (by rw [← q]; exact hy))).mpr (s y (List.mem_cons_of_mem _ hy))
    rw [List.length_cons]
    omega
theorem same_len {α : Type} [DecidableEq α] {xs ys : List α} (h : xs.Nodup) (g : ys.Nodup) (e : ∀ x, x ∈ xs ↔ x ∈ ys) : xs.length = ys.length :=
  Nat.le_antisymm (sub_len h fun x hx => (e x).mp hx) (sub_len g fun x hx => (e x).mpr hx)
/-- one of two unlike items put for the other -/
theorem dcount_merge {xs : List Int} {u v : Int} (hu : u ∈ xs) (hv : v ∈ xs) (n : u ≠ v) : dcount (xs.map fun z => if z = v then u else z) + 1 = dcount xs := by
  unfold dcount
  have hv' : v ∈ firsts xs := (mem_firsts xs).mpr hv
  have l := List.length_pos_of_mem hv'
  have e := List.length_erase_of_mem hv'
  have := same_len (firsts_nodup (xs.map fun z => if z = v then u else z)) ((firsts_nodup xs).erase v) (fun x => by
    rw [mem_firsts, (firsts_nodup xs).mem_erase_iff, mem_firsts, List.mem_map]
    constructor
    · rintro ⟨z, hz, rfl⟩
      by_cases q : z = v
      · rw [if_pos q]
        exact ⟨n, hu⟩
      · rw [if_neg q]
        exact ⟨q, hz⟩
    · rintro ⟨q, hx⟩
      exact ⟨x, hx, by rw [if_neg q]⟩)
  omega
theorem dcount_range (n : Nat) : dcount ((List.range n).map fun k => ((k : Nat) : Int)) = n := by
  unfold dcount
  have nd : ((List.range n).map fun k => ((k : Nat) : Int)).Nodup := List.pairwise_map.mpr (List.nodup_range.imp fun h e => h (by omega))
  rw [same_len (firsts_nodup _) nd fun x => mem_firsts _, List.length_map, List.length_range]
/-- lists of the same items -/
theorem dcount_same {xs ys : List Int} (h : ∀ x, x ∈ xs ↔ x ∈ ys) : dcount xs = dcount ys :=
  same_len (firsts_nodup _) (firsts_nodup _) fun x => by rw [mem_firsts, mem_firsts, h]
theorem dcount_num (xs : List Int) : ((dcount xs : Nat) : Int) = bc 0 (num xs) := (firsts_len xs).1
end KM
namespace KQ
open PySem PySem.Spec PyProof.Rows L2 KR KM StX
section
variable {P : Program} {w : World} {K : PySem.W.Frag} {mg : Str → Option Value} {base : Heap}
/-- what the door says that closes the first ring, with the doors ahead of i -/
def ClosedBy (p r : List Int) (i : Nat) (cl : V) : Prop := (cl = .non ∧ ∀ j, j < i → ¬ RingAt p r j) ∨ ∃ n : Nat, cl = .int ((n : Nat) : Int) ∧ n < i ∧ RingAt p r n ∧ ∀ j, j < n → ¬ RingAt p r j
theorem closed_next {p r : List Int} {i : Nat} {cl : V} (h : ClosedBy p r i cl) (n : ¬ RingAt p r i) : ClosedBy p r (i + 1) cl := by
  rcases h with ⟨e, h⟩ | ⟨k, e, hk, h1, h2⟩
  · refine .inl ⟨e, fun j hj => ?_⟩
    by_cases q : j = i
    · rw [q]
      exact n
    · exact h j (by omega)
  · exact .inr ⟨k, e, by omega, h1, h2⟩
def spHung2 : Sp := fun vs H Q _ => ∃ a b p r, vs = [.ref a, .ref b] ∧ TI H a p ∧ TI H b r ∧ Par p ∧ Par r ∧ p.length = r.length ∧
  ∀ H' t l cl (ls : List Int), Same H H' → H' t = some (.tup [.ref l, cl]) → H' l = some (.lst (ls.map V.int)) → ls.length = (bc 0 p + bc 0 r).toNat →
    (∀ x y, x < ls.length → y < ls.length → (LabOf ls x = LabOf ls y ↔ glue (tiesOf p r) x y)) → ClosedBy p r p.length cl → (cl = .non → dcount ls + p.length = ls.length) → (∀ x ∈ ls, 0 ≤ x ∧ x < ls.length) → Q (.ref t) H'
end
end KQ
namespace KQ
open PySem PySem.Spec PyProof.Rows L2 KR KM StX
/-- labels of blocks of the one (the first sh) and of those put on so far, i doors of the order ds being done -/
structure Met (p ds ls : List Int) (sh i q : Nat) : Prop where
  len : ls.length = sh + q
  c1 : ∀ j d x, j < i → ds[j]? = some d → p[d.toNat]? = some x → ∃ k, k < q ∧ ls[sh + k]? = ls[x.toNat]?
  c2 : ∀ b b', b < sh → b' < sh → b ≠ b' → ls[b]? = ls[b']? → ∃ k, k < q ∧ ls[sh + k]? = ls[b]?
/-- an order of all doors -/
structure Ord (ds : List Int) (n : Nat) : Prop where
  len : ds.length = n
  nd : ds.Nodup
  at_ : ∀ d ∈ ds, 0 ≤ d ∧ d < n
theorem Ord.all {ds : List Int} {n : Nat} (h : Ord ds n) {d : Int} (d0 : 0 ≤ d) (d1 : d < n) : d ∈ ds := by
  apply Classical.byContradiction
  intro hn
  have nd : (d :: ds).Nodup := List.nodup_cons.mpr ⟨hn, h.nd⟩
  have := sub_len (ys := (List.range n).map fun k => ((k : Nat) : Int)) nd fun x hx => by
    have hb : 0 ≤ x ∧ x < n := by
      rcases List.mem_cons.mp hx with rfl | hx
      · exact ⟨d0, d1⟩
      · exact h.at_ x hx
    exact List.mem_map.mpr ⟨x.toNat, List.mem_range.mpr (by omega), by omega⟩
  rw [List.length_cons, h.len, List.length_map, List.length_range] at this
  omega
theorem met_some {p ds ls : List Int} {sh i q : Nat} (par : Par p) (hsh : (sh : Int) = bc 0 p) (o : Ord ds p.length) (M : Met p ds ls sh i q) {d x own : Int} (hd : ds[i]? = some d) (hx : p[d.toNat]? = some x)
    (ho : ls[x.toNat]? = some own) (hq : ∀ k, k < q → ls[sh + k]? = some own) : dcount ls + (i + 1) ≤ p.length + 1 := by
  have him := (List.getElem?_eq_some_iff.mp hd).1
  rw [o.len] at him
  have own_in : own ∈ firsts ls := (mem_firsts ls).mpr (List.mem_of_getElem? ho)
  have e1 := List.length_erase_of_mem own_in
  have l1 := List.length_pos_of_mem own_in
  have := sub_len (xs := (firsts ls).erase own) (ys := (ds.drop (i + 1)).map fun d => ls.getD (p.getD d.toNat 0).toNat 0) ((firsts_nodup ls).erase own) fun z hz => by
    obtain ⟨zn, hz⟩ := ((firsts_nodup ls).mem_erase_iff).mp hz
    obtain ⟨b, hb⟩ := List.mem_iff_getElem?.mp ((mem_firsts ls).mp hz)
    have hbl := (List.getElem?_eq_some_iff.mp hb).1
    rw [M.len] at hbl
    have hbs : b < sh := by
      apply Classical.byContradiction
      intro hn
      have := hq (b - sh) (by omega)
      rw [show sh + (b - sh) = b by omega, hb] at this
      exact zn (Option.some.inj this)
    have hbp := (rg_mem 0 p (Int.le_refl _) par.rg).2 ((b : Nat) : Int) (by omega) (by omega)
    obtain ⟨j, hj⟩ := List.mem_iff_getElem?.mp hbp
    have hjl := (List.getElem?_eq_some_iff.mp hj).1
    obtain ⟨t, ht⟩ := List.mem_iff_getElem?.mp (o.all (d := ((j : Nat) : Int)) (by omega) (by omega))
    have htp : p[(((j : Nat) : Int)).toNat]? = some ((b : Nat) : Int) := by rw [Int.toNat_natCast]; exact hj
    have hti : i < t := by
      rcases Nat.lt_trichotomy t i with c | c | c
      · obtain ⟨k, hk, e⟩ := M.c1 t _ _ c ht htp
        rw [hq k hk, Int.toNat_natCast, hb] at e
        exact absurd (Option.some.inj e).symm zn
      · subst c
        rw [hd] at ht
        obtain rfl := Option.some.inj ht
        rw [hx] at htp
        obtain rfl := Option.some.inj htp
        rw [Int.toNat_natCast, hb] at ho
        exact absurd (Option.some.inj ho) zn
      · exact c
    refine List.mem_map.mpr ⟨((j : Nat) : Int), List.mem_iff_getElem?.mpr ⟨t - (i + 1), ?_⟩, ?_⟩
    · rw [List.getElem?_drop, show i + 1 + (t - (i + 1)) = t by omega]
      exact ht
    · rw [List.getD_eq_getElem?_getD, List.getD_eq_getElem?_getD, htp]
      show (ls[(((b : Nat) : Int)).toNat]?).getD 0 = z
      rw [Int.toNat_natCast, hb]
      rfl
  rw [List.length_map, List.length_drop, o.len] at this
  unfold dcount
  omega
theorem met_new {p ds ls : List Int} {sh i q : Nat} (hsh : ∀ x ∈ p, 0 ≤ x ∧ x < (sh : Int)) (M : Met p ds ls sh i q) {d x own : Int} (hd : ds[i]? = some d) (hx : p[d.toNat]? = some x)
    (ho : ls[x.toNat]? = some own) : Met p ds (ls ++ [own]) sh (i + 1) (q + 1) := by
  have low : ∀ k, k < sh + q → (ls ++ [own])[k]? = ls[k]? := fun k hk => List.getElem?_append_left (by rw [M.len]; exact hk)
  have top : (ls ++ [own])[sh + q]? = some own := by
    rw [List.getElem?_append_right (by rw [M.len]; exact Nat.le_refl _), M.len, Nat.sub_self]
    rfl
  refine ⟨by rw [List.length_append, M.len]; rfl, fun j e y hj he hy => ?_, fun b b' hb hb' n e => ?_⟩
  · have hys := hsh y (List.mem_of_getElem? hy)
    rw [low y.toNat (by omega)]
    by_cases c : j = i
    · subst c
      rw [hd] at he
      obtain rfl := Option.some.inj he
      rw [hx] at hy
      obtain rfl := Option.some.inj hy
      exact ⟨q, by omega, by rw [top, ho]⟩
    · obtain ⟨k, hk, e⟩ := M.c1 j e y (by omega) he hy
      exact ⟨k, by omega, by rw [low _ (by omega)]; exact e⟩
  · rw [low _ (by omega), low _ (by omega)] at e
    obtain ⟨k, hk, e⟩ := M.c2 b b' hb hb' n e
    exact ⟨k, by omega, by rw [low _ (by omega), low _ (by omega)]; exact e⟩
theorem met_glue {p ds ls : List Int} {sh i q : Nat} (hsh : ∀ x ∈ p, 0 ≤ x ∧ x < (sh : Int)) (M : Met p ds ls sh i q) {d x own two : Int} {k : Nat} (hd : ds[i]? = some d) (hx : p[d.toNat]? = some x)
    (ho : ls[x.toNat]? = some own) (hk : k < q) (ht : ls[sh + k]? = some two) (n : own ≠ two) : Met p ds (ls.map fun z => if z = two then own else z) sh (i + 1) q := by
  have mp : ∀ a, (ls.map fun z => if z = two then own else z)[a]? = (ls[a]?).map fun z => if z = two then own else z := fun a => List.getElem?_map
  have keep : ∀ a b : Nat, ls[a]? = ls[b]? → (ls.map fun z => if z = two then own else z)[a]? = (ls.map fun z => if z = two then own else z)[b]? := fun a b e => by rw [mp, mp, e]
  have tw : ∀ a : Nat, ls[a]? = some own ∨ ls[a]? = some two → (ls.map fun z => if z = two then own else z)[a]? = some own := fun a e => by
    rw [mp]
    rcases e with e | e
    · rw [e]
      show some (if own = two then own else own) = _
      rw [if_neg n]
    · rw [e]
      show some (if two = two then own else two) = _
      rw [if_pos rfl]
  refine ⟨by rw [List.length_map, M.len], fun j e y hj he hy => ?_, fun b b' hb hb' nb e => ?_⟩
  · by_cases c : j = i
    · subst c
      rw [hd] at he
      obtain rfl := Option.some.inj he
      rw [hx] at hy
      obtain rfl := Option.some.inj hy
      exact ⟨k, hk, by rw [tw _ (.inr ht), tw _ (.inl ho)]⟩
    · obtain ⟨k2, hk2, e⟩ := M.c1 j e y (by omega) he hy
      exact ⟨k2, hk2, keep _ _ e⟩
  · by_cases c : ls[b]? = ls[b']?
    · obtain ⟨k2, hk2, e2⟩ := M.c2 b b' hb hb' nb c
      exact ⟨k2, hk2, keep _ _ e2⟩
    · obtain ⟨u, hu⟩ := at_some (xs := ls) (i := b) (by rw [M.len]; omega)
      obtain ⟨v, hv⟩ := at_some (xs := ls) (i := b') (by rw [M.len]; omega)
      rw [mp, mp, hu, hv] at e
      have e : (if u = two then own else u) = (if v = two then own else v) := Option.some.inj e
      refine ⟨k, hk, ?_⟩
      rw [tw _ (.inr ht)]
      by_cases c1 : u = two
      · rw [tw b (.inr (by rw [hu, c1]))]
      · rw [if_neg c1] at e
        by_cases c2 : v = two
        · rw [if_pos c2] at e
          rw [tw b (.inl (by rw [hu, e]))]
        · rw [if_neg c2] at e
          exact absurd (by rw [hu, hv, e]) c
end KQ
namespace KQ
open PySem PySem.Spec PyProof.Rows L2 KR KM StX
theorem ints_of {vs : List V} (h : ∀ j, j < vs.length → ∃ v, vs[j]? = some (.int v)) : ∃ rs : List Int, vs = rs.map V.int := by
  induction vs with
  | nil => exact ⟨[], rfl⟩
  | cons v vs ih =>
    obtain ⟨x, hx⟩ := h 0 (by rw [List.length_cons]; omega)
    obtain rfl : v = .int x := Option.some.inj hx
    obtain ⟨rs, rfl⟩ := ih fun j hj => h (j + 1) (by rw [List.length_cons]; omega)
    exact ⟨x :: rs, rfl⟩
theorem ifs_fact {b : Bool} {t u : TS} {D : Ends} {σ : L2.St} {H : Hp} (Fact : Hp → Prop) (h1 : b = true → ∀ D : Ends, (∀ H', Fact H' → D.nx σ H') → t D σ H) (h2 : b = false → ∀ D : Ends, (∀ H', Fact H' → D.nx σ H') → u D σ H)
    (k : ∀ H', Fact H' → D.nx σ H') : if b = true then t D σ H else u D σ H := by
  cases b
  · exact h2 rfl D k
  · exact h1 rfl D k
section
variable {P : Program} {w : World} {K : PySem.W.Frag} {mg : Str → Option Value} {base : Heap}
abbrev s__law_of : Stmt := topS 26
theorem sc__law_of : FnScope ["m", "some"] ["m", "some"] (defScope s__law_of) := ⟨rfl, rfl, rfl, by decide +kernel, rfl, by decide +kernel, by decide +kernel⟩
def spOf : Sp := fun vs H Q _ => ∃ m c g b l xs, vs = [.ref m, .ref l] ∧ MS H m c g b ∧ b ≤ 1000000 ∧ H l = some (.lst (xs.map V.int)) ∧ l ≠ g ∧ xs ≠ [] ∧ xs.length ≤ 1000000 ∧
  ∀ H' x, Kept H H' m g → MS H' m c g (b + 1) → x ∈ xs → Q (.int x) H'
theorem ok_of (D : DefAt K mg "_law_of" s__law_of) (T : Bt mg) (u__law_draw : Use P w K mg base "_law_draw" 2 ["m", "limit"] spDraw) : Use P w K mg base "_law_of" 3 ["m", "some"] spOf := by
  refine use_of D (fun f fd F => F.ok sc__law_of (fun vs H Q E h => ?_) (fun cdv A outer s H vs Q E hr h => ?_)) (fun _ _ _ _ _ _ us hl => match us, hl with | [_, _], _ => rfl)
  · obtain ⟨m, c, g, b, l, xs, rfl, _⟩ := h
    rfl
  · obtain ⟨m, c, g, b, l, xs, rfl, ms, hb, el, lg, ne, hle, q⟩ := h
    refine ⟨_, (pss_one (ps_ret (pe_ix (k_ixl (K := K) rfl) (pv 1) (pe_use u__law_draw (by decide) hr (by rfl) (pa_cons (pv 0) (pa_cons (pe_callB (k_len (K := K) rfl) (by rfl) T.len PySem.boot_len (pa_cons (pv 1) pa_nil)) pa_nil))) (fun _ _ => rfl)))), ?_⟩
    have lm : l ≠ m := by
      obtain ⟨cs, gs, k, h1, h2, h3, r⟩ := ms
      intro e
      rw [e, h1] at el
      cases el
    have pos := List.length_pos_iff.mpr ne
    refine ⟨_, rfl, _, rfl, _, rfl, l, _, rfl, .inl (sqL el), m, c, g, b, _, rfl, ms, hb, ?_, ?_, fun H1 d k1 ms1 d0 d1 => ?_⟩
    · rw [List.length_map]
      omega
    · rw [List.length_map]
      omega
    rw [List.length_map] at d1
    obtain ⟨x, hx⟩ := at_some (xs := xs) (i := d.toNat) (by omega)
    exact ⟨l, _, d, .int x, rfl, rfl, sqL (k1 _ _ el lm lg), atI_of (j := d.toNat) (by omega) (at_map hx), q H1 x k1 ms1 (List.mem_of_getElem? hx)⟩
def spMetL : Sp := fun vs H Q _ => ∃ m c g b a p, vs = [.ref m, .ref a] ∧ MS H m c g b ∧ b ≤ 100000 ∧ TI H a p ∧ Par p ∧
  ∀ H' t r, Kept H H' m g → MS H' m c g (b + 120) → TI H' t r → Par r → r.length = p.length → Q (.ref t) H'
end
end KQ
namespace KQ
open PySem PySem.Spec PyProof.Rows L2 KR KM StX
theorem ifs_fact2 {b : Bool} {t u : TS} {D : Ends} {σ : L2.St} {H : Hp} (Fact : L2.St → Hp → Prop) (h1 : b = true → ∀ D : Ends, (∀ σ' H', Fact σ' H' → D.nx σ' H') → t D σ H) (h2 : b = false → ∀ D : Ends, (∀ σ' H', Fact σ' H' → D.nx σ' H') → u D σ H)
    (k : ∀ σ' H', Fact σ' H' → D.nx σ' H') : if b = true then t D σ H else u D σ H := by
  cases b
  · exact h2 rfl D k
  · exact h1 rfl D k
section
variable {P : Program} {w : World} {K : PySem.W.Frag} {mg : Str → Option Value} {base : Heap}
def spSecond : Sp := fun vs H Q _ => ∃ m c g b a p, vs = [.ref m, .ref a] ∧ MS H m c g b ∧ b ≤ 90000 ∧ TI H a p ∧ Par p ∧
  ∀ H' t r, Kept H H' m g → MS H' m c g (b + 130) → TI H' t r → Par r → r.length = p.length → Q (.ref t) H'
/-- the second one as it is being made -/
def Sec (m c g a : Addr) (b kd : Int) (n : Nat) (H : Hp) (B : Int) (σ : L2.St) (H' : Hp) : Prop := ∃ (l : Addr) (xs : List Int) (y5 y6 : Option V),
  σ = [some (.ref m), some (.ref a), some (.int kd), some (.int ((n : Nat) : Int)), some (.ref l), y5, y6, none] ∧ Kept H H' m g ∧ MS H' m c g (b + B) ∧ H' l = some (.lst (xs.map V.int)) ∧ xs.length = n ∧ H l = none
end
end KQ
/-! len(set(xs)) of whole numbers -/
namespace KR
open PySem PySem.Spec PyProof.Rows L2 KM
section
variable {X : Cx}
def tLenSetI (K : PySem.W.Frag) (ta : TE) : TE := fun σ H Q => ta σ H fun x H1 => ∃ (l : Addr) (xs : List Int), x = .ref l ∧ SqT K H1 l (xs.map V.int) ∧ xs.length ≤ 1000 ∧ Q (.int ((dcount xs : Nat) : Int)) H1
theorem pe_lenSetI {a : Expr} {ta : TE} {p p2 q pos : Pos} (hc : X.calm = true) (hg : Gl X "len") (hm : X.mg "len" = none) (hg2 : Gl X "set") (hm2 : X.mg "set" = none) (ha : PE X a ta)
    (na : starEach [a] X.env = (false, eval a X.env) :: starEach [] X.env := by rfl) : PE X (.Call (.Name "len" p) [.Call (.Name "set" p2) [a] [] q] [] pos) (tLenSetI X.K ta) := by
  refine ⟨fun pins s σ H Q I h => ?_⟩
  refine Call_ (ld_blt I hg hm boot_len ?_)
  refine PyProof.Rows.callWith_builtin1 (PyProof.Rows.args_cons ?_ rfl) rfl rfl
  refine Call_ (ld_blt I hg2 hm2 boot_set ?_)
  refine PyProof.Rows.callWith_type1 (PyProof.Rows.args_cons (thn (ha.run pins s σ H _ I h) fun v s1 ⟨x, H1, I1, r1, q1⟩ => PyProof.Rows.args_nil ?_) na) na rfl
  obtain ⟨l, xs, rfl, hq, hle, q1⟩ := q1
  cases r1
  obtain ⟨its, r, pl, hz⟩ := I1.tuple hq
  refine call_set_tupI xs (I1.ok.hd hc) pl (by simpa using r.ints) ?_ fun h' tk c R hcl hk => ?_
  · exact Nat.lt_of_le_of_lt (Nat.succ_le_succ hle) (by decide)
  refine PyProof.Rows.args_nil ?_
  obtain ⟨o, es, ep, t, ho, hex, hd, hg1, hnd, hS, hlt, hf, hn, _⟩ := R
  have I2 : Inv X pins σ H1 { s1 with heap := h', toks := tk } := I1.kept hk
  have ec : es.size = dcount xs := by
    have := same_len hnd (firsts_nodup xs) fun k => by rw [← hS k, mem_firsts, decide_eq_true_iff]
    rw [List.length_map, Array.length_toList] at this
    exact this
  refine call_len_set ho hex hd hf (by omega) ⟨.int ((dcount xs : Nat) : Int), H1, I2.tok _, ⟨_, by rw [ec]⟩, q1⟩
theorem met_nodup (val : Nat → Int) : ∀ i, (firstMet val i).Nodup
  | 0 => List.nodup_nil
  | i + 1 => by
    rw [firstMet_succ]
    unfold step_dedup
    split
    · exact met_nodup val i
    · rename_i h
      have hn : val i ∉ firstMet val i := fun hm => h (List.any_eq_true.mpr ⟨val i, hm, beq_self_eq_true _⟩)
      first
      | exact List.nodup_cons.mpr ⟨hn, met_nodup val i⟩
      | (rw [List.nodup_append]
         refine ⟨met_nodup val i, by simp, fun a ha b hb e => ?_⟩
         rw [List.mem_singleton.mp hb] at e
         exact hn (e ▸ ha))
theorem met_count (xs : List Int) : (firstMet (fun i => xs.getD i 0) xs.length).length = dcount xs := by
  refine same_len (met_nodup _ _) (firsts_nodup xs) fun k => ?_
  rw [mem_firsts]
  have h := firstMet_any (fun i => xs.getD i 0) xs.length k
  rw [show (List.range xs.length).map (fun i => xs.getD i 0) = xs from by
    refine List.ext_getElem? fun i => ?_
    by_cases hi : i < xs.length
    · rw [at_map (List.getElem?_range hi), List.getD_eq_getElem?_getD, List.getElem?_eq_getElem hi]
      rfl
    · rw [List.getElem?_eq_none (by rw [List.length_map, List.length_range]; omega), List.getElem?_eq_none (by omega)]] at h
  have e : ∀ ys : List Int, ys.any (· == k) = true ↔ k ∈ ys := fun ys => by
    rw [List.any_eq_true]
    exact ⟨fun ⟨a, ha, q⟩ => (eq_of_beq q) ▸ ha, fun hk => ⟨k, hk, beq_self_eq_true _⟩⟩
  rw [← e, h, e]
def tLenSetL (K : PySem.W.Frag) (ta : TE) : TE := fun σ H Q => ta σ H fun x H1 => ∃ (l : Addr) (xs : List Int), x = .ref l ∧ SqL K H1 l (xs.map V.int) ∧ xs.length ≤ 1000 ∧ Q (.int ((dcount xs : Nat) : Int)) H1
theorem pe_lenSetL {a : Expr} {ta : TE} {p p2 q pos : Pos} (hc : X.calm = true) (hg : Gl X "len") (hm : X.mg "len" = none) (hg2 : Gl X "set") (hm2 : X.mg "set" = none) (ha : PE X a ta)
    (na : starEach [a] X.env = (false, eval a X.env) :: starEach [] X.env := by rfl) : PE X (.Call (.Name "len" p) [.Call (.Name "set" p2) [a] [] q] [] pos) (tLenSetL X.K ta) := by
  refine ⟨fun pins s σ H Q I h => ?_⟩
  refine Call_ (ld_blt I hg hm boot_len ?_)
  refine PyProof.Rows.callWith_builtin1 (PyProof.Rows.args_cons ?_ rfl) rfl rfl
  refine Call_ (ld_blt I hg2 hm2 boot_set ?_)
  refine PyProof.Rows.callWith_type1 (PyProof.Rows.args_cons (thn (ha.run pins s σ H _ I h) fun v s1 ⟨x, H1, I1, r1, q1⟩ => PyProof.Rows.args_nil ?_) na) na rfl
  obtain ⟨l, xs, rfl, hq, hle, q1⟩ := q1
  cases r1
  obtain ⟨its, r, pl, hz⟩ := I1.list hq
  have hlen : its.toArray.size = xs.length := by
    rw [List.size_toArray, ← r.length, List.length_map]
  refine PySem.call_set_list (I1.ok.hd hc) pl.isList (by simpa using r.ints) (by rw [hlen]; exact Nat.lt_of_le_of_lt (Nat.succ_le_succ hle) (by decide)) fun h' tk R hk => ?_
  refine PyProof.Rows.args_nil ?_
  rw [hlen, met_count] at R
  obtain ⟨o, es, ep, t, ho, hex, hd, _, _, hlt, hf, hn⟩ := R
  have I2 : Inv X pins σ H1 { s1 with heap := h', toks := tk } := I1.kept fun b o e => hk b o (Heap.lt_size e) e
  have hdl : dcount xs ≤ xs.length := KQ.firsts_le xs
  refine call_len_set ho hex hd hf (by rw [hn]; omega) ⟨.int ((dcount xs : Nat) : Int), H1, I2.tok _, ⟨_, by rw [hn]⟩, q1⟩
end
end KR
namespace KQ
open PySem PySem.Spec PyProof.Rows L2 KR KM StX
section
variable {P : Program} {w : World} {K : PySem.W.Frag} {mg : Str → Option Value} {base : Heap}
theorem dcount_nodup (xs : List Int) : dcount xs = xs.length ↔ xs.Nodup := by
  constructor
  · intro h
    refine firsts_rec (P := fun xs => dcount xs = xs.length → xs.Nodup) (fun _ => List.nodup_nil) (fun xs x ih h => ?_) xs h
    have l := firsts_le xs
    unfold dcount at h ih
    rw [firsts_snoc] at h
    unfold ins at h
    rw [List.length_append] at h
    have l1 : [x].length = 1 := rfl
    split at h
    · omega
    · rename_i hx
      rw [List.length_append] at h
      rw [List.nodup_append]
      refine ⟨ih (by omega), by simp, fun a ha b hb e => ?_⟩
      rw [List.mem_singleton.mp hb] at e
      exact hx ((mem_firsts xs).mpr (e ▸ ha))
  · intro h
    exact same_len (firsts_nodup xs) h fun x => mem_firsts xs
def spLikeT (K : PySem.W.Frag) : Sp := fun vs H Q _ => ∃ (a : Addr) (xs : List Int), vs = [.ref a] ∧ SqT K H a (xs.map V.int) ∧ xs.length ≤ 1000 ∧ ∀ c, (c = true ↔ ¬ xs.Nodup) → Q (.bl c) H
def spLikeL (K : PySem.W.Frag) : Sp := fun vs H Q _ => ∃ (a : Addr) (xs : List Int), vs = [.ref a] ∧ SqL K H a (xs.map V.int) ∧ xs.length ≤ 1000 ∧ ∀ c, (c = true ↔ ¬ xs.Nodup) → Q (.bl c) H
end
end KQ
namespace KQ
open PySem PySem.Spec PyProof.Rows L2 KR KM StX
section
variable {P : Program} {w : World} {K : PySem.W.Frag} {mg : Str → Option Value} {base : Heap}
/-- the doors from the first one of ps back to where the dict says none -/
def Back (kvs : List (L2.Key × V)) : List Int → Prop
  | [] => False
  | [d] => valV kvs (kI d) = some .non
  | d :: e :: r => valV kvs (kI d) = some (.int e) ∧ Back kvs (e :: r)
def headV : List Int → V
  | [] => .non
  | d :: _ => .int d
def spBack : Sp := fun vs H Q _ => ∃ (a : Addr) (kvs : List (L2.Key × V)) (d : Int) (r : List Int), vs = [.ref a, .int d] ∧ Rd H a (.dK kvs) ∧ Back kvs (d :: r) ∧ r.length ≤ 1000 ∧
  ∀ H' l, Same H H' → H l = none → H' l = some (.lst ((d :: r).map V.int)) → Q (.ref l) H'
end
end KQ
namespace KQ
open PySem PySem.Spec PyProof.Rows L2 KR KM
/-! ### every second one -/
def ev {α : Type} : List α → List α
  | [] => []
  | [a] => [a]
  | a :: _ :: r => a :: ev r
theorem ev_cons {α : Type} (a : α) (r : List α) : ev (a :: r) = a :: ev r.tail := by
  cases r <;> rfl
theorem ev_at {α : Type} : ∀ (f : List α) (i : Nat), (ev f)[i]? = f[2 * i]?
  | [], i => by simp [ev]
  | [a], 0 => rfl
  | [a], i + 1 => by
    show ([a] : List α)[i + 1]? = [a][2 * (i + 1)]?
    rw [List.getElem?_eq_none (by simp), List.getElem?_eq_none (by simp; omega)]
  | a :: b :: r, 0 => rfl
  | a :: b :: r, i + 1 => by
    show (ev r)[i]? = _
    rw [ev_at r i, show 2 * (i + 1) = 2 * i + 1 + 1 by omega]
    rfl
theorem ev_map {α β : Type} (f : α → β) : ∀ xs : List α, ev (xs.map f) = (ev xs).map f
  | [] => rfl
  | [a] => rfl
  | a :: b :: r => by
    show f a :: ev (r.map f) = f a :: (ev r).map f
    rw [ev_map f r]
theorem ev_len {α : Type} : ∀ xs : List α, (ev xs).length ≤ xs.length
  | [] => Nat.le_refl _
  | [a] => Nat.le_refl _
  | a :: b :: r => by
    have := ev_len r
    show (ev r).length + 1 ≤ r.length + 1 + 1
    omega
/-- by twos alike -/
def Twos (f : List Int) : Prop := ev f = ev f.tail
theorem twos_at (f : List Int) : Twos f ↔ ∀ i, f[2 * i]? = f[2 * i + 1]? := by
  unfold Twos
  constructor
  · intro h i
    have := congrArg (fun l : List Int => l[i]?) h
    simp only [ev_at, List.getElem?_tail] at this
    exact this
  · intro h
    refine List.ext_getElem? fun i => ?_
    rw [ev_at, ev_at, List.getElem?_tail]
    exact h i
theorem twos_count : ∀ (f : List Int), f.length % 2 = 0 → Twos f → ∀ x, f.count x = 2 * (ev f).count x
  | [], _, _, x => rfl
  | [a], h, _, x => by simp at h
  | a :: b :: r, h, t, x => by
    have t' : (a :: ev r : List Int) = ev (b :: r) := t
    rw [ev_cons] at t'
    obtain ⟨rfl, t2⟩ := List.cons.inj t'
    have hl : r.length % 2 = 0 := by
      rw [List.length_cons, List.length_cons] at h
      omega
    have ih := twos_count r hl t2 x
    show (a :: a :: r).count x = 2 * (a :: ev r).count x
    rw [List.count_cons, List.count_cons, List.count_cons, ih]
    split <;> omega
theorem nodup_count : ∀ l : List Int, l.Nodup ↔ ∀ x ∈ l, l.count x = 1
  | [] => by simp
  | a :: l => by
    rw [List.nodup_cons, nodup_count l]
    constructor
    · rintro ⟨h1, h2⟩ x hx
      rw [List.count_cons]
      by_cases e : a = x
      · subst e
        rw [List.count_eq_zero_of_not_mem h1]
        simp
      · rcases List.mem_cons.mp hx with q | q
        · exact absurd q.symm e
        · rw [h2 x q]
          simp [e]
    · intro h
      have h1 : a ∉ l := fun hm => by
        have := h a List.mem_cons_self
        rw [List.count_cons] at this
        have p := List.count_pos_iff.mpr hm
        simp at this
        omega
      refine ⟨h1, fun x hx => ?_⟩
      have := h x (List.mem_cons_of_mem _ hx)
      rw [List.count_cons] at this
      have e : a ≠ x := fun e => h1 (e ▸ hx)
      simpa [e] using this
theorem twos_nodup {f : List Int} (hl : f.length % 2 = 0) (t : Twos f) : (∀ x ∈ f, f.count x = 2) ↔ (ev f).Nodup := by
  rw [nodup_count]
  have hm : ∀ x, x ∈ f ↔ x ∈ ev f := fun x => by
    rw [← List.count_pos_iff, ← List.count_pos_iff, twos_count f hl t x]
    omega
  constructor
  · intro h x hx
    have := h x ((hm x).mpr hx)
    rw [twos_count f hl t x] at this
    omega
  · intro h x hx
    rw [twos_count f hl t x, h x ((hm x).mp hx)]
/-! ### rings -/
def bk (p : List Int) (d : Int) : Int := p.getD d.toNat (-1)
def rot (ds : List Int) : List Int := ds.tail ++ ds.take 1
theorem rot_at {ds : List Int} (ne : ds ≠ []) (j : Nat) : (rot ds)[j]? = if j + 1 < ds.length then ds[j + 1]? else if j + 1 = ds.length then ds[0]? else none := by
  cases ds with
  | nil => exact absurd rfl ne
  | cons d t =>
    show (t ++ [d])[j]? = if j + 1 < t.length + 1 then (d :: t)[j + 1]? else if j + 1 = t.length + 1 then (d :: t)[0]? else none
    rw [List.getElem?_append]
    by_cases h : j < t.length
    · rw [if_pos h, if_pos (by omega), List.getElem?_cons_succ]
    · rw [if_neg h, if_neg (by omega)]
      by_cases e : j = t.length
      · subst e
        rw [Nat.sub_self, if_pos rfl]
        rfl
      · rw [if_neg (by omega), List.getElem?_eq_none (by simp; omega)]
theorem rot_count (ds : List Int) (f : Int → Int) (x : Int) : ((rot ds).map f).count x = (ds.map f).count x := by
  cases ds with
  | nil => rfl
  | cons d t =>
    show ((t ++ [d]).map f).count x = (f d :: t.map f).count x
    rw [List.map_append, List.count_append, List.count_cons]
    show _ + [f d].count x = _
    rw [List.count_cons]
    simp
theorem rot_len (ds : List Int) : (rot ds).length = ds.length := by
  cases ds with
  | nil => rfl
  | cons d t => simp [rot]
/-- rings as the program looks at them -/
structure IsRing (p r ds : List Int) : Prop where
  ne : ds ≠ []
  even : ds.length % 2 = 0
  rng : ∀ d ∈ ds, 0 ≤ d ∧ d < p.length
  nodup : ds.Nodup
  low : (ev (ds.map (bk p))).Nodup
  high : (ev ((rot ds).map (bk r))).Nodup
  lows : Twos (ds.map (bk p))
  highs : Twos ((rot ds).map (bk r))
/-- the next one's place -/
def nx (ds : List Int) (n : Nat) : Nat := if n + 1 < ds.length then n + 1 else 0
/-- .. and as the law does -/
structure RingR (p r ds : List Int) : Prop where
  len : 2 ≤ ds.length
  even : ds.length % 2 = 0
  rng : ∀ d ∈ ds, 0 ≤ d ∧ d < p.length
  nodup : ds.Nodup
  step : ∀ n x y, ds[n]? = some x → ds[nx ds n]? = some y → bk (if n % 2 = 0 then p else r) x = bk (if n % 2 = 0 then p else r) y
  low : ∀ d ∈ ds, (ds.map (bk p)).count (bk p d) = 2
  high : ∀ d ∈ ds, (ds.map (bk r)).count (bk r d) = 2
theorem map_all {ds : List Int} {f : Int → Int} (P : Int → Prop) : (∀ x ∈ ds.map f, P x) ↔ ∀ d ∈ ds, P (f d) :=
  ⟨fun h d hd => h _ (List.mem_map_of_mem hd), fun h x hx => by
    obtain ⟨d, hd, rfl⟩ := List.mem_map.mp hx
    exact h d hd⟩
theorem ring_iff {p r ds : List Int} : IsRing p r ds ↔ RingR p r ds := by
  have twos : ds ≠ [] → ds.length % 2 = 0 → (Twos (ds.map (bk p)) ∧ Twos ((rot ds).map (bk r)) ↔ ∀ n x y, ds[n]? = some x → ds[nx ds n]? = some y → bk (if n % 2 = 0 then p else r) x = bk (if n % 2 = 0 then p else r) y) := by
    intro ne ev2
    rw [twos_at, twos_at]
    have hpos := List.length_pos_iff.mpr ne
    constructor
    · rintro ⟨h1, h2⟩ n x y hx hy
      have ln := (List.getElem?_eq_some_iff.mp hx).1
      unfold nx at hy
      by_cases e : n % 2 = 0
      · rw [if_pos e]
        rw [if_pos (by omega)] at hy
        have := h1 (n / 2)
        rw [show 2 * (n / 2) = n by omega, at_map hx, at_map hy] at this
        exact Option.some.inj this
      · rw [if_neg e]
        have := h2 (n / 2)
        have ea : (rot ds)[2 * (n / 2)]? = some x := by
          rw [rot_at ne, show 2 * (n / 2) + 1 = n by omega, if_pos ln, hx]
        have eb : (rot ds)[2 * (n / 2) + 1]? = some y := by
          rw [rot_at ne, show 2 * (n / 2) + 1 + 1 = n + 1 by omega]
          by_cases e2 : n + 1 < ds.length
          · rw [if_pos e2] at hy ⊢
            exact hy
          · rw [if_neg e2] at hy ⊢
            rw [if_pos (by omega)]
            exact hy
        rw [at_map ea, at_map eb] at this
        exact Option.some.inj this
    · intro h
      refine ⟨fun i => ?_, fun i => ?_⟩
      · by_cases hi : 2 * i < ds.length
        · obtain ⟨x, hx⟩ := at_some (xs := ds) hi
          obtain ⟨y, hy⟩ := at_some (xs := ds) (i := 2 * i + 1) (by omega)
          rw [at_map hx, at_map hy]
          have := h (2 * i) x y hx (by unfold nx; rw [if_pos (by omega)]; exact hy)
          rw [if_pos (by omega)] at this
          rw [this]
        · rw [List.getElem?_eq_none (by rw [List.length_map]; omega), List.getElem?_eq_none (by rw [List.length_map]; omega)]
      · by_cases hi : 2 * i < ds.length
        · obtain ⟨x, hx⟩ := at_some (xs := ds) (i := 2 * i + 1) (by omega)
          have ea : (rot ds)[2 * i]? = some x := by
            rw [rot_at ne, if_pos (by omega), hx]
          obtain ⟨y, hy⟩ := at_some (xs := rot ds) (i := 2 * i + 1) (by rw [rot_len]; omega)
          have hy' := hy
          rw [rot_at ne] at hy'
          have hn : ds[nx ds (2 * i + 1)]? = some y := by
            unfold nx
            by_cases e2 : 2 * i + 1 + 1 < ds.length
            · rw [if_pos e2] at hy' ⊢
              exact hy'
            · rw [if_neg e2] at hy' ⊢
              rw [if_pos (by omega)] at hy'
              exact hy'
          have := h (2 * i + 1) x y hx hn
          rw [if_neg (by omega)] at this
          rw [at_map ea, at_map hy, this]
        · rw [List.getElem?_eq_none (by rw [List.length_map, rot_len]; omega), List.getElem?_eq_none (by rw [List.length_map, rot_len]; omega)]
  have counts : ∀ x, ((rot ds).map (bk r)).count x = (ds.map (bk r)).count x := rot_count ds (bk r)
  have rmem : ∀ x, x ∈ (rot ds).map (bk r) ↔ x ∈ ds.map (bk r) := fun x => by
    rw [← List.count_pos_iff, ← List.count_pos_iff, counts]
  have rl : ds.length % 2 = 0 → ((rot ds).map (bk r)).length % 2 = 0 := fun h => by
    rw [List.length_map, rot_len]
    exact h
  constructor
  · rintro ⟨ne, e, rng, nd, l, h, ls, hs⟩
    have hpos := List.length_pos_iff.mpr ne
    refine ⟨by omega, e, rng, nd, (twos ne e).mp ⟨ls, hs⟩, ?_, ?_⟩
    · exact (map_all fun x => (ds.map (bk p)).count x = 2).mp ((twos_nodup (by rw [List.length_map]; exact e) ls).mpr l)
    · have := (twos_nodup (rl e) hs).mpr h
      refine (map_all fun x => (ds.map (bk r)).count x = 2).mp fun x hx => ?_
      rw [← counts]
      exact this x ((rmem x).mpr hx)
  · rintro ⟨ln, e, rng, nd, st, l, h⟩
    have ne : ds ≠ [] := fun e => by
      rw [e] at ln
      simp at ln
    obtain ⟨ls, hs⟩ := (twos ne e).mpr st
    refine ⟨ne, e, rng, nd, (twos_nodup (by rw [List.length_map]; exact e) ls).mp ((map_all fun x => (ds.map (bk p)).count x = 2).mpr l), (twos_nodup (rl e) hs).mp fun x hx => ?_, ls, hs⟩
    rw [counts]
    exact (map_all fun x => (ds.map (bk r)).count x = 2).mpr h x ((rmem x).mp hx)
end KQ
namespace KQ
open PySem PySem.Spec PyProof.Rows L2 KR KM
/-! ### doors found ahead of one another -/
structure Ent where
  d : Int
  s : Int
  par : Int
  q : Nat
def kvsOf (st : Int) (E : List Ent) : List (L2.Key × V) := (kI st, V.non) :: E.map fun e => (kI e.d, V.int e.par)
def Qu (B : List Int) (st : Int) (E : List Ent) : List (Int × Int) := B.map (fun b => (b, st)) ++ E.map fun e => (1 - e.s, e.d)
def prt (p r : List Int) (s : Int) : List Int := if s = 0 then p else r
structure Bfs (p r B : List Int) (st : Int) (N : Nat) (E : List Ent) : Prop where
  keys : (st :: E.map Ent.d).Nodup
  rng : ∀ e ∈ E, 0 ≤ e.d ∧ e.d < N
  par : ∀ k e, E[k]? = some e → e.q < B.length + k ∧ (Qu B st E)[e.q]? = some (e.s, e.par) ∧ bk (prt p r e.s) e.d = bk (prt p r e.s) e.par
  apart : ∀ e ∈ E, ∀ j w x, j < e.q → (Qu B st E)[j]? = some (w, x) → bk (prt p r w) e.d ≠ bk (prt p r w) x
/-- all doors up to n in the block of what stands at j in the row are found -/
def FullTo (p r B : List Int) (st : Int) (E : List Ent) (j n : Nat) : Prop := ∀ w x, (Qu B st E)[j]? = some (w, x) → ∀ d : Int, 0 ≤ d → d < n → bk (prt p r w) d = bk (prt p r w) x → d ∈ st :: E.map Ent.d
theorem qu_len (B : List Int) (st : Int) (E : List Ent) : (Qu B st E).length = B.length + E.length := by
  unfold Qu
  rw [List.length_append, List.length_map, List.length_map]
theorem qu_snoc (B : List Int) (st : Int) (E : List Ent) (e : Ent) : Qu B st (E ++ [e]) = Qu B st E ++ [(1 - e.s, e.d)] := by
  unfold Qu
  rw [List.map_append, ← List.append_assoc]
  rfl
theorem qu_keep {B : List Int} {st : Int} {E : List Ent} {j : Nat} (e : Ent) (h : j < (Qu B st E).length) : (Qu B st (E ++ [e]))[j]? = (Qu B st E)[j]? := by
  rw [qu_snoc, List.getElem?_append_left h]
theorem full_keep {p r B : List Int} {st : Int} {E : List Ent} {j n : Nat} (e : Ent) (h : j < (Qu B st E).length) (f : FullTo p r B st E j n) : FullTo p r B st (E ++ [e]) j n := by
  intro w x hq d d0 d1 hb
  rw [qu_keep e h] at hq
  have := f w x hq d d0 d1 hb
  rw [List.map_append, ← List.cons_append]
  exact List.mem_append_left _ this
theorem bfs_add {p r B : List Int} {st : Int} {N : Nat} {E : List Ent} (h : Bfs p r B st N E) {a : Nat} {w x d : Int} (full : ∀ j, j < a → FullTo p r B st E j N)
    (hq : (Qu B st E)[a]? = some (w, x)) (d0 : 0 ≤ d) (d1 : d < N) (nd : d ∉ st :: E.map Ent.d) (hb : bk (prt p r w) d = bk (prt p r w) x) : Bfs p r B st N (E ++ [⟨d, w, x, a⟩]) := by
  have ha := (List.getElem?_eq_some_iff.mp hq).1
  have hal := ha
  rw [qu_len] at hal
  refine ⟨?_, fun e he => ?_, fun k e hk => ?_, fun e he j w' x' hj hq' => ?_⟩
  · rw [List.map_append, ← List.cons_append, List.nodup_append]
    exact ⟨h.keys, by simp, fun u hu v hv e => nd (by rw [List.map_cons, List.map_nil, List.mem_singleton] at hv; exact (e.trans hv : u = d) ▸ hu)⟩
  · rcases List.mem_append.mp he with he | he
    · exact h.rng e he
    · rw [List.mem_singleton.mp he]
      exact ⟨d0, d1⟩
  · by_cases hkl : k < E.length
    · rw [List.getElem?_append_left hkl] at hk
      obtain ⟨h1, h2, h3⟩ := h.par k e hk
      refine ⟨h1, ?_, h3⟩
      rw [qu_keep _ (List.getElem?_eq_some_iff.mp h2).1]
      exact h2
    · have hk2 := (List.getElem?_eq_some_iff.mp hk).1
      rw [List.length_append, List.length_singleton] at hk2
      have : k = E.length := by omega
      subst this
      rw [List.getElem?_append_right (Nat.le_refl _), Nat.sub_self] at hk
      obtain rfl := Option.some.inj hk
      exact ⟨hal, by rw [qu_keep _ ha]; exact hq, hb⟩
  · rcases List.mem_append.mp he with he | he
    · obtain ⟨k, hk⟩ := List.mem_iff_getElem?.mp he
      have := (h.par k e hk).1
      have hk2 := (List.getElem?_eq_some_iff.mp hk).1
      have hjl : j < (Qu B st E).length := by
        rw [qu_len]
        omega
      rw [qu_keep _ hjl] at hq'
      exact h.apart e he j w' x' hj hq'
    · rw [List.mem_singleton.mp he] at hj ⊢
      have hj' : j < a := hj
      rw [qu_keep _ (by omega)] at hq'
      exact fun e => nd (full j hj' w' x' hq' d d0 d1 e)
theorem full_next {p r B : List Int} {st : Int} {E : List Ent} {a n : Nat} (f : FullTo p r B st E a n) (hn : ∀ w x, (Qu B st E)[a]? = some (w, x) → bk (prt p r w) (n : Int) = bk (prt p r w) x → ((n : Nat) : Int) ∈ st :: E.map Ent.d) :
    FullTo p r B st E a (n + 1) := by
  intro w x hq d d0 d1 hb
  by_cases e : d = n
  · subst e
    exact hn w x hq hb
  · exact f w x hq d d0 (by omega) hb
theorem bfs_len {p r B : List Int} {st : Int} {N : Nat} {E : List Ent} (h : Bfs p r B st N E) : E.length ≤ N := by
  have := sub_len (xs := E.map Ent.d) (ys := (List.range N).map fun n => ((n : Nat) : Int)) (List.nodup_cons.mp h.keys).2 fun x hx => by
    obtain ⟨e, he, rfl⟩ := List.mem_map.mp hx
    obtain ⟨h0, h1⟩ := h.rng e he
    exact List.mem_map.mpr ⟨e.d.toNat, List.mem_range.mpr (by omega), by omega⟩
  rw [List.length_map, List.length_map, List.length_range] at this
  exact this
/-- the row's places, from the first one on, each found by the one before it -/
inductive Path (b : Nat) (E : List Ent) : List Nat → Prop
  | base {j : Nat} : j < b → Path b E [j]
  | step {k : Nat} {e : Ent} {ks : List Nat} : E[k]? = some e → Path b E ks → ks.getLast? = some e.q → Path b E (ks ++ [b + k])
theorem path_ex {p r B : List Int} {st : Int} {N : Nat} {E : List Ent} (h : Bfs p r B st N E) : ∀ n j : Nat, j < n → j < (Qu B st E).length → ∃ ks, Path B.length E ks ∧ ks.getLast? = some j := by
  intro n
  induction n with
  | zero => exact fun j hj => absurd hj (Nat.not_lt_zero _)
  | succ n ih =>
    intro j hj hl
    by_cases hb : j < B.length
    · exact ⟨[j], .base hb, rfl⟩
    · rw [qu_len] at hl
      obtain ⟨e, he⟩ := at_some (xs := E) (i := j - B.length) (by omega)
      obtain ⟨h1, h2, _⟩ := h.par _ e he
      obtain ⟨ks, hks, hlast⟩ := ih e.q (by omega) (List.getElem?_eq_some_iff.mp h2).1
      refine ⟨ks ++ [B.length + (j - B.length)], .step he hks hlast, ?_⟩
      rw [List.getLast?_concat]
      congr 1
      omega
def dr (B : List Int) (st : Int) (E : List Ent) (j : Nat) : Int := ((Qu B st E)[j]?.getD (0, 0)).2
def fl (B : List Int) (st : Int) (E : List Ent) (j : Nat) : Int := ((Qu B st E)[j]?.getD (0, 0)).1
section
variable {p r B : List Int} {st : Int} {N : Nat} {E : List Ent}
theorem qu_at {j : Nat} {w x : Int} (h : (Qu B st E)[j]? = some (w, x)) : dr B st E j = x ∧ fl B st E j = w := by
  unfold dr fl
  rw [h]
  exact ⟨rfl, rfl⟩
theorem qu_ent {k : Nat} {e : Ent} (h : E[k]? = some e) : (Qu B st E)[B.length + k]? = some (1 - e.s, e.d) := by
  unfold Qu
  rw [List.getElem?_append_right (by rw [List.length_map]; omega), List.length_map, Nat.add_sub_cancel_left, at_map (f := fun e : Ent => (1 - e.s, e.d)) h]
theorem qu_base {j : Nat} (h : j < B.length) : ∃ b, B[j]? = some b ∧ (Qu B st E)[j]? = some (b, st) := by
  obtain ⟨b, hb⟩ := at_some h
  refine ⟨b, hb, ?_⟩
  unfold Qu
  rw [List.getElem?_append_left (by rw [List.length_map]; exact h), at_map (f := fun b : Int => (b, st)) hb]
theorem path_ne {b : Nat} {ks : List Nat} (h : Path b E ks) : ks ≠ [] := by
  cases h with
  | base => simp
  | step => simp
theorem last_at {α : Type} {ks : List α} {x : α} (h : ks.getLast? = some x) : ks ≠ [] ∧ ks[ks.length - 1]? = some x := by
  rw [List.getLast?_eq_getElem?] at h
  refine ⟨fun e => by rw [e] at h; simp at h, h⟩
/-- what holds of two that stand one behind the other -/
structure Next (p r B : List Int) (st : Int) (E : List Ent) (ks : List Nat) (i x y : Nat) : Prop where
  lt : x < y
  turn : fl B st E y = 1 - fl B st E x
  blk : bk (prt p r (fl B st E x)) (dr B st E y) = bk (prt p r (fl B st E x)) (dr B st E x)
  far : ∀ j z, j < i → ks[j]? = some z → bk (prt p r (fl B st E z)) (dr B st E y) ≠ bk (prt p r (fl B st E z)) (dr B st E z)
theorem path_next (h : Bfs p r B st N E) : ∀ {ks : List Nat}, Path B.length E ks → (∀ (i j x y : Nat), i < j → ks[i]? = some x → ks[j]? = some y → x < y) ∧ (∀ x ∈ ks, x < (Qu B st E).length) ∧ ∀ i x y, ks[i]? = some x → ks[i + 1]? = some y → Next p r B st E ks i x y := by
  intro ks hp
  induction hp with
  | base hj =>
    refine ⟨fun i j x y hij hi hj' => ?_, fun x hx => ?_, fun i x y hi hi1 => ?_⟩
    · have := (List.getElem?_eq_some_iff.mp hj').1
      rw [List.length_singleton] at this
      omega
    · rw [List.mem_singleton.mp hx, qu_len]
      omega
    · have := (List.getElem?_eq_some_iff.mp hi1).1
      rw [List.length_singleton] at this
      omega
  | @step k e ks he hks hlast ih =>
    obtain ⟨up, bd, nxt⟩ := ih
    obtain ⟨ne, hl⟩ := last_at hlast
    have hpos := List.length_pos_iff.mpr ne
    obtain ⟨h1, h2, h3⟩ := h.par k e he
    have hk := (List.getElem?_eq_some_iff.mp he).1
    obtain ⟨q1, q2⟩ := qu_at h2
    obtain ⟨q3, q4⟩ := qu_at (qu_ent (B := B) (st := st) he)
    have old : ∀ i x, (ks ++ [B.length + k])[i]? = some x → (i < ks.length ∧ ks[i]? = some x) ∨ (i = ks.length ∧ x = B.length + k) := by
      intro i x hi
      by_cases hil : i < ks.length
      · rw [List.getElem?_append_left hil] at hi
        exact .inl ⟨hil, hi⟩
      · have := (List.getElem?_eq_some_iff.mp hi).1
        rw [List.length_append, List.length_singleton] at this
        have e2 : i = ks.length := by omega
        subst e2
        rw [List.getElem?_append_right (Nat.le_refl _), Nat.sub_self] at hi
        exact .inr ⟨rfl, (Option.some.inj hi).symm⟩
    have lt_last : ∀ i x, ks[i]? = some x → x ≤ e.q := fun i x hi => by
      have := (List.getElem?_eq_some_iff.mp hi).1
      by_cases e2 : i = ks.length - 1
      · rw [e2, hl] at hi
        obtain rfl := Option.some.inj hi
        exact Nat.le_refl _
      · exact Nat.le_of_lt (up i (ks.length - 1) x e.q (by omega) hi hl)
    refine ⟨fun i j x y hij hi hj => ?_, fun x hx => ?_, fun i x y hi hi1 => ?_⟩
    · rcases old j y hj with ⟨jl, hj⟩ | ⟨rfl, rfl⟩
      · rcases old i x hi with ⟨il, hi⟩ | ⟨rfl, rfl⟩
        · exact up i j x y hij hi hj
        · omega
      · rcases old i x hi with ⟨il, hi⟩ | ⟨rfl, rfl⟩
        · have := lt_last i x hi
          omega
        · omega
    · rcases List.mem_append.mp hx with hx | hx
      · exact bd x hx
      · rw [List.mem_singleton.mp hx, qu_len]
        omega
    · rcases old (i + 1) y hi1 with ⟨jl, hj⟩ | ⟨e2, rfl⟩
      · rcases old i x hi with ⟨il, hi'⟩ | ⟨rfl, rfl⟩
        · obtain ⟨a, b, c, d⟩ := nxt i x y hi' hj
          exact ⟨a, b, c, fun j z hji hz => by
            rcases old j z hz with ⟨zl, hz⟩ | ⟨rfl, rfl⟩
            · exact d j z hji hz
            · omega⟩
        · omega
      · rcases old i x hi with ⟨il, hi'⟩ | ⟨rfl, rfl⟩
        · have ei : i = ks.length - 1 := by omega
          rw [ei, hl] at hi'
          obtain rfl := Option.some.inj hi'
          refine ⟨h1, ?_, ?_, fun j z hji hz => ?_⟩
          · rw [q4, q2]
          · rw [q2, q3, q1]
            exact h3
          · rcases old j z hz with ⟨zl, hz⟩ | ⟨rfl, rfl⟩
            · have zlt : z < e.q := up j (ks.length - 1) z e.q (by omega) hz hl
              rw [q3]
              have hzl : z < (Qu B st E).length := bd z (List.mem_of_getElem? hz)
              obtain ⟨⟨w', x'⟩, hz2⟩ := at_some hzl
              obtain ⟨r1, r2⟩ := qu_at hz2
              rw [r1, r2]
              exact h.apart e (List.mem_of_getElem? he) z w' x' zlt hz2
            · omega
        · omega
theorem val_start : valV (kvsOf st E) (kI st) = some .non := by
  unfold kvsOf valV
  simp
theorem val_ent (h : (st :: E.map Ent.d).Nodup) {k : Nat} {e : Ent} (he : E[k]? = some e) : valV (kvsOf st E) (kI e.d) = some (.int e.par) := by
  have hm := List.mem_of_getElem? he
  unfold kvsOf valV
  have hs : st ≠ e.d := fun q => (List.nodup_cons.mp h).1 (q ▸ List.mem_map_of_mem hm)
  have hn := (List.nodup_cons.mp h).2
  have go : ∀ E : List Ent, (E.map Ent.d).Nodup → e ∈ E → ((E.map fun e => (kI e.d, V.int e.par)).find? fun kv => decide (kv.1 = kI e.d)) = some (kI e.d, V.int e.par) := by
    intro E
    induction E with
    | nil => exact fun _ hm => absurd hm (by simp)
    | cons f E ih =>
      intro hn hm
      rw [List.map_cons, List.nodup_cons] at hn
      rw [List.map_cons, List.find?_cons]
      rcases List.mem_cons.mp hm with q | q
      · subst q
        simp
      · have hne : f.d ≠ e.d := fun z => hn.1 (z ▸ List.mem_map_of_mem q)
        have : decide ((kI f.d, V.int f.par).1 = kI e.d) = false := decide_eq_false fun z => hne (kI_inj _ _ z)
        rw [this]
        exact ih hn.2 q
  rw [List.find?_cons]
  have : decide ((kI st, V.non).1 = kI e.d) = false := decide_eq_false fun z => hs (kI_inj _ _ z)
  rw [this]
  rw [go E hn hm]
  rfl
theorem path_back (h : Bfs p r B st N E) {ks : List Nat} (hp : Path B.length E ks) : Back (kvsOf st E) (ks.map (dr B st E)).reverse := by
  induction hp with
  | base hj =>
    obtain ⟨b, _, hq⟩ := qu_base (st := st) (E := E) hj
    show valV (kvsOf st E) (kI (dr B st E _)) = some .non
    rw [(qu_at hq).1]
    exact val_start
  | @step k e ks he hks hlast ih =>
    obtain ⟨ne, hl⟩ := last_at hlast
    obtain ⟨h1, h2, h3⟩ := h.par k e he
    rw [List.map_append, List.reverse_append]
    show Back (kvsOf st E) (dr B st E (B.length + k) :: (ks.map (dr B st E)).reverse)
    have hc : (ks.map (dr B st E)).reverse = e.par :: (ks.map (dr B st E)).reverse.tail := by
      have : (ks.map (dr B st E)).reverse.head? = some e.par := by
        rw [List.head?_reverse, List.getLast?_map, hlast]
        show some (dr B st E e.q) = _
        rw [(qu_at h2).1]
      cases hh : (ks.map (dr B st E)).reverse with
      | nil => rw [hh] at this; cases this
      | cons a t =>
        rw [hh] at this
        obtain rfl := Option.some.inj this
        rfl
    rw [hc] at ih ⊢
    rw [(qu_at (qu_ent he)).1]
    exact ⟨val_ent h.keys he, ih⟩
end
end KQ
namespace KQ
open PySem PySem.Spec PyProof.Rows L2 KR KM
theorem glue_fold {S : Nat → Prop} : ∀ (ts : List (Nat × Nat)) (R : Nat → Nat → Prop), (∀ x y, R x y → (S x ↔ S y)) → (∀ t ∈ ts, S t.1 ↔ S t.2) → ∀ x y, ts.foldl (fun R t => J R t.1 t.2) R x y → (S x ↔ S y)
  | [], R, h, _, x, y, q => h x y q
  | t :: ts, R, h, ht, x, y, q => by
    refine glue_fold ts (J R t.1 t.2) (fun a b hab => ?_) (fun u hu => ht u (List.mem_cons_of_mem _ hu)) x y q
    have t0 := ht t List.mem_cons_self
    rcases hab with q | ⟨q1, q2⟩ | ⟨q1, q2⟩
    · exact h _ _ q
    · exact (h _ _ q1).trans (t0.trans (h _ _ q2))
    · exact (h _ _ q1).trans (t0.symm.trans (h _ _ q2))
theorem glue_keep {S : Nat → Prop} {ts : List (Nat × Nat)} (h : ∀ t ∈ ts, S t.1 ↔ S t.2) {x y : Nat} (g : glue ts x y) : S x ↔ S y :=
  glue_fold ts Eq (fun _ _ e => by rw [e]) h x y g
section
variable {p r : List Int} {st : Int} {N : Nat} {E : List Ent}
theorem bk_at {p : List Int} {d : Int} {x : Int} (h : p[d.toNat]? = some x) : bk p d = x := by
  unfold bk
  rw [List.getD_eq_getElem?_getD, h]
  rfl
theorem bk_some {p : List Int} {d : Int} (d0 : 0 ≤ d) (d1 : d < p.length) : p[d.toNat]? = some (bk p d) := by
  obtain ⟨x, hx⟩ := at_some (xs := p) (i := d.toNat) (by omega)
  rw [hx, bk_at hx]
theorem bk_rng (par : Par p) {d : Int} (d0 : 0 ≤ d) (d1 : d < p.length) : 0 ≤ bk p d ∧ bk p d < bc 0 p :=
  (rg_mem 0 p (Int.le_refl _) par.rg).1 _ (List.mem_of_getElem? (bk_some d0 d1))
theorem mem_keys {d : Int} : d ∈ st :: E.map Ent.d ↔ d = st ∨ ∃ e ∈ E, e.d = d := by
  rw [List.mem_cons, List.mem_map]
/-- where nothing found has the first door's block of the other one, it closes no ring -/
theorem no_ring_at (par : Par p) (parr : Par r) (hl : p.length = r.length) (s0 : 0 ≤ st) (s1 : st < p.length) (hN : (N : Int) = st) (h : Bfs p r [0] st N E) (full : ∀ j, j < (Qu [0] st E).length → FullTo p r [0] st E j N)
    (no : ∀ e ∈ E, bk r e.d ≠ bk r st) : ¬ RingAt p r st.toNat := by
  rintro ⟨x, y, hx, hy, hg⟩
  have ex := bk_at hx
  have ey := bk_at hy
  have px := bk_rng par s0 s1
  have py := bk_rng parr s0 (by omega)
  have g := glue_keep (S := fun u => (∃ d, d ∈ st :: E.map Ent.d ∧ u = (bk p d).toNat) ∨ ∃ e ∈ E, u = (bc 0 p + bk r e.d).toNat) ?_ hg
  · rcases g.mp (.inl ⟨st, List.mem_cons_self, by rw [ex]⟩) with ⟨d, hd, ed⟩ | ⟨e, he, eq⟩
    · have dr : 0 ≤ d ∧ d < p.length := by
        rcases mem_keys.mp hd with rfl | ⟨e, he, rfl⟩
        · exact ⟨s0, s1⟩
        · have := h.rng e he
          omega
      have := bk_rng par dr.1 dr.2
      omega
    · have := h.rng e he
      have := bk_rng parr (d := e.d) (by omega) (by omega)
      exact no e he (by omega)
  intro t ht
  obtain ⟨i, hi⟩ := List.mem_iff_getElem?.mp ht
  have il := (List.getElem?_eq_some_iff.mp hi).1
  rw [List.length_take, ties_len hl] at il
  rw [List.getElem?_take_of_lt (by omega)] at hi
  obtain ⟨u, hu⟩ := at_some (xs := p) (i := i) (by omega)
  obtain ⟨v, hv⟩ := at_some (xs := r) (i := i) (by omega)
  rw [ties_at hu hv] at hi
  obtain rfl := Option.some.inj hi
  have bu : bk p (i : Int) = u := bk_at (by rw [Int.toNat_natCast]; exact hu)
  have bv : bk r (i : Int) = v := bk_at (by rw [Int.toNat_natCast]; exact hv)
  have ru := bk_rng par (d := (i : Int)) (by omega) (by omega)
  have rv := bk_rng parr (d := (i : Int)) (by omega) (by omega)
  rw [bu] at ru
  rw [bv] at rv
  have iN : (i : Int) < N := by omega
  have all : ∀ (j : Nat) (w x : Int), (Qu [0] st E)[j]? = some (w, x) → bk (prt p r w) (i : Int) = bk (prt p r w) x → (i : Int) ∈ st :: E.map Ent.d := fun j w x hq hb =>
    full j (List.getElem?_eq_some_iff.mp hq).1 w x hq i (by omega) iN hb
  have ne_st : (i : Int) ≠ st := by omega
  have ent : (i : Int) ∈ st :: E.map Ent.d → ∃ e ∈ E, e.d = (i : Int) := fun hm => (mem_keys.mp hm).resolve_left ne_st
  have viaE : ∀ (k : Nat) (e : Ent), E[k]? = some e → ∀ w, w = 0 ∨ w = 1 → bk (prt p r w) (i : Int) = bk (prt p r w) e.d → e.s = 0 ∨ e.s = 1 → (i : Int) ∈ st :: E.map Ent.d := by
    intro k e he w hw hb hs
    obtain ⟨_, h2, h3⟩ := h.par k e he
    by_cases e1 : w = e.s
    · subst e1
      exact all _ _ _ h2 (hb.trans h3)
    · have e2 : w = 1 - e.s := by omega
      subst e2
      exact all _ _ _ (qu_ent he) hb
  have sides : ∀ (n k : Nat) (e : Ent), k < n → E[k]? = some e → e.s = 0 ∨ e.s = 1 := by
    intro n
    induction n with
    | zero => exact fun k e hk => absurd hk (Nat.not_lt_zero _)
    | succ n ih =>
      intro k e hk he
      obtain ⟨h1, h2, _⟩ := h.par k e he
      by_cases e0 : e.q < ([0] : List Int).length
      · obtain ⟨b, hb, hq⟩ := qu_base (st := st) (E := E) e0
        rw [hq] at h2
        have : b = e.s := (Prod.mk.inj (Option.some.inj h2)).1
        have q0 : e.q = 0 := by simpa using e0
        rw [q0] at hb
        exact .inl (this ▸ (Option.some.inj hb).symm)
      · have hql : e.q < (Qu [0] st E).length := (List.getElem?_eq_some_iff.mp h2).1
        rw [qu_len] at hql
        obtain ⟨e', he'⟩ := at_some (xs := E) (i := e.q - 1) (by simp at hql e0; omega)
        have := qu_ent (B := [0]) (st := st) he'
        rw [show ([0] : List Int).length + (e.q - 1) = e.q by simp at e0 ⊢; omega, h2] at this
        have hs : e.s = 1 - e'.s := (Prod.mk.inj (Option.some.inj this)).1
        have := ih (e.q - 1) e' (by simp at h1 e0; omega) he'
        omega
  show ((∃ d, d ∈ st :: E.map Ent.d ∧ u.toNat = (bk p d).toNat) ∨ ∃ e ∈ E, u.toNat = (bc 0 p + bk r e.d).toNat) ↔ ((∃ d, d ∈ st :: E.map Ent.d ∧ (bc 0 p + v).toNat = (bk p d).toNat) ∨ ∃ e ∈ E, (bc 0 p + v).toNat = (bc 0 p + bk r e.d).toNat)
  have drng : ∀ d, d ∈ st :: E.map Ent.d → 0 ≤ d ∧ d < p.length := fun d hd => by
    rcases mem_keys.mp hd with rfl | ⟨e, he, rfl⟩
    · exact ⟨s0, s1⟩
    · have := h.rng e he
      omega
  constructor
  · rintro (⟨d, hd, ed⟩ | ⟨e, he, eq⟩)
    · have := drng d hd
      have := bk_rng par this.1 this.2
      have eb : bk p (i : Int) = bk p d := by omega
      have im : (i : Int) ∈ st :: E.map Ent.d := by
        rcases mem_keys.mp hd with rfl | ⟨e, he, rfl⟩
        · refine all 0 0 d (by rfl) ?_
          exact eb
        · obtain ⟨k, hk⟩ := List.mem_iff_getElem?.mp he
          exact viaE k e hk 0 (.inl rfl) eb (sides (k + 1) k e (Nat.lt_succ_self _) hk)
      obtain ⟨e, he, ed⟩ := ent im
      exact .inr ⟨e, he, by rw [ed, bv]⟩
    · have := h.rng e he
      have := bk_rng parr (d := e.d) (by omega) (by omega)
      omega
  · rintro (⟨d, hd, ed⟩ | ⟨e, he, eq⟩)
    · have := drng d hd
      have := bk_rng par this.1 this.2
      omega
    · have := h.rng e he
      have := bk_rng parr (d := e.d) (by omega) (by omega)
      have eb : bk r (i : Int) = bk r e.d := by omega
      obtain ⟨k, hk⟩ := List.mem_iff_getElem?.mp he
      have im := viaE k e hk 1 (.inr rfl) eb (sides (k + 1) k e (Nat.lt_succ_self _) hk)
      exact .inl ⟨i, im, by rw [bu]⟩
theorem side01 (h : Bfs p r [0] st N E) : ∀ (n k : Nat) (e : Ent), k < n → E[k]? = some e → e.s = 0 ∨ e.s = 1 := by
  intro n
  induction n with
  | zero => exact fun k e hk => absurd hk (Nat.not_lt_zero _)
  | succ n ih =>
    intro k e hk he
    obtain ⟨h1, h2, _⟩ := h.par k e he
    by_cases e0 : e.q < ([0] : List Int).length
    · obtain ⟨b, hb, hq⟩ := qu_base (st := st) (E := E) e0
      rw [hq] at h2
      have : b = e.s := (Prod.mk.inj (Option.some.inj h2)).1
      have q0 : e.q = 0 := by simpa using e0
      rw [q0] at hb
      exact .inl (this ▸ (Option.some.inj hb).symm)
    · have hql : e.q < (Qu [0] st E).length := (List.getElem?_eq_some_iff.mp h2).1
      rw [qu_len] at hql
      obtain ⟨e', he'⟩ := at_some (xs := E) (i := e.q - 1) (by simp at hql e0; omega)
      have := qu_ent (B := [0]) (st := st) he'
      rw [show ([0] : List Int).length + (e.q - 1) = e.q by simp at e0 ⊢; omega, h2] at this
      have hs : e.s = 1 - e'.s := (Prod.mk.inj (Option.some.inj this)).1
      have := ih (e.q - 1) e' (by simp at h1 e0; omega) he'
      omega
/-- what is found hangs together with the first door's block -/
theorem found_glue (hl : p.length = r.length) (s0 : 0 ≤ st) (s1 : st < p.length) (hN : (N : Int) = st) (h : Bfs p r [0] st N E) : ∀ (n k : Nat) (e : Ent), k < n → E[k]? = some e → glue ((tiesOf p r).take N) (bk p st).toNat (bk p e.d).toNat := by
  have tie : ∀ d : Int, 0 ≤ d → d < N → glue ((tiesOf p r).take N) (bk p d).toNat (bc 0 p + bk r d).toNat := fun d d0 d1 => by
    refine glue_mem (t := ((bk p d).toNat, (bc 0 p + bk r d).toNat)) (List.mem_of_getElem? (i := d.toNat) ?_)
    rw [List.getElem?_take_of_lt (by omega)]
    exact ties_at (bk_some d0 (by omega)) (bk_some d0 (by omega))
  have G := glue_eqv ((tiesOf p r).take N)
  intro n
  induction n with
  | zero => exact fun k e hk => absurd hk (Nat.not_lt_zero _)
  | succ n ih =>
    intro k e hk he
    obtain ⟨h1, h2, h3⟩ := h.par k e he
    have er := h.rng e (List.mem_of_getElem? he)
    have pr : e.par = st ∧ e.s = 0 ∨ ∃ e', E[e.q - 1]? = some e' ∧ e.q - 1 < n ∧ e.par = e'.d := by
      by_cases e0 : e.q < ([0] : List Int).length
      · obtain ⟨b, hb, hq⟩ := qu_base (st := st) (E := E) e0
        rw [hq] at h2
        have q0 : e.q = 0 := by simpa using e0
        rw [q0] at hb
        have q1 : b = 0 := (Option.some.inj hb).symm
        exact .inl ⟨(Prod.mk.inj (Option.some.inj h2)).2.symm, (Prod.mk.inj (Option.some.inj h2)).1 ▸ q1⟩
      · have hql : e.q < (Qu [0] st E).length := (List.getElem?_eq_some_iff.mp h2).1
        rw [qu_len] at hql
        obtain ⟨e', he'⟩ := at_some (xs := E) (i := e.q - 1) (by simp at hql e0; omega)
        have := qu_ent (B := [0]) (st := st) he'
        rw [show ([0] : List Int).length + (e.q - 1) = e.q by simp at e0 ⊢; omega, h2] at this
        exact .inr ⟨e', he', by simp at h1 e0; omega, (Prod.mk.inj (Option.some.inj this)).2⟩
    rcases pr with ⟨e1, e2⟩ | ⟨e', he', hn, e1⟩
    · rw [e1, e2] at h3
      have h3' : bk p e.d = bk p st := h3
      rw [h3']
      exact G.refl _
    · have g := ih _ e' hn he'
      have er' := h.rng e' (List.mem_of_getElem? he')
      rw [e1] at h3
      rcases side01 h (k + 1) k e (Nat.lt_succ_self _) he with e2 | e2
      · rw [e2] at h3
        have h3' : bk p e.d = bk p e'.d := h3
        rw [h3']
        exact g
      · rw [e2] at h3
        have h3' : bk r e.d = bk r e'.d := h3
        refine G.trans _ _ _ g (G.trans _ _ _ (tie e'.d er'.1 er'.2) ?_)
        rw [← h3']
        exact G.symm _ _ (tie e.d er.1 er.2)
theorem ring_at (hl : p.length = r.length) (s0 : 0 ≤ st) (s1 : st < p.length) (hN : (N : Int) = st) (h : Bfs p r [0] st N E) {e : Ent} (he : e ∈ E) (hb : bk r e.d = bk r st) : RingAt p r st.toNat := by
  obtain ⟨k, hk⟩ := List.mem_iff_getElem?.mp he
  have er := h.rng e he
  refine ⟨bk p st, bk r st, bk_some s0 s1, bk_some s0 (by omega), ?_⟩
  have g := found_glue hl s0 s1 hN h (k + 1) k e (Nat.lt_succ_self _) hk
  have G := glue_eqv ((tiesOf p r).take N)
  rw [show st.toNat = N by omega]
  refine G.trans _ _ _ g ?_
  rw [← hb]
  refine glue_mem (t := ((bk p e.d).toNat, (bc 0 p + bk r e.d).toNat)) (List.mem_of_getElem? (i := e.d.toNat) ?_)
  rw [List.getElem?_take_of_lt (by omega)]
  exact ties_at (bk_some er.1 (by omega)) (bk_some er.1 (by omega))
/-- the way to the first one found with the first door's block of the other one is a ring -/
theorem ring_of (hl : p.length = r.length) (s0 : 0 ≤ st) (s1 : st < p.length) (hN : (N : Int) = st) (h : Bfs p r [0] st N E) {k : Nat} {e : Ent} (he : E[k]? = some e) (hb : bk r e.d = bk r st)
    (first : ∀ k' e', k' < k → E[k']? = some e' → bk r e'.d ≠ bk r st) {ks : List Nat} (hp : Path 1 E ks) (hlast : ks.getLast? = some (1 + k)) :
    IsRing p r (ks.map (dr [0] st E)) ∧ (ks.map (dr [0] st E))[0]? = some st ∧ ∀ d ∈ ks.map (dr [0] st E), d ≤ st := by
  obtain ⟨up, bd, nxt⟩ := path_next (B := [0]) h hp
  obtain ⟨ne, hl1⟩ := last_at hlast
  have hpos := List.length_pos_iff.mpr ne
  have z0 : ∀ j : Nat, j < 1 → j = 0 := fun j hj => by omega
  have q0 : (Qu [0] st E)[0]? = some (0, st) := rfl
  -- the first place
  have h0 : ks[0]? = some 0 := by
    clear hlast hl1 first
    induction hp with
    | base hj => rw [z0 _ hj]; rfl
    | @step k e ks he hks hl2 ih =>
      obtain ⟨ne2, _⟩ := last_at hl2
      obtain ⟨a, b, c⟩ := path_next (B := [0]) h hks
      rw [List.getElem?_append_left (List.length_pos_iff.mpr ne2)]
      exact ih a b c ne2 (List.length_pos_iff.mpr ne2)
  have flag : ∀ (i x : Nat), ks[i]? = some x → fl [0] st E x = ((i % 2 : Nat) : Int) := by
    intro i
    induction i with
    | zero =>
      intro x hx
      rw [h0] at hx
      obtain rfl := Option.some.inj hx
      rfl
    | succ i ih =>
      intro y hy
      obtain ⟨x, hx⟩ := at_some (xs := ks) (i := i) (by have := (List.getElem?_eq_some_iff.mp hy).1; omega)
      have := ih x hx
      rw [(nxt i x y hx hy).turn, this]
      omega
  have place : ∀ (i x : Nat), ks[i]? = some x → (x = 0 ∧ dr [0] st E x = st) ∨ ∃ k' e', x = 1 + k' ∧ E[k']? = some e' ∧ dr [0] st E x = e'.d ∧ k' ≤ k ∧ (i + 1 < ks.length → k' < k) := by
    intro i x hx
    by_cases e0 : x = 0
    · exact .inl ⟨e0, by rw [e0]; rfl⟩
    · have hxl := bd x (List.mem_of_getElem? hx)
      rw [qu_len] at hxl
      obtain ⟨e', he'⟩ := at_some (xs := E) (i := x - 1) (by simp at hxl; omega)
      have hq := qu_ent (B := [0]) (st := st) he'
      rw [show ([0] : List Int).length + (x - 1) = x by simp; omega] at hq
      have ilt := (List.getElem?_eq_some_iff.mp hx).1
      have : x ≤ 1 + k ∧ (i + 1 < ks.length → x < 1 + k) := by
        by_cases e2 : i = ks.length - 1
        · rw [e2, hl1] at hx
          have := Option.some.inj hx
          omega
        · have := up i (ks.length - 1) x (1 + k) (by omega) hx hl1
          omega
      exact .inr ⟨x - 1, e', by omega, he', (qu_at hq).1, by omega, by omega⟩
  have qk := qu_ent (B := [0]) (st := st) he
  have dk : dr [0] st E (1 + k) = e.d := (qu_at (j := 1 + k) qk).1
  -- its number of doors is even
  have even : ks.length % 2 = 0 := by
    apply Classical.byContradiction
    intro ho
    have l2 : 2 ≤ ks.length - 1 := by
      have : ks.length ≠ 1 := fun e1 => by
        rw [e1] at hl1
        rw [show (1 - 1 : Nat) = 0 from rfl, h0] at hl1
        have := Option.some.inj hl1
        omega
      omega
    obtain ⟨x, hx⟩ := at_some (xs := ks) (i := ks.length - 2) (by omega)
    have hn := (nxt (ks.length - 2) x (1 + k) hx (by rw [show ks.length - 2 + 1 = ks.length - 1 by omega]; exact hl1)).blk
    have fx := flag _ x hx
    rw [show ((ks.length - 2) % 2) = 1 by omega] at fx
    rw [fx, dk] at hn
    have hn' : bk r e.d = bk r (dr [0] st E x) := hn
    rcases place _ x hx with ⟨rfl, _⟩ | ⟨k', e', rfl, he', d', _, lt⟩
    · have : fl [0] st E 0 = 0 := rfl
      omega
    · rw [d'] at hn'
      exact first k' e' (lt (by omega)) he' (hn'.symm.trans hb)
  have drr : ∀ d ∈ ks.map (dr [0] st E), 0 ≤ d ∧ d ≤ st := by
    intro d hd
    obtain ⟨x, hx, rfl⟩ := List.mem_map.mp hd
    obtain ⟨i, hi⟩ := List.mem_iff_getElem?.mp hx
    rcases place i x hi with ⟨_, e1⟩ | ⟨k', e', _, he', e1, _⟩
    · rw [e1]
      omega
    · rw [e1]
      have := h.rng e' (List.mem_of_getElem? he')
      omega
  have low : ∀ (i x y : Nat), i % 2 = 0 → ks[i]? = some x → ks[i + 1]? = some y → bk p (dr [0] st E y) = bk p (dr [0] st E x) := fun i x y hi hx hy => by
    have := (nxt i x y hx hy).blk
    rw [flag i x hx, hi] at this
    exact this
  have high : ∀ (i x y : Nat), i % 2 = 1 → ks[i]? = some x → ks[i + 1]? = some y → bk r (dr [0] st E y) = bk r (dr [0] st E x) := fun i x y hi hx hy => by
    have := (nxt i x y hx hy).blk
    rw [flag i x hx, hi] at this
    exact this
  have mapd : ∀ {i x : Nat}, ks[i]? = some x → (ks.map (dr [0] st E))[i]? = some (dr [0] st E x) := fun hx => at_map hx
  have ml : (ks.map (dr [0] st E)).length = ks.length := List.length_map ..
  have mne : ks.map (dr [0] st E) ≠ [] := by
    intro e1
    rw [e1] at ml
    simp at ml
    omega
  have pw : ∀ {l : List Int}, (∀ (i j : Nat) (u v : Int), i < j → l[i]? = some u → l[j]? = some v → u ≠ v) → l.Nodup := by
    intro l hh
    refine List.pairwise_iff_getElem.mpr fun i j hi hj hij => ?_
    exact hh i j _ _ hij (List.getElem?_eq_getElem hi) (List.getElem?_eq_getElem hj)
  refine ⟨⟨mne, by rw [ml]; exact even, fun d hd => ?_, ?_, ?_, ?_, ?_, ?_⟩, ?_, fun d hd => (drr d hd).2⟩
  · have := drr d hd
    omega
  · refine pw fun i j u v hij hu hv => ?_
    obtain ⟨x, hx, rfl⟩ := map_at hu
    obtain ⟨y, hy, rfl⟩ := map_at hv
    have lt := up i j x y hij hx hy
    intro e1
    have mem : ∀ (z x' : Nat), ks[x']? = some z → (st :: E.map Ent.d)[z]? = some (dr [0] st E z) := by
      intro z x' hz
      rcases place x' z hz with ⟨rfl, e2⟩ | ⟨k', e', rfl, he', e2, _⟩
      · rfl
      · rw [Nat.add_comm, List.getElem?_cons_succ, Nat.add_comm, e2]
        exact at_map (f := Ent.d) he'
    have h1 := mem x i hx
    have h2 := mem y j hy
    have l1 := (List.getElem?_eq_some_iff.mp h1)
    have l2 := (List.getElem?_eq_some_iff.mp h2)
    have := List.pairwise_iff_getElem.mp h.keys x y l1.1 l2.1 lt
    rw [l1.2, l2.2] at this
    exact this e1
  · refine pw fun i j u v hij hu hv => ?_
    rw [ev_at, List.map_map] at hu hv
    obtain ⟨x, hx, rfl⟩ := map_at hu
    obtain ⟨y, hy, rfl⟩ := map_at hv
    have jl := (List.getElem?_eq_some_iff.mp hy).1
    obtain ⟨z, hz⟩ := at_some (xs := ks) (i := 2 * j + 1) (by omega)
    have n1 := nxt (2 * j) y z hy hz
    have b1 := low (2 * j) y z (by omega) hy hz
    have f1 := n1.far (2 * i) x (by omega) hx
    rw [flag _ x hx, show 2 * i % 2 = 0 by omega] at f1
    have f1' : bk p (dr [0] st E z) ≠ bk p (dr [0] st E x) := f1
    exact fun e1 => f1' (b1.trans (Eq.symm e1))
  · refine pw fun i j u v hij hu hv => ?_
    rw [ev_at] at hu hv
    obtain ⟨x, hx, rfl⟩ := map_at hu
    obtain ⟨y, hy, rfl⟩ := map_at hv
    have jl := (List.getElem?_eq_some_iff.mp hy).1
    rw [rot_len, ml] at jl
    rw [rot_at mne, ml, if_pos (by omega)] at hx hy
    obtain ⟨x, hx', rfl⟩ := map_at hx
    obtain ⟨y, hy', rfl⟩ := map_at hy
    clear hx hy
    have hx := hx'
    have hy := hy'
    clear hx' hy'
    by_cases e1 : 2 * j + 1 + 1 < ks.length
    · obtain ⟨z, hz⟩ := at_some e1
      have n1 := nxt (2 * j + 1) y z hy hz
      have b1 := high (2 * j + 1) y z (by omega) hy hz
      have f1 := n1.far (2 * i + 1) x (by omega) hx
      rw [flag _ x hx, show (2 * i + 1) % 2 = 1 by omega] at f1
      have f1' : bk r (dr [0] st E z) ≠ bk r (dr [0] st E x) := f1
      exact fun e1 => f1' (b1.trans (Eq.symm e1))
    · have : 2 * j + 1 = ks.length - 1 := by omega
      rw [this, hl1] at hy
      obtain rfl := Option.some.inj hy
      rw [dk, hb]
      rcases place _ x hx with ⟨rfl, _⟩ | ⟨k', e', rfl, he', d', _, lt⟩
      · have := flag _ 0 hx
        rw [show (2 * i + 1) % 2 = 1 by omega] at this
        have : fl [0] st E 0 = 0 := rfl
        omega
      · rw [d']
        exact first k' e' (lt (by omega)) he'
  · rw [twos_at]
    intro i
    rw [List.map_map]
    by_cases hi : 2 * i < ks.length
    · obtain ⟨x, hx⟩ := at_some hi
      obtain ⟨y, hy⟩ := at_some (xs := ks) (i := 2 * i + 1) (by omega)
      rw [at_map hx, at_map hy]
      exact congrArg some (low (2 * i) x y (by omega) hx hy).symm
    · rw [List.getElem?_eq_none (by rw [List.length_map]; omega), List.getElem?_eq_none (by rw [List.length_map]; omega)]
  · rw [twos_at]
    intro i
    by_cases hi : 2 * i < ks.length
    · obtain ⟨x, hx⟩ := at_some (xs := ks) (i := 2 * i + 1) (by omega)
      have ea : (rot (ks.map (dr [0] st E)))[2 * i]? = some (dr [0] st E x) := by
        rw [rot_at mne, ml, if_pos (by omega), mapd hx]
      rw [at_map ea]
      by_cases e1 : 2 * i + 1 + 1 < ks.length
      · obtain ⟨y, hy⟩ := at_some e1
        have eb : (rot (ks.map (dr [0] st E)))[2 * i + 1]? = some (dr [0] st E y) := by
          rw [rot_at mne, ml, if_pos (by omega), mapd hy]
        rw [at_map eb, high (2 * i + 1) x y (by omega) hx hy]
      · have : 2 * i + 1 = ks.length - 1 := by omega
        have eb : (rot (ks.map (dr [0] st E)))[2 * i + 1]? = some st := by
          rw [rot_at mne, ml, if_neg (by omega), if_pos (by omega), mapd h0]
          rfl
        rw [this, hl1] at hx
        obtain rfl := Option.some.inj hx
        rw [at_map eb, dk, hb]
    · rw [List.getElem?_eq_none (by rw [List.length_map, rot_len, ml]; omega), List.getElem?_eq_none (by rw [List.length_map, rot_len, ml]; omega)]
  · rw [mapd h0]
    rfl
end
end KQ
namespace KQ
open PySem PySem.Spec PyProof.Rows L2 KR KM StX
theorem flag01 {p r B : List Int} {st : Int} {N : Nat} {E : List Ent} (hB : ∀ b ∈ B, b = 0 ∨ b = 1) (h : Bfs p r B st N E) : ∀ (n j : Nat) (w x : Int), j < n → (Qu B st E)[j]? = some (w, x) → (w = 0 ∨ w = 1) ∧ (x = st ∨ (0 ≤ x ∧ x < N)) := by
  intro n
  induction n with
  | zero => exact fun j w x hj => absurd hj (Nat.not_lt_zero _)
  | succ n ih =>
    intro j w x hj hq
    by_cases e0 : j < B.length
    · obtain ⟨b, hb, hq2⟩ := qu_base (st := st) (E := E) e0
      rw [hq2] at hq
      obtain ⟨rfl, rfl⟩ := Prod.mk.inj (Option.some.inj hq)
      exact ⟨hB _ (List.mem_of_getElem? hb), .inl rfl⟩
    · have hl := (List.getElem?_eq_some_iff.mp hq).1
      rw [qu_len] at hl
      obtain ⟨e, he⟩ := at_some (xs := E) (i := j - B.length) (by omega)
      have hq2 := qu_ent (B := B) (st := st) he
      rw [show B.length + (j - B.length) = j by omega, hq] at hq2
      obtain ⟨rfl, rfl⟩ := Prod.mk.inj (Option.some.inj hq2)
      obtain ⟨h1, h2, _⟩ := h.par _ e he
      have := ih e.q _ _ (by omega) h2
      have r := h.rng e (List.mem_of_getElem? he)
      exact ⟨by omega, .inr r⟩
theorem kvs_val {p r B : List Int} {st : Int} {N : Nat} {E : List Ent} (h : Bfs p r B st N E) (d : Int) : (d ∈ st :: E.map Ent.d → ∃ v, valV (kvsOf st E) (kI d) = some v) ∧ (d ∉ st :: E.map Ent.d → valV (kvsOf st E) (kI d) = none) := by
  constructor
  · intro hd
    rcases mem_keys.mp hd with rfl | ⟨e, he, rfl⟩
    · exact ⟨_, val_start⟩
    · obtain ⟨k, hk⟩ := List.mem_iff_getElem?.mp he
      exact ⟨_, val_ent h.keys hk⟩
  · intro hd
    unfold valV kvsOf
    rw [List.find?_eq_none.mpr]
    · rfl
    · intro kv hkv
      rw [decide_eq_true_eq]
      intro e
      rcases List.mem_cons.mp hkv with rfl | hm
      · exact hd (mem_keys.mpr (.inl (kI_inj _ _ e).symm))
      · obtain ⟨f, hf, rfl⟩ := List.mem_map.mp hm
        exact hd (mem_keys.mpr (.inr ⟨f, hf, kI_inj _ _ e⟩))
theorem kvs_put {st : Int} {E : List Ent} {d w x : Int} {a : Nat} (hd : d ∉ st :: E.map Ent.d) : putK (kvsOf st E) (kI d) (V.int x) = kvsOf st (E ++ [⟨d, w, x, a⟩]) := by
  have hn : ((kvsOf st E).any fun kv => decide (kv.1 = kI d)) = false := by
    rw [List.any_eq_false]
    intro kv hkv
    rw [decide_eq_true_eq]
    intro e
    rcases List.mem_cons.mp hkv with rfl | hm
    · exact hd (mem_keys.mpr (.inl (kI_inj _ _ e).symm))
    · obtain ⟨f, hf, rfl⟩ := List.mem_map.mp hm
      exact hd (mem_keys.mpr (.inr ⟨f, hf, kI_inj _ _ e⟩))
  unfold putK
  rw [hn]
  simp [kvsOf]
theorem pairs_mono {H H' : Hp} {ts : List Addr} {xs : List (Int × Int)} (h : PairsAt H ts xs) (k : ∀ c vs, H c = some (.tup vs) → H' c = some (.tup vs)) : PairsAt H' ts xs :=
  ⟨h.1, fun i t ht => by
    obtain ⟨x, hx, e⟩ := h.2 i t ht
    exact ⟨x, hx, k _ _ e⟩⟩
theorem pairs_snoc {H : Hp} {ts : List Addr} {xs : List (Int × Int)} (h : PairsAt H ts xs) {t : Addr} {x : Int × Int} (e : H t = some (.tup [.int x.1, .int x.2])) : PairsAt H (ts ++ [t]) (xs ++ [x]) := by
  refine ⟨by rw [List.length_append, List.length_append, h.1]; rfl, fun i u hu => ?_⟩
  by_cases hi : i < ts.length
  · rw [List.getElem?_append_left hi] at hu
    obtain ⟨y, hy, e2⟩ := h.2 i u hu
    exact ⟨y, by rw [List.getElem?_append_left (by rw [← h.1]; exact hi)]; exact hy, e2⟩
  · have := (List.getElem?_eq_some_iff.mp hu).1
    rw [List.length_append, List.length_singleton] at this
    have ei : i = ts.length := by omega
    subst ei
    rw [List.getElem?_append_right (Nat.le_refl _), Nat.sub_self] at hu
    obtain rfl := Option.some.inj hu
    refine ⟨x, ?_, e⟩
    rw [h.1, List.getElem?_append_right (Nat.le_refl _), Nat.sub_self]
    rfl
theorem pairs_at {H : Hp} {ts : List Addr} {xs : List (Int × Int)} (h : PairsAt H ts xs) {i : Nat} (hi : i < xs.length) : ∃ t w x, ts[i]? = some t ∧ xs[i]? = some (w, x) ∧ H t = some (.tup [.int w, .int x]) := by
  obtain ⟨t, ht⟩ := at_some (xs := ts) (i := i) (by rw [h.1]; exact hi)
  obtain ⟨⟨w, x⟩, hx, e⟩ := h.2 i t ht
  exact ⟨t, w, x, ht, hx, e⟩
section
variable {P : Program} {w : World} {K : PySem.W.Frag} {mg : Str → Option Value} {base : Heap}
def spAhead : Sp := fun vs H Q _ => ∃ (pa a b da ba : Addr) (p r B : List Int) (st : Int) (N : Nat), vs = [.ref pa, .int st, .ref da, .ref ba] ∧ H pa = some (.tup [.ref a, .ref b]) ∧ TI H a p ∧ TI H b r ∧ p.length = r.length ∧ N ≤ p.length ∧
  p.length ≤ 60 ∧ 0 ≤ st ∧ st < p.length ∧ H da = some (.lst (hv (List.range N))) ∧ TI H ba B ∧ (∀ b ∈ B, b = 0 ∨ b = 1) ∧ B.length ≤ 2 ∧
  ∀ H' t E, Same H H' → H t = none → H' t = some (.dK (kvsOf st E)) → Bfs p r B st N E → (∀ j, j < (Qu B st E).length → FullTo p r B st E j N) → Q (.ref t) H'
end
end KQ
/-! slices with steps; a walk over a locked dict's keys; a tuple turned about -/
namespace KR
open PySem PySem.Spec PyProof.Rows L2 KM KQ
/-! ### xs[lo:hi:step] of a list -/
def pickV (xs : List V) (lo hi st : Option Int) : List V := (sliceRange (sliceBounds lo hi st xs.length).1 (sliceBounds lo hi st xs.length).2.1 (sliceBounds lo hi st xs.length).2.2).filterMap (xs[·]?)
theorem vals_pick {xs : List V} {us : List Value} (r : Vals xs us) : ∀ is : List Nat, Vals (is.filterMap (xs[·]?)) (is.filterMap (us[·]?))
  | [] => .nil
  | i :: is => by
    rw [List.filterMap_cons, List.filterMap_cons]
    have ih := vals_pick r is
    cases hx : xs[i]? with
    | none =>
      have : us[i]? = none := by
        rw [List.getElem?_eq_none_iff] at hx ⊢
        rw [← r.length]
        exact hx
      rw [this]
      exact ih
    | some x =>
      obtain ⟨u, hu, ru⟩ := r.get hx
      rw [hu]
      exact .cons ru ih
section
variable {X : Cx} {K : PySem.W.Frag}
def tStep (K : PySem.W.Frag) (te : TE) (tl th tst : TO) : TE := fun σ H Q => te σ H fun x H1 => tl σ H1 fun l H2 => th σ H2 fun u H3 => tst σ H3 fun o H4 => ∃ a xs, x = .ref a ∧ SqL K H4 a xs ∧ o ≠ some 0 ∧ ∀ p, H4 p = none → Q (.ref p) (upd H4 p (.lst (pickV xs l u o)))
theorem pe_stepL {e : Expr} {te : TE} {lo hi st : Option Expr} {tl th tst : TO} {p3 pos : Pos} (hK : X.K = K) (he : PE X e te) (hl : PO X lo tl) (hu : PO X hi th) (hst : PO X st tst)
    (hop : ∀ a b : Addr, ∃ ops, subscripted (.Slice lo hi st p3) false (.ref a) (.ref b) = operate ops (getItem (.ref a) (.ref b))) : PE X (.Subscript e (.Slice lo hi st p3) pos) (tStep K te tl th tst) := by
  subst hK
  refine ⟨fun pins s σ H Q I h => ?_⟩
  refine Subscript_ (thn (he.run pins s σ H _ I h) fun v s1 ⟨x, H1, I1, r1, q1⟩ => ?_)
  refine wpAny_Slice (thn (hl.run pins s1 σ H1 _ I1 q1) fun vl s2 ⟨l, H2, I2, pl, q2⟩ => ?_)
  refine thn (hu.run pins s2 σ H2 _ I2 q2) fun vu s3 ⟨u, H3, I3, pu, q3⟩ => ?_
  refine thn (hst.run pins s3 σ H3 _ I3 q3) fun vs s4 ⟨o, H4, I4, ps, q4⟩ => ?_
  obtain ⟨a, xs, ex, hx, h0, q⟩ := q4
  subst ex
  cases r1
  have I5 : Inv X pins σ H4 { s4 with heap := s4.heap.push { cls := .type "slice", data := .fields #[vl, vu, vs] } } := I4.kept (t' := s4.toks) fun b ob q => Heap.get?_push_of_some _ q
  obtain ⟨its, r, ht, hz⟩ := I5.list hx
  have hlen := r.length
  show wpAny (model X.prog X.w) X.A (subscriptTail e (.Slice lo hi st p3) (.ref a) (.ref s4.heap.objs.size)) (EP X pins σ Q) X.xe { s4 with heap := s4.heap.push { cls := .type "slice", data := .fields #[vl, vu, vs] } }
  obtain ⟨ops, hops⟩ := hop a s4.heap.objs.size
  refine tail_any (ops := ops) ht.isList.typeIs (PySem.slot_list_getitem.lookup) ?_ hops
  have sz : (slicePick its.toArray l u o).size ≤ its.toArray.size := slicePick_size_le _ _ _ _
  refine wpAny_getItem_list_slice ht.isList (Heap.IsSliceOf.new _ vl vu vs) pl pu ps h0 ?_ (by rw [List.size_toArray]; omega)
  have e : slicePick its.toArray l u o = ((sliceRange (sliceBounds l u o xs.length).1 (sliceBounds l u o xs.length).2.1 (sliceBounds l u o xs.length).2.2).filterMap (its[·]?)).toArray := by
    unfold slicePick
    rw [List.size_toArray, ← hlen]
    congr 1
    refine congrArg (fun f => List.filterMap f _) (funext fun i => ?_)
    simp
  have vp := vals_pick r (sliceRange (sliceBounds l u o xs.length).1 (sliceBounds l u o xs.length).2.1 (sliceBounds l u o xs.length).2.2)
  rw [e] at sz ⊢
  refine ⟨.ref _, _, I5.laid (t' := s4.toks) (o := .lst (pickV xs l u o)) (fun b ob q => Heap.get?_push_of_some _ q) (Nat.le_refl _) ?_, rfl, q _ (I5.hok.fresh (Nat.le_refl _))⟩
  refine ⟨?_, _, 0, vp, Heap.get?_push_size _ rfl⟩
  have := vp.length
  rw [List.size_toArray, List.size_toArray] at sz
  unfold pickV
  omega
/-! ### t[::-1] of a tuple -/
theorem fm_congr {α β : Type} {f g : α → Option β} : ∀ {l : List α}, (∀ x ∈ l, f x = g x) → l.filterMap f = l.filterMap g
  | [], _ => rfl
  | a :: l, h => by
    rw [List.filterMap_cons, List.filterMap_cons, h a List.mem_cons_self, fm_congr fun x hx => h x (List.mem_cons_of_mem _ hx)]
theorem getItem_tuple_rev {prog : Program} {w : World} {A : Around} {E : Value → Shared → Prop} {s : Shared} {t sl : Addr} {items : Array Value} {tk : Tok} {Q : Value → Shared → Prop} (ht : IsTup s.heap t items) (hs : s.heap.IsSliceOf sl .none .none (.int (-1) tk))
    (h : Q (.ref s.heap.objs.size) { s with heap := s.heap.push { cls := .type "tuple", data := .seq items.toList.reverse.toArray } })
    (hsz : items.size ≤ sizeLine) : wpAny (model prog w) A (getItem (.ref t) (.ref sl)) Q E s := by
  have htake : sizeOk (.seq items.toList.reverse.toArray) := by
    show items.toList.reverse.toArray.size ≤ sizeLine
    rw [List.size_toArray, List.length_reverse, Array.length_toList]
    exact hsz
  obtain ⟨os, hos, hcs, hds⟩ := id hs
  have hTs : s.TypeIs (.ref sl) "slice" := ⟨os, hos, hcs⟩
  unfold getItem
  try with_reducible refine wpAny_holding ?_
  first | refine wpAny_bind (wpAny_pure ?_) | skip
  refine wpAny_bind (wpAny_sequenceKey ht.typeIs (by decide) ?_)
  refine wpAny_bind (wpAny_callSpecial?_slot (name := Str.ofString "__getitem__") ht.typeIs PyProof.Rows.slot_tuple_getitem
    (wpAny_call_entry PyProof.Rows.slot_tuple_getitem ht.typeIs entry_tuple_getitem ?_ (args_tuple_getitem _ _)))
  show wpAny _ _ (Builtin.Tuple.tupleItemsOf (.ref t) >>= _) _ _ s
  refine wpAny_bind (tupleItemsOf_ ht ?_)
  refine wpAny_bind (wpAny_typeOf hTs ?_)
  rw [if_pos (by decide)]
  have ap : ∀ {A : Around} {E : Value → Shared → Prop} {Q2 : Int × Int × Nat → Shared → Prop}, Q2 ((items.size : Int) - 1, -1, items.size) s → wpAny (model prog w) A (Builtin.Slice.sliceApplied (.ref sl) (pure (items.size : Int))) Q2 E s := by
    intro A E Q2 h2
    unfold Builtin.Slice.sliceApplied Builtin.Slice.sliceFields
    refine wpAny_bind (wpAny_bind (wpAny_field hos hds (x := .none) rfl (wpAny_bind (wpAny_field hos hds (x := .none) rfl (wpAny_bind (wpAny_field hos hds (x := .int (-1) tk) rfl (wpAny_pure ?_)))))))
    refine wpAny_bind (slicePart_int ?_)
    show wpAny _ _ (if ((-1 : Int) == 0) = true then _ else _) _ _ s
    rw [if_neg (by decide)]
    refine wpAny_bind (slicePart_none (wpAny_bind (slicePart_none (wpAny_bind (wpAny_pure ?_)))))
    show wpAny _ _ (pure ((items.size : Int) - 1, (-1 : Int), Builtin.Slice.slicePlaces ((items.size : Int) - 1) (-1) (-1))) _ _ s
    have e : Builtin.Slice.slicePlaces ((items.size : Int) - 1) (-1) (-1) = items.size := by
      unfold Builtin.Slice.slicePlaces
      rw [if_neg (by decide)]
      by_cases hp : (items.size : Int) - 1 > -1
      · rw [if_pos hp, show (- -1 : Int) = 1 by decide, Int.ediv_one]
        omega
      · rw [if_neg hp]
        omega
    rw [e]
    exact wpAny_pure h2
  refine wpAny_bind (ap ?_)
  have hno : ¬ ((((items.size : Int) - 1) == 0 && (-1 : Int) == 1 && items.size == items.size) = true) := by
    rw [show ((-1 : Int) == 1) = false from rfl, Bool.and_false, Bool.false_and]
    exact Bool.false_ne_true
  show wpAny _ _ (if (((items.size : Int) - 1) == 0 && (-1 : Int) == 1 && items.size == items.size) = true then _ else _) _ _ s
  rw [if_neg hno]
  have ep : ((List.range items.size).filterMap fun (k : Nat) => items[((items.size : Int) - 1 + (k : Int) * -1).toNat]?).toArray = items.toList.reverse.toArray := by
    have h1 := PySem.W.krv_all items
    have h2 := PySem.W.krv_range items.size
    rw [← h1, ← List.filterMap_reverse, ← h2, List.filterMap_map]
    congr 1
    refine fm_congr fun k hk => ?_
    have := List.mem_range.mp hk
    show items[((items.size : Int) - 1 + (k : Int) * -1).toNat]? = items[items.size - 1 - k]?
    rw [show ((items.size : Int) - 1 + (k : Int) * -1).toNat = items.size - 1 - k by omega]
  rw [ep]
  first
    | exact wpAny_bind (m := Builtin.Tuple.tupleExact _) (wpAny_newObj_type (wpAny_pure ⟨_, rfl, wpAny_pure h⟩) htake)
    | exact wpAny_bind (m := Builtin.Tuple.tupleExact _) (wpAny_newObj_type (wpAny_bind (wpAny_pure (wpAny_pure ⟨_, rfl, wpAny_pure h⟩))) htake)
    | exact wpAny_bind (wpAny_bind (m := Builtin.Tuple.tupleExact _) (wpAny_newObj_type (wpAny_pure (wpAny_pure ⟨_, rfl, wpAny_pure h⟩)) htake))
    | exact wpAny_bind (wpAny_bind (m := Builtin.Tuple.tupleExact _) (wpAny_newObj_type (wpAny_pure ⟨_, rfl, wpAny_pure h⟩) htake))
def tRevT (K : PySem.W.Frag) (te : TE) : TE := fun σ H Q => te σ H fun x H1 => ∃ a xs, x = .ref a ∧ SqT K H1 a xs ∧ ∀ p, H1 p = none → Q (.ref p) (upd H1 p (.tup xs.reverse))
theorem pe_revT {e : Expr} {te : TE} {k : Nat} {p1 p2 p3 pos : Pos} (hK : X.K = K) (he : PE X e te) : PE X (.Subscript e (.Slice none none (some (.UnaryOp .USub (.Constant (.int 1) k p1) p2)) p3) pos) (tRevT K te) := by
  subst hK
  refine ⟨fun pins s σ H Q I h => ?_⟩
  refine Subscript_ (thn (he.run pins s σ H _ I h) fun v s1 ⟨x, H1, I1, r1, q1⟩ => ?_)
  obtain ⟨a, xs, ex, hx, q⟩ := q1
  subst ex
  cases r1
  have hst : PO X (some (.UnaryOp .USub (.Constant (.int 1) k p1) p2)) (tPart (tUn (rU fun i => .int (-i)) (tC (.int 1)))) := po_some (pe_un un_neg pe_int)
  refine wpAny_Slice ?_
  rw [evalPart_none]
  refine wpAny_pure (wpAny_pure ?_)
  refine thn (hst.run pins s1 σ H1 (fun o H4 => o = some (-1) ∧ H4 = H1) I1 ⟨1, rfl, -1, rfl, rfl, rfl⟩) fun vs s4 ⟨o, H4, I4, ps, eo, e4⟩ => ?_
  subst eo e4
  obtain ⟨tk, rfl⟩ : ∃ tk, vs = .int (-1) tk := by
    cases ps
    exact ⟨_, rfl⟩
  have I5 : Inv X pins σ H4 { s4 with heap := s4.heap.push { cls := .type "slice", data := .fields #[.none, .none, .int (-1) tk] } } := I4.kept (t' := s4.toks) fun b ob q => Heap.get?_push_of_some _ q
  obtain ⟨its, r, ht, hz⟩ := I5.tuple hx
  have hlen := r.length
  show wpAny (model X.prog X.w) X.A (subscriptTail e (.Slice none none (some (.UnaryOp .USub (.Constant (.int 1) k p1) p2)) p3) (.ref a) (.ref s4.heap.objs.size)) (EP X pins σ Q) X.xe { s4 with heap := s4.heap.push { cls := .type "slice", data := .fields #[.none, .none, .int (-1) tk] } }
  refine tail_any (ops := [.ref a, .ref s4.heap.objs.size]) ht.typeIs (PyProof.Rows.slot_tuple_getitem.lookup) ?_ (by with_unfolding_all rfl)
  refine getItem_tuple_rev ht (Heap.IsSliceOf.new _ _ _ _) ?_ (by rw [List.size_toArray]; omega)
  refine ⟨.ref _, _, I5.laid (t' := s4.toks) (o := .tup xs.reverse) (fun b ob q => Heap.get?_push_of_some _ q) (Nat.le_refl _) ?_, rfl, q _ (I5.hok.fresh (Nat.le_refl _))⟩
  exact ⟨by rw [List.length_reverse]; exact hz, _, r.reverse, IsTup.new _ _⟩
end
/-! ### a walk over a locked dict's keys -/
theorem for_keys {d : Addr} {o : Obj} {kvs : List (L2.Key × V)} {g : TG} {tb : TS} {D : Ends} {σ : L2.St} {H : Hp} (Pv : Nat → L2.St → Hp → Prop) (h0 : Pv 0 σ H) (hl : ∀ i σ H, i ≤ kvs.length → Pv i σ H → H d = some (.frz o (.dK kvs)))
    (hs : ∀ i k v σ H, kvs[i]? = some (k, v) → Pv i σ H → g (kV k) σ H fun σ2 H2 => tb { D with nx := Pv (i + 1), ct := Pv (i + 1), bk := D.nx } σ2 H2) (hd : ∀ σ H, Pv kvs.length σ H → D.nx σ H) :
    ∃ W : Nat → Nat → L2.St → Hp → Prop, (∃ m, W 0 m σ H) ∧ ∀ i m σ H, W i m σ H →
      ((Itk d o kvs).stop i H ∧ D.nx σ H) ∨ ((Itk d o kvs).go i H ∧ ∃ N : L2.St → Hp → Prop, (∀ σ' H', N σ' H' → ∃ m', m' < m ∧ W (i + 1) m' σ' H') ∧ ∀ x H', (Itk d o kvs).yld i H x H' → g x σ H' fun σ2 H2 => tb { D with nx := N, ct := N, bk := D.nx } σ2 H2) := by
  refine ⟨fun i m σ H => m = kvs.length - i ∧ i ≤ kvs.length ∧ Pv i σ H, ⟨kvs.length, by simp, Nat.zero_le _, h0⟩, ?_⟩
  rintro i m σ H ⟨rfl, hi, p⟩
  have q := hl i σ H hi p
  by_cases hlt : i < kvs.length
  · refine .inr ⟨⟨q, hlt⟩, Pv (i + 1), fun σ' H' p' => ⟨kvs.length - (i + 1), by omega, rfl, hlt, p'⟩, fun x H' y => ?_⟩
    obtain ⟨e, k, v, hk, rfl⟩ := y
    subst e
    exact hs i k v σ _ hk p
  · have e : i = kvs.length := by omega
    subst e
    exact .inl ⟨⟨q, Nat.le_refl _⟩, hd σ H p⟩
/-! ### every second one -/
theorem pick_ev : ∀ xs : List V, (List.range ((xs.length + 1) / 2)).filterMap (fun k => xs[2 * k]?) = ev xs
  | [] => rfl
  | [a] => by
    rw [show ([a].length + 1) / 2 = 1 by rw [List.length_singleton]]
    rfl
  | a :: b :: r => by
    rw [show ((a :: b :: r).length + 1) / 2 = (r.length + 1) / 2 + 1 by rw [List.length_cons, List.length_cons]; omega, List.range_succ_eq_map, List.filterMap_cons, List.filterMap_map]
    show a :: _ = a :: ev r
    rw [← pick_ev r]
    refine congrArg (a :: ·) (congrArg (fun f => List.filterMap f _) (funext fun k => ?_))
    show (a :: b :: r)[2 * (k + 1)]? = r[2 * k]?
    rw [show 2 * (k + 1) = 2 * k + 1 + 1 by omega]
    rfl
theorem pick_two (xs : List V) : pickV xs none none (some 2) = ev xs := by
  rw [← pick_ev]
  unfold pickV
  have e : sliceBounds none none (some 2) xs.length = (0, (xs.length : Int), 2) := by
    simp [sliceBounds]
  rw [e]
  unfold sliceRange
  show List.filterMap _ (List.map _ (List.range _)) = _
  rw [List.filterMap_map]
  have c : (if (2 : Int) > 0 then (if (0 : Int) < (xs.length : Int) then ((xs.length : Int) - 0 + 2 - 1) / 2 else 0) else (if (0 : Int) > (xs.length : Int) then (0 - (xs.length : Int) - 2 - 1) / (-2) else 0)).toNat = (xs.length + 1) / 2 := by
    rw [if_pos (by decide)]
    split <;> omega
  rw [c]
  refine congrArg (fun f => List.filterMap f _) (funext fun k => ?_)
  show xs[((0 : Int) + 2 * (k : Int)).toNat]? = xs[2 * k]?
  rw [show ((0 : Int) + 2 * (k : Int)).toNat = 2 * k by omega]
theorem pick_one (xs : List V) : pickV xs (some 1) none (some 2) = ev xs.tail := by
  cases xs with
  | nil =>
    unfold pickV
    have e : sliceBounds (some 1) none (some 2) ([] : List V).length = (0, 0, 2) := by decide
    rw [e]
    rfl
  | cons a t =>
    show _ = ev t
    rw [← pick_ev]
    unfold pickV
    have e : sliceBounds (some 1) none (some 2) (a :: t).length = (1, (t.length : Int) + 1, 2) := by
      simp [sliceBounds] <;> omega
    rw [e]
    unfold sliceRange
    show List.filterMap _ (List.map _ (List.range _)) = _
    rw [List.filterMap_map]
    have c : (if (2 : Int) > 0 then (if (1 : Int) < (t.length : Int) + 1 then ((t.length : Int) + 1 - 1 + 2 - 1) / 2 else 0) else (if (1 : Int) > (t.length : Int) + 1 then (1 - ((t.length : Int) + 1) - 2 - 1) / (-2) else 0)).toNat = (t.length + 1) / 2 := by
      rw [if_pos (by decide)]
      split <;> omega
    rw [c]
    refine congrArg (fun f => List.filterMap f _) (funext fun k => ?_)
    show (a :: t)[((1 : Int) + 2 * (k : Int)).toNat]? = t[2 * k]?
    rw [show ((1 : Int) + 2 * (k : Int)).toNat = 2 * k + 1 by omega, List.getElem?_cons_succ]
end KR
namespace KQ
open PySem PySem.Spec PyProof.Rows L2 KR KM StX
section
variable {P : Program} {w : World} {K : PySem.W.Frag} {mg : Str → Option Value} {base : Heap}
/-- what is told of the first ring up to a door -/
def RingTo (p r : List Int) (n : Int) (H : Hp) (v : V) : Prop := (v = .non ∧ ¬ RingAt p r n.toNat) ∨
  ∃ (t : Addr) (ds : List Int), v = .ref t ∧ TI H t ds ∧ RingAt p r n.toNat ∧ IsRing p r ds ∧ ds[0]? = some n ∧ ∀ d ∈ ds, d ≤ n
def spUpTo : Sp := fun vs H Q _ => ∃ (a b : Addr) (p r : List Int) (n : Int), vs = [.ref a, .ref b, .int n] ∧ TI H a p ∧ TI H b r ∧ Par p ∧ Par r ∧ p.length = r.length ∧ 0 ≤ n ∧ n < p.length ∧
  ∀ H' v, Same H H' → RingTo p r n H' v → Q v H'
def spRing : Sp := fun vs H Q _ => ∃ (a b : Addr) (p r : List Int), vs = [.ref a, .ref b] ∧ TI H a p ∧ TI H b r ∧ Par p ∧ Par r ∧ p.length = r.length ∧
  ∀ H' v, Same H H' → ((v = .non ∧ NoRing p r) ∨ ∃ (n : Nat) (t : Addr) (ds : List Int), v = .ref t ∧ TI H' t ds ∧ RingAt p r n ∧ (∀ j, j < n → ¬ RingAt p r j) ∧ IsRing p r ds ∧ ds[0]? = some (n : Int) ∧ ∀ d ∈ ds, d ≤ (n : Int)) → Q v H'
end
end KQ
namespace KQ
open PySem PySem.Spec PyProof.Rows L2 KR KM StX
/-- things of the kinds that the law makes -/
inductive OddV (H : Hp) : V → Prop where
  | int (i : Int) : OddV H (.int i)
  | bl (b : Bool) : OddV H (.bl b)
  | non : OddV H .non
  | str (x : Str) : OddV H (.str x)
  | lst {a : Addr} {xs : List V} (h : H a = some (.lst xs)) : OddV H (.ref a)
  | dK {a : Addr} {kvs : List (L2.Key × V)} (h : H a = some (.dK kvs)) : OddV H (.ref a)
  | tup {a : Addr} {xs : List V} (h : H a = some (.tup xs)) : OddV H (.ref a)
theorem OddV.mono {H H' : Hp} {v : V} (o : OddV H v) (s : Same H H') : OddV H' v := by
  cases o with
  | int i => exact .int i
  | bl b => exact .bl b
  | non => exact .non
  | str x => exact .str x
  | lst h => exact .lst (s _ _ h)
  | dK h => exact .dK (s _ _ h)
  | tup h => exact .tup (s _ _ h)
def isI : V → Bool
  | .int _ => true
  | _ => false
def inV (v : V) (lo hi : Int) : Bool :=
  match v with
  | .int i => decide (lo ≤ i ∧ i ≤ hi)
  | _ => false
theorem inV_true {v : V} {lo hi : Int} (h : inV v lo hi = true) : ∃ i, v = .int i ∧ lo ≤ i ∧ i ≤ hi := by
  cases v with
  | int i =>
    have := of_decide_eq_true h
    exact ⟨i, rfl, this.1, this.2⟩
  | _ => cases h
inductive Thing (H : Hp) : V → Option (List V) → Prop where
  | tup {a : Addr} {vs : List V} (h : H a = some (.tup vs)) (o : ∀ v ∈ vs, OddV H v) (l : vs.length ≤ 1000) : Thing H (.ref a) (some vs)
  | non : Thing H .non none
  | int (i : Int) : Thing H (.int i) none
  | lst {a : Addr} {xs : List V} (h : H a = some (.lst xs)) : Thing H (.ref a) none
theorem Thing.mono {H H' : Hp} {v : V} {o : Option (List V)} (t : Thing H v o) (s : Same H H') : Thing H' v o := by
  cases t with
  | tup h o l => exact .tup (s _ _ h) (fun v hv => (o v hv).mono s) l
  | non => exact .non
  | int i => exact .int i
  | lst h => exact .lst (s _ _ h)
def RightT (p r : List Int) (o : Option (List V)) : Prop := ∃ ds : List Int, o = some (ds.map V.int) ∧ IsRing p r ds
theorem map_int_inj : ∀ {xs ys : List Int}, xs.map V.int = ys.map V.int → xs = ys
  | [], [], _ => rfl
  | [], _ :: _, h => by cases h
  | _ :: _, [], h => by cases h
  | x :: xs, y :: ys, h => by
    obtain ⟨h1, h2⟩ := List.cons.inj h
    rw [V.int.inj h1, map_int_inj h2]
theorem right_ints {p r ds : List Int} : RightT p r (some (ds.map V.int)) ↔ IsRing p r ds :=
  ⟨fun ⟨ds', e, h⟩ => by rw [map_int_inj (Option.some.inj e)]; exact h, fun h => ⟨ds, rfl, h⟩⟩
theorem eqv_ints : ∀ (xs ys : List Int), PyData.eqvAll (xs.map PyData.int) (ys.map PyData.int) = decide (xs = ys)
  | [], [] => rfl
  | [], _ :: _ => rfl
  | _ :: _, [] => rfl
  | x :: xs, y :: ys => by
    show (PyData.eqv (.int x) (.int y) && PyData.eqvAll (xs.map PyData.int) (ys.map PyData.int)) = _
    rw [eqv_ints xs ys]
    show ((x == y) && decide (xs = ys)) = _
    by_cases e : x = y
    · subst e
      simp
    · simp [e]
section
variable {P : Program} {w : World} {K : PySem.W.Frag} {mg : Str → Option Value} {base : Heap}
theorem OddV.ty {H : Hp} {v : V} (o : OddV H v) (hi : ∀ i, v ≠ .int i) : ∃ T : String, TyX K H v (.type T) ∧ ((T = "bool" ∧ ∃ b, v = .bl b) ∨ (kitB T "int" = some false)) := by
  cases o with
  | int i => exact absurd rfl (hi i)
  | bl b => exact ⟨_, .base (.bl b), .inl ⟨rfl, b, rfl⟩⟩
  | non => exact ⟨_, .base .non, .inr (by decide +kernel)⟩
  | str x => exact ⟨_, .base (.str x), .inr (by decide +kernel)⟩
  | lst h => exact ⟨_, .base (.lst h), .inr (by decide +kernel)⟩
  | dK h => exact ⟨_, .base (.dK h), .inr (by decide +kernel)⟩
  | tup h => exact ⟨_, .base (.tup h), .inr (by decide +kernel)⟩
def spIsIntegerA : Sp := fun vs H Q _ => ∃ v : V, vs = [v] ∧ OddV H v ∧ Q (.bl (isI v)) H
theorem ok_is_integerA (D : DefAt K mg "is_integer" s_is_integer) (T : Bt mg) : Use P w K mg base "is_integer" 1 ["value"] spIsIntegerA := by
  refine use_of D (fun f fd F => F.ok sc_is_integer (fun vs H Q E h => ?_) (fun cdv A outer s H vs Q E hr h => ?_)) (fun _ _ _ _ _ _ us hl => match us, hl with | [_], _ => rfl)
  · obtain ⟨i, rfl, _⟩ := h
    rfl
  · obtain ⟨v, rfl, o, q⟩ := h
    refine ⟨_, (pss_one (ps_ret (pe_and (pe_callB (k_isi (K := K) rfl) (by rfl) T.isinstance (by decide +kernel) (pa_cons (pv 0) (pa_cons (pe_bltn (v := .ty "int") (by rfl) T.int (by decide +kernel) rfl) pa_nil))) (pe_one (pe_not (pe_callB (k_isi (K := K) rfl) (by rfl) T.isinstance (by decide +kernel) (pa_cons (pv 0) (pa_cons (pe_bltn (v := .ty "bool") (by rfl) T.bool (by decide +kernel) rfl) pa_nil)))))))), ?_⟩
    by_cases hi : ∃ i, v = .int i
    · obtain ⟨i, rfl⟩ := hi
      refine ⟨_, rfl, _, _, _, _, true, rfl, .ty _, .base (.int i), kit_ty (by decide +kernel), true, rfl, iteT ?_⟩
      exact ⟨_, rfl, _, _, _, _, false, rfl, .ty _, .base (.int i), kit_ty (by decide +kernel), _, rfl, q⟩
    · have e : isI v = false := by
        cases v with
        | int i => exact absurd ⟨i, rfl⟩ hi
        | _ => rfl
      rw [e] at q
      obtain ⟨t, ty, h⟩ := o.ty (K := K) fun i e => hi ⟨i, e⟩
      rcases h with ⟨rfl, b, rfl⟩ | kt
      · refine ⟨_, rfl, _, _, _, _, true, rfl, .ty _, ty, kit_ty (by decide +kernel), true, rfl, iteT ?_⟩
        exact ⟨_, rfl, _, _, _, _, true, rfl, .ty _, ty, kit_ty (by decide +kernel), _, rfl, q⟩
      · exact ⟨_, rfl, _, _, _, _, false, rfl, .ty _, ty, kit_ty kt, false, rfl, iteF q⟩
def spIntWA : Sp := fun vs H Q _ => ∃ (v : V) (lo hi : Int), vs = [v, .int lo, .int hi] ∧ OddV H v ∧ Q (.bl (inV v lo hi)) H
theorem ok_is_integer_withinA (D : DefAt K mg "is_integer_within" s_is_integer_within) (T : Bt mg) (u_is_integer : Use P w K mg base "is_integer" 1 ["value"] spIsIntegerA) :
    Use P w K mg base "is_integer_within" 2 ["value", "least", "most"] spIntWA := by
  refine use_of D (fun f fd F => F.ok sc_is_integer_within (fun vs H Q E h => ?_) (fun cdv A outer s H vs Q E hr h => ?_)) (fun _ _ _ _ _ _ us hl => match us, hl with | [_, _, _], _ => rfl)
  · obtain ⟨i, lo, hi, rfl, _⟩ := h
    rfl
  · obtain ⟨v, lo, hi, rfl, o, q⟩ := h
    refine ⟨_, (pss_one (ps_ret (pe_and (pe_use u_is_integer (by decide) hr (by rfl) (pa_cons (pv 0) pa_nil)) (pe_one (pe_chain op_le op_le (pv 1) (pv 0) (pv 2)))))), ?_⟩
    by_cases hv : ∃ i, v = .int i
    · obtain ⟨i, rfl⟩ := hv
      have q' : Q (.bl (decide (lo ≤ i ∧ i ≤ hi))) H := q
      refine ⟨_, rfl, _, rfl, o, true, rfl, iteT ?_⟩
      refine ⟨_, rfl, _, rfl, lo, i, rfl, rfl, _, rfl, ?_⟩
      by_cases h1 : lo ≤ i
      · rw [decide_eq_true h1]
        refine iteT ⟨_, rfl, i, hi, rfl, rfl, ?_⟩
        have e : decide (lo ≤ i ∧ i ≤ hi) = decide (i ≤ hi) := by simp [h1]
        rw [e] at q'
        exact q'
      · rw [decide_eq_false h1]
        refine iteF ?_
        have e : decide (lo ≤ i ∧ i ≤ hi) = false := by simp [h1]
        rw [e] at q'
        exact q'
    · have e : isI v = false ∧ inV v lo hi = false := by
        cases v with
        | int i => exact absurd ⟨i, rfl⟩ hv
        | _ => exact ⟨rfl, rfl⟩
      rw [e.2] at q
      exact ⟨_, rfl, _, rfl, o, false, by rw [e.1], iteF q⟩
theorem ev_ints (xs : List Int) : ev (xs.map V.int) = (ev xs).map V.int := ev_map _ _
def spIsRing : Sp := fun vs H Q _ => ∃ (a b : Addr) (t : V) (p r : List Int) (o : Option (List V)), vs = [.ref a, .ref b, t] ∧ TI H a p ∧ TI H b r ∧ Par p ∧ Par r ∧ p.length = r.length ∧ Thing H t o ∧
  ∀ H' c, Same H H' → (c = true ↔ RightT p r o) → Q (.bl c) H'
end
end KQ
namespace KR
open PySem PySem.Spec PyProof.Rows L2 KM KQ
theorem lc_enumT {K : PySem.W.Frag} {a : Addr} {xs : List V} {g : TG} {tt : TT} {te : TE} {vs : List Nat} {σ : L2.St} {H1 : Hp} {D : Addr} {Qd : Hp → Prop} (Pv : Nat → Hp → Prop) (h0 : Pv 0 (upd H1 D (.lst []))) (hl : ∀ i H, i ≤ xs.length → Pv i H → SqT K H a xs)
    (hs : ∀ (i : Nat) (x : V) (T : Addr) (H : Hp), xs[i]? = some x → Pv i H → H T = none → g (.ref T) (wipe σ vs) (upd H T (.tup [.int (i : Nat), x])) fun σ2 H2 => wipe σ2 vs = wipe σ vs ∧ tt σ2 H2 fun b H3 =>
      if b = true then te σ2 H3 fun y H4 => ∃ acc, H4 D = some (.lst acc) ∧ acc.length < sizeLine ∧ Pv (i + 1) (upd H4 D (.lst (acc ++ [y]))) else Pv (i + 1) H3) (hd : ∀ H, Pv xs.length H → Qd H) :
    ∃ W : Nat → Nat → Hp → Prop, (∃ m, W 0 m (upd H1 D (.lst []))) ∧ ∀ i m H, W i m H →
      ((IteT K a).stop i H ∧ Qd H) ∨ ((IteT K a).go i H ∧ ∃ Nx : Hp → Prop, (∀ H', Nx H' → ∃ m', m' < m ∧ W (i + 1) m' H') ∧ ∀ x H', (IteT K a).yld i H x H' → g x (wipe σ vs) H' fun σ2 H2 => wipe σ2 vs = wipe σ vs ∧ tt σ2 H2 fun b H3 =>
        if b = true then te σ2 H3 fun y H4 => ∃ acc, H4 D = some (.lst acc) ∧ acc.length < sizeLine ∧ Nx (upd H4 D (.lst (acc ++ [y]))) else Nx H3) := by
  refine ⟨fun i m H => m = xs.length - i ∧ i ≤ xs.length ∧ Pv i H, ⟨xs.length, by simp, Nat.zero_le _, h0⟩, ?_⟩
  rintro i m H ⟨rfl, hi, p⟩
  have q := hl i H hi p
  by_cases hlt : i < xs.length
  · have hx : xs[i]? = some xs[i] := List.getElem?_eq_getElem hlt
    refine .inr ⟨⟨xs, _, q, hx⟩, Pv (i + 1), fun H' p' => ⟨xs.length - (i + 1), by omega, rfl, hlt, p'⟩, fun x H' y => ?_⟩
    obtain ⟨T, x', rfl, hT, rfl, f1⟩ := y
    exact hs i x' T H (f1 xs q) p hT
  · have e : i = xs.length := by omega
    subst e
    exact .inl ⟨⟨xs, q, Nat.le_refl _⟩, hd H p⟩
theorem lc_enumL {K : PySem.W.Frag} {a : Addr} {xs : List V} {g : TG} {tt : TT} {te : TE} {vs : List Nat} {σ : L2.St} {H1 : Hp} {D : Addr} {Qd : Hp → Prop} (Pv : Nat → Hp → Prop) (h0 : Pv 0 (upd H1 D (.lst []))) (hl : ∀ i H, i ≤ xs.length → Pv i H → SqL K H a xs)
    (hs : ∀ (i : Nat) (x : V) (T : Addr) (H : Hp), xs[i]? = some x → Pv i H → H T = none → g (.ref T) (wipe σ vs) (upd H T (.tup [.int (i : Nat), x])) fun σ2 H2 => wipe σ2 vs = wipe σ vs ∧ tt σ2 H2 fun b H3 =>
      if b = true then te σ2 H3 fun y H4 => ∃ acc, H4 D = some (.lst acc) ∧ acc.length < sizeLine ∧ Pv (i + 1) (upd H4 D (.lst (acc ++ [y]))) else Pv (i + 1) H3) (hd : ∀ H, Pv xs.length H → Qd H) :
    ∃ W : Nat → Nat → Hp → Prop, (∃ m, W 0 m (upd H1 D (.lst []))) ∧ ∀ i m H, W i m H →
      ((Ite K a).stop i H ∧ Qd H) ∨ ((Ite K a).go i H ∧ ∃ Nx : Hp → Prop, (∀ H', Nx H' → ∃ m', m' < m ∧ W (i + 1) m' H') ∧ ∀ x H', (Ite K a).yld i H x H' → g x (wipe σ vs) H' fun σ2 H2 => wipe σ2 vs = wipe σ vs ∧ tt σ2 H2 fun b H3 =>
        if b = true then te σ2 H3 fun y H4 => ∃ acc, H4 D = some (.lst acc) ∧ acc.length < sizeLine ∧ Nx (upd H4 D (.lst (acc ++ [y]))) else Nx H3) := by
  refine ⟨fun i m H => m = xs.length - i ∧ i ≤ xs.length ∧ Pv i H, ⟨xs.length, by simp, Nat.zero_le _, h0⟩, ?_⟩
  rintro i m H ⟨rfl, hi, p⟩
  have q := hl i H hi p
  by_cases hlt : i < xs.length
  · have hx : xs[i]? = some xs[i] := List.getElem?_eq_getElem hlt
    refine .inr ⟨⟨xs, _, q, hx⟩, Pv (i + 1), fun H' p' => ⟨xs.length - (i + 1), by omega, rfl, hlt, p'⟩, fun x H' y => ?_⟩
    obtain ⟨T, x', rfl, hT, rfl, f1⟩ := y
    exact hs i x' T H (f1 xs q) p hT
  · have e : i = xs.length := by omega
    subst e
    exact .inl ⟨⟨xs, q, Nat.le_refl _⟩, hd H p⟩
theorem k_gtup {X : Cx} {K : PySem.W.Frag} {es : List Expr} {k : Nat} {t : TGs} {n : Nat} {pos : Pos} (hK : X.K = K) (hc : X.calm = true) (h : PGs X es t)
    (hn : (assignEach es X.env).length = n := by rfl) (hst : (assignEach es X.env).findIdx? (·.1) = none := by rfl) : PG X (.Tuple es k pos) (gTup K n t) := by
  subst hK
  exact pg_tup hc h hn hst
def rReprB : List V → Hp → VK → Prop := fun xs H Q => ∃ b : Bool, xs = [.bl b] ∧ Q (.str (if b then "True" else "False")) H
theorem call_reprB {X : Cx} : CallR X (.builtin "repr") rReprB := by
  intro pins s σ H xs us Q I r h
  obtain ⟨b, rfl, q⟩ := h
  cases r with
  | cons r1 rr =>
    cases rr
    cases r1
    exact PySem.P.repr_of_bool ⟨.str _, H, I.tok _, ⟨_, rfl⟩, q⟩
/-- a whole number among whole numbers -/
theorem inV_ints (d : Int) (ds : List Int) : L2.inV (.int d) (ds.map V.int) = decide (d ∈ ds) := by
  unfold L2.inV
  rw [List.any_map]
  by_cases h : d ∈ ds
  · rw [decide_eq_true h, List.any_eq_true]
    exact ⟨d, h, by show (d == d) = true; simp⟩
  · rw [decide_eq_false h, List.any_eq_false]
    intro x hx
    show ¬ (x == d) = true
    rw [beq_iff_eq]
    exact fun e => h (e ▸ hx)
theorem flat_ints (ds : List Int) : (ds.map V.int).all flatV = true := by
  rw [List.all_map, List.all_eq_true]
  exact fun _ _ => rfl
end KR
namespace KQ
open PySem PySem.Spec PyProof.Rows L2 KR KM StX
theorem fmod2 (n : Nat) : Int.fmod (n : Int) 2 = ((n % 2 : Nat) : Int) := by
  rw [Int.fmod_eq_emod_of_nonneg _ (by decide)]
  omega
theorem nodup_take (ds : List Int) : ds.Nodup ↔ ∀ (i : Nat) (d : Int), ds[i]? = some d → d ∉ ds.take i := by
  constructor
  · intro h i d hd hm
    obtain ⟨j, hj⟩ := List.mem_iff_getElem?.mp hm
    have jl := (List.getElem?_eq_some_iff.mp hj).1
    rw [List.length_take] at jl
    rw [List.getElem?_take_of_lt (by omega)] at hj
    have l1 := List.getElem?_eq_some_iff.mp hj
    have l2 := List.getElem?_eq_some_iff.mp hd
    exact List.pairwise_iff_getElem.mp h j i l1.1 l2.1 (by omega) (l1.2.trans l2.2.symm)
  · intro h
    refine List.pairwise_iff_getElem.mpr fun i j hi hj hij e => ?_
    refine h j _ (List.getElem?_eq_getElem hj) ?_
    rw [← e]
    exact List.mem_iff_getElem?.mpr ⟨i, by rw [List.getElem?_take_of_lt hij]; exact List.getElem?_eq_getElem hi⟩
section
variable {P : Program} {w : World} {K : PySem.W.Frag} {mg : Str → Option Value} {base : Heap}
abbrev s__law_is_int : Stmt := topS 27
theorem sc__law_is_int : FnScope ["thing", "low", "high"] ["thing", "low", "high"] (defScope s__law_is_int) := ⟨rfl, rfl, rfl, by decide +kernel, rfl, by decide +kernel, by decide +kernel⟩
theorem ok_law_is_int (D : DefAt K mg "_law_is_int" s__law_is_int) (T : Bt mg) : Use P w K mg base "_law_is_int" 1 ["thing", "low", "high"] spIntWA := by
  refine use_of D (fun f fd F => F.ok sc__law_is_int (fun vs H Q E h => ?_) (fun cdv A outer s H vs Q E hr h => ?_)) (fun _ _ _ _ _ _ us hl => match us, hl with | [_, _, _], _ => rfl)
  · obtain ⟨i, lo, hi, rfl, _⟩ := h
    rfl
  · obtain ⟨v, lo, hi, rfl, o, q⟩ := h
    refine ⟨_, (pss_one (ps_ret (pe_and (pe_callB (k_isi (K := K) rfl) (by rfl) T.isinstance (by decide +kernel) (pa_cons (pv 0) (pa_cons (pe_bltn (v := .ty "int") (by rfl) T.int (by decide +kernel) rfl) pa_nil))) (pe_and (pe_not (pe_callB (k_isi (K := K) rfl) (by rfl) T.isinstance (by decide +kernel) (pa_cons (pv 0) (pa_cons (pe_bltn (v := .ty "bool") (by rfl) T.bool (by decide +kernel) rfl) pa_nil)))) (pe_one (pe_chain op_le op_le (pv 1) (pv 0) (pv 2))))))), ?_⟩
    by_cases hv : ∃ i, v = .int i
    · obtain ⟨i, rfl⟩ := hv
      have q' : Q (.bl (decide (lo ≤ i ∧ i ≤ hi))) H := q
      refine ⟨_, rfl, _, _, _, _, true, rfl, .ty _, .base (.int i), kit_ty (by decide +kernel), true, rfl, iteT ?_⟩
      refine ⟨_, rfl, _, _, _, _, false, rfl, .ty _, .base (.int i), kit_ty (by decide +kernel), _, rfl, _, rfl, iteT ?_⟩
      refine ⟨_, rfl, _, rfl, lo, i, rfl, rfl, _, rfl, ?_⟩
      by_cases h1 : lo ≤ i
      · rw [decide_eq_true h1]
        refine iteT ⟨_, rfl, i, hi, rfl, rfl, ?_⟩
        have e : decide (lo ≤ i ∧ i ≤ hi) = decide (i ≤ hi) := by simp [h1]
        rw [e] at q'
        exact q'
      · rw [decide_eq_false h1]
        refine iteF ?_
        have e : decide (lo ≤ i ∧ i ≤ hi) = false := by simp [h1]
        rw [e] at q'
        exact q'
    · have e : inV v lo hi = false := by
        cases v with
        | int i => exact absurd ⟨i, rfl⟩ hv
        | _ => rfl
      rw [e] at q
      obtain ⟨t, ty, h⟩ := o.ty (K := K) fun i e => hv ⟨i, e⟩
      rcases h with ⟨rfl, b, rfl⟩ | kt
      · refine ⟨_, rfl, _, _, _, _, true, rfl, .ty _, ty, kit_ty (by decide +kernel), true, rfl, iteT ?_⟩
        exact ⟨_, rfl, _, _, _, _, true, rfl, .ty _, ty, kit_ty (by decide +kernel), _, rfl, _, rfl, iteF q⟩
      · exact ⟨_, rfl, _, _, _, _, false, rfl, .ty _, ty, kit_ty kt, false, rfl, iteF q⟩
end
end KQ
namespace KR
open PySem PySem.Spec PyProof.Rows L2 KM KQ
section
variable {X : Cx} {K : PySem.W.Frag}
/-- t[lo:hi], t + u, empty ones and whole ones too: a tuple with these items -/
def rSlF : V → Option Int → Option Int → Hp → VK → Prop := fun x lo hi H Q => ∃ a xs, x = .ref a ∧ H a = some (.tup xs) ∧ ∀ H' p, Same H H' → H' p = some (.tup (cutV xs lo hi)) → Q (.ref p) H'
def rCatF : R2 := fun x y H Q => ∃ a b xs ys, x = .ref a ∧ y = .ref b ∧ H a = some (.tup xs) ∧ H b = some (.tup ys) ∧ xs.length + ys.length ≤ 100000 ∧ ∀ H' p, Same H H' → H' p = some (.tup (xs ++ ys)) → Q (.ref p) H'
theorem k_slA (_hK : X.K = K) : SlR X rSlF := by
  intro pins s σ H x v vl vu lo hi sl Q I rx hs pl pu h
  obtain ⟨a, xs, rfl, hx, k⟩ := h
  refine sl_tupA pins s σ H _ v vl vu lo hi sl Q I rx hs pl pu ⟨a, xs, rfl, sqT hx, fun hw => k H a (Same.refl H) ?_, fun _ p np => k _ p (same_new np) upd_same⟩
  unfold cutV
  rw [hw.1, hw.2, List.drop_zero, Nat.sub_zero, List.take_length]
  exact hx
theorem k_catA (_hK : X.K = K) : OpR X (binaryOp .Add) rCatF := by
  intro pins s σ H x y v u Q I rx ry h
  obtain ⟨a, b, xs, ys, rfl, rfl, hx, hy, hl, k⟩ := h
  refine op_catA pins s σ H _ _ v u Q I rx ry ⟨a, b, xs, ys, rfl, rfl, sqT hx, sqT hy, Nat.le_of_lt (small_of hl), fun e => ?_, fun _ e => ?_, fun _ _ p np => k _ p (same_new np) upd_same⟩
  · subst e
    exact k H b (Same.refl H) (by rw [List.nil_append]; exact hy)
  · subst e
    exact k H a (Same.refl H) (by rw [List.append_nil]; exact hx)
end
theorem cut_sub {xs : List V} {lo hi : Option Int} {v : V} (h : v ∈ cutV xs lo hi) : v ∈ xs := by
  unfold cutV at h
  exact List.mem_of_mem_drop (List.mem_of_mem_take h)
/-! ### things that stay where S is changed -/
def refsOut (S : List Addr) (v : V) : Prop := ∀ x, v = .ref x → x ∉ S
def KeptS (H H' : Hp) (S : List Addr) : Prop := ∀ a u, H a = some u → a ∉ S → H' a = some u
def Good (H : Hp) (S : List Addr) (v : V) : Prop := ∃ o, Thing H v o ∧ refsOut S v ∧ ∀ vs, o = some vs → ∀ u ∈ vs, refsOut S u
theorem odd_kept {H H' : Hp} {S : List Addr} {v : V} (k : KeptS H H' S) (r : refsOut S v) (o : OddV H v) : OddV H' v := by
  cases o with
  | int i => exact .int i
  | bl b => exact .bl b
  | non => exact .non
  | str x => exact .str x
  | lst h => exact .lst (k _ _ h (r _ rfl))
  | dK h => exact .dK (k _ _ h (r _ rfl))
  | tup h => exact .tup (k _ _ h (r _ rfl))
theorem Good.kept {H H' : Hp} {S : List Addr} {v : V} (g : Good H S v) (k : KeptS H H' S) : Good H' S v := by
  obtain ⟨o, t, r, ri⟩ := g
  refine ⟨o, ?_, r, ri⟩
  cases t with
  | tup h oo l => exact .tup (k _ _ h (r _ rfl)) (fun v hv => odd_kept k (ri _ rfl v hv) (oo v hv)) l
  | non => exact .non
  | int i => exact .int i
  | lst h => exact .lst (k _ _ h (r _ rfl))
theorem Good.same {H H' : Hp} {S : List Addr} {v : V} (g : Good H S v) (k : Same H H') : Good H' S v := g.kept fun a u h _ => k a u h
theorem Good.sub {H : Hp} {S S' : List Addr} {v : V} (g : Good H S v) (h : ∀ x ∈ S', x ∈ S) : Good H S' v := by
  obtain ⟨o, t, r, ri⟩ := g
  exact ⟨o, t, fun x e hx => r x e (h x hx), fun vs e u hu x e' hx => ri vs e u hu x e' (h x hx)⟩
theorem odd_live {H : Hp} {x : Addr} (o : OddV H (.ref x)) : H x ≠ none := by
  cases o with
  | lst h => rw [h]; exact fun e => by cases e
  | dK h => rw [h]; exact fun e => by cases e
  | tup h => rw [h]; exact fun e => by cases e
theorem Good.new {H : Hp} {S : List Addr} {v : V} {l : Addr} (g : Good H S v) (n : H l = none) : Good H (l :: S) v := by
  obtain ⟨o, t, r, ri⟩ := g
  refine ⟨o, t, fun x e hx => ?_, fun vs e u hu x e' hx => ?_⟩
  · rcases List.mem_cons.mp hx with q | q
    · subst e q
      cases t with
      | tup h _ _ => rw [n] at h; cases h
      | lst h => rw [n] at h; cases h
    · exact r x e q
  · rcases List.mem_cons.mp hx with q | q
    · subst e' q e
      cases t with
      | tup h oo _ => exact odd_live (oo _ hu) n
    · exact ri vs e u hu x e' q
theorem good_tup {H : Hp} {S : List Addr} {a : Addr} {vs : List V} (h : H a = some (.tup vs)) (ns : a ∉ S) (o : ∀ v ∈ vs, OddV H v ∧ refsOut S v) (l : vs.length ≤ 1000) : Good H S (.ref a) :=
  ⟨some vs, .tup h (fun v hv => (o v hv).1) l, fun x e => by cases e; exact ns, fun ws e u hu => by cases e; exact (o u hu).2⟩
theorem good_lst {H : Hp} {S : List Addr} {a : Addr} {xs : List V} (h : H a = some (.lst xs)) (ns : a ∉ S) : Good H S (.ref a) :=
  ⟨none, .lst h, fun x e => by cases e; exact ns, fun ws e => by cases e⟩
theorem good_non {H : Hp} {S : List Addr} : Good H S .non := ⟨none, .non, fun x e => (by cases e), fun ws e => by cases e⟩
theorem good_int {H : Hp} {S : List Addr} {i : Int} : Good H S (.int i) := ⟨none, .int i, fun x e => (by cases e), fun ws e => by cases e⟩
theorem odd_ints {H : Hp} {S : List Addr} {vs : List V} {xs : List Int} (h : ∀ v ∈ vs, v ∈ xs.map V.int) : ∀ v ∈ vs, OddV H v ∧ refsOut S v := fun v hv => by
  obtain ⟨i, _, rfl⟩ := List.mem_map.mp (h v hv)
  exact ⟨.int i, fun x e => by cases e⟩
end KR
/-! tuples of rows, also ones whose object is known -/
namespace KQ
open PySem PySem.Spec PyProof.Rows L2 KR KM StX
/-- a tuple of rows -/
def TL (H : Hp) (a : Addr) (xss : List (List Int)) : Prop := ∃ ts : List Addr, Rd H a (.tup (ts.map V.ref)) ∧ Its H ts xss
theorem TT.tl {H : Hp} {a : Addr} {xss : List (List Int)} (h : TT H a xss) : TL H a xss := let ⟨ts, e, i⟩ := h; ⟨ts, .inl e, i⟩
theorem TL.mono {H H' : Hp} {a : Addr} {xss : List (List Int)} (h : TL H a xss) (s : Same H H') : TL H' a xss := let ⟨ts, e, i⟩ := h; ⟨ts, e.mono s, i.mono s⟩
theorem dp_tl {K : PySem.W.Frag} {H : Hp} {a : Addr} {xss : List (List Int)} (h : TL H a xss) : Dp K H (.ref a) (.tuple (xss.map fun xs => PyData.tuple (xs.map PyData.int))) := by
  obtain ⟨ts, e, h1⟩ := h
  exact .tup (rdT e) (dp_its h1)
theorem TL.put {H : Hp} {a L : Addr} {xss : List (List Int)} {xs : List V} {o : HO} (h : TL H a xss) (e : H L = some (.lst xs)) : TL (upd H L o) a xss := by
  obtain ⟨ts, el, its⟩ := h
  exact ⟨ts, el.put (el.ne e (fun _ z => by cases z) (fun _ _ z => by cases z)), its.put e⟩
/-- an object known to have no attributes of its own -/
def Bare (H : Hp) (a : Addr) : Prop := ∃ o u, H a = some (.frz o u) ∧ o.dict = none
theorem Bare.mono {H H' : Hp} {a : Addr} (h : Bare H a) (s : Same H H') : Bare H' a := let ⟨o, u, e, d⟩ := h; ⟨o, u, s _ _ e, d⟩
section
variable {X : Cx} {K : PySem.W.Frag}
/-- tuple(l) of a list: a new one, known -/
def rTupB (K : PySem.W.Frag) : List V → Hp → VK → Prop := fun xs H Q => ∃ p ys, xs = [.ref p] ∧ SqL K H p ys ∧ ∀ l o, H l = none → o.dict = none → Q (.ref l) (upd H l (.frz o (.tup ys)))
theorem k_tupB (hK : X.K = K) : CallR X (.type "tuple") (rTupB K) := by
  subst hK
  intro pins s σ H xs us Q I r h
  obtain ⟨p, ys, rfl, hq, q⟩ := h
  obtain ⟨u, rfl, rx⟩ := vals1 r
  cases rx
  obtain ⟨its, rv, pl, hz⟩ := I.list hq
  have len := rv.length
  refine call_tuple_list pl.isList (fun h' kp => ?_) (by simp only [List.size_toArray]; omega)
  have J : Inv X pins σ H { s with heap := h' } := I.kept (t' := s.toks) kp
  refine ⟨.ref h'.objs.size, _, J.laid (o := .frz { cls := .type "tuple", data := .seq its.toArray } (.tup ys)) (t' := s.toks) (fun b o e => Heap.get?_push_of_some _ e) (Nat.le_refl _)
    ⟨Heap.get?_push_size _ rfl, hz, its, rv, IsTup.new _ _⟩, rfl, q _ _ (J.hok.fresh (Nat.le_refl _)) rfl⟩
/-- t[lo:hi], t + u where t is a tuple known or not -/
def rSlR : V → Option Int → Option Int → Hp → VK → Prop := fun x lo hi H Q => rSlF x lo hi H Q ∨ ∃ a xs, x = .ref a ∧ Rd H a (.tup xs) ∧ ∀ H' p, Same H H' → Rd H' p (.tup (cutV xs lo hi)) → Q (.ref p) H'
def rCatR : R2 := fun x y H Q => rCatF x y H Q ∨ ∃ a b xs ys, x = .ref a ∧ y = .ref b ∧ Rd H a (.tup xs) ∧ Rd H b (.tup ys) ∧ xs.length + ys.length ≤ 100000 ∧ ∀ H' p, Same H H' → Rd H' p (.tup (xs ++ ys)) → Q (.ref p) H'
theorem k_slR (hK : X.K = K) : SlR X rSlR := by
  intro pins s σ H x v vl vu lo hi sl Q I rx hs pl pu h
  rcases h with h | ⟨a, xs, rfl, hx, k⟩
  · exact k_slA hK pins s σ H x v vl vu lo hi sl Q I rx hs pl pu h
  refine sl_tupA pins s σ H _ v vl vu lo hi sl Q I rx hs pl pu ⟨a, xs, rfl, rdT hx, fun hw => k H a (Same.refl H) ?_, fun _ p np => k _ p (same_new np) (.inl upd_same)⟩
  unfold cutV
  rw [hw.1, hw.2, List.drop_zero, Nat.sub_zero, List.take_length]
  exact hx
theorem k_catR (hK : X.K = K) : OpR X (binaryOp .Add) rCatR := by
  intro pins s σ H x y v u Q I rx ry h
  rcases h with h | ⟨a, b, xs, ys, rfl, rfl, hx, hy, hl, k⟩
  · exact k_catA hK pins s σ H x y v u Q I rx ry h
  refine op_catA pins s σ H _ _ v u Q I rx ry ⟨a, b, xs, ys, rfl, rfl, rdT hx, rdT hy, Nat.le_of_lt (small_of hl), fun e => ?_, fun _ e => ?_, fun _ _ p np => k _ p (same_new np) (.inl upd_same)⟩
  · subst e
    exact k H b (Same.refl H) (by rw [List.nil_append]; exact hy)
  · subst e
    exact k H a (Same.refl H) (by rw [List.append_nil]; exact hx)
/-- a method of a tuple known, called -/
def tTM (K : PySem.W.Frag) (r : V → List V → Hp → VK → Prop) (to : TE) (t : TA) : TE := fun σ H Q => to σ H fun x H1 => (∃ p vs, x = .ref p ∧ SqT K H1 p vs ∧ Bare H1 p) ∧ t σ H1 fun xs H2 => r x xs H2 Q
theorem k_tm {o a : Expr} {more : List Expr} {to : TE} {t : TA} {name : Str} {p1 p2 : Pos} {id : String} {r : V → List V → Hp → VK → Prop} (hK : X.K = K) (sl : Slot "tuple" name id)
    (ty : typeOf (.builtin id) = pure (.type "method_descriptor")) (hm : MtR X id r) (ho : PE X o to) (ha : PA X (a :: more) t) (h1 : attributeBase o name X.env (eval o X.env) = eval o X.env := by rfl)
    (h2 : ((backTo p2 (starEach (a :: more) X.env)).all (fun z => !z.1) && (backToKw p2 (keywordEach [] X.env)).all (fun z => z.1.isSome) && decide ((a :: more).length + ([] : List Keyword).length + (if ([] : List Keyword).isEmpty then 0 else 1) < 30)) = true := by rfl)
    (h3 : (p1.endLine == p2.line) = true := by rfl) (h4 : starEach (a :: more) X.env = (false, eval a X.env) :: starEach more X.env := by rfl) (h5 : (backTo p2 (starEach more X.env)).any (·.1) = false := by rfl) :
    PE X (.Call (.Attribute o name p1) (a :: more) [] p2) (tTM K r to t) := by
  subst hK
  refine ⟨fun pins s σ H Q I h => wpAny_Call_method_late h1 h2 h3 rfl (thn (ho.run pins s σ H _ I h) fun v s1 hh => ?_)⟩
  obtain ⟨x, H1, I1, r1, ⟨p, vs, rfl, hq, ⟨ob, u, eb, db⟩⟩, q1⟩ := hh
  cases r1
  obtain ⟨its, _, ⟨ob2, e, c, d, _⟩, _⟩ := I1.tuple hq
  have gb : s1.heap.get? p = some ob := (show ObjOk X.prog X.w H1 s1.heap p (.frz ob u) from I1.hok p _ eb).1
  refine ⟨_, id, PySem.F.plainAttrs_tuple, sl, ty, ⟨ob2, e, c⟩, fun b ez => ⟨ob, by cases ez; exact gb, db⟩, ?_⟩
  have hA := ha.run p2 pins s1 σ H1 _ I1 q1
  rw [h4] at hA ⊢
  refine Calls.callWith_builtin (by show (false || (backTo p2 (starEach more X.env)).any (·.1)) = false; rw [h5]; rfl) (Calls.evalArgs_plain (thn hA fun us s2 hz => ?_))
  obtain ⟨ws, H2, I2, r2, q2⟩ := hz
  exact hm pins s2 σ H2 _ ws (Value.ref p) us Q I2 (show RelV (.ref p) (.ref p) from rfl) r2 q2
end
end KQ
/-! new tuples whose object is known: displays, sums -/
namespace KQ
open PySem PySem.Spec PyProof.Rows L2 KR KM StX
section
variable {X : Cx} {K : PySem.W.Frag} {es : List Expr} {t : TA} {pos : Pos}
def tTupB (t : TA) : TE := fun σ H Q => t σ H fun xs H1 => xs.length ≤ sizeLine ∧ ∀ p o, H1 p = none → o.dict = none → Q (.ref p) (upd H1 p (.frz o (.tup xs)))
theorem pe_tupB {x1} (h : PA X es t) : PE X (.Tuple es x1 pos) (tTupB t) := by
  refine ⟨fun pins s σ H Q I hq => ?_⟩
  refine wpAny_Tuple_spliced (thn (h.run pos pins s σ H _ I hq) fun us s1 ⟨xs, H1, I1, r, z, q⟩ => ⟨by rw [← r.length]; exact z, ?_⟩)
  have hf : H1 s1.heap.objs.size = none := I1.hok.fresh (Nat.le_refl _)
  refine ⟨.ref s1.heap.objs.size, _, I1.laid (o := .frz _ (.tup xs)) (t' := s1.toks) (fun b u e => Heap.get?_push_of_some _ e) (Nat.le_refl _) ⟨Heap.get?_push_size _ rfl, z, us, r, ⟨_, Heap.get?_push_size _ rfl, rfl, _, rfl⟩⟩, rfl, q _ _ hf rfl⟩
/-- t + u, both not empty: a new one, known -/
def rCatB : R2 := fun x y H Q => ∃ a b xs ys, x = .ref a ∧ y = .ref b ∧ Rd H a (.tup xs) ∧ Rd H b (.tup ys) ∧ xs ≠ [] ∧ ys ≠ [] ∧ xs.length + ys.length ≤ 100000 ∧ ∀ p o, H p = none → o.dict = none → Q (.ref p) (upd H p (.frz o (.tup (xs ++ ys))))
theorem op_catB : OpR X (binaryOp .Add) rCatB := by
  intro pins s σ H x y v u Q I rx ry h
  obtain ⟨a, b, xs, ys, rfl, rfl, ha, hb, hx, hy, hz, q⟩ := h
  cases rx
  cases ry
  obtain ⟨its, r1, p1, _⟩ := I.tuple (rdT ha)
  obtain ⟨its2, r2, p2, _⟩ := I.tuple (rdT hb)
  have z : xs.length + ys.length ≤ sizeLine := Nat.le_of_lt (small_of hz)
  refine HT.cat_tup p1 p2 (fun z => hx (r1.nil_iff.mp z)) (fun z => absurd (r2.nil_iff.mp z) hy) (fun _ => ?_) (by rw [← r1.length, ← r2.length]; exact z)
  refine ⟨.ref s.heap.objs.size, _, I.laid (t' := s.toks) (o := .frz _ (.tup (xs ++ ys))) (fun b ob q => Heap.get?_push_of_some _ q) (Nat.le_refl _) ⟨Heap.get?_push_size _ rfl, by rw [List.length_append]; exact z, _, r1.append r2, IsTup.new _ _⟩, rfl, q _ _ (I.hok.fresh (Nat.le_refl _)) rfl⟩
end
end KQ
/-! t + u where t may be empty: known, if u is -/
namespace KQ
open PySem PySem.Spec PyProof.Rows L2 KR KM StX
theorem if_factG {b : Bool} {t u : TE} {σ : L2.St} {H : Hp} {Q : VK} (Fact : V → Hp → Prop) (h1 : b = true → ∀ Q : VK, (∀ v H', Fact v H' → Q v H') → t σ H Q) (h2 : b = false → ∀ Q : VK, (∀ v H', Fact v H' → Q v H') → u σ H Q)
    (k : ∀ v H', Fact v H' → Q v H') : if b = true then t σ H Q else u σ H Q := by
  cases b
  · exact h2 rfl Q k
  · exact h1 rfl Q k
section
variable {X : Cx} {K : PySem.W.Frag}
def rCatC : R2 := fun x y H Q => ∃ a b xs ys, x = .ref a ∧ y = .ref b ∧ Rd H a (.tup xs) ∧ Rd H b (.tup ys) ∧ ys ≠ [] ∧ Bare H b ∧ xs.length + ys.length ≤ 100000 ∧ ∀ H' p, Same H H' → Rd H' p (.tup (xs ++ ys)) → Bare H' p → Q (.ref p) H'
theorem op_catC : OpR X (binaryOp .Add) rCatC := by
  intro pins s σ H x y v u Q I rx ry h
  obtain ⟨a, b, xs, ys, rfl, rfl, ha, hb, hy, bb, hz, q⟩ := h
  by_cases hx : xs = []
  · subst hx
    cases rx
    cases ry
    obtain ⟨its, r1, p1, _⟩ := I.tuple (rdT ha)
    obtain ⟨its2, r2, p2, _⟩ := I.tuple (rdT hb)
    cases r1
    exact cat_tup0 p1 p2 ⟨.ref b, H, I, rfl, q H b (Same.refl H) (by rw [List.nil_append]; exact hb) bb⟩
  · exact op_catB pins s σ H _ _ v u Q I rx ry ⟨a, b, xs, ys, rfl, rfl, ha, hb, hx, hy, hz, fun p o np dn => q _ p (same_new np) (.inr ⟨o, upd_same⟩) ⟨o, _, upd_same, dn⟩⟩
end
end KQ
/-! forms -/
namespace KQ
open PySem PySem.Spec PyProof.Rows L2 KR KM
inductive Fm where
  | d (n : Int)
  | t (w : Bool) (l r : Fm)
deriving DecidableEq
namespace Fm
def word (w : Bool) : Str := if w then "both" else "either"
def data : Fm → PyData
  | d n => .int n
  | t w l r => .tuple [.str (word w), l.data, r.data]
def deep : Fm → Nat
  | d _ => 0
  | t _ l r => max l.deep r.deep + 1
def doors : Fm → List Int
  | d n => [n]
  | t _ l r => l.doors ++ r.doors
end Fm
/-- a form stands in the heap -/
inductive FH (H : Hp) : V → Fm → Prop where
  | d (n : Int) : FH H (.int n) (.d n)
  | t {a : Addr} {w : Bool} {l r : Fm} {vl vr : V} (e : H a = some (.tup [.str (Fm.word w), vl, vr])) (hl : FH H vl l) (hr : FH H vr r) : FH H (.ref a) (.t w l r)
theorem FH.mono {H H' : Hp} {v : V} {f : Fm} (h : FH H v f) (s : Same H H') : FH H' v f := by
  induction h with
  | d n => exact .d n
  | t e _ _ il ir => exact .t (s _ _ e) il ir
theorem FH.dp {K : PySem.W.Frag} {H : Hp} {v : V} {f : Fm} (h : FH H v f) : Dp K H v f.data := by
  induction h with
  | d n => exact .int n
  | t e _ _ il ir => exact .tup (.inl (.inl e)) (.cons (.str _) (.cons il (.cons ir .nil)))
end KQ
namespace KQ
open PySem PySem.Spec PyProof.Rows L2 KR KM
section
variable {P : Program} {w : World} {K : PySem.W.Frag} {mg : Str → Option Value} {base : Heap}
abbrev s_is_leaf : Stmt := topS 9
theorem sc_is_leaf : FnScope ["form"] ["form"] (defScope s_is_leaf) := ⟨rfl, rfl, rfl, by decide +kernel, rfl, by decide +kernel, by decide +kernel⟩
def spLeaf : Sp := fun vs H Q _ => ∃ (v : V) (f : Fm), vs = [v] ∧ FH H v f ∧ Q (.bl (match f with | .d _ => true | .t _ _ _ => false)) H
theorem ok_leaf (D : DefAt K mg "is_leaf" s_is_leaf) (T : Bt mg) : Use P w K mg base "is_leaf" 1 ["form"] spLeaf := by
  refine use_of D (fun f fd F => F.ok sc_is_leaf (fun vs H Q E h => ?_) (fun cdv A outer s H vs Q E hr h => ?_)) (fun _ _ _ _ _ _ us hl => match us, hl with | [_], _ => rfl)
  · obtain ⟨v, f, rfl, _⟩ := h
    rfl
  · obtain ⟨v, f, rfl, hf, q⟩ := h
    refine ⟨_, (pss_one (ps_ret (pe_callB (k_isi (K := K) rfl) (by rfl) T.isinstance (by decide +kernel) (pa_cons (pv 0) (pa_cons (pe_bltn (v := .ty "int") (by rfl) T.int (by decide +kernel) rfl) pa_nil))))), ?_⟩
    cases hf with
    | d n => exact ⟨_, rfl, _, _, _, _, true, rfl, .ty _, .base (.int n), kit_ty (by decide +kernel), q⟩
    | t e hl hr => exact ⟨_, rfl, _, _, _, _, false, rfl, .ty _, .base (.tup e), kit_ty (by decide +kernel), q⟩
abbrev s_doors_of : Stmt := topS 10
theorem sc_doors_of : FnScope ["form"] ["form"] (defScope s_doors_of) := ⟨rfl, rfl, rfl, by decide +kernel, rfl, by decide +kernel, by decide +kernel⟩
def spDoors (k : Nat) : Sp := fun vs H Q _ => ∃ (v : V) (f : Fm), vs = [v] ∧ FH H v f ∧ f.deep < k ∧ f.doors.length ≤ 1000 ∧ ∀ H' l, Same H H' → H l = none → H' l = some (.lst (f.doors.map V.int)) → Q (.ref l) H'
theorem ok_doors (D : DefAt K mg "doors_of" s_doors_of) (T : Bt mg) (u_is_leaf : Use P w K mg base "is_leaf" 1 ["form"] spLeaf) : ∀ k : Nat, Use P w K mg base "doors_of" (k + 1) ["form"] (spDoors k) := by
  intro k
  induction k with
  | zero =>
    refine use_of D (fun f fd F => F.ok sc_doors_of (fun vs H Q E h => ?_) (fun cdv A outer s H vs Q E hr h => ?_)) (fun _ _ _ _ _ _ us hl => match us, hl with | [_], _ => rfl)
    · obtain ⟨v, f, rfl, _, dk, _⟩ := h
      rfl
    · obtain ⟨v, f, rfl, hf, dk, sm, q⟩ := h
      exact absurd dk (Nat.not_lt_zero _)
  | succ k ih =>
    have u_doors_of := ih
    refine use_of D (fun f fd F => F.ok sc_doors_of (fun vs H Q E h => ?_) (fun cdv A outer s H vs Q E hr h => ?_)) (fun _ _ _ _ _ _ us hl => match us, hl with | [_], _ => rfl)
    · obtain ⟨v, f, rfl, _⟩ := h
      rfl
    · obtain ⟨v, f, rfl, hf, dk, sm, q⟩ := h
      refine ⟨_, (pss_cons (ps_if (pt_val (pe_use u_is_leaf (by omega) hr (by rfl) (pa_cons (pv 0) pa_nil))) (pss_one (ps_ret (pe_lst (pa_cons (pv 0) pa_nil)))) pss_nil)
      (pss_one (ps_ret (pe_op op_cat (pe_use u_doors_of (by omega) hr (by rfl) (pa_cons (pe_ix (k_ixt (K := K) rfl) (pv 0) pe_int (fun _ _ => rfl)) pa_nil)) (pe_use u_doors_of (by omega) hr (by rfl) (pa_cons (pe_ix (k_ixt (K := K) rfl) (pv 0) pe_int (fun _ _ => rfl)) pa_nil)))))), ?_⟩
      cases hf with
      | d n =>
        refine ⟨_, rfl, _, _, rfl, .d n, _, rfl, ?_⟩
        refine iteT ?_
        exact ⟨_, rfl, by show 1 ≤ sizeLine; decide, fun l nl => q _ l (same_new nl) nl upd_same⟩
      | @t a w l r vl vr e hl hr2 =>
        have d1 : max l.deep r.deep + 1 < k + 1 := dk
        have s1 : (l.doors ++ r.doors).length ≤ 1000 := sm
        rw [List.length_append] at s1
        refine ⟨_, rfl, _, _, rfl, .t e hl hr2, _, rfl, ?_⟩
        refine iteF ?_
        refine ⟨_, rfl, a, _, 1, _, rfl, rfl, .inl (.inl e), rfl, vl, l, rfl, hl, by omega, by omega, fun H1 l1 t1 n1 e1 => ?_⟩
        refine ⟨_, rfl, a, _, 2, _, rfl, rfl, .inl (.inl (t1 _ _ e)), rfl, vr, r, rfl, hr2.mono t1, by omega, by omega, fun H2 l2 t2 n2 e2 => ?_⟩
        refine ⟨l1, l2, _, _, rfl, rfl, t2 _ _ e1, e2, ?_, fun p np => ?_⟩
        · rw [List.length_map, List.length_map, sizeLine_eq]
          omega
        · refine q _ p ((t1.trans t2).trans (same_new np)) ((t1.trans t2).free np) ?_
          rw [upd_same, ← List.map_append]
          rfl
end
end KQ
/-! x, *rest = a list -/
namespace KR
open PySem PySem.Spec PyProof.Rows L2 KM KQ PySem.W
section
variable {X : Cx}
def gStarL (K : PySem.W.Frag) (t : TGs) : TG := fun v σ H Q => ∃ a x xs, v = .ref a ∧ SqL K H a (x :: xs) ∧ xs.length ≤ 16000 ∧ ∀ D, H D = none → t [x, .ref D] σ (upd H D (.lst xs)) Q
theorem pg_starL {K : PySem.W.Frag} {es : List Expr} {k : Nat} {t : TGs} {pos : Pos} (hK : X.K = K) (hc : X.calm = true) (h : PGs X es t)
    (hn : (assignEach es X.env).length = 2 := by rfl) (hst : (assignEach es X.env).findIdx? (·.1) = some 1 := by rfl) : PG X (.Tuple es k pos) (gStarL K t) := by
  subst hK
  refine ⟨fun pins s σ H v u Q I r hw => ?_⟩
  obtain ⟨a, x, xs, e1, hq, hl, hw⟩ := hw
  subst e1
  cases r
  obtain ⟨its, rv, pl, hz⟩ := I.list hq
  have hla : s.heap.IsList a its.toArray := by
    obtain ⟨o, m, e, c, d, q⟩ := pl
    exact ⟨o, e, c, m, q⟩
  have hsz : its.length = xs.length + 1 := by
    have := rv.length
    rw [List.length_cons] at this
    exact this.symm
  have hlt : a ≠ s.heap.objs.size := by obtain ⟨o, ho, _⟩ := hla; exact Nat.ne_of_lt (Heap.lt_size ho)
  rw [PyProof.Rows.assign_Tuple]
  refine wpAny_bind (wpAny_standAt ?_)
  unfold unpack
  rw [hn, hst]
  refine wpAny_bind (wpAny_holding ?_)
  unfold unpackItems
  refine wpAny_bind ?_
  unfold notIterableAtAll
  refine wpAny_bind (wpAny_specialOf hla.typeIs slot_list_iter.lookup ?_)
  refine wpAny_pure ?_
  simp only [Bool.false_eq_true, if_false]
  have hll : a < s.heap.objs.size := by obtain ⟨o, ho, _⟩ := hla; exact Heap.lt_size ho
  have ls : its.toArray.size = xs.length + 1 := by rw [List.size_toArray]; exact hsz
  refine wpAny_bind (wpAny_holding (wpAny_pyIter_list hla ?_))
  refine wpAny_bind (wpAny_holding (kun_draw hlt 1 0 _ _ ⟨_, Heap.get?_push_size _ rfl, rfl, rfl⟩ (hla.push _) (by omega) fun h₁ hit₁ hs₁ => ?_))
  have hl₁ : h₁.IsList a its.toArray := (hla.push _).extBut hs₁.extBut hlt
  have hoi := hit₁
  obtain ⟨oi, hoi, _⟩ := hoi
  have hol := hl₁
  obtain ⟨ol, hol, _⟩ := hol
  have hfl : ((its.toArray.toList.drop 0).take 1).length = 1 := by rw [List.length_take, List.length_drop, Array.length_toList]; omega
  rw [if_neg (show ¬ ((its.toArray.toList.drop 0).take 1).length < 1 by omega)]
  have hh : X.A.handled = none := I.ok.hd hc
  refine wpAny_bind (wpAny_holding (kun_collect (s := { s with heap := h₁ }) (T := "list_iterator") (.inr (.inr (.inl rfl))) (Walks.list (A := X.A.in1) hh s.heap.objs.size a hlt its.toArray) (fun j u st => st.1.typeIs) (k := 1) (by omega) ⟨hit₁, hl₁⟩ (Heap.lt_size hoi) (Heap.lt_size hol) (fun h₂ tk hk => ?_) (by rw [sizeLine_eq]; omega)))
  have he : Heap.ExtBut s.heap.objs.size s.heap h₂ := fun b o hb e => hk b o hb (hs₁.extBut b o hb (Heap.get?_push_of_some _ e))
  have I2 : Inv X pins σ H { s with heap := h₂, toks := tk } := I.kept (t' := tk) fun b o e => he b o (Nat.ne_of_lt (Heap.lt_size e)) e
  cases rv with
  | @cons _ v0 _ vr r0 rr =>
    have d1 : List.drop 1 (v0 :: vr).toArray.toList = vr := rfl
    have d0 : List.take 1 (List.drop 0 (v0 :: vr).toArray.toList) = [v0] := rfl
    rw [d1, d0, show vr.length - (2 - 1 - 1) = vr.length by omega, List.take_length, List.drop_length]
    rw [if_neg (show ¬ vr.length < 2 - 1 - 1 by omega)]
    refine wpAny_bind (wpAny_newList ?_)
    refine wpAny_pure ?_
    have nD : H h₂.objs.size = none := I2.hok.fresh (Nat.le_refl _)
    have I3 : Inv X pins σ (upd H h₂.objs.size (.lst xs)) { s with heap := h₂.push { cls := .type "list", data := .seq vr.toArray }, toks := tk } :=
      I2.laid (t' := tk) (fun b o e => Heap.get?_push_of_some _ e) (Nat.le_refl _) ⟨by rw [sizeLine_eq]; omega, vr, _, rr, Heap.get?_push_size _ rfl⟩
    exact h.run pins _ σ _ [x, .ref h₂.objs.size] [v0, .ref h₂.objs.size] Q I3 (.cons r0 (.cons rfl .nil)) (hw _ nD)
theorem pgs_star {e : Expr} {p : Pos} {es : List Expr} {t : TG} {u : TGs} (h1 : PG X e t) (h2 : PGs X es u) : PGs X (.Starred e p :: es) (gCons t u) := by
  refine ⟨fun pins s σ H vs us Q I r h => ?_⟩
  obtain ⟨v, vr, e1, h⟩ := h
  subst e1
  cases r with
  | cons r rr =>
    show wpAny _ _ (assignInOrder (assign e X.env :: (assignEach es X.env).map (·.2)) _) _ _ _
    refine assignInOrder_cons (thn (h1.run pins s σ H _ _ _ I r h) fun _ s1 ⟨σ1, H1, I1, q1⟩ => ?_)
    exact h2.run pins s1 σ1 H1 _ _ Q I1 rr q1
end
end KR
/-! sorted(xs) of pairs: a whole number, no two alike, and anything -/
namespace SrtO
open PySem PyProof.Rows Srt
section
variable {prog : Program} {w : World} {A : Around} {E : Value → Shared → Prop} {s : Shared}
def IsPairU (h : Heap) (v : Value) (x : Int) (y : Value) : Prop := ∃ a o t n, v = .ref a ∧ h.get? a = some o ∧ o.cls = .type "tuple" ∧ o.data = .seq #[.int x t, y] n
theorem IsPairU.keeps {h h' : Heap} {v : Value} {x : Int} {y : Value} (p : IsPairU h v x y) (k : ∀ b o, h.get? b = some o → o.cls = .type "tuple" → h'.get? b = some o) : IsPairU h' v x y := by
  obtain ⟨a, o, t, n, e, ho, hc, hd⟩ := p
  exact ⟨a, o, t, n, e, k _ _ ho hc, hc, hd⟩
theorem firstsU {h : Heap} {k : Value → Int × Value} : ∀ {vs : List Value}, (∀ v ∈ vs, IsPairU h v (k v).1 (k v).2) → ∃ fs : List Value, PySem.W.KatTups h vs fs ∧ fs.length = vs.length ∧ ∀ f ∈ fs, ∃ x t, f = Value.int x t
  | [], _ => ⟨[], PySem.W.KatTups.nil, rfl, fun _ hm => by simp at hm⟩
  | v :: vs, hp => by
    obtain ⟨fs, h1, h2, h3⟩ := firstsU (vs := vs) fun v' hm => hp v' (List.mem_cons_of_mem _ hm)
    have hv := hp v List.mem_cons_self
    generalize (k v).1 = x at hv
    generalize (k v).2 = y at hv
    obtain ⟨a, o, t, n, e, ho, hc, hd⟩ := hv
    subst e
    refine ⟨.int x t :: fs, PySem.W.KatTups.cons ho hc hd rfl h1, by rw [List.length_cons, List.length_cons, h2], fun f hm => ?_⟩
    rcases List.mem_cons.mp hm with rfl | hm
    · exact ⟨x, t, rfl⟩
    · exact h3 f hm
def ltU (k : Value → Int × Value) (v u : Value) : Bool := decide ((k v).1 < (k u).1)
theorem swoU (k : Value → Int × Value) : Swo (ltU k) := by
  refine ⟨fun x y h => ?_, fun x y z h1 h2 => ?_⟩
  · have a := of_decide_eq_true (p := (k x).1 < (k y).1) h
    exact decide_eq_false (p := (k y).1 < (k x).1) (by omega)
  · have a := of_decide_eq_false (p := (k y).1 < (k x).1) h1
    have b := of_decide_eq_false (p := (k z).1 < (k y).1) h2
    exact decide_eq_false (p := (k z).1 < (k x).1) (by omega)
theorem cmpU {vs : List Value} {k : Value → Int × Value} (hp : ∀ v ∈ vs, IsPairU s.heap v (k v).1 (k v).2) (un : ∀ v ∈ vs, ∀ u ∈ vs, (k v).1 = (k u).1 → (k v).2 = (k u).2) : Cmp prog w A s (tuples' true) (fun p => p.1 ∈ vs) (lt2 (ltU k)) := by
  intro p q hm hm'
  have h1 := hp _ hm
  have h2 := hp _ hm'
  have hu := un _ hm _ hm'
  show wpAny (model prog w) A (keyLt' (tuples' true) p.1 q.1) (fun r s' => s' = s ∧ r = decide ((k p.1).1 < (k q.1).1)) (fun _ _ => False) s
  generalize (k p.1).1 = x at h1 hu ⊢
  generalize (k p.1).2 = y at h1 hu ⊢
  generalize (k q.1).1 = x' at h2 hu ⊢
  generalize (k q.1).2 = y' at h2 hu ⊢
  obtain ⟨a, o, t, n, e, ho, hc, hd⟩ := h1
  obtain ⟨a', o', t', n', e', ho', hc', hd'⟩ := h2
  rw [e, e']
  refine PySem.W.kat_lt ho hd ho' hd' ?_
  show PySem.W.KatLex prog w A true (decide (2 < 2)) _ [(.int x t, .int x' t'), (y, y')] 0 s
  refine PySem.W.kat_cons (SeqAt.EqAt.int_int x t x' t' prog w _ _ ?_)
  refine PySem.W.kat_go (fun e1 => ?_) (fun e1 => ?_)
  · have ex : x = x' := by simpa using e1
    have ey := hu ex
    subst ex ey
    refine PySem.W.kat_yes (PySem.W.kat_cons (SeqAt.EqAt.same y prog w _ _ ?_))
    refine PySem.W.kat_yes (PySem.W.kat_nil ⟨rfl, ?_⟩)
    exact (decide_eq_false (Int.lt_irrefl _)).symm
  · exact PySem.W.kat_no (oneLt_int ⟨rfl, rfl⟩)
theorem sorted_pairsU {l : Addr} {vs : List Value} {k : Value → Int × Value} {Q : Value → Shared → Prop} (hl : s.heap.IsList l vs.toArray) (hz : vs.length ≤ sizeLine) (hp : ∀ v ∈ vs, IsPairU s.heap v (k v).1 (k v).2) (un : ∀ v ∈ vs, ∀ u ∈ vs, (k v).1 = (k u).1 → (k v).2 = (k u).2)
    (h : ∀ (h' : Heap) (d : Addr) (out : List Value), Srtd (ltU k) out → Stb (ltU k) out vs → (∀ b o, s.heap.get? b = some o → h'.get? b = some o) → s.heap.objs.size ≤ d → (∃ n, h'.get? d = some (seqObj "list" out.toArray n)) → Q (.ref d) { s with heap := h' }) :
    wpAny (model prog w) A (call (.builtin "sorted") [.ref l]) Q E s := by
  refine sorted_ord (swoU k) hl hz (fun h2 h₁ a ha kk => ?_) fun out hs hb => ?_
  · intro h' keep
    have hp' : ∀ v ∈ vs, IsPairU h' v (k v).1 (k v).2 := fun v hm => (hp v hm).keeps fun b o e c => keep b o (fun z => by
      subst z
      have e' := (kk b o e).2
      have ha' : some o = some (seqObj "list" vs.toArray 0) := e'.symm.trans ha
      cases ha'
      exact absurd (Value.type.inj c) (by decide)) (kk b o e).2
    obtain ⟨fs, h1, h2', h3⟩ := firstsU hp'
    refine ⟨tuples' true, fun Q E hq => ?_, cmpU hp' un⟩
    refine PySem.W.kat_kind (T := .type "int") h1 (by omega) (fun f hm => ?_) (by rfl) ?_
    · obtain ⟨x, t, rfl⟩ := h3 f hm
      exact PySem.W.Looks.now
    · have e : (Value.type "int" != Value.type "tuple") = true := by first | decide +kernel | rfl | decide
      rw [e]
      exact hq
  · exact h _ _ out hs hb (fun b o e => sortedAll_old e) (Nat.le_succ _) (sortedAll_at s.heap vs out.toArray)
end
end SrtO
namespace KR
open PySem PySem.Spec PyProof.Rows L2 KM KQ
theorem perm_pull {α β : Type} {f : α → β} {out l : List β} (h : out.Perm l) : ∀ xs : List α, l = xs.map f → ∃ ys : List α, ys.Perm xs ∧ out = ys.map f := by
  induction h with
  | nil =>
    intro xs e
    cases xs with
    | nil => exact ⟨[], .refl _, rfl⟩
    | cons a r => cases e
  | cons x _ ih =>
    intro xs e
    cases xs with
    | nil => cases e
    | cons a r =>
      obtain ⟨e1, e2⟩ := List.cons.inj e
      obtain ⟨ys, p, e3⟩ := ih r e2
      exact ⟨a :: ys, p.cons a, by rw [List.map_cons, e1, e3]⟩
  | swap x y l =>
    intro xs e
    match xs, e with
    | [], e => cases e
    | [_], e => cases e
    | a :: b :: r, e =>
      obtain ⟨e1, e2⟩ := List.cons.inj e
      obtain ⟨e3, e4⟩ := List.cons.inj e2
      exact ⟨b :: a :: r, .swap a b r, by rw [List.map_cons, List.map_cons, e1, e3, e4]⟩
  | trans _ _ i1 i2 =>
    intro xs e
    obtain ⟨ys, p, e1⟩ := i2 xs e
    obtain ⟨zs, p2, e2⟩ := i1 ys e1
    exact ⟨zs, p2.trans p, e2⟩
def kU (h : Heap) (v : Value) : Int × Value :=
  match v with
  | .ref a => match h.get? a with
    | some o => match o.data with
      | .seq items _ => match items.toList with
        | [.int x _, y] => (x, y)
        | _ => (0, .none)
      | _ => (0, .none)
    | none => (0, .none)
  | _ => (0, .none)
/-- a pair of a whole number and anything, with its address -/
abbrev PU := Int × V × Addr
theorem refsU : ∀ {xs : List PU} {us : List Value}, Vals (xs.map fun x => V.ref x.2.2) us → us = xs.map fun x => Value.ref x.2.2
  | [], _, r => by cases r; rfl
  | x :: xs, _, r => by
    cases r with
    | cons h t =>
      rw [List.map_cons, refsU t]
      cases h
      rfl
theorem valsU : ∀ xs : List PU, Vals (xs.map fun x => V.ref x.2.2) (xs.map fun x => Value.ref x.2.2)
  | [] => .nil
  | x :: xs => .cons rfl (valsU xs)
def rSortPU (K : PySem.W.Frag) : List V → Hp → VK → Prop := fun vs H Q => ∃ (a : Addr) (xs : List PU), vs = [V.ref a] ∧ SqL K H a (xs.map fun x => V.ref x.2.2) ∧ (∀ x ∈ xs, SqT K H x.2.2 [.int x.1, x.2.1]) ∧ (xs.map (·.1)).Nodup ∧
  ∀ (ys : List PU) (p : Addr), ys.Perm xs → ys.Pairwise (fun x y => x.1 < y.1) → H p = none → Q (.ref p) (upd H p (.lst (ys.map fun x => V.ref x.2.2)))
section
variable {X : Cx}
theorem cr_sortedPU {K : PySem.W.Frag} (hK : X.K = K) : CallR X (.builtin "sorted") (rSortPU K) := by
  subst hK
  intro pins s σ H vs us Q I r h
  obtain ⟨a, xs, rfl, hs, ht, nd, q⟩ := h
  obtain ⟨its, rv, hl, hz⟩ := I.list hs
  rw [Vals.ref1 r]
  have ei := refsU rv
  have key : ∀ x ∈ xs, (kU s.heap (.ref x.2.2)).1 = x.1 ∧ SrtO.IsPairU s.heap (.ref x.2.2) (kU s.heap (.ref x.2.2)).1 (kU s.heap (.ref x.2.2)).2 := fun x hx => by
    obtain ⟨it2, r2, ⟨o, ho, hc, n, hd⟩, _⟩ := I.tuple (ht x hx)
    cases r2 with
    | cons ra rb =>
      cases rb with
      | cons rc rd =>
        cases rd
        obtain ⟨t, rfl⟩ := ra
        rename_i u2
        have e : kU s.heap (.ref x.2.2) = (x.1, u2) := by
          unfold kU
          simp only [ho, hd]
        rw [e]
        exact ⟨rfl, x.2.2, o, t, n, rfl, ho, hc, hd⟩
  have uniq : ∀ x ∈ xs, ∀ y ∈ xs, x.1 = y.1 → x = y := fun x hx y hy e => by
    obtain ⟨i, hi⟩ := List.mem_iff_getElem?.mp hx
    obtain ⟨j, hj⟩ := List.mem_iff_getElem?.mp hy
    have hi2 : (xs.map (·.1))[i]? = some x.1 := by rw [List.getElem?_map, hi]; rfl
    have hj2 : (xs.map (·.1))[j]? = some x.1 := by rw [List.getElem?_map, hj, e]; rfl
    obtain ⟨il, ie⟩ := List.getElem?_eq_some_iff.mp hi2
    obtain ⟨jl, je⟩ := List.getElem?_eq_some_iff.mp hj2
    have ij : i = j := by
      rcases Nat.lt_trichotomy i j with l | l | l
      · exact absurd (ie.trans je.symm) (List.pairwise_iff_getElem.mp nd i j il jl l)
      · exact l
      · exact absurd (je.trans ie.symm) (List.pairwise_iff_getElem.mp nd j i jl il l)
    rw [ij, hj] at hi
    exact (Option.some.inj hi).symm
  refine SrtO.sorted_pairsU (k := kU s.heap) hl.isList (by rw [← rv.length]; exact hz) (fun v hv => ?_) (fun v hv u hu e => ?_) fun h' d out h1 h2 kk dn hd => ?_
  · rw [ei] at hv
    obtain ⟨x, hx, rfl⟩ := List.mem_map.mp hv
    exact (key x hx).2
  · rw [ei] at hv hu
    obtain ⟨x, hx, rfl⟩ := List.mem_map.mp hv
    obtain ⟨y, hy, rfl⟩ := List.mem_map.mp hu
    rw [(key x hx).1, (key y hy).1] at e
    rw [uniq x hx y hy e]
  · obtain ⟨ys, p, eo⟩ := perm_pull h2.perm xs ei
    have lt : ys.Pairwise fun x y => x.1 < y.1 := by
      have h1 : out.Pairwise fun x y => SrtO.ltU (kU s.heap) y x = false := h1
      rw [eo, List.pairwise_map] at h1
      have ndy : (ys.map (·.1)).Nodup := (p.map (·.1)).nodup_iff.mpr nd
      rw [List.Nodup, List.pairwise_map] at ndy
      refine (h1.and ndy).imp_of_mem fun {x y} hx hy ⟨a1, a2⟩ => ?_
      have a1 := of_decide_eq_false a1
      rw [(key x (p.mem_iff.mp hx)).1, (key y (p.mem_iff.mp hy)).1] at a1
      omega
    obtain ⟨n, hat⟩ := hd
    have nd' : H d = none := I.hok.fresh dn
    refine ⟨.ref d, upd H d (.lst (ys.map fun x => V.ref x.2.2)), I.laid (t' := s.toks) kk dn ⟨?_, ys.map fun x => Value.ref x.2.2, n, valsU ys, ?_⟩, rfl, q ys d p lt nd'⟩
    · rw [List.length_map, p.length_eq]
      have := rv.length
      rw [List.length_map] at hz
      exact hz
    · rw [← eo]
      exact hat
end
end KR
namespace KQ
open PySem PySem.Spec PyProof.Rows L2 KR KM
section
variable {P : Program} {w : World} {K : PySem.W.Frag} {mg : Str → Option Value} {base : Heap}
abbrev s_bracketed : Stmt := topS 11
theorem sc_bracketed : FnScope ["word", "limbs", "_", "told", "behind", "limb"] ["word", "limbs"] (defScope s_bracketed) := ⟨rfl, rfl, rfl, by decide +kernel, rfl, by decide +kernel, by decide +kernel⟩
/-- pairs of a least door and a limb -/
def PFs (H : Hp) (ts : List Addr) (ls : List (Int × Fm)) : Prop := ts.length = ls.length ∧ ∀ (i : Nat) (t : Addr), ts[i]? = some t → ∃ (x : Int × Fm) (v : V), ls[i]? = some x ∧ H t = some (.tup [.int x.1, v]) ∧ FH H v x.2
theorem PFs.mono {H H' : Hp} {ts : List Addr} {ls : List (Int × Fm)} (h : PFs H ts ls) (s : Same H H') : PFs H' ts ls := ⟨h.1, fun i t ht => let ⟨x, v, a, b, c⟩ := h.2 i t ht; ⟨x, v, a, s _ _ b, c.mono s⟩⟩
/-- limbs hung onto one another, sorted -/
def hung (w : Bool) : Fm → List (Int × Fm) → Fm
  | f, [] => f
  | f, x :: ls => hung w (.t w f x.2) ls
def bracketF (w : Bool) : List (Int × Fm) → Fm
  | [] => .d 0
  | x :: ls => hung w x.2 ls
theorem hung_snoc (w : Bool) (x : Int × Fm) : ∀ (ls : List (Int × Fm)) (f : Fm), hung w f (ls ++ [x]) = .t w (hung w f ls) x.2
  | [], f => rfl
  | y :: ls, f => hung_snoc w x ls (.t w f y.2)
/-- the pairs with what they are -/
theorem pfs_list {H : Hp} : ∀ {ts : List Addr} {ls : List (Int × Fm)}, PFs H ts ls → ∃ zs : List (PU × Fm), zs.map (fun z => z.1.2.2) = ts ∧ zs.map (fun z => (z.1.1, z.2)) = ls ∧ ∀ z ∈ zs, H z.1.2.2 = some (.tup [.int z.1.1, z.1.2.1]) ∧ FH H z.1.2.1 z.2
  | [], [], _ => ⟨[], rfl, rfl, fun z hz => by cases hz⟩
  | [], _ :: _, h => by cases h.1
  | _ :: _, [], h => by cases h.1
  | t :: ts, l :: ls, h => by
    obtain ⟨zs, a, b, c⟩ := pfs_list (ts := ts) (ls := ls) ⟨Nat.succ.inj h.1, fun i u hu => h.2 (i + 1) u hu⟩
    obtain ⟨x, v, e1, e2, e3⟩ := h.2 0 t rfl
    obtain rfl : l = x := Option.some.inj e1
    refine ⟨((l.1, v, t), l.2) :: zs, by rw [List.map_cons, a], by rw [List.map_cons, b], fun z hz => ?_⟩
    rcases List.mem_cons.mp hz with rfl | hz
    · exact ⟨e2, e3⟩
    · exact c z hz
def spBr : Sp := fun vs H Q _ => ∃ (w : Bool) (l : Addr) (ts : List Addr) (ls : List (Int × Fm)), vs = [.str (Fm.word w), .ref l] ∧ H l = some (.lst (ts.map V.ref)) ∧ PFs H ts ls ∧ ls ≠ [] ∧ ls.length ≤ 1000 ∧ (ls.map (·.1)).Nodup ∧
  ∀ H' v ms, Same H H' → ms.Perm ls → ms.Pairwise (fun x y => x.1 < y.1) → FH H' v (bracketF w ms) → Q v H'
theorem ok_bracketed (D : DefAt K mg "bracketed" s_bracketed) (T : Bt mg) : Use P w K mg base "bracketed" 1 ["word", "limbs"] spBr := by
  refine use_of D (fun f fd F => F.ok sc_bracketed (fun vs H Q E h => ?_) (fun cdv A outer s H vs Q E hr h => ?_)) (fun _ _ _ _ _ _ us hl => match us, hl with | [_, _], _ => rfl)
  · obtain ⟨w, l, ts, ls, rfl, _⟩ := h
    rfl
  · obtain ⟨w, l, ts, ls, rfl, el, pf, ne, l1, nd, q⟩ := h
    refine ⟨_, (pss_cons (ps_asg (pe_callB (cr_sortedPU (K := K) rfl) (by rfl) T.sorted (by decide +kernel) (pa_cons (pv 1) pa_nil)) (pg_starL (K := K) rfl rfl (pgs_cons (pg_tup rfl (pgs_cons (pg_name (i := 2) sc_bracketed.nd rfl (Or.inl rfl)) (pgs_cons (pg_name (i := 3) sc_bracketed.nd rfl (Or.inl rfl)) pgs_nil))) (pgs_star (pg_name (i := 4) sc_bracketed.nd rfl (Or.inl rfl)) pgs_nil))))
      (pss_cons (ps_for PassesOwn.never rfl (k_list (K := K) rfl (pv 4)) (pg_tup rfl (pgs_cons (pg_name (i := 2) sc_bracketed.nd rfl (Or.inl rfl)) (pgs_cons (pg_name (i := 5) sc_bracketed.nd rfl (Or.inl rfl)) pgs_nil)))
      (pss_one (ps_set (i := 3) sc_bracketed.nd rfl (Or.inl rfl) (pe_tup (pa_cons (pv 0) (pa_cons (pv 3) (pa_cons (pv 5) pa_nil)))))))
      (pss_one (ps_ret (pv 3))))), ?_⟩
    obtain ⟨zs, zt, zl, zh⟩ := pfs_list pf
    have n2 : ((zs.map Prod.fst).map (·.1)).Nodup := by
      rw [← zl, List.map_map] at nd
      rw [List.map_map]
      exact nd
    refine ⟨_, rfl, l, zs.map Prod.fst, rfl, ?_, fun x hx => ?_, n2, fun ys S pm lt nS => ?_⟩
    · rw [List.map_map]
      refine sqL ?_
      rw [el, ← zt, List.map_map]
      rfl
    · obtain ⟨z, hz, rfl⟩ := List.mem_map.mp hx
      exact .inl (.inl (zh z hz).1)
    obtain ⟨ws, wp, ew⟩ := perm_pull pm zs rfl
    have wh : ∀ z ∈ ws, H z.1.2.2 = some (.tup [.int z.1.1, z.1.2.1]) ∧ FH H z.1.2.1 z.2 := fun z hz => zh z (wp.mem_iff.mp hz)
    have wlt : (ws.map fun z => (z.1.1, z.2)).Pairwise fun x y => x.1 < y.1 := by
      rw [ew, List.pairwise_map] at lt
      exact List.pairwise_map.mpr lt
    have wpm : (ws.map fun z => (z.1.1, z.2)).Perm ls := by
      rw [← zl]
      exact wp.map _
    have sS := same_new (H := H) (o := .lst (ys.map fun x => V.ref x.2.2)) nS
    have eS := upd_same (H := H) (a := S) (o := .lst (ys.map fun x => V.ref x.2.2))
    generalize upd H S (.lst (ys.map fun x => V.ref x.2.2)) = H1 at sS eS ⊢
    rw [ew, List.map_map] at eS
    have lw : ws.length = ls.length := by rw [← wpm.length_eq, List.length_map]
    match ws, wh, wlt, wpm, eS, lw with
    | [], _, _, _, _, lw => exact absurd (List.length_eq_zero_iff.mp lw.symm) ne
    | w0 :: wr, wh, wlt, wpm, eS, lw =>
    have l2 : wr.length + 1 = ls.length := lw
    obtain ⟨e0, f0⟩ := wh w0 List.mem_cons_self
    refine ⟨S, .ref w0.1.2.2, wr.map fun (z : PU × Fm) => V.ref z.1.2.2, rfl, sqL (by exact eS), by rw [List.length_map]; omega, fun B nB => ?_⟩
    have sB := same_new (H := H1) (o := .lst (wr.map fun z => V.ref z.1.2.2)) nB
    have s01 := sS.trans sB
    refine ⟨_, _, rfl, ⟨w0.1.2.2, _, rfl, .inl (.inl (s01 _ _ e0)), rfl, _, _, rfl, _, [], rfl, rfl, ?_⟩⟩
    refine ⟨_, _, rfl, ?_⟩
    refine ⟨rfl, ?_⟩
    have f0' := f0.mono s01
    refine ⟨_, rfl, B, rfl, ⟨_, sqL upd_same⟩, for_list (K := K) (a := B) (xs := wr.map fun (z : PU × Fm) => V.ref z.1.2.2)
      (fun i σ H2 => ∃ (y2 y5 : Option V) (v : V), σ = [some (.str (Fm.word w)), some (.ref l), y2, some v, some (.ref B), y5] ∧ Same H1 H2 ∧ H2 B = some (.lst (wr.map fun (z : PU × Fm) => V.ref z.1.2.2)) ∧ FH H2 v (hung w w0.2 ((wr.take i).map fun z => (z.1.1, z.2))))
      ⟨_, none, _, rfl, sB, upd_same, f0'⟩ (fun i σ H2 _ ⟨_, _, _, _, _, eB, _⟩ => sqL eB) ?_ ?_⟩
    · rintro i v σ H2 hi ⟨y2, y5, v0, rfl, s2, eB, fv⟩
      obtain ⟨z, hz, rfl⟩ := map_at hi
      obtain ⟨ez, fz⟩ := wh z (List.mem_cons_of_mem _ (List.mem_of_getElem? hz))
      have s02 := sS.trans s2
      refine ⟨z.1.2.2, _, rfl, .inl (.inl (s02 _ _ ez)), rfl, _, _, rfl, _, [], rfl, rfl, ?_⟩
      refine ⟨_, rfl, _, rfl, _, rfl, by show 3 ≤ sizeLine; decide, fun T nT => ?_⟩
      have sT := same_new (H := H2) (o := .tup [V.str (Fm.word w), v0, z.1.2.1]) nT
      refine ⟨_, _, _, rfl, s2.trans sT, sT _ _ eB, ?_⟩
      rw [take_snoc hz, List.map_append]
      show FH _ _ (hung w w0.2 (_ ++ [(z.1.1, z.2)]))
      rw [hung_snoc]
      exact .t upd_same (fv.mono sT) ((fz.mono s02).mono sT)
    · rintro σ H2 ⟨y2, y5, v0, rfl, s2, eB, fv⟩
      rw [List.length_map, List.take_length] at fv
      exact ⟨_, rfl, q H2 v0 _ (sS.trans s2) wpm wlt fv⟩
end
end KQ
/-! the limbs of a form -/
namespace KQ
open PySem PySem.Spec PyProof.Rows L2 KR KM
def leastL : List (Int × Fm) → Int
  | [] => 0
  | [x] => x.1
  | x :: y :: r => if x.1 ≤ leastL (y :: r) then x.1 else leastL (y :: r)
theorem leastL_ok : ∀ ls : List (Int × Fm), ls ≠ [] → (∃ x ∈ ls, x.1 = leastL ls) ∧ ∀ y ∈ ls, leastL ls ≤ y.1
  | [], h => absurd rfl h
  | [x], _ => ⟨⟨x, List.mem_cons_self, rfl⟩, fun y hy => by rw [List.mem_singleton.mp hy]; exact Int.le_refl _⟩
  | x :: y :: r, _ => by
    obtain ⟨⟨z, hz, ez⟩, hm⟩ := leastL_ok (y :: r) (by simp)
    by_cases c : x.1 ≤ leastL (y :: r)
    · have e : leastL (x :: y :: r) = x.1 := if_pos c
      rw [e]
      refine ⟨⟨x, List.mem_cons_self, rfl⟩, fun u hu => ?_⟩
      rcases List.mem_cons.mp hu with rfl | hu
      · exact Int.le_refl _
      · exact Int.le_trans c (hm u hu)
    · have e : leastL (x :: y :: r) = leastL (y :: r) := if_neg c
      rw [e]
      refine ⟨⟨z, List.mem_cons_of_mem _ hz, ez⟩, fun u hu => ?_⟩
      rcases List.mem_cons.mp hu with rfl | hu
      · omega
      · exact hm u hu
def insF (x : Int × Fm) : List (Int × Fm) → List (Int × Fm)
  | [] => [x]
  | y :: r => if x.1 < y.1 then x :: y :: r else y :: insF x r
def sortF : List (Int × Fm) → List (Int × Fm)
  | [] => []
  | x :: r => insF x (sortF r)
theorem insF_perm (x : Int × Fm) : ∀ l, (insF x l).Perm (x :: l)
  | [] => .refl _
  | y :: r => by
    unfold insF
    split
    · exact .refl _
    · exact ((insF_perm x r).cons y).trans (.swap x y r)
theorem sortF_perm : ∀ l, (sortF l).Perm l
  | [] => .refl _
  | x :: r => (insF_perm x (sortF r)).trans ((sortF_perm r).cons x)
theorem insF_asc (x : Int × Fm) : ∀ l : List (Int × Fm), l.Pairwise (fun x y => x.1 < y.1) → (∀ y ∈ l, x.1 ≠ y.1) → (insF x l).Pairwise (fun x y => x.1 < y.1)
  | [], _, _ => List.pairwise_singleton _ _
  | y :: r, a, n => by
    obtain ⟨a1, a2⟩ := List.pairwise_cons.mp a
    unfold insF
    split
    · rename_i c
      refine List.pairwise_cons.mpr ⟨fun z hz => ?_, a⟩
      rcases List.mem_cons.mp hz with rfl | hz
      · exact c
      · exact Int.lt_trans c (a1 z hz)
    · rename_i c
      refine List.pairwise_cons.mpr ⟨fun z hz => ?_, insF_asc x r a2 fun z hz => n z (List.mem_cons_of_mem _ hz)⟩
      rcases List.mem_cons.mp ((insF_perm x r).subset hz) with rfl | hz
      · have := n y List.mem_cons_self
        omega
      · exact a1 z hz
theorem sortF_asc : ∀ l : List (Int × Fm), (l.map (·.1)).Nodup → (sortF l).Pairwise (fun x y => x.1 < y.1)
  | [], _ => .nil
  | x :: r, n => by
    obtain ⟨n1, n2⟩ := List.nodup_cons.mp (show (x.1 :: r.map (·.1)).Nodup from n)
    exact insF_asc x _ (sortF_asc r n2) fun y hy e => n1 (List.mem_map.mpr ⟨y, (sortF_perm r).subset hy, e.symm⟩)
theorem asc_uniq : ∀ l m : List (Int × Fm), l.Pairwise (fun x y => x.1 < y.1) → m.Pairwise (fun x y => x.1 < y.1) → l.Perm m → l = m
  | [], m, _, _, p => p.nil_eq
  | x :: l, [], _, _, p => by simpa using p.length_eq
  | x :: l, y :: m, a, b, p => by
    obtain ⟨a1, a2⟩ := List.pairwise_cons.mp a
    obtain ⟨b1, b2⟩ := List.pairwise_cons.mp b
    have e : x = y := by
      rcases List.mem_cons.mp (p.subset List.mem_cons_self) with e | e
      · exact e
      rcases List.mem_cons.mp (p.symm.subset List.mem_cons_self) with f | f
      · exact f.symm
      have := b1 x e
      have := a1 y f
      omega
    subst e
    rw [asc_uniq l m a2 b2 ((List.perm_cons x).mp p)]
theorem sortF_uniq {l m : List (Int × Fm)} (p : m.Perm l) (a : m.Pairwise (fun x y => x.1 < y.1)) (n : (l.map (·.1)).Nodup) : m = sortF l := asc_uniq _ _ a (sortF_asc l n) (p.trans (sortF_perm l).symm)
/-- the limbs that a form hands to a word: its own (o) where it is a door or has that word, else itself behind its least door -/
def handF (a : Option Bool) (f : Fm) (o : List (Int × Fm)) : List (Int × Fm) :=
  match f with
  | .d _ => o
  | .t w _ _ => if a = some w then o else [(leastL o, bracketF w (sortF o))]
def Fm.own : Fm → List (Int × Fm)
  | .d n => [(n, .d n)]
  | .t w l r => handF (some w) l l.own ++ handF (some w) r r.own
def limbsF (a : Option Bool) (f : Fm) : List (Int × Fm) := handF a f f.own
theorem handF_some {a : Option Bool} {f : Fm} {o : List (Int × Fm)} (h : o ≠ []) : handF a f o ≠ [] := by
  unfold handF
  split
  · exact h
  · split
    · exact h
    · simp
theorem Fm.own_some : ∀ f : Fm, f.own ≠ []
  | .d n => by simp [Fm.own]
  | .t w l r => by
    intro e
    have e : handF (some w) l l.own ++ handF (some w) r r.own = [] := e
    exact handF_some (Fm.own_some l) (List.append_eq_nil_iff.mp e).1
theorem handF_sub {a : Option Bool} {f : Fm} {o : List (Int × Fm)} {ds : List Int} (h : o ≠ []) (s : (o.map (·.1)).Sublist ds) : ((handF a f o).map (·.1)).Sublist ds := by
  unfold handF
  split
  · exact s
  · split
    · exact s
    · obtain ⟨⟨x, hx, e⟩, _⟩ := leastL_ok o h
      refine List.singleton_sublist.mpr (s.subset ?_)
      rw [← e]
      exact List.mem_map.mpr ⟨x, hx, rfl⟩
theorem Fm.own_sub : ∀ f : Fm, (f.own.map (·.1)).Sublist f.doors
  | .d n => List.Sublist.refl _
  | .t w l r => by
    show ((handF (some w) l l.own ++ handF (some w) r r.own).map (·.1)).Sublist (l.doors ++ r.doors)
    rw [List.map_append]
    exact (handF_sub l.own_some l.own_sub).append (handF_sub r.own_some r.own_sub)
theorem limbsF_some (a : Option Bool) (f : Fm) : limbsF a f ≠ [] := handF_some f.own_some
theorem limbsF_sub (a : Option Bool) (f : Fm) : ((limbsF a f).map (·.1)).Sublist f.doors := handF_sub f.own_some f.own_sub
theorem limbsF_nodup {a : Option Bool} {f : Fm} (h : f.doors.Nodup) : ((limbsF a f).map (·.1)).Nodup := (limbsF_sub a f).nodup h
theorem limbsF_len (a : Option Bool) (f : Fm) : (limbsF a f).length ≤ f.doors.length := by
  have := (limbsF_sub a f).length_le
  rw [List.length_map] at this
  exact this
theorem limbsF_in (w : Bool) (l r : Fm) : limbsF (some w) (.t w l r) = limbsF (some w) l ++ limbsF (some w) r := if_pos rfl
theorem limbsF_out {a : Option Bool} {w : Bool} {l r : Fm} (h : a ≠ some w) : limbsF a (.t w l r) = [(leastL (limbsF (some w) (.t w l r)), bracketF w (sortF (limbsF (some w) (.t w l r))))] := by
  have e : limbsF (some w) (.t w l r) = (Fm.t w l r).own := if_pos rfl
  rw [e]
  exact if_neg h
end KQ
/-! how many forms there are -/
namespace KQ
open PySem PySem.Spec PyProof.Rows L2 KR KM
/-- one count more: i counts behind the first -/
def fcMany (i : Nat) (p : List Int × List Int) : Int := ((List.range (i + 1)).map fun k => PySem.W.mcComb ((i + 1 : Nat) : Int) ((k : Nat) : Int) * p.1.getD (k + 1) 0 * p.2.getD (i + 1 - k) 0).sum
def fcS : Nat → List Int × List Int
  | 0 => ([0, 1], [1, 1])
  | i + 1 => ((fcS i).1 ++ [fcMany i (fcS i)], (fcS i).2 ++ [2 * fcMany i (fcS i)])
theorem fcS_len : ∀ i, (fcS i).1.length = i + 2 ∧ (fcS i).2.length = i + 2
  | 0 => ⟨rfl, rfl⟩
  | i + 1 => by
    obtain ⟨a, b⟩ := fcS_len i
    refine ⟨?_, ?_⟩
    · show ((fcS i).1 ++ [_]).length = _
      rw [List.length_append, a]
      rfl
    · show ((fcS i).2 ++ [_]).length = _
      rw [List.length_append, b]
      rfl
theorem fcS_first : (fcS 4).2 = [1, 1, 2, 8, 52, 472] := by decide +kernel
theorem fcS_small : ((fcS 39).1.all fun x => decide (x.natAbs < 2 ^ 300)) = true ∧ ((fcS 39).2.all fun x => decide (x.natAbs < 2 ^ 300)) = true := by
  have h : (((fcS 39).1.all fun x => decide (x.natAbs < 2 ^ 300)) && ((fcS 39).2.all fun x => decide (x.natAbs < 2 ^ 300))) = true := by decide +kernel
  exact Bool.and_eq_true_iff.mp h
theorem comb_small40 : ∀ n : _root_.Fin 41, ∀ m : _root_.Fin 41, (PySem.W.mcComb ((n.val : Nat) : Int) ((m.val : Nat) : Int)).natAbs < 2 ^ 64 := by decide +kernel
theorem getD_at {xs : List Int} {j : Nat} (h : j < xs.length) : xs[j]? = some (xs.getD j 0) := by
  rw [List.getD_eq_getElem?_getD, List.getElem?_eq_getElem h]
  rfl
theorem fcS_pre (i : Nat) : ∀ d, (fcS i).1 <+: (fcS (i + d)).1 ∧ (fcS i).2 <+: (fcS (i + d)).2
  | 0 => ⟨List.prefix_rfl, List.prefix_rfl⟩
  | d + 1 => ⟨(fcS_pre i d).1.trans (List.prefix_append _ _), (fcS_pre i d).2.trans (List.prefix_append _ _)⟩
theorem fcS_bound {i j : Nat} (h : i ≤ 39) : ((fcS i).1.getD j 0).natAbs < 2 ^ 300 ∧ ((fcS i).2.getD j 0).natAbs < 2 ^ 300 := by
  obtain ⟨a, b⟩ := fcS_pre i (39 - i)
  rw [show i + (39 - i) = 39 by omega] at a b
  have key : ∀ {xs ys : List Int}, xs <+: ys → (ys.all fun x => decide (x.natAbs < 2 ^ 300)) = true → (xs.getD j 0).natAbs < 2 ^ 300 := fun {xs ys} p s => by
    rcases Nat.lt_or_ge j xs.length with l | l
    · have e := getD_at l
      exact of_decide_eq_true (List.all_eq_true.mp s _ (p.subset (List.mem_of_getElem? e)))
    · rw [List.getD_eq_getElem?_getD, List.getElem?_eq_none l]
      exact Nat.two_pow_pos 300
  exact ⟨key a fcS_small.1, key b fcS_small.2⟩
end KQ
/-! a form widened by a door; all forms -/
namespace KQ
open PySem PySem.Spec PyProof.Rows L2 KR KM
/-- the limbs that have a door whose bit isn't the word's -/
def apartF (b : Int → Int) (w : Bool) (ls : List (Int × Fm)) : List (Int × Fm) := ls.filter fun p => p.2.doors.any fun x => decide (b x = 1 - (if w then 1 else 0))
def restF (ls ap : List (Int × Fm)) : List (Int × Fm) := ls.filter fun p => !decide (p ∈ ap)
def wideF (b : Int → Int) (door : Int) : Nat → Fm → Option Fm
  | 0, _ => none
  | k + 1, f =>
    if (f.doors.map b).sum = 0 ∨ (f.doors.map b).sum = f.doors.length then some (.t (decide ((f.doors.map b).sum > 0)) f (.d door)) else
    match f with
    | .d _ => none
    | .t w l r =>
      match apartF b w (limbsF (some w) (.t w l r)) with
      | [] => none
      | x :: xs =>
        if xs = [] then
          match wideF b door k x.2 with
          | none => none
          | some g => some (bracketF w (sortF (restF (limbsF (some w) (.t w l r)) (x :: xs) ++ [(x.1, g)])))
        else if (x :: xs).any (fun p => p.2.doors.any fun y => decide (b y = if w then 1 else 0)) then none
        else some (bracketF w (sortF (restF (limbsF (some w) (.t w l r)) (x :: xs) ++ [(x.1, .t (!w) (bracketF w (sortF (x :: xs))) (.d door))])))
def bitRows : Nat → List (List Int)
  | 0 => [[]]
  | n + 1 => (bitRows n).flatMap fun r => [r ++ [0], r ++ [1]]
def allF : Nat → List Fm
  | 0 => [.d 0]
  | n + 1 => (allF n).flatMap fun f => (bitRows (n + 1)).filterMap fun r => wideF (fun x => r.getD x.toNat 0) ((n + 1 : Nat) : Int) 4 f
theorem allF_len : (allF 0).length = 1 ∧ (allF 1).length = 2 ∧ (allF 2).length = 8 ∧ (allF 3).length = 52 ∧ (allF 4).length = 472 := by decide +kernel
end KQ
/-! doors of limbs, of what is widened -/
namespace KQ
open PySem PySem.Spec PyProof.Rows L2 KR KM
theorem Fm.deep_doors : ∀ f : Fm, f.deep + 1 ≤ f.doors.length
  | .d n => Nat.le_refl _
  | .t w l r => by
    have a := l.deep_doors
    have b := r.deep_doors
    show max l.deep r.deep + 1 + 1 ≤ (l.doors ++ r.doors).length
    rw [List.length_append]
    omega
def lsDoors (ls : List (Int × Fm)) : List Int := ls.flatMap fun p => p.2.doors
theorem lsDoors_cons (p : Int × Fm) (ls : List (Int × Fm)) : lsDoors (p :: ls) = p.2.doors ++ lsDoors ls := List.flatMap_cons
theorem lsDoors_app (ls ms : List (Int × Fm)) : lsDoors (ls ++ ms) = lsDoors ls ++ lsDoors ms := List.flatMap_append
theorem lsDoors_perm {ls ms : List (Int × Fm)} (p : ls.Perm ms) : (lsDoors ls).Perm (lsDoors ms) := p.flatMap_right _
theorem hung_doors (w : Bool) : ∀ (ls : List (Int × Fm)) (f : Fm), (hung w f ls).doors = f.doors ++ lsDoors ls
  | [], f => (List.append_nil _).symm
  | x :: ls, f => by
    show (hung w (.t w f x.2) ls).doors = _
    rw [hung_doors w ls, lsDoors_cons, ← List.append_assoc]
    rfl
theorem bracket_doors (w : Bool) : ∀ {ls : List (Int × Fm)}, ls ≠ [] → (bracketF w ls).doors = lsDoors ls
  | [], h => absurd rfl h
  | x :: ls, _ => by
    show (hung w x.2 ls).doors = _
    rw [hung_doors, lsDoors_cons]
theorem sortF_ne {ls : List (Int × Fm)} (h : ls ≠ []) : sortF ls ≠ [] := fun e => h (by
  have p := sortF_perm ls
  rw [e] at p
  exact p.symm.eq_nil)
theorem bracket_sorted (w : Bool) {ls : List (Int × Fm)} (h : ls ≠ []) : (bracketF w (sortF ls)).doors.Perm (lsDoors ls) := by
  rw [bracket_doors w (sortF_ne h)]
  exact lsDoors_perm (sortF_perm ls)
theorem handF_doors {a : Option Bool} {f : Fm} {o : List (Int × Fm)} (h : o ≠ []) (p : (lsDoors o).Perm f.doors) : (lsDoors (handF a f o)).Perm f.doors := by
  unfold handF
  split
  · exact p
  · split
    · exact p
    · rw [lsDoors_cons]
      show ((bracketF _ (sortF o)).doors ++ []).Perm _
      rw [List.append_nil]
      exact (bracket_sorted _ h).trans p
theorem own_doors : ∀ f : Fm, (lsDoors f.own).Perm f.doors
  | .d n => .refl _
  | .t w l r => by
    show (lsDoors (handF (some w) l l.own ++ handF (some w) r r.own)).Perm (l.doors ++ r.doors)
    rw [lsDoors_app]
    exact (handF_doors l.own_some (own_doors l)).append (handF_doors r.own_some (own_doors r))
theorem limbs_doors (a : Option Bool) (f : Fm) : (lsDoors (limbsF a f)).Perm f.doors := handF_doors f.own_some (own_doors f)
theorem doors_pos (f : Fm) : 0 < f.doors.length := Nat.lt_of_lt_of_le (Nat.succ_pos _) f.deep_doors
theorem ls_len : ∀ ls : List (Int × Fm), ls.length ≤ (lsDoors ls).length
  | [] => Nat.le_refl _
  | x :: ls => by
    rw [lsDoors_cons, List.length_append, List.length_cons]
    have := doors_pos x.2
    have := ls_len ls
    omega
theorem limbs_two (w : Bool) (l r : Fm) : 2 ≤ (limbsF (some w) (.t w l r)).length := by
  rw [limbsF_in, List.length_append]
  have := List.length_pos_iff.mpr (limbsF_some (some w) l)
  have := List.length_pos_iff.mpr (limbsF_some (some w) r)
  omega
theorem mem_split_len {p : Int × Fm} {ls : List (Int × Fm)} (h : p ∈ ls) : p.2.doors.length + (ls.length - 1) ≤ (lsDoors ls).length := by
  obtain ⟨a, b, rfl⟩ := List.append_of_mem h
  rw [lsDoors_app, lsDoors_cons, List.length_append, List.length_append, List.length_append, List.length_cons]
  have := ls_len a
  have := ls_len b
  omega
theorem mem_split_sub {p : Int × Fm} {ls : List (Int × Fm)} (h : p ∈ ls) : ∀ x ∈ p.2.doors, x ∈ lsDoors ls := fun x hx => List.mem_flatMap.mpr ⟨p, h, hx⟩
theorem ls_nodup {p : Int × Fm} {ls : List (Int × Fm)} (h : p ∈ ls) (n : (lsDoors ls).Nodup) : p.2.doors.Nodup := by
  obtain ⟨a, b, rfl⟩ := List.append_of_mem h
  rw [lsDoors_app, lsDoors_cons] at n
  exact (List.nodup_append.mp (List.nodup_append.mp n).2.1).1
theorem filter_two {α : Type} (c : α → Bool) : ∀ l : List α, (l.filter c ++ l.filter fun x => !c x).Perm l
  | [] => .refl _
  | x :: l => by
    have ih := filter_two c l
    cases e : c x
    · rw [List.filter_cons_of_neg (by simp [e]), List.filter_cons_of_pos (by simp [e])]
      exact (List.perm_middle).trans (ih.cons x)
    · rw [List.filter_cons_of_pos (by simp [e]), List.filter_cons_of_neg (by simp [e])]
      exact ih.cons x
theorem rest_eq (b : Int → Int) (w : Bool) (ls : List (Int × Fm)) : (apartF b w ls ++ restF ls (apartF b w ls)).Perm ls := by
  have e : restF ls (apartF b w ls) = ls.filter fun x => !(x.2.doors.any fun x => decide (b x = 1 - (if w then 1 else 0))) := by
    refine List.filter_congr fun x hx => ?_
    congr 1
    rw [Bool.eq_iff_iff, decide_eq_true_eq]
    unfold apartF
    rw [List.mem_filter]
    exact ⟨fun h => h.2, fun h => ⟨hx, h⟩⟩
  rw [e]
  exact filter_two _ ls
theorem apart_sub (b : Int → Int) (w : Bool) (ls : List (Int × Fm)) : (apartF b w ls).Sublist ls := List.filter_sublist
theorem rest_nodup {b : Int → Int} {w : Bool} {ls xs : List (Int × Fm)} {x : Int × Fm} {g : Fm} (n : (ls.map (·.1)).Nodup) (e : apartF b w ls = x :: xs) : ((restF ls (x :: xs) ++ [(x.1, g)]).map (·.1)).Nodup := by
  have p := rest_eq b w ls
  rw [e] at p
  have n2 := (p.map (·.1)).nodup_iff.mpr n
  have q : ((restF ls (x :: xs) ++ [(x.1, g)]).map (·.1)).Perm (x.1 :: (restF ls (x :: xs)).map (·.1)) := by
    rw [List.map_append]
    exact List.perm_append_comm
  refine q.nodup_iff.mpr (List.Nodup.sublist ?_ n2)
  rw [List.cons_append, List.map_cons, List.map_append]
  exact (List.sublist_append_right _ _).cons₂ _
theorem wide_doors (b : Int → Int) (door : Int) : ∀ (k : Nat) (f g : Fm), wideF b door k f = some g → g.doors.Perm (f.doors ++ [door])
  | 0, _, _, h => by cases h
  | k + 1, f, g, h => by
    unfold wideF at h
    split at h
    · cases h
      exact .refl _
    cases f with
    | d n => cases h
    | t w l r =>
      have hp := rest_eq b w (limbsF (some w) (.t w l r))
      have hd := limbs_doors (some w) (.t w l r)
      dsimp only at h
      generalize limbsF (some w) (.t w l r) = L at h hp hd
      split at h
      · cases h
      rename_i x xs e
      rw [e] at hp
      have hq := lsDoors_perm hp
      have key : ∀ g', g'.doors.Perm (lsDoors (x :: xs) ++ [door]) → (bracketF w (sortF (restF L (x :: xs) ++ [(x.1, g')]))).doors.Perm ((Fm.t w l r).doors ++ [door]) := fun g' hg => by
        refine (bracket_sorted w (by simp)).trans ?_
        rw [lsDoors_app, lsDoors_cons]
        show (lsDoors (restF L (x :: xs)) ++ (g'.doors ++ [])).Perm _
        rw [List.append_nil]
        rw [lsDoors_app] at hq
        refine (hg.append_left _).trans ?_
        rw [← List.append_assoc]
        exact ((List.perm_append_comm.trans hq).trans hd).append_right _
      split at h
      · rename_i e2
        subst e2
        split at h
        · cases h
        rename_i g' hg
        cases h
        refine key g' ?_
        have := wide_doors b door k x.2 g' hg
        rw [lsDoors_cons]
        show g'.doors.Perm ((x.2.doors ++ []) ++ [door])
        rw [List.append_nil]
        exact this
      · generalize ((x :: xs).any fun p => p.2.doors.any fun y => decide (b y = if w then 1 else 0)) = bb at h
        cases bb
        · cases h
          refine key _ ?_
          show ((bracketF w (sortF (x :: xs))).doors ++ [door]).Perm _
          exact (bracket_sorted w (by simp)).append_right _
        · cases h
end KQ
/-! plain forms; forms found by their webs -/
namespace KQ
open PySem PySem.Spec PyProof.Rows L2 KR KM
/-- whether two doors meet in BOTH -/
def metB : Fm → Int → Int → Bool
  | .d _, _, _ => false
  | .t w l r, x, y => metB l x y || (metB r x y || (w && ((l.doors.elem x && r.doors.elem y) || (l.doors.elem y && r.doors.elem x))))
def webF (n : Nat) (f : Fm) : List Bool := (List.range n).flatMap fun b => (List.range b).map fun a => metB f (Int.ofNat a) (Int.ofNat b)
def headF : Fm → Option Bool
  | .d _ => none
  | .t w _ _ => some w
abbrev FS := Option Bool × List (Int × Fm)
def stF (f : Fm) : FS := (headF f, sortF f.own)
def plainF : Fm → Fm
  | .d n => .d n
  | .t w l r => bracketF w (sortF (Fm.t w l r).own)
def formS : FS → Fm
  | (none, []) => .d 0
  | (none, x :: _) => x.2
  | (some w, o) => bracketF w o
def handS (w : Bool) : FS → List (Int × Fm)
  | (none, o) => o
  | (some v, o) => if v = w then o else [(leastL o, bracketF v o)]
def joinS (w : Bool) (s t : FS) : FS := (some w, sortF (handS w s ++ handS w t))
def splits : List Int → List (List Int × List Int)
  | [] => [([], [])]
  | x :: r => (splits r).flatMap fun p => [(x :: p.1, p.2), (p.1, x :: p.2)]
def dedupS : List FS → List FS
  | [] => []
  | x :: r => let m := dedupS r
    if m.contains x then m else x :: m
def rawS : Nat → List Int → List FS
  | 0, _ => []
  | _, [] => []
  | _, [x] => [(none, [(x, .d x)])]
  | k + 1, x :: y :: r => (splits (x :: y :: r)).flatMap fun p => if p.1.isEmpty || p.2.isEmpty then [] else
      (dedupS (rawS k p.1)).flatMap fun s => (dedupS (rawS k p.2)).flatMap fun t => [joinS true s t, joinS false s t]
/-- forms found by their webs -/
inductive Trie where
  | none
  | leaf (f : Fm)
  | node (l r : Trie)
def Trie.look : Trie → List Bool → Option Fm
  | .leaf f, [] => some f
  | .node l r, b :: bs => if b then r.look bs else l.look bs
  | _, _ => Option.none
def Trie.put (f : Fm) : Trie → List Bool → Trie
  | _, [] => .leaf f
  | .node l r, b :: bs => if b then .node l (Trie.put f r bs) else .node (Trie.put f l bs) r
  | _, b :: bs => if b then .node .none (Trie.put f .none bs) else .node (Trie.put f .none bs) .none
def Trie.list : Trie → List (List Bool × Fm)
  | .none => []
  | .leaf f => [([], f)]
  | .node l r => l.list.map (fun p => (false :: p.1, p.2)) ++ r.list.map (fun p => (true :: p.1, p.2))
def trieF (n : Nat) : Trie := (allF n).foldl (fun t f => t.put f (webF (n + 1) f)) .none
def doorsN (n : Nat) : List Int := (List.range (n + 1)).map Int.ofNat

theorem dedupS_mem {x : FS} : ∀ {l : List FS}, x ∈ l → x ∈ dedupS l
  | y :: r, h => by
    unfold dedupS
    dsimp only
    split
    · rename_i c
      rcases List.mem_cons.mp h with rfl | h
      · exact List.contains_iff_mem.mp c
      · exact dedupS_mem h
    · rcases List.mem_cons.mp h with rfl | h
      · exact List.mem_cons_self
      · exact List.mem_cons_of_mem _ (dedupS_mem h)
theorem splits_mem (c : Int → Bool) : ∀ ds : List Int, (ds.filter c, ds.filter fun x => !c x) ∈ splits ds
  | [] => List.mem_cons_self
  | x :: r => by
    refine List.mem_flatMap.mpr ⟨_, splits_mem c r, ?_⟩
    cases e : c x
    · rw [List.filter_cons_of_neg (by simp [e]), List.filter_cons_of_pos (by simp [e])]
      exact List.mem_cons_of_mem _ List.mem_cons_self
    · rw [List.filter_cons_of_pos (by simp [e]), List.filter_cons_of_neg (by simp [e])]
      exact List.mem_cons_self
theorem plain_form (f : Fm) : plainF f = formS (stF f) := by
  cases f with
  | d n => rfl
  | t w l r => rfl
theorem least_perm {o p : List (Int × Fm)} (h : o ≠ []) (e : o.Perm p) : leastL o = leastL p := by
  have h2 : p ≠ [] := fun z => h (by rw [z] at e; exact e.eq_nil)
  obtain ⟨⟨x, hx, ex⟩, lx⟩ := leastL_ok o h
  obtain ⟨⟨y, hy, ey⟩, ly⟩ := leastL_ok p h2
  have a := ly x (e.mem_iff.mp hx)
  have b := lx y (e.mem_iff.mpr hy)
  omega
theorem sortF_same {o p : List (Int × Fm)} (e : o.Perm p) (n : (p.map (·.1)).Nodup) : sortF o = sortF p :=
  sortF_uniq ((sortF_perm o).trans e) (sortF_asc o ((e.map (·.1)).nodup_iff.mpr n)) n
theorem own_nodup {f : Fm} (n : f.doors.Nodup) : (f.own.map (·.1)).Nodup := f.own_sub.nodup n
theorem hand_perm (w : Bool) {f : Fm} (n : f.doors.Nodup) : (handS w (stF f)).Perm (handF (some w) f f.own) := by
  cases f with
  | d m => exact sortF_perm _
  | t v l r =>
    show List.Perm (if v = w then sortF (Fm.t v l r).own else [(leastL (sortF (Fm.t v l r).own), bracketF v (sortF (Fm.t v l r).own))]) (if some w = some v then (Fm.t v l r).own else [(leastL (Fm.t v l r).own, bracketF v (sortF (Fm.t v l r).own))])
    by_cases c : v = w
    · subst c
      rw [if_pos rfl, if_pos rfl]
      exact sortF_perm _
    · rw [if_neg c, if_neg fun z => c (Option.some.inj z).symm, least_perm (sortF_ne (Fm.own_some _)) (sortF_perm _)]
theorem st_join {w : Bool} {l r : Fm} (n : (Fm.t w l r).doors.Nodup) : stF (.t w l r) = joinS w (stF l) (stF r) := by
  obtain ⟨nl, nr, _⟩ := List.nodup_append.mp (show (l.doors ++ r.doors).Nodup from n)
  show (some w, sortF (handF (some w) l l.own ++ handF (some w) r r.own)) = (some w, sortF (handS w (stF l) ++ handS w (stF r)))
  rw [sortF_same ((hand_perm w nl).append (hand_perm w nr)) (own_nodup n)]
theorem raw_mem : ∀ (k : Nat) (ds : List Int) (f : Fm), ds.length ≤ k → f.doors.Perm ds → f.doors.Nodup → stF f ∈ rawS k ds
  | 0, ds, f, h, p, _ => by
    have := doors_pos f
    rw [p.length_eq] at this
    omega
  | k + 1, [], f, h, p, _ => by
    have := doors_pos f
    rw [p.length_eq] at this
    cases this
  | k + 1, [x], f, h, p, _ => by
    have e := f.deep_doors
    rw [p.length_eq] at e
    cases f with
    | d m =>
      have : m = x := by
        have := p.mem_iff.mp (show m ∈ (Fm.d m).doors from List.mem_cons_self)
        exact List.mem_singleton.mp this
      subst this
      exact List.mem_cons_self
    | t w l r =>
      have e : max l.deep r.deep + 1 + 1 ≤ 1 := e
      omega
  | k + 1, x :: y :: s, f, h, p, n => by
    cases f with
    | d m =>
      have := p.length_eq
      cases this
    | t w l r =>
      obtain ⟨nl, nr, nx⟩ := List.nodup_append.mp (show (l.doors ++ r.doors).Nodup from n)
      have nds : (x :: y :: s).Nodup := p.nodup_iff.mp n
      have hm : ∀ z, z ∈ x :: y :: s ↔ z ∈ l.doors ∨ z ∈ r.doors := fun z => by
        rw [← p.mem_iff]
        exact List.mem_append
      have pa : l.doors.Perm ((x :: y :: s).filter fun z => decide (z ∈ l.doors)) := by
        refine (List.perm_ext_iff_of_nodup nl (List.Nodup.sublist List.filter_sublist nds)).mpr fun z => ?_
        rw [List.mem_filter, hm, decide_eq_true_eq]
        exact ⟨fun a => ⟨.inl a, a⟩, fun a => a.2⟩
      have pb : r.doors.Perm ((x :: y :: s).filter fun z => !decide (z ∈ l.doors)) := by
        refine (List.perm_ext_iff_of_nodup nr (List.Nodup.sublist List.filter_sublist nds)).mpr fun z => ?_
        rw [List.mem_filter, hm, Bool.not_eq_true', decide_eq_false_iff_not]
        exact ⟨fun a => ⟨.inr a, fun b => nx z b z a rfl⟩, fun a => a.1.resolve_left a.2⟩
      have lp := p.length_eq
      have lp : (l.doors ++ r.doors).length = (x :: y :: s).length := lp
      rw [List.length_append] at lp
      have l1 := doors_pos l
      have l2 := doors_pos r
      have ea := pa.length_eq
      have eb := pb.length_eq
      have ma := raw_mem k _ l (by omega) pa nl
      have mb := raw_mem k _ r (by omega) pb nr
      rw [st_join n]
      unfold rawS
      refine List.mem_flatMap.mpr ⟨_, splits_mem (fun z => decide (z ∈ l.doors)) _, ?_⟩
      rw [if_neg]
      · refine List.mem_flatMap.mpr ⟨_, dedupS_mem ma, List.mem_flatMap.mpr ⟨_, dedupS_mem mb, ?_⟩⟩
        cases w
        · exact List.mem_cons_of_mem _ List.mem_cons_self
        · exact List.mem_cons_self
      · rw [Bool.or_eq_true, List.isEmpty_iff, List.isEmpty_iff]
        rintro (z | z)
        · rw [show List.filter (fun z => decide (z ∈ l.doors)) (x :: y :: s) = [] from z] at ea
          exact absurd (Nat.lt_of_lt_of_eq l1 ea) (Nat.lt_irrefl _)
        · rw [show List.filter (fun z => !decide (z ∈ l.doors)) (x :: y :: s) = [] from z] at eb
          exact absurd (Nat.lt_of_lt_of_eq l2 eb) (Nat.lt_irrefl _)
theorem look_mem : ∀ {t : Trie} {bs : List Bool} {f : Fm}, t.look bs = some f → (bs, f) ∈ t.list
  | .none, bs, f, h => by cases h
  | .leaf g, [], f, h => by
    cases h
    exact List.mem_cons_self
  | .leaf g, b :: bs, f, h => by cases h
  | .node l r, [], f, h => by cases h
  | .node l r, b :: bs, f, h => by
    cases b
    · exact List.mem_append_left _ (List.mem_map.mpr ⟨(bs, f), look_mem (t := l) h, rfl⟩)
    · exact List.mem_append_right _ (List.mem_map.mpr ⟨(bs, f), look_mem (t := r) h, rfl⟩)
/-! two forms with the same doors and the same mates -/
def Eqv (f g : Fm) : Prop := (∀ x, x ∈ f.doors ↔ x ∈ g.doors) ∧ ∀ x y, metB f x y = metB g x y
theorem Eqv.refl (f : Fm) : Eqv f f := ⟨fun _ => Iff.rfl, fun _ _ => rfl⟩
theorem Eqv.trans {f g h : Fm} (a : Eqv f g) (b : Eqv g h) : Eqv f h := ⟨fun x => (a.1 x).trans (b.1 x), fun x y => (a.2 x y).trans (b.2 x y)⟩
theorem Eqv.symm {f g : Fm} (a : Eqv f g) : Eqv g f := ⟨fun x => (a.1 x).symm, fun x y => (a.2 x y).symm⟩
theorem elem_iff {x : Int} {l m : List Int} (h : x ∈ l ↔ x ∈ m) : l.elem x = m.elem x := by
  rw [Bool.eq_iff_iff, List.elem_iff, List.elem_iff]
  exact h
theorem Eqv.t {w : Bool} {l l' r r' : Fm} (a : Eqv l l') (b : Eqv r r') : Eqv (.t w l r) (.t w l' r') := by
  refine ⟨fun x => ?_, fun x y => ?_⟩
  · show x ∈ l.doors ++ r.doors ↔ x ∈ l'.doors ++ r'.doors
    rw [List.mem_append, List.mem_append, a.1, b.1]
  · unfold metB
    rw [a.2, b.2, elem_iff (a.1 x), elem_iff (a.1 y), elem_iff (b.1 x), elem_iff (b.1 y)]
theorem Eqv.comm (w : Bool) (l r : Fm) : Eqv (.t w l r) (.t w r l) := by
  refine ⟨fun x => ?_, fun x y => ?_⟩
  · show x ∈ l.doors ++ r.doors ↔ x ∈ r.doors ++ l.doors
    rw [List.mem_append, List.mem_append]
    exact Or.comm
  · show (metB l x y || (metB r x y || _)) = (metB r x y || (metB l x y || _))
    cases metB l x y <;> cases metB r x y <;> cases w <;> cases l.doors.elem x <;> cases r.doors.elem y <;> cases l.doors.elem y <;> cases r.doors.elem x <;> rfl
theorem elem_app (x : Int) (l m : List Int) : (l ++ m).elem x = (l.elem x || m.elem x) := by
  rw [Bool.eq_iff_iff, List.elem_iff, Bool.or_eq_true, List.elem_iff, List.elem_iff, List.mem_append]
theorem Eqv.assoc (w : Bool) (a b c : Fm) : Eqv (.t w (.t w a b) c) (.t w a (.t w b c)) := by
  refine ⟨fun x => ?_, fun x y => ?_⟩
  · show x ∈ (a.doors ++ b.doors) ++ c.doors ↔ x ∈ a.doors ++ (b.doors ++ c.doors)
    rw [List.append_assoc]
  · show ((metB a x y || (metB b x y || (w && (a.doors.elem x && b.doors.elem y || a.doors.elem y && b.doors.elem x)))) || (metB c x y || (w && ((a.doors ++ b.doors).elem x && c.doors.elem y || (a.doors ++ b.doors).elem y && c.doors.elem x)))) =
      (metB a x y || ((metB b x y || (metB c x y || (w && (b.doors.elem x && c.doors.elem y || b.doors.elem y && c.doors.elem x)))) || (w && (a.doors.elem x && (b.doors ++ c.doors).elem y || a.doors.elem y && (b.doors ++ c.doors).elem x))))
    rw [elem_app, elem_app, elem_app, elem_app]
    generalize metB a x y = p1
    generalize metB b x y = p2
    generalize metB c x y = p3
    generalize a.doors.elem x = q1
    generalize a.doors.elem y = q2
    generalize b.doors.elem x = q3
    generalize b.doors.elem y = q4
    generalize c.doors.elem x = q5
    generalize c.doors.elem y = q6
    revert p1 p2 p3 q1 q2 q3 q4 q5 q6 w
    decide
theorem hung_eqv (w : Bool) : ∀ (ls : List (Int × Fm)) {f g : Fm}, Eqv f g → Eqv (hung w f ls) (hung w g ls)
  | [], _, _, h => h
  | x :: ls, _, _, h => hung_eqv w ls (h.t (.refl _))
theorem hung_perm (w : Bool) {ls ms : List (Int × Fm)} (p : ls.Perm ms) : ∀ f : Fm, Eqv (hung w f ls) (hung w f ms) := by
  induction p with
  | nil => exact fun f => .refl _
  | cons x _ ih => exact fun f => ih _
  | swap x y l => exact fun f => hung_eqv w l (((Eqv.assoc w f y.2 x.2).trans ((Eqv.refl f).t (.comm w _ _))).trans (Eqv.assoc w f x.2 y.2).symm)
  | trans _ _ a b => exact fun f => (a f).trans (b f)
theorem hung_in (w : Bool) : ∀ (ls : List (Int × Fm)) (f g : Fm), Eqv (.t w f (hung w g ls)) (hung w (.t w f g) ls)
  | [], f, g => .refl _
  | x :: ls, f, g => (hung_in w ls f (.t w g x.2)).trans (hung_eqv w ls (Eqv.assoc w f g x.2).symm)
theorem bracket_perm (w : Bool) {ls ms : List (Int × Fm)} (p : ls.Perm ms) : Eqv (bracketF w ls) (bracketF w ms) := by
  induction p with
  | nil => exact .refl _
  | cons x p _ => exact hung_perm w p _
  | swap x y l => exact hung_eqv w l (.comm w _ _)
  | trans _ _ a b => exact a.trans b
theorem hung_app (w : Bool) : ∀ (ls ms : List (Int × Fm)) (f : Fm), hung w f (ls ++ ms) = hung w (hung w f ls) ms
  | [], _, _ => rfl
  | x :: ls, ms, f => hung_app w ls ms _
theorem bracket_app (w : Bool) {ls ms : List (Int × Fm)} (a : ls ≠ []) (b : ms ≠ []) : Eqv (.t w (bracketF w ls) (bracketF w ms)) (bracketF w (ls ++ ms)) := by
  cases ls with
  | nil => exact absurd rfl a
  | cons x ls =>
    cases ms with
    | nil => exact absurd rfl b
    | cons y ms =>
      show Eqv (.t w (hung w x.2 ls) (hung w y.2 ms)) (hung w x.2 (ls ++ y :: ms))
      rw [hung_app]
      exact hung_in w ms _ _
theorem limbs_eqv : ∀ (f : Fm) (w : Bool), Eqv (bracketF w (limbsF (some w) f)) f := by
  intro f
  induction f with
  | d n => exact fun w => .refl _
  | t v l r il ir =>
    have own : Eqv (bracketF v (Fm.t v l r).own) (.t v l r) := (bracket_app v (limbsF_some (some v) l) (limbsF_some (some v) r)).symm.trans ((il v).t (ir v))
    intro w
    by_cases c : some w = some v
    · obtain rfl := Option.some.inj c
      rw [show limbsF (some w) (Fm.t w l r) = (Fm.t w l r).own from if_pos rfl]
      exact own
    · rw [show limbsF (some w) (Fm.t v l r) = [(leastL (Fm.t v l r).own, bracketF v (sortF (Fm.t v l r).own))] from if_neg c]
      exact (bracket_perm v (sortF_perm _)).trans own
theorem plain_eqv (f : Fm) : Eqv (plainF f) f := by
  cases f with
  | d n => exact .refl _
  | t w l r =>
    have := limbs_eqv (.t w l r) w
    rw [show limbsF (some w) (Fm.t w l r) = (Fm.t w l r).own from if_pos rfl] at this
    exact (bracket_perm w (sortF_perm _)).trans this
theorem web_plain (n : Nat) (f : Fm) : webF n (plainF f) = webF n f := by
  unfold webF
  simp only [(plain_eqv f).2]
def okS (n : Nat) : Bool := let T := trieF n; (rawS (n + 1) (doorsN n)).all fun s => let f := formS s; T.look (webF (n + 1) f) == some f
theorem okS_all : ∀ n < 5, okS n = true := by decide +kernel
theorem trie_all : ∀ n < 5, (trieF n).list = (allF n).map fun f => (webF (n + 1) f, f) := by decide +kernel
theorem plain_all : ∀ n < 5, (allF n).all (fun f => plainF f == f) = true := by decide +kernel
/-- every form's plain form is listed, where its web is -/
theorem form_listed {n : Nat} (h : n < 5) {f : Fm} (p : f.doors.Perm (doorsN n)) : ∃ i : Nat, (allF n)[i]? = some (plainF f) ∧ ((allF n).map (webF (n + 1)))[i]? = some (webF (n + 1) f) := by
  have nd : (doorsN n).Nodup := by
    unfold doorsN
    exact List.pairwise_map.mpr (List.Pairwise.imp (fun h e => h (Int.ofNat.inj e)) List.nodup_range)
  have m := raw_mem (n + 1) (doorsN n) f (by simp [doorsN]) p (p.nodup_iff.mpr nd)
  have ok := List.all_eq_true.mp (okS_all n h) _ m
  have ok : (trieF n).look (webF (n + 1) (formS (stF f))) = some (formS (stF f)) := by simpa using ok
  rw [← plain_form, web_plain] at ok
  have mm := look_mem ok
  rw [trie_all n h] at mm
  obtain ⟨g, hg, e⟩ := List.mem_map.mp mm
  obtain ⟨i, hi⟩ := List.getElem?_of_mem hg
  have e2 : g = plainF f := congrArg Prod.snd e
  subst e2
  refine ⟨i, hi, ?_⟩
  rw [List.getElem?_map, hi]
  exact congrArg some (web_plain _ _)
end KQ
/-! d.update(e), keys pairs of small numbers -/
namespace KR
open PySem PySem.Spec PyProof.Rows L2 PySem.Calls
/-- the hash of a pair of numbers -/
def hash2 (a b : Int) : Int := PySem.reduceHash (Builtin.Tuple.tupleHashOf [hashInt a, hashInt b])
theorem hash2_apart : ∀ a b c d : _root_.Fin 6, hash2 ((a.val : Nat) : Int) ((b.val : Nat) : Int) = hash2 ((c.val : Nat) : Int) ((d.val : Nat) : Int) → a = c ∧ b = d := by decide +kernel
def PairK (k : List L2.Key) : Prop := ∃ a b : Nat, a < 6 ∧ b < 6 ∧ k = [.inl (a : Int), .inl (b : Int)]
theorem hash_pair {P : Program} {w : World} {a b : Int} : PySem.tupleKeyHash (mixKind P w) [.inl a, .inl b] = hash2 a b := rfl
theorem pairs_apart {P : Program} {w : World} : ∀ ks : List (List L2.Key), (∀ k ∈ ks, PairK k) → ks.Nodup → (ks.map fun k => PySem.tupleKeyHash (mixKind P w) k).Nodup := by
  intro ks h n
  refine List.pairwise_map.mpr (n.imp_of_mem fun {x y} hx hy ne e => ne ?_)
  obtain ⟨a, b, ha, hb, rfl⟩ := h x hx
  obtain ⟨c, d, hc, hd, rfl⟩ := h y hy
  rw [hash_pair, hash_pair] at e
  obtain ⟨e1, e2⟩ := hash2_apart ⟨a, ha⟩ ⟨b, hb⟩ ⟨c, hc⟩ ⟨d, hd⟩ e
  have e1 : a = c := congrArg _root_.Fin.val e1
  have e2 : b = d := congrArg _root_.Fin.val e2
  rw [e1, e2]
def putAll (kvs more : List (List L2.Key × V)) : List (List L2.Key × V) := more.foldl (fun acc p => putK acc p.1 p.2) kvs
theorem KT_putAll {H : Hp} : ∀ {more : List (List L2.Key × V)} {ys : List (List L2.Key × Addr × Value)}, KT H more ys → ∀ {kvs : List (List L2.Key × V)} {xs : List (List L2.Key × Addr × Value)}, KT H kvs xs → KT H (putAll kvs more) (storedAllH xs ys) := by
  intro more ys r
  induction r with
  | nil => exact fun q => q
  | @cons p q ps qs h t ih =>
    intro kvs xs rel
    obtain ⟨h1, h2, h3⟩ := h
    have : KT H (putK kvs p.1 p.2) (storedH xs q.1 q.2.1 q.2.2) := by
      rw [← h1]
      exact rel.put p.1 h2 h3
    exact ih this
theorem putK_len (kvs : List (List L2.Key × V)) (k : List L2.Key) (v : V) : (putK kvs k v).length ≤ kvs.length + 1 := by
  unfold putK
  split
  · rw [List.length_map]
    omega
  · rw [List.length_append]
    exact Nat.le_refl _
theorem putAll_len : ∀ (more kvs : List (List L2.Key × V)), (putAll kvs more).length ≤ kvs.length + more.length
  | [], kvs => Nat.le_refl _
  | p :: r, kvs => by
    have a := putAll_len r (putK kvs p.1 p.2)
    have b := putK_len kvs p.1 p.2
    show (putAll (putK kvs p.1 p.2) r).length ≤ kvs.length + (r.length + 1)
    omega
def rUpdT : V → List V → Hp → VK → Prop := fun x xs H Q => ∃ (a b : Addr) (kvs more : List (List L2.Key × V)), x = .ref a ∧ xs = [.ref b] ∧ H a = some (.dT kvs) ∧ H b = some (.dT more) ∧ a ≠ b ∧ kvs.length + more.length ≤ sizeLine ∧ (∀ p ∈ more, PairK p.1) ∧
  Q .non (upd H a (.dT (putAll kvs more)))
section
variable {X : Cx}
theorem mt_updT (hu : X.A.units + 1 < cLine) : MtR X "dict.update" rUpdT := by
  intro pins s σ H x xs v us Q I rx rxs h
  obtain ⟨a, b, kvs, more, rfl, rfl, ha, hb, ne, hl, hk, q⟩ := h
  cases rx
  obtain ⟨u1, rfl, r1⟩ := vals1 rxs
  obtain rfl : u1 = .ref b := r1
  obtain ⟨z, hd, xs', rel, dd⟩ := dt_of I.hok ha
  obtain ⟨z2, hd2, ys', rel2, dd2⟩ := dt_of I.hok hb
  have l1 : kvs.length = xs'.length := Paired.length rel
  have l2 : more.length = ys'.length := Paired.length rel2
  have keysE : ∀ {m : List (List L2.Key × V)} {l : List (List L2.Key × Addr × Value)}, KT H m l → l.map (·.1) = m.map (·.1) := by
    intro m l r
    induction r with
    | nil => rfl
    | cons h t ih => rw [List.map_cons, List.map_cons, ih, h.1]
  have typed : ∀ y ∈ ys', s.TypeIs (.ref y.2.1) "tuple" := by
    obtain ⟨_, _, _, _, _, _, _, his, _⟩ := id dd2
    intro y hy
    obtain ⟨o, items, n, h1, h2, h3, h4⟩ := his y hy
    exact ⟨o, h1, h2⟩
  have apart : (ys'.map fun y => (PySem.tupleKind (mixKind X.prog X.w)).hash y.1).Nodup := by
    have e : (ys'.map fun y => (PySem.tupleKind (mixKind X.prog X.w)).hash y.1) = (ys'.map (·.1)).map fun k => PySem.tupleKeyHash (mixKind X.prog X.w) k := by
      rw [List.map_map]
      rfl
    rw [e]
    refine pairs_apart _ (fun k hk' => ?_) dd2.nodup
    rw [keysE rel2] at hk'
    obtain ⟨p, hp, rfl⟩ := List.mem_map.mp hk'
    exact hk p hp
  refine PySem.call_update_dictH (tupleKind_room_in1 hu) ne hd2 dd dd2 (.inr ⟨typed, apart⟩) (by rw [← l1, ← l2]; exact hl) fun h' dd' dd2' hs => ?_
  obtain ⟨o, es, ep, hq, h2, h3, h4, _, h5⟩ := dd'
  have I2 : Inv X pins σ (upd H a (.dT (putAll kvs more))) { s with heap := h', toks := s.toks } :=
    d_write I (by rw [ha]; exact True.intro) hs ⟨o, hq⟩ ⟨Nat.le_trans (putAll_len more kvs) hl, hd, _, (KT_putAll rel2 rel).keeps (fun c ys ec => (by rw [upd_ne (ne_of ec ha (fun z => nomatch z))]; exact ec)), o, es, ep, hq, h2, h3, h4, h5⟩
  exact ⟨.non, _, I2, rfl, q⟩
end
end KR
/-! mates as keys -/
namespace KQ
open PySem PySem.Spec PyProof.Rows L2 KR KM
abbrev DT := List (List L2.Key × V)
def keyP (x y : Int) : List L2.Key := [.inl x, .inl y]
theorem keyP_inj {x y a b : Int} : keyP x y = keyP a b ↔ x = a ∧ y = b := by
  unfold keyP
  simp
def hasK (kvs : DT) (k : List L2.Key) : Bool := kvs.any fun p => decide (p.1 = k)
theorem hasK_val (kvs : DT) (k : List L2.Key) : (valV kvs k).isSome = hasK kvs k := (valV_any k kvs).symm
theorem hasK_put (kvs : DT) (k k' : List L2.Key) (v : V) : hasK (putK kvs k v) k' = (hasK kvs k' || decide (k = k')) := by
  unfold putK
  split
  · rename_i c
    have e : hasK (kvs.map fun p => if p.1 = k then (p.1, v) else p) k' = hasK kvs k' := by
      unfold hasK
      rw [List.any_map]
      congr 1
      funext p
      show decide ((if p.1 = k then (p.1, v) else p).1 = k') = decide (p.1 = k')
      split <;> rfl
    rw [e]
    by_cases d : k = k'
    · subst d
      rw [show hasK kvs k = true from c]
      rfl
    · rw [decide_eq_false d, Bool.or_false]
  · unfold hasK
    rw [List.any_append]
    simp
theorem hasK_all : ∀ (more kvs : DT) (k : List L2.Key), hasK (putAll kvs more) k = (hasK kvs k || hasK more k)
  | [], kvs, k => (Bool.or_false _).symm
  | p :: r, kvs, k => by
    have := hasK_all r (putK kvs p.1 p.2) k
    rw [hasK_put] at this
    refine this.trans ?_
    show ((hasK kvs k || decide (p.1 = k)) || hasK r k) = (hasK kvs k || (decide (p.1 = k) || hasK r k))
    rw [Bool.or_assoc]
theorem pair_put {kvs : DT} {k : List L2.Key} {v : V} (h : ∀ p ∈ kvs, PairK p.1) (hk : PairK k) : ∀ p ∈ putK kvs k v, PairK p.1 := by
  intro p hp
  unfold putK at hp
  split at hp
  · obtain ⟨q, hq, rfl⟩ := List.mem_map.mp hp
    split
    · exact h q hq
    · exact h q hq
  · rcases List.mem_append.mp hp with hp | hp
    · exact h p hp
    · rw [List.mem_singleton.mp hp]
      exact hk
theorem pair_all : ∀ (more kvs : DT), (∀ p ∈ kvs, PairK p.1) → (∀ p ∈ more, PairK p.1) → ∀ p ∈ putAll kvs more, PairK p.1
  | [], _, h, _ => h
  | q :: r, kvs, h, g => pair_all r (putK kvs q.1 q.2) (pair_put h (g q List.mem_cons_self)) fun p hp => g p (List.mem_cons_of_mem _ hp)
/-- pairs of a door of the one and a door of the other -/
def crossB (ls rs : List Int) (x y : Int) : Bool := ls.any fun a => rs.any fun b => decide (min a b = x ∧ max a b = y)
theorem cross_iff {ls rs : List Int} {x y : Int} (h : x ≤ y) : crossB ls rs x y = ((ls.elem x && rs.elem y) || (ls.elem y && rs.elem x)) := by
  rw [Bool.eq_iff_iff]
  unfold crossB
  simp only [List.any_eq_true, decide_eq_true_eq, Bool.or_eq_true, Bool.and_eq_true, List.elem_iff]
  constructor
  · rintro ⟨a, ha, b, hb, e1, e2⟩
    rcases Int.le_total a b with c | c
    · rw [Int.min_eq_left c] at e1
      rw [Int.max_eq_right c] at e2
      subst e1 e2
      exact .inl ⟨ha, hb⟩
    · rw [Int.min_eq_right c] at e1
      rw [Int.max_eq_left c] at e2
      subst e1 e2
      exact .inr ⟨ha, hb⟩
  · rintro (⟨ha, hb⟩ | ⟨ha, hb⟩)
    · exact ⟨x, ha, y, hb, Int.min_eq_left h, Int.max_eq_right h⟩
    · exact ⟨y, ha, x, hb, Int.min_eq_right h, Int.max_eq_left h⟩
theorem cross_snoc (ls rs : List Int) (a x y : Int) : crossB (ls ++ [a]) rs x y = (crossB ls rs x y || crossB [a] rs x y) := by
  unfold crossB
  rw [List.any_append]
theorem cross_one (a b x y : Int) (rs : List Int) : crossB [a] (rs ++ [b]) x y = (crossB [a] rs x y || decide (keyP (min a b) (max a b) = keyP x y)) := by
  unfold crossB
  simp [keyP_inj]
/-- the keys of a form's mates -/
def MateK (f : Fm) (kvs : DT) : Prop := (∀ p ∈ kvs, PairK p.1) ∧ kvs.length ≤ f.doors.length * f.doors.length ∧ ∀ x y : Int, x ≤ y → hasK kvs (keyP x y) = metB f x y
end KQ
/-! all forms: their doors, how many; things in rows -/
namespace KQ
open PySem PySem.Spec PyProof.Rows L2 KR KM
theorem doorsN_succ (n : Nat) : doorsN (n + 1) = doorsN n ++ [((n + 1 : Nat) : Int)] := by
  unfold doorsN
  rw [List.range_succ, List.map_append]
  rfl
theorem doorsN_mem {n : Nat} {x : Int} : x ∈ doorsN n ↔ 0 ≤ x ∧ x < ((n + 1 : Nat) : Int) := by
  unfold doorsN
  rw [List.mem_map]
  constructor
  · rintro ⟨i, hi, rfl⟩
    rw [List.mem_range] at hi
    exact ⟨Int.natCast_nonneg i, Int.ofNat_lt.mpr hi⟩
  · rintro ⟨a, b⟩
    refine ⟨x.toNat, List.mem_range.mpr (by omega), ?_⟩
    show ((x.toNat : Nat) : Int) = x
    omega
theorem doorsN_nodup (n : Nat) : (doorsN n).Nodup := by
  unfold doorsN
  exact List.pairwise_map.mpr (List.Pairwise.imp (fun h e => h (Int.ofNat.inj e)) List.nodup_range)
theorem doorsN_len (n : Nat) : (doorsN n).length = n + 1 := by simp [doorsN]
theorem allF_doors : ∀ (n : Nat) (f : Fm), f ∈ allF n → f.doors.Perm (doorsN n)
  | 0, f, h => by
    rw [show f = .d 0 from List.mem_singleton.mp h]
    exact .refl _
  | n + 1, f, h => by
    obtain ⟨g, hg, h⟩ := List.mem_flatMap.mp h
    obtain ⟨r, _, h⟩ := List.mem_filterMap.mp h
    rw [doorsN_succ]
    exact (wide_doors _ _ _ _ _ h).trans ((allF_doors n g hg).append_right _)
theorem allF_small {n : Nat} (h : n < 5) : (allF n).length ≤ 472 := by
  obtain ⟨a, b, c, d, e⟩ := allF_len
  match n, h with
  | 0, _ => omega
  | 1, _ => omega
  | 2, _ => omega
  | 3, _ => omega
  | 4, _ => omega
theorem allF_small4 {n : Nat} (h : n < 4) : (allF n).length ≤ 52 := by
  obtain ⟨a, b, c, d, e⟩ := allF_len
  match n, h with
  | 0, _ => omega
  | 1, _ => omega
  | 2, _ => omega
  | 3, _ => omega
theorem bitRows_mem : ∀ (n : Nat) (r : List Int), r ∈ bitRows n → r.length = n ∧ ∀ x ∈ r, x = 0 ∨ x = 1
  | 0, r, h => by
    rw [show r = [] from List.mem_singleton.mp h]
    exact ⟨rfl, fun x hx => by cases hx⟩
  | n + 1, r, h => by
    obtain ⟨q, hq, h⟩ := List.mem_flatMap.mp h
    obtain ⟨a, b⟩ := bitRows_mem n q hq
    have key : ∀ z : Int, z = 0 ∨ z = 1 → (q ++ [z]).length = n + 1 ∧ ∀ x ∈ q ++ [z], x = 0 ∨ x = 1 := fun z hz => by
      refine ⟨by rw [List.length_append, a]; rfl, fun x hx => ?_⟩
      rcases List.mem_append.mp hx with hx | hx
      · exact b x hx
      · rw [List.mem_singleton.mp hx]
        exact hz
    rcases List.mem_cons.mp h with rfl | h
    · exact key 0 (.inl rfl)
    · rw [List.mem_singleton.mp h]
      exact key 1 (.inr rfl)
theorem bitRows_len (n : Nat) : (bitRows n).length = 2 ^ n := by
  induction n with
  | zero => rfl
  | succ n ih =>
    have : ∀ l : List (List Int), (l.flatMap fun r => [r ++ [(0 : Int)], r ++ [1]]).length = 2 * l.length := fun l => by
      induction l with
      | nil => rfl
      | cons x r ih =>
        rw [List.flatMap_cons, List.length_append, ih]
        show 2 + 2 * r.length = 2 * (r.length + 1)
        omega
    show ((bitRows n).flatMap _).length = _
    rw [this, ih, Nat.pow_succ]
    omega
theorem bitRows_small {n : Nat} (h : n ≤ 4) : (bitRows n).length ≤ 16 := by
  rw [bitRows_len]
  exact Nat.pow_le_pow_right (by decide) h
/-- what is told door by door -/
def toldF (n : Nat) : List (Option Fm) := (allF n).flatMap fun f => (bitRows (n + 1)).map fun r => wideF (fun x => r.getD x.toNat 0) ((n + 1 : Nat) : Int) 4 f
theorem allF_told (n : Nat) : allF (n + 1) = (toldF n).filterMap id := by
  have : ∀ l : List Fm, (l.flatMap fun f => (bitRows (n + 1)).filterMap fun r => wideF (fun x => r.getD x.toNat 0) ((n + 1 : Nat) : Int) 4 f) = (l.flatMap fun f => (bitRows (n + 1)).map fun r => wideF (fun x => r.getD x.toNat 0) ((n + 1 : Nat) : Int) 4 f).filterMap id := fun l => by
    induction l with
    | nil => rfl
    | cons x r ih =>
      rw [List.flatMap_cons, List.flatMap_cons, List.filterMap_append, ih, List.filterMap_map]
      rfl
  exact this _
theorem flat_take {α β : Type} (f : α → List β) (l : List α) (i : Nat) : ((l.take i).flatMap f).length ≤ (l.flatMap f).length := by
  have := congrArg (fun m => (m.flatMap f).length) (List.take_append_drop i l)
  simp only [List.flatMap_append, List.length_append] at this
  omega
theorem flat_len {α β : Type} {f : α → List β} {k : Nat} : ∀ {l : List α}, (∀ x ∈ l, (f x).length ≤ k) → (l.flatMap f).length ≤ l.length * k
  | [], _ => Nat.zero_le _
  | x :: r, h => by
    rw [List.flatMap_cons, List.length_append, List.length_cons, Nat.succ_mul]
    have := flat_len fun y hy => h y (List.mem_cons_of_mem x hy)
    have := h x List.mem_cons_self
    omega
theorem flat_room {α β : Type} {f : α → List β} {l : List α} {i : Nat} {x : α} (h : l[i]? = some x) (j : Nat) : ((l.take i).flatMap f ++ (f x).take j).length ≤ (l.flatMap f).length := by
  have a := flat_take f l (i + 1)
  rw [take_snoc h, List.flatMap_append, List.length_append] at a
  have b : ([x].flatMap f).length = (f x).length := by simp
  rw [List.length_append, List.length_take]
  omega
/-! things that stand for others, row by row -/
def Rs {α : Type} (R : Hp → V → α → Prop) (H : Hp) (vs : List V) (as : List α) : Prop := vs.length = as.length ∧ ∀ (i : Nat) (v : V), vs[i]? = some v → ∃ a, as[i]? = some a ∧ R H v a
section
variable {α : Type} {R : Hp → V → α → Prop} {H H' : Hp} {vs us : List V} {as bs : List α}
theorem Rs.nil : Rs R H [] [] := ⟨rfl, fun i v h => by cases h⟩
theorem Rs.map (h : Rs R H vs as) (k : ∀ v a, R H v a → R H' v a) : Rs R H' vs as := ⟨h.1, fun i v e => let ⟨a, x, y⟩ := h.2 i v e; ⟨a, x, k v a y⟩⟩
theorem Rs.app (h : Rs R H vs as) (k : Rs R H us bs) : Rs R H (vs ++ us) (as ++ bs) := by
  refine ⟨by rw [List.length_append, List.length_append, h.1, k.1], fun i v e => ?_⟩
  rcases Nat.lt_or_ge i vs.length with l | l
  · rw [List.getElem?_append_left l] at e
    rw [List.getElem?_append_left (by rw [← h.1]; exact l)]
    exact h.2 i v e
  · rw [List.getElem?_append_right l] at e
    rw [List.getElem?_append_right (by rw [← h.1]; exact l), ← h.1]
    exact k.2 _ v e
theorem Rs.one {v : V} {a : α} (h : R H v a) : Rs R H [v] [a] := by
  refine ⟨rfl, fun i u e => ?_⟩
  match i, e with
  | 0, e =>
    cases e
    exact ⟨a, rfl, h⟩
theorem Rs.back (h : Rs R H vs as) {i : Nat} {a : α} (e : as[i]? = some a) : ∃ v, vs[i]? = some v ∧ R H v a := by
  have l := (List.getElem?_eq_some_iff.mp e).1
  rw [← h.1] at l
  obtain ⟨b, x, y⟩ := h.2 i vs[i] (List.getElem?_eq_getElem l)
  rw [e] at x
  cases x
  exact ⟨_, List.getElem?_eq_getElem l, y⟩
end
/-- as before, but for a list that grows -/
theorem FH.upd {H : Hp} {v : V} {f : Fm} {D : Addr} {xs : List V} {o : HO} (h : FH H v f) (e : H D = some (.lst xs)) : FH (L2.upd H D o) v f := by
  induction h with
  | d n => exact .d n
  | @t a w l r vl vr ea _ _ il ir => exact .t (by rw [upd_ne (fun z => by rw [z, e] at ea; cases ea)]; exact ea) il ir
def RowV (H : Hp) (v : V) (r : List Int) : Prop := ∃ t, v = .ref t ∧ H t = some (.tup (r.map V.int))
theorem RowV.mono {H H' : Hp} {v : V} {r : List Int} (h : RowV H v r) (s : Same H H') : RowV H' v r := let ⟨t, a, b⟩ := h; ⟨t, a, s _ _ b⟩
theorem RowV.upd {H : Hp} {v : V} {r : List Int} {D : Addr} {xs : List V} {o : HO} (h : RowV H v r) (e : H D = some (.lst xs)) : RowV (L2.upd H D o) v r := by
  obtain ⟨t, a, b⟩ := h
  exact ⟨t, a, by rw [upd_ne (fun z => by rw [z, e] at b; cases b)]; exact b⟩
abbrev FHs := Rs FH
end KQ
/-! limbs as they are, with their least doors -/
namespace KQ
open PySem PySem.Spec PyProof.Rows L2 KR KM
def rawF (w : Bool) : Fm → List Fm
  | .d n => [.d n]
  | .t v l r => if v = w then rawF w l ++ rawF w r else [.t v l r]
/-- the least of some numbers -/
def IsLeast (m : Int) (ds : List Int) : Prop := m ∈ ds ∧ ∀ y ∈ ds, m ≤ y
theorem IsLeast.uniq {m n : Int} {ds : List Int} (a : IsLeast m ds) (b : IsLeast n ds) : m = n := by
  have := a.2 n b.1
  have := b.2 m a.1
  omega
def minD (f : Fm) : Int := match f with
  | .d n => n
  | .t w l r => leastL (Fm.t w l r).own
theorem own_least : ∀ f : Fm, (∀ p ∈ f.own, IsLeast p.1 p.2.doors) ∧ IsLeast (minD f) f.doors := by
  have leastOf : ∀ (f : Fm), (∀ p ∈ f.own, IsLeast p.1 p.2.doors) → IsLeast (leastL f.own) f.doors := fun f h => by
    obtain ⟨⟨x, hx, ex⟩, lx⟩ := leastL_ok f.own f.own_some
    have pd := own_doors f
    refine ⟨pd.mem_iff.mp (List.mem_flatMap.mpr ⟨x, hx, by rw [← ex]; exact (h x hx).1⟩), fun y hy => ?_⟩
    obtain ⟨p, hp, hy⟩ := List.mem_flatMap.mp (pd.mem_iff.mpr hy)
    have a := (h p hp).2 y hy
    have b := lx p hp
    omega
  have hand : ∀ (a : Option Bool) (f : Fm), (∀ p ∈ f.own, IsLeast p.1 p.2.doors) → ∀ p ∈ handF a f f.own, IsLeast p.1 p.2.doors := fun a f h p hp => by
    cases f with
    | d n => exact h p hp
    | t w l r =>
      by_cases c : a = some w
      · rw [show handF a (Fm.t w l r) (Fm.t w l r).own = (Fm.t w l r).own from if_pos c] at hp
        exact h p hp
      · rw [show handF a (Fm.t w l r) (Fm.t w l r).own = [(leastL (Fm.t w l r).own, bracketF w (sortF (Fm.t w l r).own))] from if_neg c] at hp
        rw [List.mem_singleton.mp hp]
        have := leastOf _ h
        have pd := (bracket_sorted w (Fm.own_some (.t w l r))).trans (own_doors (.t w l r))
        exact ⟨pd.mem_iff.mpr this.1, fun y hy => this.2 y (pd.mem_iff.mp hy)⟩
  intro f
  induction f with
  | d n =>
    refine ⟨fun p hp => ?_, List.mem_cons_self, fun y hy => ?_⟩
    · rw [List.mem_singleton.mp hp]
      exact ⟨List.mem_cons_self, fun y hy => by rw [List.mem_singleton.mp hy]; exact Int.le_refl _⟩
    · rw [List.mem_singleton.mp hy]
      exact Int.le_refl _
  | t w l r il ir =>
    have h : ∀ p ∈ (Fm.t w l r).own, IsLeast p.1 p.2.doors := fun p hp => by
      rcases List.mem_append.mp (show p ∈ handF (some w) l l.own ++ handF (some w) r r.own from hp) with hp | hp
      · exact hand _ l il.1 p hp
      · exact hand _ r ir.1 p hp
    exact ⟨h, leastOf _ h⟩
theorem limbs_raw (w : Bool) : ∀ f : Fm, limbsF (some w) f = (rawF w f).map fun g => (minD g, plainF g)
  | .d n => rfl
  | .t v l r => by
    by_cases c : v = w
    · subst c
      rw [limbsF_in, limbs_raw v l, limbs_raw v r, ← List.map_append]
      congr 1
      exact (if_pos rfl).symm
    · rw [show limbsF (some w) (Fm.t v l r) = [(leastL (Fm.t v l r).own, bracketF v (sortF (Fm.t v l r).own))] from if_neg fun z => c (Option.some.inj z).symm, show rawF w (Fm.t v l r) = [.t v l r] from if_neg c]
      rfl
theorem plain_raw (w : Bool) (l r : Fm) : plainF (.t w l r) = bracketF w (sortF ((rawF w (.t w l r)).map fun g => (minD g, plainF g))) := by
  rw [← limbs_raw, show limbsF (some w) (Fm.t w l r) = (Fm.t w l r).own from if_pos rfl]
  rfl
theorem raw_doors (w : Bool) : ∀ f : Fm, (rawF w f).flatMap Fm.doors = f.doors
  | .d n => rfl
  | .t v l r => by
    unfold rawF
    split
    · rw [List.flatMap_append, raw_doors w l, raw_doors w r]
      rfl
    · exact List.append_nil _
theorem raw_deep (w : Bool) : ∀ (f g : Fm), g ∈ rawF w f → g.deep ≤ f.deep
  | .d n, g, h => by
    rw [List.mem_singleton.mp h]
    exact Nat.le_refl _
  | .t v l r, g, h => by
    unfold rawF at h
    split at h
    · show _ ≤ max l.deep r.deep + 1
      rcases List.mem_append.mp h with h | h
      · have := raw_deep w l g h
        omega
      · have := raw_deep w r g h
        omega
    · rw [List.mem_singleton.mp h]
      exact Nat.le_refl _
theorem raw_less {w : Bool} {l r g : Fm} (h : g ∈ rawF w (.t w l r)) : g.deep < (Fm.t w l r).deep := by
  rw [show rawF w (Fm.t w l r) = rawF w l ++ rawF w r from if_pos rfl] at h
  show _ < max l.deep r.deep + 1
  rcases List.mem_append.mp h with h | h
  · have := raw_deep w l g h
    omega
  · have := raw_deep w r g h
    omega
theorem raw_sub {w : Bool} {f g : Fm} (h : g ∈ rawF w f) : g.doors.Sublist f.doors := by
  rw [← raw_doors w f]
  obtain ⟨a, b, e⟩ := List.append_of_mem h
  rw [e, List.flatMap_append, List.flatMap_cons]
  exact (List.sublist_append_left _ _).trans (List.sublist_append_right _ _)
theorem raw_len (w : Bool) (f : Fm) : (rawF w f).length ≤ f.doors.length := by
  have : ∀ ls : List Fm, ls.length ≤ (ls.flatMap Fm.doors).length := fun ls => by
    induction ls with
    | nil => exact Nat.le_refl _
    | cons x r ih =>
      rw [List.flatMap_cons, List.length_append, List.length_cons]
      have := doors_pos x
      omega
  have := this (rawF w f)
  rw [raw_doors] at this
  exact this
theorem raw_nodup {w : Bool} {f : Fm} (n : f.doors.Nodup) : (((rawF w f).map fun g => (minD g, plainF g)).map (·.1)).Nodup := by
  rw [← limbs_raw]
  exact limbsF_nodup n
theorem plain_doors (f : Fm) : (plainF f).doors.Perm f.doors := by
  cases f with
  | d n => exact .refl _
  | t w l r => exact (bracket_sorted w (Fm.own_some _)).trans (own_doors _)
end KQ
/-! min(xs) of pairs: a whole number, no two alike, and anything -/
namespace SrtO
open PySem PyProof PyProof.Rows PySem.MeetsSeq L2 HT
theorem pair_ltAt (l b : Addr) (a a' y y' : Value) (e r : Bool) (n n2 : Nat) (dd dd2 : Option Addr) (sl sl2 : Array (Option Value)) :
    Meets (Builtin.«tuple.__lt__» ⟨[.ref l, .ref b], []⟩)
      (fun A R s => s.heap.get? l = some { cls := .type "tuple", dict := dd, data := .seq #[a, y] n, slots := sl } ∧ s.heap.get? b = some { cls := .type "tuple", dict := dd2, data := .seq #[a', y'] n2, slots := sl2 } ∧
        SeqAt.EqAt A.in1 s a a' e ∧ (e = false → SeqAt.RcLt A.in1 s a a' r) ∧ (e = true → y = y' ∧ r = false) ∧ R (.ok (.ret (.bool r))) s) :=
  .of_wp fun prog w A R s h => by
    obtain ⟨hp, g, d, tk, os⟩ := s; obtain ⟨hl, hb, h1, h2, he, h⟩ := h
    have f2 := AutoSeq1.sub_tuple_tuple
    wp_walk using wpAny_loadPart' hl, wpAny_loadPart' hb, wpAny_forIn_list _ (fun rest c s' => c.1 = none ∧ s' = ⟨hp, g, d, tk, os⟩ ∧
      (rest = [(a, a'), (y, y')] ∨ (rest = [(y, y')] ∧ e = true) ∨ (rest = [] ∧ e = true))) _
    case turn =>
      rintro ⟨u, v⟩ rest c s' ⟨hc, rfl, hz⟩
      rcases hz with hz | ⟨hz, ex⟩ | ⟨hz, _⟩
      · cases hz
        refine wpAny_bind (h1 prog w _ _ ?_)
        cases hy : e with
        | true =>
          wp_walk
          exact ⟨rfl, rfl, Or.inr (Or.inl ⟨rfl, rfl⟩)⟩
        | false =>
          have h3 := h2 hy prog w
          wp_walk using h3
          exact ⟨_, rfl, h⟩
      · cases hz
        obtain ⟨ey, _⟩ := he ex
        subst ey
        refine wpAny_bind (SeqAt.EqAt.same y prog w _ _ ?_)
        wp_walk
        exact ⟨rfl, rfl, Or.inr (Or.inr ⟨rfl, ex⟩)⟩
      · cases hz
    case fin =>
      rintro ⟨b1, b2⟩ s' ⟨hb', rfl, hz⟩
      simp only at hb'
      subst hb'
      rcases hz with hz | ⟨hz, _⟩ | ⟨_, ex⟩
      · cases hz
      · cases hz
      · rw [(he ex).2] at h
        wp_walk
        exact ⟨_, rfl, by simpa [Builtin.Tuple.tupleCompareSizes] using h⟩
    case h =>
      exact ⟨rfl, rfl, Or.inl rfl⟩
section
variable {prog : Program} {w : World} {A : Around} {E : Value → Shared → Prop} {s : Shared}
theorem pair_rcLt {v v' : Value} {x x' : Int} {y y' : Value} {Q : Value → Shared → Prop} (p : IsPairU s.heap v x y) (p' : IsPairU s.heap v' x' y') (hu : A.units < cLine) (he : x = x' → y = y') (h : Q (.bool (decide (x < x'))) s) :
    wpAny (model prog w) A (richCompare .Lt v v') Q E s := by
  obtain ⟨l, ⟨cls, dd, data, sl⟩, t, n, rfl, ho, hc, hd⟩ := p
  obtain ⟨b, ⟨cls2, dd2, data2, sl2⟩, t', n2, rfl, ho2, hc2, hd2⟩ := p'
  simp only at hc hd hc2 hd2
  subst hc hd hc2 hd2
  exact richCompare_meets_room (op := .Lt) ⟨_, ho, rfl⟩ ⟨_, ho2, rfl⟩ F.slot_tuple_lt F.entry_tuple_lt (F.args_tuple_lt_2 _ _) (pair_ltAt l b (.int x t) (.int x' t') y y' (x == x') (decide (x < x')) n n2 dd dd2 sl sl2)
    ⟨ho, ho2, SeqAt.EqAt.int_int x t x' t', (fun _ prog w E Q h => rcLt_int _ _ x t x' t' prog w E Q h), (fun ex => by
      have ex : x = x' := by simpa using ex
      exact ⟨he ex, decide_eq_false (by omega)⟩), show Value.bool (decide (x < x')) ≠ Value.notImplemented ∧ Q (.bool (decide (x < x'))) s from ⟨(fun x => nomatch x), h⟩⟩ hu
end
end SrtO
namespace KR
open PySem PySem.Spec PyProof.Rows L2 KM KQ
theorem argBest_least (f : Nat → Int) : ∀ k, argBest (fun i j => decide (f i < f j)) k ≤ k ∧ ∀ j, j ≤ k → f (argBest (fun i j => decide (f i < f j)) k) ≤ f j
  | 0 => ⟨Nat.le_refl _, fun j hj => by rw [Nat.le_zero.mp hj]; exact Int.le_refl _⟩
  | k + 1 => by
    obtain ⟨h1, h2⟩ := argBest_least f k
    show (if decide (f (k + 1) < f (argBest (fun i j => decide (f i < f j)) k)) = true then k + 1 else argBest (fun i j => decide (f i < f j)) k) ≤ k + 1 ∧ _
    by_cases c : f (k + 1) < f (argBest (fun i j => decide (f i < f j)) k)
    · have e : argBest (fun i j => decide (f i < f j)) (k + 1) = k + 1 := if_pos (decide_eq_true c)
      rw [e, if_pos (decide_eq_true c)]
      refine ⟨Nat.le_refl _, fun j hj => ?_⟩
      rcases Nat.lt_or_ge j (k + 1) with l | l
      · have := h2 j (by omega)
        omega
      · rw [show j = k + 1 by omega]
        exact Int.le_refl _
    · have e : argBest (fun i j => decide (f i < f j)) (k + 1) = argBest (fun i j => decide (f i < f j)) k := if_neg (fun w => c (of_decide_eq_true w))
      rw [e, if_neg (fun w => c (of_decide_eq_true w))]
      refine ⟨by omega, fun j hj => ?_⟩
      rcases Nat.lt_or_ge j (k + 1) with l | l
      · exact h2 j (by omega)
      · rw [show j = k + 1 by omega]
        omega
def rMinPU (K : PySem.W.Frag) : List V → Hp → VK → Prop := fun vs H Q => ∃ (a : Addr) (xs : List PU), vs = [V.ref a] ∧ SqL K H a (xs.map fun x => V.ref x.2.2) ∧ (∀ x ∈ xs, SqT K H x.2.2 [.int x.1, x.2.1]) ∧ (xs.map (·.1)).Nodup ∧ 0 < xs.length ∧
  ∀ m ∈ xs, (∀ y ∈ xs, m.1 ≤ y.1) → Q (.ref m.2.2) H
section
variable {X : Cx}
theorem cr_minPU {K : PySem.W.Frag} (hK : X.K = K) (hc : X.calm = true) (hu : X.A.units + 64 < cLine) : CallR X (.builtin "min") (rMinPU K) := by
  subst hK
  intro pins s σ H vs us Q I r h
  obtain ⟨a, xs, rfl, hs, ht, nd, hne, q⟩ := h
  obtain ⟨its, rv, hl, hz⟩ := I.list hs
  rw [Vals.ref1 r]
  have ei := refsU rv
  subst ei
  have key : ∀ x ∈ xs, ∃ u, SrtO.IsPairU s.heap (.ref x.2.2) x.1 u := fun x hx => by
    obtain ⟨it2, r2, ⟨o, ho, hc, n, hd⟩, _⟩ := I.tuple (ht x hx)
    cases r2 with
    | cons ra rb =>
      cases rb with
      | cons rc rd =>
        cases rd
        obtain ⟨t, rfl⟩ := ra
        rename_i u2
        exact ⟨u2, x.2.2, o, t, n, rfl, ho, hc, hd⟩
  have f1 : ∀ i (h : i < xs.length), (xs.map (·.1)).getD i 0 = xs[i].1 := fun i h => by
    rw [List.getD_eq_getElem?_getD, List.getElem?_map, List.getElem?_eq_getElem h]
    rfl
  have sz : (xs.map fun x => Value.ref x.2.2).toArray.size = xs.length := by
    show (xs.map fun x => Value.ref x.2.2).length = xs.length
    exact List.length_map _
  have at' : ∀ i v, (xs.map fun x => Value.ref x.2.2).toArray[i]? = some v → ∃ h : i < xs.length, v = .ref xs[i].2.2 := fun i v e => by
    have e : (xs.map fun x => Value.ref x.2.2)[i]? = some v := by simpa using e
    obtain ⟨h, e⟩ := List.getElem?_eq_some_iff.mp e
    rw [List.length_map] at h
    rw [List.getElem_map] at e
    exact ⟨h, e.symm⟩
  refine call_min_walkH (PySem.W.iter_listW (A := X.A.in1) (I.ok.hd hc) hl.isList fun s₂ e W st hfp hw hk => ?_)
  refine ⟨_, _, _, _, _, _, _, s.heap, fun i j => decide ((xs.map (·.1)).getD i 0 < (xs.map (·.1)).getD j 0), rfl, W, st, hfp, by rw [sz]; exact hne, hw, hk, ?_, fun v s' hP m => ?_⟩
  · intro i j vi vj s3 Q3 E3 kk hi hj hQ
    obtain ⟨il, rfl⟩ := at' i vi hi
    obtain ⟨jl, rfl⟩ := at' j vj hj
    obtain ⟨u1, p1⟩ := key _ (List.getElem_mem il)
    obtain ⟨u2, p2⟩ := key _ (List.getElem_mem jl)
    have p1 := p1.keeps (h' := s3.heap) fun b o e _ => kk b o e
    have p2 := p2.keeps (h' := s3.heap) fun b o e _ => kk b o e
    have hQ : Q3 (.bool (decide (xs[i].1 < xs[j].1))) s3 := by
      rw [← f1 i il, ← f1 j jl]
      exact hQ
    refine SrtO.pair_rcLt p1 p2 (Nat.lt_of_le_of_lt (Nat.add_le_add_left (show 1 ≤ 64 by decide) _) hu) (fun ex => ?_) hQ
    have ij : i = j := by
      have lp := List.pairwise_iff_getElem.mp nd
      rcases Nat.lt_trichotomy i j with l | l | l
      · have := lp i j (by rw [List.length_map]; exact il) (by rw [List.length_map]; exact jl) l
        rw [List.getElem_map, List.getElem_map] at this
        exact absurd ex this
      · exact l
      · have := lp j i (by rw [List.length_map]; exact jl) (by rw [List.length_map]; exact il) l
        rw [List.getElem_map, List.getElem_map] at this
        exact absurd ex.symm this
    subst ij
    obtain ⟨a1, o1, t1, n1, e1, ho1, hc1, hd1⟩ := p1
    obtain ⟨a2, o2, t2, n2, e2, ho2, hc2, hd2⟩ := p2
    have ea : a1 = a2 := by
      have := e1.symm.trans e2
      cases this
      rfl
    subst ea
    rw [ho1] at ho2
    cases ho2
    rw [hd1] at hd2
    cases hd2
    rfl
  · obtain ⟨h', tk, rfl, hk'⟩ := PySem.W.moved_old e rfl m
    obtain ⟨bl, ev⟩ := at' _ v hP
    obtain ⟨b1, b2⟩ := argBest_least (fun i => (xs.map (·.1)).getD i 0) ((xs.map fun x => Value.ref x.2.2).toArray.size - 1)
    have hm := q _ (List.getElem_mem bl) (fun y hy => by
      obtain ⟨j, jl, rfl⟩ := List.mem_iff_getElem.mp hy
      have := b2 j (by rw [sz]; omega)
      rw [f1 _ bl, f1 j jl] at this
      exact this)
    refine ⟨_, H, I.kept hk', ?_, hm⟩
    rw [ev]
    exact rfl
end
end KR
namespace KQ
open PySem PySem.Spec PyProof.Rows L2 KR KM
section
variable {P : Program} {w : World} {K : PySem.W.Frag} {mg : Str → Option Value} {base : Heap}
theorem PFs.app {H : Hp} {ts us : List Addr} {ls ms : List (Int × Fm)} (a : PFs H ts ls) (b : PFs H us ms) : PFs H (ts ++ us) (ls ++ ms) := by
  refine ⟨by rw [List.length_append, List.length_append, a.1, b.1], fun i t ht => ?_⟩
  rcases Nat.lt_or_ge i ts.length with l | l
  · rw [List.getElem?_append_left l] at ht
    rw [List.getElem?_append_left (by rw [← a.1]; exact l)]
    exact a.2 i t ht
  · rw [List.getElem?_append_right l] at ht
    rw [List.getElem?_append_right (by rw [← a.1]; exact l), ← a.1]
    exact b.2 _ t ht
theorem str_shaped {x : Str} (h : PyData.strOk x = true) : SeqAt.shaped (PyData.str x) = true := by
  simp [SeqAt.shaped, PyData.canLay0, PyData.depth, h]
theorem str_eqv (x : Str) : PyData.eqv (.str x) (.str x) = true := by
  simp [PyData.eqv]
theorem str_nev {x y : Str} (h : x ≠ y) : PyData.eqv (.str x) (.str y) = false := by
  simpa [PyData.eqv] using h
abbrev s_limbs_of : Stmt := topS 12
theorem sc_limbs_of : FnScope ["form", "word", "limbs", "least", "_"] ["form", "word"] (defScope s_limbs_of) := ⟨rfl, rfl, rfl, by decide +kernel, rfl, by decide +kernel, by decide +kernel⟩
/-- the word that is asked: one of the two, or another -/
def WordIs (x : Str) (a : Option Bool) : Prop := PyData.strOk x = true ∧ ∀ w, x = Fm.word w ↔ a = some w
def spLimbs (k : Nat) : Sp := fun vs H Q _ => ∃ (v : V) (f : Fm) (x : Str) (a : Option Bool), vs = [v, .str x] ∧ FH H v f ∧ WordIs x a ∧ f.doors.length ≤ 1000 ∧ f.doors.Nodup ∧ 2 * f.deep < k ∧ (∀ w l r, f = .t w l r → a ≠ some w → 2 * f.deep + 1 < k) ∧
  ∀ H' l ts, Same H H' → H l = none → H' l = some (.lst (ts.map V.ref)) → PFs H' ts (limbsF a f) → Q (.ref l) H'
theorem wordIs (w : Bool) : WordIs (Fm.word w) (some w) := ⟨by cases w <;> decide +kernel, fun w' => by
  cases w <;> cases w' <;> decide⟩
theorem ok_limbs (D : DefAt K mg "limbs_of" s_limbs_of) (T : Bt mg) (u_is_leaf : Use P w K mg base "is_leaf" 1 ["form"] spLeaf) (u_bracketed : Use P w K mg base "bracketed" 1 ["word", "limbs"] spBr) : ∀ k : Nat, Use P w K mg base "limbs_of" (k + 2) ["form", "word"] (spLimbs k) := by
  intro k
  induction k with
  | zero =>
    refine use_of D (fun f fd F => F.ok sc_limbs_of (fun vs H Q E h => ?_) (fun cdv A outer s H vs Q E hr h => ?_)) (fun _ _ _ _ _ _ us hl => match us, hl with | [_, _], _ => rfl)
    · obtain ⟨v, f, x, a, rfl, _⟩ := h
      rfl
    · obtain ⟨v, f, x, a, rfl, hf, _, _, _, dk, _⟩ := h
      exact absurd dk (Nat.not_lt_zero _)
  | succ k ih =>
    have u_limbs_of := ih
    refine use_of D (fun f fd F => F.ok sc_limbs_of (fun vs H Q E h => ?_) (fun cdv A outer s H vs Q E hr h => ?_)) (fun _ _ _ _ _ _ us hl => match us, hl with | [_, _], _ => rfl)
    · obtain ⟨v, f, x, a, rfl, _⟩ := h
      rfl
    · obtain ⟨v, f, x, aw, rfl, hf, hx, sm, nd, dk, dk2, q⟩ := h
      refine ⟨_, (pss_cons (ps_if (pt_val (pe_use u_is_leaf (by omega) hr (by rfl) (pa_cons (pv 0) pa_nil))) (pss_one (ps_ret (pe_lst (pa_cons (pe_tup (pa_cons (pv 0) (pa_cons (pv 0) pa_nil))) pa_nil)))) pss_nil)
      (pss_cons (ps_if (pt_cmpR (k_eqD (K := K) rfl hr.units) (pe_ix (k_ixt (K := K) rfl) (pv 0) pe_int (fun _ _ => rfl)) (pv 1) (nomark _)) (pss_one (ps_ret (pe_op op_cat (pe_use u_limbs_of (by omega) hr (by rfl) (pa_cons (pe_ix (k_ixt (K := K) rfl) (pv 0) pe_int (fun _ _ => rfl)) (pa_cons (pv 1) pa_nil))) (pe_use u_limbs_of (by omega) hr (by rfl) (pa_cons (pe_ix (k_ixt (K := K) rfl) (pv 0) pe_int (fun _ _ => rfl)) (pa_cons (pv 1) pa_nil)))))) pss_nil)
      (pss_cons (ps_set (i := 2) sc_limbs_of.nd rfl (Or.inl rfl) (pe_use u_limbs_of (by omega) hr (by rfl) (pa_cons (pv 0) (pa_cons (pe_ix (k_ixt (K := K) rfl) (pv 0) pe_int (fun _ _ => rfl)) pa_nil))))
      (pss_cons (ps_asg (pe_callB (cr_minPU (K := K) rfl rfl hr.units) (by rfl) T.min (by decide +kernel) (pa_cons (pv 2) pa_nil)) (pg_tup rfl (pgs_cons (pg_name (i := 3) sc_limbs_of.nd rfl (Or.inl rfl)) (pgs_cons (pg_name (i := 4) sc_limbs_of.nd rfl (Or.inl rfl)) pgs_nil))))
      (pss_one (ps_ret (pe_lst (pa_cons (pe_tup (pa_cons (pv 3) (pa_cons (pe_use u_bracketed (by omega) hr (by rfl) (pa_cons (pe_ix (k_ixt (K := K) rfl) (pv 0) pe_int (fun _ _ => rfl)) (pa_cons (pv 2) pa_nil))) pa_nil))) pa_nil)))))))), ?_⟩
      cases hf with
      | d n =>
        refine ⟨_, rfl, _, _, rfl, .d n, _, rfl, ?_⟩
        refine iteT ?_
        refine ⟨_, rfl, _, rfl, by show 2 ≤ sizeLine; decide, fun p np => ?_⟩
        have sp := same_new (H := H) (o := .tup [V.int n, V.int n]) np
        refine ⟨by show 1 ≤ sizeLine; decide, fun l nl => ?_⟩
        have sl := same_new (H := upd H p (.tup [V.int n, V.int n])) (o := .lst [V.ref p]) nl
        refine q _ l [p] (sp.trans sl) (sp.free nl) upd_same ⟨rfl, fun i t ht => ?_⟩
        match i, ht with
        | 0, ht =>
          cases ht
          exact ⟨(n, .d n), .int n, rfl, sl _ _ upd_same, .d n⟩
      | @t a w l r vl vr e hl hr2 =>
        refine ⟨_, rfl, _, _, rfl, .t e hl hr2, _, rfl, ?_⟩
        refine iteF ?_
        refine ⟨_, rfl, a, _, 0, _, rfl, rfl, .inl (.inl e), rfl, _, rfl, ?_⟩
        refine ⟨_, _, .str _, .str _, ?_⟩
        have d1 : 2 * (max l.deep r.deep + 1) < k + 1 := dk
        have s1 : (l.doors ++ r.doors).length ≤ 1000 := sm
        rw [List.length_append] at s1
        obtain ⟨ndl, ndr, _⟩ := List.nodup_append.mp (show (l.doors ++ r.doors).Nodup from nd)
        by_cases ha : aw = some w
        · subst ha
          obtain rfl := (hx.2 w).mpr rfl
          refine ⟨str_shaped (wordIs w).1, str_shaped hx.1, true, congrArg V.bl (str_eqv _), ?_⟩
          refine iteT ?_
          refine ⟨_, rfl, a, _, 1, _, rfl, rfl, .inl (.inl e), rfl, _, rfl, vl, l, _, some w, rfl, hl, hx, by omega, ndl, by omega, (fun w' l' r' e' _ => by omega), fun H1 l1 ts1 t1 n1 e1 p1 => ?_⟩
          refine ⟨_, rfl, a, _, 2, _, rfl, rfl, .inl (.inl (t1 _ _ e)), rfl, _, rfl, vr, r, _, some w, rfl, hr2.mono t1, hx, by omega, ndr, by omega, (fun w' l' r' e' _ => by omega), fun H2 l2 ts2 t2 n2 e2 p2 => ?_⟩
          have c1 := limbsF_len (some w) l
          have c2 := limbsF_len (some w) r
          refine ⟨l1, l2, _, _, rfl, rfl, t2 _ _ e1, e2, ?_, fun p np => ?_⟩
          · rw [List.length_map, List.length_map, p1.1, p2.1, sizeLine_eq]
            omega
          · refine q _ p (ts1 ++ ts2) ((t1.trans t2).trans (same_new np)) ((t1.trans t2).free np) ?_ ?_
            · rw [upd_same, List.map_append]
            · rw [limbsF_in]
              exact ((p1.mono t2).mono (same_new np)).app (p2.mono (same_new np))
        · refine ⟨str_shaped (wordIs w).1, str_shaped hx.1, false, congrArg V.bl (str_nev fun z => ha ((hx.2 w).mp z.symm)), ?_⟩
          refine iteF ?_
          have dk3 := dk2 w l r rfl ha
          refine ⟨_, rfl, _, rfl, a, _, 0, _, rfl, rfl, .inl (.inl e), rfl, .ref a, .t w l r, _, some w, rfl, .t e hl hr2, wordIs w, sm, nd, by omega, (fun w' l' r' e' z => by cases e'; exact absurd rfl z), fun H1 l1 ts1 t1 n1 e1 p1 => ?_⟩
          obtain ⟨zs, zt, zl, zh⟩ := pfs_list p1
          have lne := limbsF_some (some w) (.t w l r)
          have llen := limbsF_len (some w) (.t w l r)
          have lnd := limbsF_nodup (a := some w) nd
          have eql := limbsF_out (l := l) (r := r) ha
          have lst := leastL_ok _ lne
          generalize limbsF (some w) (.t w l r) = L at p1 zl lne llen lnd eql lst
          have n2 : ((zs.map Prod.fst).map (·.1)).Nodup := by
            rw [← zl, List.map_map] at lnd
            rw [List.map_map]
            exact lnd
          have z0 : 0 < (zs.map Prod.fst).length := by
            rw [List.length_map]
            have : zs.length = L.length := by rw [← zl, List.length_map]
            rw [this]
            exact List.length_pos_iff.mpr lne
          refine ⟨_, rfl, l1, zs.map Prod.fst, rfl, ?_, (fun x hx => ?_), n2, z0, fun m hm le => ?_⟩
          · rw [List.map_map]
            refine sqL ?_
            rw [e1, ← zt, List.map_map]
            rfl
          · obtain ⟨z, hz, rfl⟩ := List.mem_map.mp hx
            exact .inl (.inl (zh z hz).1)
          obtain ⟨z, hz, rfl⟩ := List.mem_map.mp hm
          have em : z.1.1 = leastL L := by
            obtain ⟨⟨y, hy, ey⟩, lm⟩ := lst
            rw [← zl] at hy
            obtain ⟨u, hu, rfl⟩ := List.mem_map.mp hy
            have a1 := le u.1 (List.mem_map.mpr ⟨u, hu, rfl⟩)
            have a2 := lm (z.1.1, z.2) (by rw [← zl]; exact List.mem_map.mpr ⟨z, hz, rfl⟩)
            have a1 : z.1.1 ≤ u.1.1 := a1
            have a2 : leastL L ≤ z.1.1 := a2
            have ey : u.1.1 = leastL L := ey
            omega
          refine ⟨z.1.2.2, _, rfl, .inl (.inl (zh z hz).1), rfl, ?_⟩
          refine ⟨_, _, rfl, _, [], rfl, rfl, ?_⟩
          refine ⟨_, rfl, _, rfl, a, _, 0, _, rfl, rfl, .inl (.inl (t1 _ _ e)), rfl, _, rfl, w, l1, ts1, L, rfl, e1, p1, lne, Nat.le_trans llen sm, lnd, fun H2 v2 ms t2 pm asc fv => ?_⟩
          refine ⟨by show 2 ≤ sizeLine; decide, fun p np => ?_⟩
          have sp := same_new (H := H2) (o := .tup [V.int z.1.1, v2]) np
          refine ⟨by show 1 ≤ sizeLine; decide, fun lr nl => ?_⟩
          have sl := same_new (H := upd H2 p (.tup [V.int z.1.1, v2])) (o := .lst [V.ref p]) nl
          refine q _ lr [p] (((t1.trans t2).trans sp).trans sl) (((t1.trans t2).trans sp).free nl) upd_same ?_
          rw [eql]
          refine ⟨rfl, fun i t ht => ?_⟩
          match i, ht with
          | 0, ht =>
            cases ht
            refine ⟨(leastL L, bracketF w (sortF L)), v2, rfl, ?_, ?_⟩
            · rw [← em]
              exact sl _ _ upd_same
            · rw [← sortF_uniq pm asc lnd]
              exact (fv.mono sp).mono sl
end
end KQ
namespace KQ
open PySem PySem.Spec PyProof.Rows L2 KR KM StX
section
variable {P : Program} {w : World} {K : PySem.W.Frag} {mg : Str → Option Value} {base : Heap}
abbrev s__law_is_door : Stmt := topS 30
theorem sc__law_is_door : FnScope ["part"] ["part"] (defScope s__law_is_door) := ⟨rfl, rfl, rfl, by decide +kernel, rfl, by decide +kernel, by decide +kernel⟩
theorem ok_law_door (D : DefAt K mg "_law_is_door" s__law_is_door) (T : Bt mg) : Use P w K mg base "_law_is_door" 1 ["part"] spLeaf := by
  refine use_of D (fun f fd F => F.ok sc__law_is_door (fun vs H Q E h => ?_) (fun cdv A outer s H vs Q E hr h => ?_)) (fun _ _ _ _ _ _ us hl => match us, hl with | [_], _ => rfl)
  · obtain ⟨v, f, rfl, _⟩ := h
    rfl
  · obtain ⟨v, f, rfl, hf, q⟩ := h
    refine ⟨_, (pss_one (ps_ret (pe_callB (k_isi (K := K) rfl) (by rfl) T.isinstance (by decide +kernel) (pa_cons (pv 0) (pa_cons (pe_bltn (v := .ty "int") (by rfl) T.int (by decide +kernel) rfl) pa_nil))))), ?_⟩
    cases hf with
    | d n => exact ⟨_, rfl, _, _, _, _, true, rfl, .ty _, .base (.int n), kit_ty (by decide +kernel), q⟩
    | t e hl hr => exact ⟨_, rfl, _, _, _, _, false, rfl, .ty _, .base (.tup e), kit_ty (by decide +kernel), q⟩
abbrev s__law_leaves : Stmt := topS 31
theorem sc__law_leaves : FnScope ["form"] ["form"] (defScope s__law_leaves) := ⟨rfl, rfl, rfl, by decide +kernel, rfl, by decide +kernel, by decide +kernel⟩
theorem ok_law_leaves (D : DefAt K mg "_law_leaves" s__law_leaves) (T : Bt mg) (u__law_is_door : Use P w K mg base "_law_is_door" 1 ["part"] spLeaf) : ∀ k : Nat, Use P w K mg base "_law_leaves" (k + 1) ["form"] (spDoors k) := by
  intro k
  induction k with
  | zero =>
    refine use_of D (fun f fd F => F.ok sc__law_leaves (fun vs H Q E h => ?_) (fun cdv A outer s H vs Q E hr h => ?_)) (fun _ _ _ _ _ _ us hl => match us, hl with | [_], _ => rfl)
    · obtain ⟨v, f, rfl, _, dk, _⟩ := h
      rfl
    · obtain ⟨v, f, rfl, hf, dk, sm, q⟩ := h
      exact absurd dk (Nat.not_lt_zero _)
  | succ k ih =>
    have u__law_leaves := ih
    refine use_of D (fun f fd F => F.ok sc__law_leaves (fun vs H Q E h => ?_) (fun cdv A outer s H vs Q E hr h => ?_)) (fun _ _ _ _ _ _ us hl => match us, hl with | [_], _ => rfl)
    · obtain ⟨v, f, rfl, _⟩ := h
      rfl
    · obtain ⟨v, f, rfl, hf, dk, sm, q⟩ := h
      refine ⟨_, (pss_one (ps_ret (pe_ifExp (pt_val (pe_use u__law_is_door (by omega) hr (by rfl) (pa_cons (pv 0) pa_nil))) (pe_lst (pa_cons (pv 0) pa_nil)) (pe_op op_cat (pe_use u__law_leaves (by omega) hr (by rfl) (pa_cons (pe_ix (k_ixt (K := K) rfl) (pv 0) pe_int (fun _ _ => rfl)) pa_nil)) (pe_use u__law_leaves (by omega) hr (by rfl) (pa_cons (pe_ix (k_ixt (K := K) rfl) (pv 0) pe_int (fun _ _ => rfl)) pa_nil)))))), ?_⟩
      cases hf with
      | d n =>
        refine ⟨_, rfl, _, _, rfl, .d n, _, rfl, ?_⟩
        refine iteT ?_
        exact ⟨_, rfl, by show 1 ≤ sizeLine; decide, fun l nl => q _ l (same_new nl) nl upd_same⟩
      | @t a w l r vl vr e hl hr2 =>
        have d1 : max l.deep r.deep + 1 < k + 1 := dk
        have s1 : (l.doors ++ r.doors).length ≤ 1000 := sm
        rw [List.length_append] at s1
        refine ⟨_, rfl, _, _, rfl, .t e hl hr2, _, rfl, ?_⟩
        refine iteF ?_
        refine ⟨_, rfl, a, _, 1, _, rfl, rfl, .inl (.inl e), rfl, vl, l, rfl, hl, by omega, by omega, fun H1 l1 t1 n1 e1 => ?_⟩
        refine ⟨_, rfl, a, _, 2, _, rfl, rfl, .inl (.inl (t1 _ _ e)), rfl, vr, r, rfl, hr2.mono t1, by omega, by omega, fun H2 l2 t2 n2 e2 => ?_⟩
        refine ⟨l1, l2, _, _, rfl, rfl, t2 _ _ e1, e2, ?_, fun p np => ?_⟩
        · rw [List.length_map, List.length_map, sizeLine_eq]
          omega
        · refine q _ p ((t1.trans t2).trans (same_new np)) ((t1.trans t2).free np) ?_
          rw [upd_same, ← List.map_append]
          rfl
abbrev s__law_limbs : Stmt := topS 34
theorem sc__law_limbs : FnScope ["form", "word"] ["form", "word"] (defScope s__law_limbs) := ⟨rfl, rfl, rfl, by decide +kernel, rfl, by decide +kernel, by decide +kernel⟩
def spRaw (k : Nat) : Sp := fun vs H Q _ => ∃ (v : V) (f : Fm) (w : Bool), vs = [v, .str (Fm.word w)] ∧ FH H v f ∧ f.deep < k ∧ f.doors.length ≤ 1000 ∧ ∀ H' l us, Same H H' → H l = none → H' l = some (.lst us) → FHs H' us (rawF w f) → Q (.ref l) H'
theorem ok_law_limbs (D : DefAt K mg "_law_limbs" s__law_limbs) (T : Bt mg) (u__law_is_door : Use P w K mg base "_law_is_door" 1 ["part"] spLeaf) : ∀ k : Nat, Use P w K mg base "_law_limbs" (k + 1) ["form", "word"] (spRaw k) := by
  intro k
  induction k with
  | zero =>
    refine use_of D (fun f fd F => F.ok sc__law_limbs (fun vs H Q E h => ?_) (fun cdv A outer s H vs Q E hr h => ?_)) (fun _ _ _ _ _ _ us hl => match us, hl with | [_, _], _ => rfl)
    · obtain ⟨v, f, x, rfl, _⟩ := h
      rfl
    · obtain ⟨v, f, x, rfl, hf, dk, sm, q⟩ := h
      exact absurd dk (Nat.not_lt_zero _)
  | succ k ih =>
    have u__law_limbs := ih
    refine use_of D (fun f fd F => F.ok sc__law_limbs (fun vs H Q E h => ?_) (fun cdv A outer s H vs Q E hr h => ?_)) (fun _ _ _ _ _ _ us hl => match us, hl with | [_, _], _ => rfl)
    · obtain ⟨v, f, x, rfl, _⟩ := h
      rfl
    · obtain ⟨v, f, x, rfl, hf, dk, sm, q⟩ := h
      refine ⟨_, (pss_cons (ps_if (PW.pt (pw_or (pt_val (pe_use u__law_is_door (by omega) hr (by rfl) (pa_cons (pv 0) pa_nil))) (pw_or1 (pt_cmpR (k_neD (K := K) rfl hr.units) (pe_ix (k_ixt (K := K) rfl) (pv 0) pe_int (fun _ _ => rfl)) (pv 1) (nomark _))))) (pss_one (ps_ret (pe_lst (pa_cons (pv 0) pa_nil)))) pss_nil)
      (pss_one (ps_ret (pe_op op_cat (pe_use u__law_limbs (by omega) hr (by rfl) (pa_cons (pe_ix (k_ixt (K := K) rfl) (pv 0) pe_int (fun _ _ => rfl)) (pa_cons (pv 1) pa_nil))) (pe_use u__law_limbs (by omega) hr (by rfl) (pa_cons (pe_ix (k_ixt (K := K) rfl) (pv 0) pe_int (fun _ _ => rfl)) (pa_cons (pv 1) pa_nil))))))), ?_⟩
      have one : rawF x f = [f] → ∀ l, H l = none → Q (.ref l) (upd H l (.lst [v])) := fun e l nl => by
        refine q _ l [v] (same_new nl) nl upd_same ?_
        rw [e]
        exact .one (hf.mono (same_new nl))
      cases hf with
      | d n =>
        refine ⟨_, rfl, _, _, rfl, .d n, _, rfl, ?_⟩
        refine iteT ?_
        refine iteT ?_
        exact ⟨_, rfl, by show 1 ≤ sizeLine; decide, fun l nl => one rfl l nl⟩
      | @t a w l r vl vr e hl hr2 =>
        have d1 : max l.deep r.deep + 1 < k + 1 := dk
        have s1 : (l.doors ++ r.doors).length ≤ 1000 := sm
        rw [List.length_append] at s1
        refine ⟨_, rfl, _, _, rfl, .t e hl hr2, _, rfl, ?_⟩
        refine iteF ?_
        refine ⟨_, rfl, a, _, 0, _, rfl, rfl, .inl (.inl e), rfl, _, rfl, _, _, .str _, .str _, str_shaped (wordIs w).1, str_shaped (wordIs x).1, ?_⟩
        by_cases c : w = x
        · subst c
          refine ⟨false, congrArg V.bl (congrArg Bool.not (str_eqv _)), ?_⟩
          refine iteF ?_
          refine ⟨_, rfl, a, _, 1, _, rfl, rfl, .inl (.inl e), rfl, _, rfl, vl, l, w, rfl, hl, by omega, by omega, fun H1 l1 us1 t1 n1 e1 f1 => ?_⟩
          refine ⟨_, rfl, a, _, 2, _, rfl, rfl, .inl (.inl (t1 _ _ e)), rfl, _, rfl, vr, r, w, rfl, hr2.mono t1, by omega, by omega, fun H2 l2 us2 t2 n2 e2 f2 => ?_⟩
          have c1 := raw_len w l
          have c2 := raw_len w r
          refine ⟨l1, l2, _, _, rfl, rfl, t2 _ _ e1, e2, ?_, fun p np => ?_⟩
          · rw [f1.1, f2.1, sizeLine_eq]
            omega
          · refine q _ p _ ((t1.trans t2).trans (same_new np)) ((t1.trans t2).free np) upd_same ?_
            rw [show rawF w (Fm.t w l r) = rawF w l ++ rawF w r from if_pos rfl]
            exact (f1.map fun v a k => (k.mono t2).mono (same_new np)).app (f2.map fun v a k => k.mono (same_new np))
        · refine ⟨true, congrArg V.bl (congrArg Bool.not (str_nev fun z => c (by cases w <;> cases x <;> first | rfl | (revert z; decide)))), ?_⟩
          refine iteT ?_
          exact ⟨_, rfl, by show 1 ≤ sizeLine; decide, fun l nl => one (if_neg c) l nl⟩
end
end KQ
namespace KQ
open PySem PySem.Spec PyProof.Rows L2 KR KM StX
section
variable {P : Program} {w : World} {K : PySem.W.Frag} {mg : Str → Option Value} {base : Heap}
theorem sq6 {a b : Nat} (h : a ≤ 6) (k : b ≤ 6) : a * b ≤ 36 := Nat.mul_le_mul h k
abbrev s__law_mates : Stmt := topS 32
theorem sc__law_mates : FnScope ["form", "one", "found", "two", "more", "door", "other"] ["form"] (defScope s__law_mates) := ⟨rfl, rfl, rfl, by decide +kernel, rfl, by decide +kernel, by decide +kernel⟩
def spMates (k : Nat) : Sp := fun vs H Q _ => ∃ (v : V) (f : Fm), vs = [v] ∧ FH H v f ∧ f.deep < k ∧ f.doors.length ≤ 6 ∧ (∀ x ∈ f.doors, 0 ≤ x ∧ x < 6) ∧
  ∀ H' t l d kvs, Same H H' → H' t = some (.tup [.ref l, .ref d]) → H' l = some (.lst (f.doors.map V.int)) → H l = none → H' d = some (.dT kvs) → H d = none → MateK f kvs → Q (.ref t) H'
theorem ok_law_mates (D : DefAt K mg "_law_mates" s__law_mates) (T : Bt mg) (u__law_is_door : Use P w K mg base "_law_is_door" 1 ["part"] spLeaf) : ∀ k : Nat, Use P w K mg base "_law_mates" (k + 1) ["form"] (spMates k) := by
  intro k
  induction k with
  | zero =>
    refine use_of D (fun f fd F => F.ok sc__law_mates (fun vs H Q E h => ?_) (fun cdv A outer s H vs Q E hr h => ?_)) (fun _ _ _ _ _ _ us hl => match us, hl with | [_], _ => rfl)
    · obtain ⟨v, f, rfl, _, dk, _⟩ := h
      rfl
    · obtain ⟨v, f, rfl, hf, dk, _⟩ := h
      exact absurd dk (Nat.not_lt_zero _)
  | succ k ih =>
    have u__law_mates := ih
    refine use_of D (fun f fd F => F.ok sc__law_mates (fun vs H Q E h => ?_) (fun cdv A outer s H vs Q E hr h => ?_)) (fun _ _ _ _ _ _ us hl => match us, hl with | [_], _ => rfl)
    · obtain ⟨v, f, rfl, _⟩ := h
      rfl
    · obtain ⟨v, f, rfl, hf, dk, sm, rng, q⟩ := h
      refine ⟨_, (pss_cons (ps_if (pt_val (pe_use u__law_is_door (by omega) hr (by rfl) (pa_cons (pv 0) pa_nil))) (pss_one (ps_ret (pe_tup (pa_cons (pe_lst (pa_cons (pv 0) pa_nil)) (pa_cons (pe_dnewT) pa_nil))))) pss_nil)
      (pss_cons (ps_asg (pe_use u__law_mates (by omega) hr (by rfl) (pa_cons (pe_ix (k_ixt (K := K) rfl) (pv 0) pe_int (fun _ _ => rfl)) pa_nil)) (pg_tup rfl (pgs_cons (pg_name (i := 1) sc__law_mates.nd rfl (Or.inl rfl)) (pgs_cons (pg_name (i := 2) sc__law_mates.nd rfl (Or.inl rfl)) pgs_nil))))
      (pss_cons (ps_asg (pe_use u__law_mates (by omega) hr (by rfl) (pa_cons (pe_ix (k_ixt (K := K) rfl) (pv 0) pe_int (fun _ _ => rfl)) pa_nil)) (pg_tup rfl (pgs_cons (pg_name (i := 3) sc__law_mates.nd rfl (Or.inl rfl)) (pgs_cons (pg_name (i := 4) sc__law_mates.nd rfl (Or.inl rfl)) pgs_nil))))
      (pss_cons (ps_expr (k_bm (K := K) rfl PySem.F.plainAttrs_dict PySem.F.slot_dict_update PySem.F.type_dict_update (mt_updT (hu_of hr)) (pv 2) (pa_cons (pv 4) pa_nil)))
      (pss_cons (ps_if (pt_cmpR (k_eqD (K := K) rfl hr.units) (pe_ix (k_ixt (K := K) rfl) (pv 0) pe_int (fun _ _ => rfl)) pe_str (nomark _)) (pss_one (ps_for PassesOwn.never rfl (k_list (K := K) rfl (pv 1)) (pg_name (i := 5) sc__law_mates.nd rfl (Or.inl rfl))
      (pss_one (ps_for PassesOwn.never rfl (k_list (K := K) rfl (pv 3)) (pg_name (i := 6) sc__law_mates.nd rfl (Or.inl rfl))
      (pss_one (ps_dput (hu_of hr) (pv 2) (pe_tup (pa_cons (pe_callB (call_min2 rfl) (by rfl) T.min (by decide +kernel) (pa_cons (pv 5) (pa_cons (pv 6) pa_nil))) (pa_cons (pe_callB (call_max2 rfl) (by rfl) T.max (by decide +kernel) (pa_cons (pv 5) (pa_cons (pv 6) pa_nil))) pa_nil))) pe_bl rfl)))))) pss_nil)
      (pss_one (ps_ret (pe_tup (pa_cons (pe_op op_cat (pv 1) (pv 3)) (pa_cons (pv 2) pa_nil)))))))))), ?_⟩
      cases hf with
      | d n =>
        refine ⟨_, rfl, _, _, rfl, .d n, _, rfl, ?_⟩
        refine iteT ?_
        refine ⟨_, rfl, by show 1 ≤ sizeLine; decide, fun l nl d nd => ⟨by show 2 ≤ sizeLine; decide, fun t nt => ?_⟩⟩
        have sl := same_new (H := H) (o := .lst [V.int n]) nl
        have sd := same_new (H := upd H l (.lst [V.int n])) (o := .dT []) nd
        have st := same_new (H := upd (upd H l (.lst [V.int n])) d (.dT [])) (o := .tup [V.ref l, V.ref d]) nt
        refine q _ t l d [] ((sl.trans sd).trans st) upd_same (st _ _ (sd _ _ upd_same)) nl (st _ _ upd_same) (sl.free nd) ⟨fun p hp => (by cases hp), Nat.zero_le _, fun x y _ => rfl⟩
      | @t a w l r vl vr e hl hr2 =>
        have d1 : max l.deep r.deep + 1 < k + 1 := dk
        have s1 : (l.doors ++ r.doors).length ≤ 6 := sm
        rw [List.length_append] at s1
        have rl : ∀ x ∈ l.doors, 0 ≤ x ∧ x < 6 := fun x hx => rng x (List.mem_append_left _ hx)
        have rr : ∀ x ∈ r.doors, 0 ≤ x ∧ x < 6 := fun x hx => rng x (List.mem_append_right _ hx)
        refine ⟨_, rfl, _, _, rfl, .t e hl hr2, _, rfl, ?_⟩
        refine iteF ?_
        refine ⟨_, rfl, a, _, 1, _, rfl, rfl, .inl (.inl e), rfl, vl, l, rfl, hl, by omega, by omega, rl, fun H1 t1 l1 da ka s1 et1 el1 nl1 ed1 nd1 mk1 => ?_⟩
        refine ⟨t1, _, rfl, .inl (.inl et1), rfl, _, _, rfl, _, [], rfl, rfl, ?_⟩
        refine ⟨_, rfl, a, _, 2, _, rfl, rfl, .inl (.inl (s1 _ _ e)), rfl, vr, r, rfl, hr2.mono s1, by omega, by omega, rr, fun H2 t2 l2 db kb s2 et2 el2 nl2 ed2 nd2 mk2 => ?_⟩
        refine ⟨t2, _, rfl, .inl (.inl et2), rfl, _, _, rfl, _, [], rfl, rfl, ?_⟩
        have ne : da ≠ db := fun z => by rw [z, nd2] at ed1; cases ed1
        have sq : l.doors.length * l.doors.length ≤ 36 ∧ r.doors.length * r.doors.length ≤ 36 ∧ l.doors.length * r.doors.length ≤ 36 := ⟨sq6 (by omega) (by omega), sq6 (by omega) (by omega), sq6 (by omega) (by omega)⟩
        have ka36 := mk1.2.1
        have kb36 := mk2.2.1
        refine ⟨_, rfl, .inr (.inr (.inl ⟨rfl, .inr ⟨_, s2 _ _ ed1⟩⟩)), _, rfl, da, db, ka, kb, rfl, rfl, s2 _ _ ed1, ed2, ne, Nat.le_of_lt (small_of (by omega)), mk2.1, ?_⟩
        have m3 : Same H (upd H2 da (.dT (putAll ka kb))) := same_mut (s1.trans s2) nd1
        have nel1 : l1 ≠ da := fun z => by rw [z, ed1] at el1; cases el1
        have nel2 : l2 ≠ da := fun z => by rw [z, s2 _ _ ed1] at el2; cases el2
        have el3 : upd H2 da (.dT (putAll ka kb)) l1 = some (.lst (l.doors.map V.int)) := by rw [upd_ne nel1]; exact s2 _ _ el1
        have el4 : upd H2 da (.dT (putAll ka kb)) l2 = some (.lst (r.doors.map V.int)) := by rw [upd_ne nel2]; exact el2
        have ed3 := upd_same (H := H2) (a := da) (o := .dT (putAll ka kb))
        have pc : ∀ p ∈ putAll ka kb, PairK p.1 := pair_all _ _ mk1.1 mk2.1
        have lc : (putAll ka kb).length ≤ l.doors.length * l.doors.length + r.doors.length * r.doors.length := Nat.le_trans (putAll_len kb ka) (Nat.add_le_add ka36 kb36)
        have hc : ∀ x y : Int, x ≤ y → hasK (putAll ka kb) (keyP x y) = (metB l x y || metB r x y) := fun x y h => by rw [hasK_all, mk1.2.2 x y h, mk2.2.2 x y h]
        generalize putAll ka kb = kc at m3 el3 el4 ed3 pc lc hc
        generalize upd H2 da (.dT kc) = H3 at m3 el3 el4 ed3
        have tail : ∀ (H' : Hp) (kd : DT) (y5 y6 : Option V), Same H H' → H' l1 = some (.lst (l.doors.map V.int)) → H' l2 = some (.lst (r.doors.map V.int)) → H' da = some (.dT kd) → MateK (.t w l r) kd →
            L2.tRet (L2.tTup (L2.tCons (L2.tOp rCat (L2.tVar 1) (L2.tVar 3)) (L2.tCons (L2.tVar 2) L2.tNil))) { nx := fun x H' => Q V.non H', rt := Q } [some (.ref a), some (.ref l1), some (.ref da), some (.ref l2), some (.ref db), y5, y6] H' := by
          intro H' kd y5 y6 s' e1' e2' ed' mk
          refine ⟨_, rfl, _, rfl, l1, l2, _, _, rfl, rfl, e1', e2', ?_, fun L nL => ⟨_, rfl, by show 2 ≤ sizeLine; decide, fun t nt => ?_⟩⟩
          · rw [List.length_map, List.length_map, sizeLine_eq]
            omega
          have sL := same_new (H := H') (o := .lst (l.doors.map V.int ++ r.doors.map V.int)) nL
          have st := same_new (H := upd H' L (.lst (l.doors.map V.int ++ r.doors.map V.int))) (o := .tup [V.ref L, V.ref da]) nt
          refine q _ t L da kd ((s'.trans sL).trans st) upd_same ?_ (s'.free nL) (st _ _ (sL _ _ ed')) nd1 mk
          refine (st _ _ upd_same).trans ?_
          rw [← List.map_append]
          rfl
        refine ⟨_, rfl, a, _, 0, _, rfl, rfl, .inl (.inl (m3 _ _ e)), rfl, _, _, .str _, .str _, str_shaped (wordIs w).1, str_shaped (by decide +kernel), w, congrArg V.bl ?_, ?_⟩
        · cases w
          · exact str_nev (by decide)
          · exact str_eqv _
        have sqs : (l.doors.length + r.doors.length) * (l.doors.length + r.doors.length) = l.doors.length * l.doors.length + l.doors.length * r.doors.length + (l.doors.length * r.doors.length + r.doors.length * r.doors.length) := by
          rw [Nat.add_mul, Nat.mul_add, Nat.mul_add, Nat.mul_comm r.doors.length l.doors.length]
        have dl : (Fm.t w l r).doors.length = l.doors.length + r.doors.length := List.length_append
        cases w with
        | false =>
          refine iteF ?_
          refine tail H3 kc none none m3 el3 el4 ed3 ⟨pc, ?_, fun x y h => ?_⟩
          · rw [dl, sqs]
            omega
          · rw [hc x y h]
            show _ = (metB l x y || (metB r x y || (false && _)))
            rw [Bool.false_and, Bool.or_false]
        | true =>
          refine iteT ?_
          have ll := Nat.mul_le_mul (show l.doors.length ≤ 6 by omega) (show r.doors.length ≤ 6 by omega)
          refine ⟨_, rfl, l1, rfl, ⟨_, sqL el3⟩, for_list (K := K) (a := l1) (xs := l.doors.map V.int)
            (fun i σ H4 => ∃ (y5 y6 : Option V) (kd : DT), σ = [some (.ref a), some (.ref l1), some (.ref da), some (.ref l2), some (.ref db), y5, y6] ∧ Same H H4 ∧ H4 l1 = some (.lst (l.doors.map V.int)) ∧ H4 l2 = some (.lst (r.doors.map V.int)) ∧ H4 da = some (.dT kd) ∧
              (∀ p ∈ kd, PairK p.1) ∧ kd.length ≤ kc.length + i * r.doors.length ∧ ∀ x y : Int, x ≤ y → hasK kd (keyP x y) = ((metB l x y || metB r x y) || crossB (l.doors.take i) r.doors x y))
            ⟨none, none, kc, rfl, m3, el3, el4, ed3, pc, by omega, fun x y h => by rw [hc x y h]; simp [crossB]⟩ (fun i σ H4 _ ⟨_, _, _, _, _, e4, _⟩ => sqL e4) ?_ ?_⟩
          · rintro i v σ H4 hi ⟨y5, y6, kd, rfl, s4, e41, e42, ed4, pd, ld, hd⟩
            obtain ⟨dr, hdr, rfl⟩ := map_at hi
            have drr := rl dr (List.mem_of_getElem? hdr)
            have il := (List.getElem?_eq_some_iff.mp hdr).1
            refine ⟨_, rfl, l2, rfl, ⟨_, sqL e42⟩, for_list (K := K) (a := l2) (xs := r.doors.map V.int)
              (fun j σ H5 => ∃ (y6 : Option V) (ke : DT), σ = [some (.ref a), some (.ref l1), some (.ref da), some (.ref l2), some (.ref db), some (.int dr), y6] ∧ Same H H5 ∧ H5 l1 = some (.lst (l.doors.map V.int)) ∧ H5 l2 = some (.lst (r.doors.map V.int)) ∧ H5 da = some (.dT ke) ∧
                (∀ p ∈ ke, PairK p.1) ∧ ke.length ≤ kd.length + j ∧ ∀ x y : Int, x ≤ y → hasK ke (keyP x y) = (hasK kd (keyP x y) || crossB [dr] (r.doors.take j) x y))
              ⟨y6, kd, rfl, s4, e41, e42, ed4, pd, by omega, fun x y h => by simp [crossB]⟩ (fun j σ H5 _ ⟨_, _, _, _, _, e5, _⟩ => sqL e5) ?_ ?_⟩
            · rintro j v σ H5 hj ⟨z6, ke, rfl, s5, e51, e52, ed5, pe, le, he⟩
              obtain ⟨ot, hot, rfl⟩ := map_at hj
              have otr := rr ot (List.mem_of_getElem? hot)
              have jl := (List.getElem?_eq_some_iff.mp hot).1
              refine ⟨_, rfl, _, rfl, _, rfl, _, _, rfl, _, rfl, _, rfl, _, _, rfl, by show 2 ≤ sizeLine; decide, fun p np => ?_⟩
              have sp := same_new (H := H5) (o := .tup [V.int (if ot < dr then ot else dr), V.int (if ot > dr then ot else dr)]) np
              have small : kd.length ≤ 200 ∧ ke.length ≤ 300 := by
                have : i * r.doors.length ≤ 36 := sq6 (by omega) (by omega)
                omega
              have mn : (if ot < dr then ot else dr) = min dr ot := by
                rw [Int.min_def]
                split <;> split <;> omega
              have mx : (if ot > dr then ot else dr) = max dr ot := by
                rw [Int.max_def]
                split <;> split <;> omega
              have ed6 := sp _ _ ed5
              refine ⟨da, _, rfl, DPut.t (k := keyP (if ot < dr then ot else dr) (if ot > dr then ot else dr)) ed6 upd_same (small_of (by omega)), ?_⟩
              have nl1 : l1 ≠ da := fun z => by rw [z, ed5] at e51; cases e51
              have nl2 : l2 ≠ da := fun z => by rw [z, ed5] at e52; cases e52
              refine ⟨_, _, rfl, same_mut (s5.trans sp) nd1, ?_, ?_, upd_same, pair_put pe ?_, ?_, fun x y h => ?_⟩
              · rw [upd_ne nl1]
                exact sp _ _ e51
              · rw [upd_ne nl2]
                exact sp _ _ e52
              · refine ⟨(min dr ot).toNat, (max dr ot).toNat, ?_, ?_, ?_⟩
                · omega
                · omega
                · rw [mn, mx]
                  show [Sum.inl (min dr ot), Sum.inl (max dr ot)] = [Sum.inl (((min dr ot).toNat : Nat) : Int), Sum.inl (((max dr ot).toNat : Nat) : Int)]
                  rw [Int.toNat_of_nonneg (by omega), Int.toNat_of_nonneg (by omega)]
              · have := putK_len ke (keyP (if ot < dr then ot else dr) (if ot > dr then ot else dr)) (V.bl true)
                omega
              · rw [hasK_put, he x y h, take_snoc hot, cross_one, mn, mx, Bool.or_assoc]
            · rintro σ H5 ⟨z6, ke, rfl, s5, e51, e52, ed5, pe, le, he⟩
              rw [List.length_map] at le he
              rw [List.take_length] at he
              refine ⟨_, _, ke, rfl, s5, e51, e52, ed5, pe, ?_, fun x y h => ?_⟩
              · rw [Nat.succ_mul]
                omega
              · rw [he x y h, hd x y h, take_snoc hdr, cross_snoc, Bool.or_assoc]
          · rintro σ H4 ⟨y5, y6, kd, rfl, s4, e41, e42, ed4, pd, ld, hd⟩
            rw [List.length_map] at ld hd
            rw [List.take_length] at hd
            refine tail H4 kd y5 y6 s4 e41 e42 ed4 ⟨pd, ?_, fun x y h => ?_⟩
            · rw [dl, sqs]
              omega
            · rw [hd x y h, cross_iff h]
              show _ = (metB l x y || (metB r x y || (true && _)))
              rw [Bool.true_and, Bool.or_assoc]
end
end KQ
/-! the law's other sum -/
namespace KQ
open PySem PySem.Spec PyProof.Rows L2 KR KM
def chL (m : Nat) : Nat → Nat
  | 0 => 1
  | j + 1 => chL m j * (m - j) / (j + 1)
theorem chL_small : ∀ m : Fin 41, ∀ j : Fin 41, chL m.1 j.1 < 2 ^ 64 := by decide +kernel
/-- the first j of the summands -/
def lcP (n : Nat) (ls : List Int) : Nat → Int
  | 0 => 0
  | k + 1 => lcP n ls k + ((chL n k : Nat) : Int) * ls.getD (k + 1) 0 * (2 * ls.getD (n - k) 0 - (if n - k = 1 then 1 else 0))
def lcS : Nat → List Int
  | 0 => [0, 1]
  | i + 1 => lcS i ++ [lcP (i + 1) (lcS i) (i + 1)]
def lcR (n : Nat) : Int := if n = 1 then 1 else 2 * (lcS (n - 1)).getD n 0
theorem lcS_len : ∀ i, (lcS i).length = i + 2
  | 0 => rfl
  | i + 1 => by
    show (lcS i ++ [_]).length = _
    rw [List.length_append, lcS_len i]
    rfl
theorem lcS_small : (lcS 39).all (fun x => decide (x.natAbs < 2 ^ 300)) = true := by decide +kernel
theorem lcS_pre (i : Nat) : ∀ d, lcS i <+: lcS (i + d)
  | 0 => List.prefix_rfl
  | d + 1 => (lcS_pre i d).trans (List.prefix_append _ _)
theorem lcS_bound {i j : Nat} (h : i ≤ 39) : ((lcS i).getD j 0).natAbs < 2 ^ 300 := by
  have a := lcS_pre i (39 - i)
  rw [show i + (39 - i) = 39 by omega] at a
  rcases Nat.lt_or_ge j (lcS i).length with l | l
  · have e := getD_at l
    exact of_decide_eq_true (List.all_eq_true.mp lcS_small _ (a.subset (List.mem_of_getElem? e)))
  · rw [List.getD_eq_getElem?_getD, List.getElem?_eq_none l]
    exact Nat.two_pow_pos 300
theorem same_sums : ∀ n : Fin 40, (fcS n.1).2.getD (n.1 + 1) 0 = lcR (n.1 + 1) := by decide +kernel
theorem as_many : ∀ n : Fin 5, ((allF n.1).length : Int) = lcR (n.1 + 1) := by
  obtain ⟨a, b, c, d, e⟩ := allF_len
  intro n
  match n with
  | 0 => exact (congrArg (fun k : Nat => (k : Int)) a).trans (by decide +kernel)
  | 1 => exact (congrArg (fun k : Nat => (k : Int)) b).trans (by decide +kernel)
  | 2 => exact (congrArg (fun k : Nat => (k : Int)) c).trans (by decide +kernel)
  | 3 => exact (congrArg (fun k : Nat => (k : Int)) d).trans (by decide +kernel)
  | 4 => exact (congrArg (fun k : Nat => (k : Int)) e).trans (by decide +kernel)
end KQ
/-! x *= y of great numbers -/
namespace KQ
open PySem PySem.Spec PyProof.Rows L2 KR
def ipMW : TIp := fun x y H Q => ∃ i j, x = .int i ∧ y = .int j ∧ CMulW i j ∧ Q (.int (i * j)) H
theorem ip_mulW {X : Cx} : PIp X .Mult ipMW := by
  intro pins s σ H x y v u Q I r1 r2 h
  obtain ⟨i, j, e1, e2, c, q⟩ := h
  subst e1; subst e2
  obtain ⟨t, rfl⟩ := r1
  obtain ⟨t', rfl⟩ := r2
  exact imul_int ⟨.int _, H, I.tok _, ⟨_, rfl⟩, q⟩ c.ok
end KQ
namespace KQ
open PySem PySem.Spec PyProof.Rows L2 KR KM StX
section
variable {P : Program} {w : World} {K : PySem.W.Frag} {mg : Str → Option Value} {base : Heap}
theorem iteC4 {w : Bool} {i j : Int} {σ : L2.St} {H : Hp} {Q : VK} (h : Q (.int (if w = true then i else j)) H) : if w = true then L2.tC (V.int i) σ H Q else L2.tC (V.int j) σ H Q := by
  cases w
  · exact h
  · exact h
abbrev s__law_choose : Stmt := topS 37
theorem sc__law_choose : FnScope ["many", "some", "found", "n"] ["many", "some"] (defScope s__law_choose) := ⟨rfl, rfl, rfl, by decide +kernel, rfl, by decide +kernel, by decide +kernel⟩
def spChL : Sp := fun vs H Q _ => ∃ m k : Nat, vs = [.int (m : Int), .int (k : Int)] ∧ k ≤ m ∧ m ≤ 40 ∧ ∀ H', Same H H' → Q (.int ((chL m k : Nat) : Int)) H'
theorem ok_law_choose (D : DefAt K mg "_law_choose" s__law_choose) (T : Bt mg) : Use P w K mg base "_law_choose" 1 ["many", "some"] spChL := by
  refine use_of D (fun f fd F => F.ok sc__law_choose (fun vs H Q E h => ?_) (fun cdv A outer s H vs Q E hr h => ?_)) (fun _ _ _ _ _ _ us hl => match us, hl with | [_, _], _ => rfl)
  · obtain ⟨m, k, rfl, _⟩ := h
    rfl
  · obtain ⟨m, k, rfl, km, m40, q⟩ := h
    refine ⟨_, (pss_cons (ps_set (i := 2) sc__law_choose.nd rfl (Or.inl rfl) pe_int)
      (pss_cons (ps_for PassesOwn.never rfl (pi_range1 (by rfl) T.range (pa_cons (pv 1) pa_nil)) (pg_name (i := 3) sc__law_choose.nd rfl (Or.inl rfl))
      (pss_one (ps_set (i := 2) sc__law_choose.nd rfl (Or.inl rfl) (pe_op op_fdivW (pe_op op_mulW (pv 2) (pe_op op_sub (pv 0) (pv 3))) (pe_op op_add (pv 3) pe_int)))))
      (pss_one (ps_ret (pv 2))))), ?_⟩
    refine ⟨_, rfl, _, rfl, by omega, by omega, for_range (lo := 0) (n := (((k : Nat) : Int)).toNat) (fun i σ H1 => ∃ y3 : Option V, σ = [some (.int (m : Int)), some (.int (k : Int)), some (.int ((chL m i : Nat) : Int)), y3] ∧ Same H H1) ⟨none, rfl, .refl H⟩ ?_ ?_⟩
    · rintro i σ H1 hi ⟨y3, rfl, s1⟩
      have hik : i < k := by omega
      have small : chL m i < 2 ^ 64 := chL_small ⟨m, by omega⟩ ⟨i, by omega⟩
      refine ⟨_, rfl, _, rfl, _, rfl, _, _, rfl, rfl, _, _, rfl, rfl, wide_mul (a := 64) (b := 64) (by simpa using small) (by omega) (by decide) (by decide) (by decide), _, rfl, _, _, rfl, rfl, _, _, rfl, rfl, wide_div (b := 64) (by omega) (by omega) (by decide) (by decide), ?_⟩
      refine ⟨some (V.int (0 + (i : Int))), ?_, s1⟩
      · show [some (.int (m : Int)), some (.int (k : Int)), some (V.int (((chL m i : Nat) : Int) * ((m : Int) - (0 + (i : Int))) / (0 + (i : Int) + 1))), some (V.int (0 + (i : Int)))] = _
        rw [show ((chL m i : Nat) : Int) * ((m : Int) - (0 + (i : Int))) / (0 + (i : Int) + 1) = ((chL m (i + 1) : Nat) : Int) by
          show _ = (((chL m i * (m - i) / (i + 1) : Nat)) : Int)
          rw [Int.natCast_ediv, Int.natCast_mul]
          congr 1
          · congr 1
            omega
          · omega]
    · rintro σ H1 ⟨y3, rfl, s1⟩
      rw [show (((k : Nat) : Int)).toNat = k by omega]
      exact ⟨_, rfl, q H1 s1⟩
abbrev s__law_counted : Stmt := topS 38
theorem sc__law_counted : FnScope ["number", "limbs", "n", "found", "k"] ["number"] (defScope s__law_counted) := ⟨rfl, rfl, rfl, by decide +kernel, rfl, by decide +kernel, by decide +kernel⟩
def spLC : Sp := fun vs H Q _ => ∃ n : Nat, vs = [.int (n : Int)] ∧ 1 ≤ n ∧ n ≤ 40 ∧ ∀ H', Same H H' → Q (.int (lcR n)) H'
theorem ok_law_counted (D : DefAt K mg "_law_counted" s__law_counted) (T : Bt mg) (u__law_choose : Use P w K mg base "_law_choose" 1 ["many", "some"] spChL) : Use P w K mg base "_law_counted" 2 ["number"] spLC := by
  refine use_of D (fun f fd F => F.ok sc__law_counted (fun vs H Q E h => ?_) (fun cdv A outer s H vs Q E hr h => ?_)) (fun _ _ _ _ _ _ us hl => match us, hl with | [_], _ => rfl)
  · obtain ⟨n, rfl, _⟩ := h
    rfl
  · obtain ⟨n, rfl, n1, n40, q⟩ := h
    refine ⟨_, (pss_cons (ps_set (i := 1) sc__law_counted.nd rfl (Or.inl rfl) (pe_lst (pa_cons pe_int (pa_cons pe_int pa_nil))))
      (pss_cons (ps_for PassesOwn.never rfl (pi_range2 (by rfl) T.range (pa_cons pe_int (pa_cons (pv 0) pa_nil))) (pg_name (i := 2) sc__law_counted.nd rfl (Or.inl rfl))
      (pss_cons (ps_set (i := 3) sc__law_counted.nd rfl (Or.inl rfl) pe_int)
      (pss_cons (ps_for PassesOwn.never rfl (pi_range1 (by rfl) T.range (pa_cons (pv 2) pa_nil)) (pg_name (i := 4) sc__law_counted.nd rfl (Or.inl rfl))
      (pss_one (ps_set (i := 3) sc__law_counted.nd rfl (Or.inl rfl) (pe_op op_add (pv 3) (pe_op op_mulW (pe_op op_mulW (pe_use u__law_choose (by decide) hr (by rfl) (pa_cons (pv 2) (pa_cons (pv 4) pa_nil))) (pe_ix (k_ixl (K := K) rfl) (pv 1) (pe_op op_add (pv 4) pe_int) (fun _ _ => rfl))) (pe_op op_sub (pe_op op_mulW pe_int (pe_ix (k_ixl (K := K) rfl) (pv 1) (pe_op op_sub (pv 2) (pv 4)) (fun _ _ => rfl))) (pe_ifExp (pt_cmpR op_eq (pe_op op_sub (pv 2) (pv 4)) pe_int (nomark _)) pe_int pe_int)))))))
      (pss_one (ps_expr (k_bm (K := K) rfl PySem.F.plainAttrs_list PySem.F.slot_list_append PySem.F.type_list_append mt_append (pv 1) (pa_cons (pv 3) pa_nil)))))))
      (pss_one (ps_ret (pe_ifExp (pt_cmpR op_eq (pv 0) pe_int (nomark _)) pe_int (pe_op op_mulW pe_int (pe_ix (k_ixl (K := K) rfl) (pv 1) (pv 0) (fun _ _ => rfl)))))))), ?_⟩
    refine ⟨by show 2 ≤ sizeLine; decide, fun L nL => ?_⟩
    have sL := same_new (H := H) (o := .lst [V.int 0, V.int 1]) nL
    have eL := upd_same (H := H) (a := L) (o := .lst [V.int 0, V.int 1])
    refine ⟨_, rfl, 1, _, rfl, ⟨by decide, by decide, by omega, by omega⟩, for_range (lo := 1) (n := (((n : Nat) : Int) - 1).toNat)
      (fun i σ H1 => ∃ y2 y3 y4 : Option V, σ = [some (V.int (n : Int)), some (.ref L), y2, y3, y4] ∧ Same H H1 ∧ H1 L = some (.lst ((lcS i).map V.int))) ⟨none, none, none, rfl, sL, eL⟩ ?_ ?_⟩
    · rintro i σ H1 hi ⟨y2, y3, y4, rfl, s1, eL⟩
      have len := lcS_len i
      refine ⟨_, rfl, _, rfl, by omega, by omega, for_range (lo := 0) (n := (1 + ((i : Nat) : Int)).toNat)
        (fun k σ H2 => ∃ y4 : Option V, σ = [some (V.int (n : Int)), some (.ref L), some (.int (1 + ((i : Nat) : Int))), some (.int (lcP (i + 1) (lcS i) k)), y4] ∧ Same H1 H2) ⟨y4, rfl, .refl H1⟩ ?_ ?_⟩
      · rintro k σ H2 hk ⟨y4, rfl, s2⟩
        have hk2 : k < i + 1 := by omega
        have eL2 := s2 _ _ eL
        have b1 := lcS_bound (i := i) (j := k + 1) (by omega)
        have b2 := lcS_bound (i := i) (j := i + 1 - k) (by omega)
        have cs : (((chL (i + 1) k : Nat) : Int)).natAbs < 2 ^ 64 := by
          have := chL_small ⟨i + 1, by omega⟩ ⟨k, by omega⟩
          simpa using this
        refine ⟨_, rfl, _, rfl, _, rfl, i + 1, k, ?_, by omega, by omega, fun H3 s3 => ?_⟩
        · show [V.int (1 + ((i : Nat) : Int)), V.int (0 + ((k : Nat) : Int))] = _
          rw [show 1 + ((i : Nat) : Int) = ((i + 1 : Nat) : Int) by omega, show 0 + ((k : Nat) : Int) = ((k : Nat) : Int) by omega]
        have eL3 := s3 _ _ eL2
        refine ⟨_, rfl, _, rfl, _, _, rfl, rfl, L, _, _, _, rfl, rfl, sqL eL3, atI_of (j := k + 1) (by omega) (at_map (getD_at (by omega))), ?_⟩
        refine ⟨_, _, rfl, rfl, wide_mul cs b1 (by decide) (by decide) (by decide), ?_⟩
        refine ⟨_, rfl, _, rfl, _, rfl, _, _, rfl, rfl, L, _, _, _, rfl, rfl, sqL eL3, atI_of (j := i + 1 - k) (by omega) (at_map (getD_at (by omega))), ?_⟩
        refine ⟨_, _, rfl, rfl, wide_mul (by decide : (2 : Int).natAbs < 2 ^ 2) b2 (by decide) (by decide) (by decide), ?_⟩
        refine ⟨_, rfl, _, rfl, _, _, rfl, rfl, rfl, decide (i + 1 - k = 1), congrArg V.bl ?_, ?_⟩
        · by_cases c : i + 1 - k = 1
          · rw [decide_eq_true c]
            exact decide_eq_true (congrArg V.int (by omega))
          · rw [decide_eq_false c]
            exact decide_eq_false fun z => c (by have := V.int.inj z; omega)
        refine iteC4 ?_
        refine ⟨_, _, rfl, rfl, _, _, rfl, rfl, wide_mul (a := 64 + 300) (b := 303) ?_ ?_ (by decide) (by decide) (by decide), ?_⟩
        · rw [Int.natAbs_mul, Nat.pow_add]
          exact Nat.mul_lt_mul'' cs b1
        · have : (if decide (i + 1 - k = 1) = true then (1 : Int) else 0) = 1 ∨ (if decide (i + 1 - k = 1) = true then (1 : Int) else 0) = 0 := by split <;> simp
          generalize (if decide (i + 1 - k = 1) = true then (1 : Int) else 0) = z at this
          have p3 : (2 : Nat) ^ 303 = 8 * 2 ^ 300 := by rw [show 303 = 3 + 300 by rfl, Nat.pow_add]
          rw [p3]
          generalize (2 : Nat) ^ 300 = B at b2
          omega
        refine ⟨_, _, rfl, rfl, ?_⟩
        refine ⟨some (V.int (0 + ((k : Nat) : Int))), ?_, s2.trans s3⟩
        show [some (V.int (n : Int)), some (.ref L), some (.int (1 + ((i : Nat) : Int))), some (V.int (lcP (i + 1) (lcS i) k + ((chL (i + 1) k : Nat) : Int) * (lcS i).getD (k + 1) 0 * (2 * (lcS i).getD (i + 1 - k) 0 - (if decide (i + 1 - k = 1) = true then 1 else 0)))), some (V.int (0 + ((k : Nat) : Int)))] = _
        simp only [decide_eq_true_eq]
        rfl
      · rintro σ H2 ⟨y4, rfl, s2⟩
        rw [show (1 + ((i : Nat) : Int)).toNat = i + 1 by omega]
        have nLH : H L = none := nL
        refine ⟨_, rfl, .inl ⟨rfl, _, sqL (s2 _ _ eL)⟩, _, rfl, L, _, _, rfl, rfl, s2 _ _ eL, by rw [List.length_map, len]; exact small_of (by omega), ?_⟩
        refine ⟨_, _, _, rfl, same_mut (s1.trans s2) nLH, ?_⟩
        rw [upd_same]
        show _ = some (HO.lst ((lcS i ++ [lcP (i + 1) (lcS i) (i + 1)]).map V.int))
        rw [List.map_append]
        rfl
    · rintro σ H1 ⟨y2, y3, y4, rfl, s1, eL⟩
      rw [show (((n : Nat) : Int) - 1).toNat = n - 1 by omega] at eL
      have len := lcS_len (n - 1)
      refine ⟨_, rfl, rfl, decide (n = 1), congrArg V.bl ?_, ?_⟩
      · by_cases c : n = 1
        · rw [decide_eq_true c]
          exact decide_eq_true (congrArg V.int (by omega))
        · rw [decide_eq_false c]
          exact decide_eq_false fun z => c (by have := V.int.inj z; omega)
      have qq := q H1 s1
      unfold lcR at qq
      by_cases c : n = 1
      · rw [if_pos c] at qq
        rw [decide_eq_true c]
        exact iteT qq
      · rw [if_neg c] at qq
        rw [decide_eq_false c]
        refine iteF ?_
        exact ⟨_, rfl, _, rfl, L, _, _, _, rfl, rfl, sqL eL, atI_of (j := n) rfl (at_map (getD_at (by omega))), _, _, rfl, rfl, wide_mul (by decide : (2 : Int).natAbs < 2 ^ 2) (lcS_bound (i := n - 1) (j := n) (by omega)) (by decide) (by decide) (by decide), qq⟩
end
end KQ
/-! t >= u, two tuples of whole numbers -/
namespace KR
open PySem PySem.Spec PyProof.Rows L2 PySem.Calls
def geI (ns ms : List Int) : Bool := Ob.lexAt (fun i => decide (ns.getD i 0 = ms.getD i 0)) (fun i => decide (ms.getD i 0 ≤ ns.getD i 0)) (decide (ns.length ≥ ms.length)) 0 (min ns.length ms.length)
def rGeT (K : PySem.W.Frag) : R2 := fun x y H Q => ∃ (t u : Addr) (ns ms : List Int), x = .ref t ∧ y = .ref u ∧ SqT K H t (ns.map V.int) ∧ SqT K H u (ms.map V.int) ∧ Q (.bl (geI ns ms)) H
theorem dec_beq (i j : Int) : (i == j) = decide (i = j) := by
  rw [Bool.eq_iff_iff, beq_iff_eq, decide_eq_true_eq]
theorem k_geT {X : Cx} {K : PySem.W.Frag} (hK : X.K = K) (room : X.A.units < cLine) : OpR X (compareOp .GtE) (rGeT K) := by
  subst hK
  intro pins s σ H x y v w Q I rv rw' ask
  obtain ⟨t, u, ns, ms, rfl, rfl, st, su, fin⟩ := ask
  cases rv
  cases rw'
  obtain ⟨vs, rel, isT, _⟩ := I.tuple st
  obtain ⟨ws, rel2, isU, _⟩ := I.tuple su
  have iv : IntsAre vs ns := Vals.ints rel
  have iw : IntsAre ws ms := Vals.ints rel2
  have sv : vs.toArray.size = ns.length := by simpa using iv.length
  have sw : ws.toArray.size = ms.length := by simpa using iw.length
  have one : ∀ i (h : i < vs.toArray.size), ∃ k, vs.toArray[i] = .int (ns.getD i 0) k := fun i h => IntsAre.int_at iv _ _ (by simp at h; simp [h])
  have two : ∀ i (h : i < ws.toArray.size), ∃ k, ws.toArray[i] = .int (ms.getD i 0) k := fun i h => IntsAre.int_at iw _ _ (by simp at h; simp [h])
  have all := Ob.RcOp.tuples_ge (A := X.A) (s := s) (e := fun i => decide (ns.getD i 0 = ms.getD i 0)) (r := fun i => decide (ms.getD i 0 ≤ ns.getD i 0)) isT isU room
    (fun i h k => by
      obtain ⟨_, e⟩ := one i h
      obtain ⟨_, f⟩ := two i k
      rw [e, f, ← dec_beq]
      exact SeqAt.EqAt.int_int _ _ _ _)
    (fun i h k _ => by
      obtain ⟨_, e⟩ := one i h
      obtain ⟨_, f⟩ := two i k
      rw [e, f]
      exact Ob.RcOp.ge_int _ _ _ _)
  rw [sv, sw] at all
  exact all X.prog X.w X.xe (EP X pins σ Q) ⟨.bl _, H, I, rfl, fin⟩
end KR
/-! webs ascend -/
namespace KQ
open PySem PySem.Spec PyProof.Rows L2 KR KM
def bI (b : Bool) : Int := if b = true then 1 else 0
def webI (n : Nat) (f : Fm) : List Int := (List.range n).flatMap fun b : Nat => (List.range b).map fun a : Nat => bI (metB f (a : Int) (b : Int))
theorem webI_F (n : Nat) (f : Fm) : webI n f = (webF n f).map bI := by
  unfold webI webF
  rw [List.map_flatMap]
  congr 1
  funext b
  rw [List.map_map]
  rfl
def websI (n : Nat) : List (List Int) := (allF n).map (webI (n + 1))
theorem keys_nodup : ∀ t : Trie, (t.list.map (·.1)).Nodup
  | .none => List.nodup_nil
  | .leaf f => List.nodup_cons.mpr ⟨(fun h => by cases h), List.nodup_nil⟩
  | .node l r => by
    have a := keys_nodup l
    have b := keys_nodup r
    have e : ((Trie.node l r).list.map (·.1)) = (l.list.map (·.1)).map (fun x => false :: x) ++ (r.list.map (·.1)).map fun x => true :: x := by
      show (l.list.map (fun p => (false :: p.1, p.2)) ++ r.list.map (fun p => (true :: p.1, p.2))).map (·.1) = _
      rw [List.map_append, List.map_map, List.map_map, List.map_map, List.map_map]
      rfl
    rw [e]
    refine List.nodup_append.mpr ⟨?_, ?_, fun x hx y hy e => ?_⟩
    · exact List.pairwise_map.mpr (a.imp fun h e => h (List.cons.inj e).2)
    · exact List.pairwise_map.mpr (b.imp fun h e => h (List.cons.inj e).2)
    · obtain ⟨u, _, rfl⟩ := List.mem_map.mp hx
      obtain ⟨v, _, rfl⟩ := List.mem_map.mp hy
      cases e
theorem webs_nodup {n : Nat} (h : n < 5) : (websI n).Nodup := by
  have a := keys_nodup (trieF n)
  rw [trie_all n h, List.map_map] at a
  have e : websI n = ((allF n).map (webF (n + 1))).map fun bs => bs.map bI := by
    unfold websI
    rw [List.map_map]
    exact List.map_congr_left fun f _ => webI_F _ f
  rw [e]
  refine List.pairwise_map.mpr (List.Pairwise.imp (fun {x y} ne e => ne ?_) a)
  have inj : ∀ {x y : List Bool}, x.map bI = y.map bI → x = y := by
    intro x
    induction x with
    | nil =>
      intro y e
      cases y with
      | nil => rfl
      | cons _ _ => cases e
    | cons p r ih =>
      intro y e
      cases y with
      | nil => cases e
      | cons q s =>
        obtain ⟨e1, e2⟩ := List.cons.inj (show bI p :: r.map bI = bI q :: s.map bI from e)
        rw [ih e2]
        cases p <;> cases q <;> first | rfl | exact absurd e1 (by decide)
  exact inj e
def ascB : List (List Int) → Bool
  | a :: b :: r => !geI a b && ascB (b :: r)
  | _ => true
theorem asc_at : ∀ {l : List (List Int)} {i : Nat} {a b : List Int}, ascB l = true → l[i]? = some a → l[i + 1]? = some b → geI a b = false
  | [], _, _, _, _, h, _ => by cases h
  | [x], i, _, _, _, h, k => by
    cases i with
    | zero => cases k
    | succ i => cases h
  | x :: y :: r, 0, a, b, h, e, f => by
    cases e
    cases f
    have h : (!geI x y && ascB (y :: r)) = true := h
    rw [Bool.and_eq_true, Bool.not_eq_true'] at h
    exact h.1
  | x :: y :: r, i + 1, a, b, h, e, f => by
    have h : (!geI x y && ascB (y :: r)) = true := h
    rw [Bool.and_eq_true] at h
    exact asc_at h.2 (by simpa using e) (by simpa using f)
theorem webs_asc : ∀ n < 5, ascB (websI n) = true := by decide +kernel
theorem web_listed {n : Nat} (h : n < 5) {f : Fm} (p : f.doors.Perm (doorsN n)) : ∃ i : Nat, (allF n)[i]? = some (plainF f) ∧ (websI n)[i]? = some (webI (n + 1) f) ∧ ∀ m z, m < i → (websI n)[m]? = some z → z ≠ webI (n + 1) f := by
  obtain ⟨i, a, b⟩ := form_listed h p
  have c : (websI n)[i]? = some (webI (n + 1) f) := by
    unfold websI
    rw [List.getElem?_map, a]
    refine congrArg some ?_
    rw [webI_F, webI_F, web_plain]
  refine ⟨i, a, c, fun m z hm hz e => ?_⟩
  subst e
  have nd := webs_nodup h
  have il := (List.getElem?_eq_some_iff.mp c).1
  exact List.pairwise_iff_getElem.mp nd m i (by omega) il hm (by
    rw [List.getElem?_eq_getElem (by omega)] at hz
    rw [List.getElem?_eq_getElem il] at c
    exact (Option.some.inj hz).trans (Option.some.inj c).symm)
theorem listed_plain {n : Nat} (h : n < 5) {f : Fm} (hf : f ∈ allF n) : plainF f = f := by
  have := List.all_eq_true.mp (plain_all n h) f hf
  exact of_decide_eq_true (by simpa using this)
end KQ
namespace KQ
open PySem PySem.Spec PyProof.Rows L2 KR KM StX
section
variable {P : Program} {w : World} {K : PySem.W.Frag} {mg : Str → Option Value} {base : Heap}
abbrev s__law_web : Stmt := topS 33
theorem sc__law_web : FnScope ["form", "doors", "pairs", "found", "two", "one"] ["form"] (defScope s__law_web) := ⟨rfl, rfl, rfl, by decide +kernel, rfl, by decide +kernel, by decide +kernel⟩
def spWeb (k : Nat) : Sp := fun vs H Q _ => ∃ (v : V) (f : Fm), vs = [v] ∧ FH H v f ∧ f.deep < k ∧ f.doors.length ≤ 6 ∧ (∀ x ∈ f.doors, 0 ≤ x ∧ x < 6) ∧ ∀ H' t, Same H H' → H' t = some (.tup ((webI f.doors.length f).map V.int)) → Q (.ref t) H'
theorem web_len : ∀ n : Nat, n ≤ 6 → ∀ f, (webI n f).length ≤ 36 := by
  intro n h f
  have := flat_len (f := fun b : Nat => (List.range b).map fun a : Nat => bI (metB f (a : Int) (b : Int))) (k := 6) (l := List.range n) (fun x hx => by
    rw [List.length_map, List.length_range]
    have := List.mem_range.mp hx
    omega)
  rw [List.length_range] at this
  exact Nat.le_trans this (Nat.mul_le_mul_right 6 h)
theorem ok_law_web (D : DefAt K mg "_law_web" s__law_web) (T : Bt mg) {k : Nat} (u__law_mates : Use P w K mg base "_law_mates" (k + 1) ["form"] (spMates k)) : Use P w K mg base "_law_web" (k + 2) ["form"] (spWeb k) := by
  refine use_of D (fun f fd F => F.ok sc__law_web (fun vs H Q E h => ?_) (fun cdv A outer s H vs Q E hr h => ?_)) (fun _ _ _ _ _ _ us hl => match us, hl with | [_], _ => rfl)
  · obtain ⟨v, f, rfl, _⟩ := h
    rfl
  · obtain ⟨v, f, rfl, hf, dk, sm, rng, q⟩ := h
    refine ⟨_, (pss_cons (ps_asg (pe_use u__law_mates (by omega) hr (by rfl) (pa_cons (pv 0) pa_nil)) (pg_tup rfl (pgs_cons (pg_name (i := 1) sc__law_web.nd rfl (Or.inl rfl)) (pgs_cons (pg_name (i := 2) sc__law_web.nd rfl (Or.inr rfl)) pgs_nil))))
      (pss_cons (ps_set (i := 3) sc__law_web.nd rfl (Or.inl rfl) (pe_lst pa_nil))
      (pss_cons (ps_for PassesOwn.never rfl (pi_range1 (by rfl) T.range (pa_cons (pe_callB (k_len (K := K) rfl) (by rfl) T.len PySem.boot_len (pa_cons (pv 1) pa_nil)) pa_nil)) (pg_name (i := 4) sc__law_web.nd rfl (Or.inr rfl))
      (pss_one (ps_expr (k_bm (K := K) rfl PySem.F.plainAttrs_list PySem.F.slot_list_extend PySem.F.type_list_extend mt_extend (pv 3) (pa_cons (pe_lc (own := [("one", 5)]) rfl sc__law_web.nd (pi_range1 (by rfl) T.range (pa_cons (pv 4) pa_nil)) (blkOk_by (N := ["form", "doors", "pairs", "found", "two", "one"]) (sc := defScope s__law_web) (by decide +kernel)) (fun _ _ _ _ _ => (pg_name (i := 5) sc__law_web.nd rfl (Or.inl rfl))) (fun _ _ _ _ _ => pts_nil) (fun _ _ _ _ _ => (pe_ifExp (pt_cmp (pc_din (hu_of hr) (pe_tup (pa_cons (pv 5) (pa_cons (pv 4) pa_nil))) (pv 2))) pe_int pe_int))) pa_nil)))))
      (pss_one (ps_ret (pe_callTy (k_tupOf (K := K) rfl) (by rfl) T.tuple (by decide +kernel) (pa_cons (pv 3) pa_nil))))))), ?_⟩
    refine ⟨_, rfl, v, f, rfl, hf, dk, sm, rng, fun H1 t l d kvs s1 et el nl ed nd mk => ?_⟩
    refine ⟨t, _, rfl, .inl (.inl et), rfl, _, _, rfl, _, [], rfl, rfl, ?_⟩
    refine ⟨by show 0 ≤ sizeLine; decide, fun L nL => ?_⟩
    have sL := same_new (H := H1) (o := .lst []) nL
    have eL := upd_same (H := H1) (a := L) (o := .lst [])
    refine ⟨_, rfl, l, _, rfl, .inl (sqL (sL _ _ el)), _, rfl, ?_, ?_, for_range (lo := 0) (n := (((f.doors.map V.int).length : Nat) : Int).toNat)
      (fun i σ H2 => ∃ y4 : Option V, σ = [some v, some (.ref l), some (.ref d), some (.ref L), y4, none] ∧ Same H1 H2 ∧ H2 L = some (.lst ((webI i f).map V.int))) ⟨none, rfl, sL, eL⟩ ?_ ?_⟩
    · rw [List.length_map]
      omega
    · rw [List.length_map]
      omega
    · rintro i σ H2 hi ⟨y4, rfl, s2, eL⟩
      have hi6 : i < 6 := by
        rw [List.length_map] at hi
        omega
      have wl := web_len i (by omega) f
      refine ⟨_, rfl, .inl ⟨rfl, _, sqL eL⟩, _, rfl, _, rfl, by omega, by omega, fun M nM => ?_⟩
      refine lc_range (lo := 0) (fun k H3 => Same H2 H3 ∧ H3 M = some (.lst (((List.range k).map fun a : Nat => bI (metB f (a : Int) (i : Int))).map V.int))) ⟨same_new nM, upd_same⟩ ?_ ?_
      · rintro a H3 ha ⟨s3, eM⟩
        refine ⟨rfl, _, rfl, _, rfl, by show 2 ≤ sizeLine; decide, fun p np => ?_⟩
        have sp := same_new (H := H3) (o := .tup [V.int (0 + (a : Int)), V.int (0 + (i : Int))]) np
        have ed3 := sp _ _ (s3 _ _ (s2 _ _ ed))
        refine ⟨_, rfl, d, _, rfl, DGet.t (k := keyP (0 + (a : Int)) (0 + (i : Int))) ed3 upd_same, metB f (a : Int) (i : Int), congrArg V.bl ?_, ?_⟩
        · rw [hasK_val, Int.zero_add, Int.zero_add, mk.2.2 _ _ (by omega)]
        refine iteC4 ?_
        refine ⟨_, sp _ _ eM, ?_, same_mut (s3.trans sp) nM, ?_⟩
        · rw [List.length_map, List.length_map, List.length_range]
          exact small_of (by omega)
        · rw [upd_same, List.range_succ, List.map_append, List.map_append]
          rfl
      · rintro H3 ⟨s3, eM⟩
        rw [show (0 + ((i : Nat) : Int)).toNat = i by omega] at eM
        refine ⟨L, M, _, _, rfl, rfl, s3 _ _ eL, eM, ?_, ?_⟩
        · rw [List.length_map, List.length_map, List.length_map, List.length_range]
          exact Nat.le_of_lt (small_of (by omega))
        · refine ⟨_, rfl, same_mut (s2.trans s3) nL, ?_⟩
          rw [upd_same]
          have e : webI (i + 1) f = webI i f ++ (List.range i).map fun a : Nat => bI (metB f (a : Int) (i : Int)) := by
            unfold webI
            rw [List.range_succ, List.flatMap_append]
            simp
          rw [e, List.map_append]
    · rintro σ H2 ⟨y4, rfl, s2, eL⟩
      rw [List.length_map, Int.toNat_natCast] at eL
      refine ⟨_, rfl, L, _, rfl, .inl ⟨sqL eL, fun t nt => ?_⟩⟩
      exact q _ t ((s1.trans s2).trans (same_new nt)) upd_same
end
end KQ
/-! x not in l for data of any depth; filters as comprehensions (M27's lc_filL by itself); a form's data -/
namespace KR
open PySem PySem.Spec PyProof.Rows L2 KM KQ PySem.W PySem.Calls
theorem k_notInD {X : Cx} {K : PySem.W.Frag} (hK : X.K = K) (hu : X.A.units + 65 < cLine) : OpR X (compareOp .NotIn) (rNotInD K) := by
  subst hK
  exact op_notInD hu
end KR
namespace KQ
open PySem PySem.Spec PyProof.Rows L2 KR KM StX
theorem lc_filM {α : Type} {K : PySem.W.Frag} {a D : Addr} {f h : α → V} {xs : List α} {g : TG} {tt : L2.TT} {te : TE} {vs : List Nat} {σ : L2.St} {H1 : Hp} {Qd : Hp → Prop} (c : α → Bool) (ex : H1 a = some (.lst (xs.map f))) (len : xs.length ≤ 100000) (nD : H1 D = none)
    (hs : ∀ (x : α) (H : Hp), Same H1 H → x ∈ xs → ∀ N : Hp → Prop, (∀ H', Same H H' → (c x = true → ∃ acc, H' D = some (.lst acc) ∧ acc.length < sizeLine ∧ N (upd H' D (.lst (acc ++ [h x])))) ∧ (c x = false → N H')) →
      g (f x) (wipe σ vs) H fun σ2 H2 => wipe σ2 vs = wipe σ vs ∧ tt σ2 H2 fun b H3 => if b = true then te σ2 H3 fun y H4 => ∃ acc, H4 D = some (.lst acc) ∧ acc.length < sizeLine ∧ N (upd H4 D (.lst (acc ++ [y]))) else N H3)
    (hd : ∀ (H : Hp), Same H1 H → H D = some (.lst ((xs.filter c).map h)) → Qd H) : ∃ W : Nat → Nat → Hp → Prop, (∃ m, W 0 m (upd H1 D (.lst []))) ∧ ∀ i m H, W i m H →
      ((L2.Itl K a).stop i H ∧ Qd H) ∨ ((L2.Itl K a).go i H ∧ ∃ Nx : Hp → Prop, (∀ H', Nx H' → ∃ m', m' < m ∧ W (i + 1) m' H') ∧ ∀ x H', (L2.Itl K a).yld i H x H' → g x (wipe σ vs) H' fun σ2 H2 => wipe σ2 vs = wipe σ vs ∧ tt σ2 H2 fun b H3 =>
        if b = true then te σ2 H3 fun y H4 => ∃ acc, H4 D = some (.lst acc) ∧ acc.length < sizeLine ∧ Nx (upd H4 D (.lst (acc ++ [y]))) else Nx H3) := by
  refine lc_list (K := K) (a := a) (xs := xs.map f) (fun k H => Same H1 H ∧ H D = some (.lst (((xs.take k).filter c).map h))) ⟨same_new nD, upd_same⟩ (fun k H _ ⟨s, _⟩ => sqL (s _ _ ex)) ?_ ?_
  · rintro k v H hk ⟨sm, eG⟩
    obtain ⟨x, hx, rfl⟩ := map_at hk
    have fl : ((xs.take k).filter c).length ≤ (xs.take k).length := List.length_filter_le _ _
    rw [List.length_take] at fl
    have tk : (xs.take (k + 1)).filter c = (xs.take k).filter c ++ if c x = true then [x] else [] := by
      rw [take_snoc hx, List.filter_append]
      congr 1
      rw [List.filter_cons]
      rfl
    refine hs x H sm (List.mem_of_getElem? hx) _ fun H' s' => ⟨fun hc => ⟨_, s' _ _ eG, ?_, same_mut (sm.trans s') nD, ?_⟩, fun hc => ⟨sm.trans s', ?_⟩⟩
    · rw [List.length_map]
      exact small_of (by omega)
    · rw [upd_same, tk, if_pos hc, List.map_append]
      rfl
    · rw [tk, if_neg (by rw [hc]; decide), List.append_nil]
      exact s' _ _ eG
  · rintro H ⟨sm, eG⟩
    rw [List.length_map, List.take_length] at eG
    exact hd H sm eG
theorem room66f {k : Nat} {A : Around} (r : Room k A) : A.units + 65 < cLine := by
  have := r.un
  omega
theorem word_ok (w : Bool) : PyData.strOk (Fm.word w) = true := by cases w <;> decide +kernel
theorem word_inj {w w' : Bool} (h : Fm.word w = Fm.word w') : w = w' := by
  cases w <;> cases w' <;> first | rfl | (revert h; decide)
theorem fm_eqv : ∀ f g : Fm, PyData.eqv f.data g.data = decide (f = g)
  | .d n, .d m => by
    simp [Fm.data, PyData.eqv]
    rw [Bool.eq_iff_iff]
    simp
  | .d n, .t w l r => by simp [Fm.data, PyData.eqv]
  | .t w l r, .d m => by simp [Fm.data, PyData.eqv]
  | .t w l r, .t w' l' r' => by
    have e1 := fm_eqv l l'
    have e2 := fm_eqv r r'
    have e3 : (Fm.word w == Fm.word w') = decide (w = w') := by cases w <;> cases w' <;> decide +kernel
    simp [Fm.data, PyData.eqv, PyData.eqvAll, e1, e2, e3]
    try (rw [Bool.eq_iff_iff]; simp)
theorem fm_lay : ∀ f : Fm, f.data.canLay0 = true ∧ f.data.depth ≤ f.deep
  | .d n => by simp [Fm.data, PyData.canLay0, PyData.depth, Fm.deep]
  | .t w l r => by
    obtain ⟨a1, a2⟩ := fm_lay l
    obtain ⟨b1, b2⟩ := fm_lay r
    simp [Fm.data, PyData.canLay0, PyData.canLayAll0, PyData.depth, PyData.depthAll, Fm.deep, word_ok, a1, b1]
    try omega
end KQ
namespace KQ
open PySem PySem.Spec PyProof.Rows L2 KR KM StX
def nodesF : Fm → Nat
  | .d _ => 1
  | .t _ l r => nodesF l + nodesF r + 1
theorem nodes_doors : ∀ f : Fm, nodesF f + 1 = 2 * f.doors.length
  | .d n => rfl
  | .t w l r => by
    have a := nodes_doors l
    have b := nodes_doors r
    show nodesF l + nodesF r + 1 + 1 = 2 * (l.doors ++ r.doors).length
    rw [List.length_append]
    omega
theorem nodes_pos : ∀ f : Fm, 0 < nodesF f
  | .d n => Nat.one_pos
  | .t w l r => Nat.succ_pos _
section
variable {P : Program} {w : World} {K : PySem.W.Frag} {mg : Str → Option Value} {base : Heap}
theorem fhs_dp {H : Hp} : ∀ {us : List V} {fs : List Fm}, FHs H us fs → DpAll K H us (fs.map Fm.data)
  | [], [], _ => .nil
  | [], _ :: _, h => by cases h.1
  | _ :: _, [], h => by cases h.1
  | u :: us, f :: fs, h => by
    obtain ⟨g, e, k⟩ := h.2 0 u rfl
    cases e
    exact .cons k.dp (fhs_dp ⟨Nat.succ.inj h.1, fun i v e => h.2 (i + 1) v e⟩)
theorem forms_shaped {fs : List Fm} (h : ∀ f ∈ fs, f.deep ≤ 5) : SeqAt.shaped (.list (fs.map Fm.data)) = true := by
  have : PyData.canLayAll0 (fs.map Fm.data) = true ∧ PyData.depthAll (fs.map Fm.data) ≤ 7 := by
    induction fs with
    | nil => simp [PyData.canLayAll0, PyData.depthAll]
    | cons p r ih =>
      obtain ⟨a, b⟩ := ih fun q hq => h q (List.mem_cons_of_mem _ hq)
      obtain ⟨a2, b2⟩ := fm_lay p
      have := h p List.mem_cons_self
      simp [PyData.canLayAll0, PyData.depthAll, a, a2]
      omega
  obtain ⟨a, b⟩ := this
  simp [SeqAt.shaped, PyData.canLay0, PyData.depth, a]
  omega
theorem rs_last {H : Hp} {us : List V} {fs : List Fm} (h : fs ≠ []) (k : FHs H us fs) : ∃ us' u fs' g, us = us' ++ [u] ∧ fs = fs' ++ [g] ∧ FHs H us' fs' ∧ FH H u g := by
  have hu : us ≠ [] := fun z => by
    have := k.1
    rw [z] at this
    exact h (List.length_eq_zero_iff.mp this.symm)
  have e1 := (List.dropLast_concat_getLast hu).symm
  have e2 := (List.dropLast_concat_getLast h).symm
  have ll : us.dropLast.length = fs.dropLast.length := by rw [List.length_dropLast, List.length_dropLast, k.1]
  refine ⟨_, _, _, _, e1, e2, ⟨ll, fun i v hv => ?_⟩, ?_⟩
  · have il := (List.getElem?_eq_some_iff.mp hv).1
    obtain ⟨g, hg, r⟩ := k.2 i v (by rw [e1, List.getElem?_append_left il]; exact hv)
    refine ⟨g, ?_, r⟩
    rw [e2, List.getElem?_append_left (by rw [← ll]; exact il)] at hg
    exact hg
  · obtain ⟨g, hg, r⟩ := k.2 us.dropLast.length (us.getLast hu) (by rw [List.getElem?_eq_getElem (by rw [List.length_dropLast]; have := List.length_pos_iff.mpr hu; omega)]; rw [List.getLast_eq_getElem]; simp)
    rw [ll, e2, List.getElem?_append_right (by rw [← e2]; exact Nat.le_refl _)] at hg
    simp at hg
    rw [hg]
    exact r
abbrev s__law_is_form : Stmt := topS 36
theorem sc__law_is_form : FnScope ["value", "many", "left", "met", "turn", "part"] ["value", "many"] (defScope s__law_is_form) := ⟨rfl, rfl, rfl, by decide +kernel, rfl, by decide +kernel, by decide +kernel⟩
def spIsForm : Sp := fun vs H Q _ => ∃ (v : V) (f : Fm) (n : Nat), vs = [v, .int ((n + 1 : Nat) : Int)] ∧ FH H v f ∧ f.doors.Perm (doorsN n) ∧ n < 6 ∧ ∀ H', Same H H' → Q (.bl true) H'
theorem ok_law_is_form (D : DefAt K mg "_law_is_form" s__law_is_form) (T : Bt mg) (z_str : mg "str" = none) (u__law_is_int : Use P w K mg base "_law_is_int" 1 ["thing", "low", "high"] spIntWA) : Use P w K mg base "_law_is_form" 2 ["value", "many"] spIsForm := by
  refine use_of D (fun f fd F => F.ok sc__law_is_form (fun vs H Q E h => ?_) (fun cdv A outer s H vs Q E hr h => ?_)) (fun _ _ _ _ _ _ us hl => match us, hl with | [_, _], _ => rfl)
  · obtain ⟨v, f, n, rfl, _⟩ := h
    rfl
  · obtain ⟨v, f, n, rfl, hf, pm, n6, q⟩ := h
    refine ⟨_, (pss_cons (ps_par (i := 2) (j := 3) rfl sc__law_is_form.nd rfl rfl (by decide) rfl rfl (pa_cons (pe_lst (pa_cons (pv 0) pa_nil)) (pa_cons (pe_lst pa_nil) pa_nil)) (by rfl))
      (pss_cons (ps_for PassesOwn.never rfl (pi_range1 (by rfl) T.range (pa_cons (pe_op op_sub (pe_op op_mulW pe_int (pv 1)) pe_int) pa_nil)) (pg_name (i := 4) sc__law_is_form.nd rfl (Or.inl rfl))
      (pss_cons (ps_if (pt_cmpR (k_eqD (K := K) rfl hr.units) (pv 2) (pe_lst pa_nil) (nomark _)) (pss_one (ps_ret pe_bl)) pss_nil)
      (pss_cons (ps_set (i := 5) sc__law_is_form.nd rfl (Or.inl rfl) (pe_bm0 PySem.F.plainAttrs_list PySem.F.slot_list_pop PySem.F.type_list_pop mt_pop (pv 2)))
      (pss_one (ps_if (PW.pt (pw_and (pt_val (pe_callB (k_isi (K := K) rfl) (by rfl) T.isinstance (by decide +kernel) (pa_cons (pv 5) (pa_cons (pe_bltn (v := .ty "tuple") (by rfl) T.tuple (by decide +kernel) rfl) pa_nil)))) (pw_and (pt_cmpR op_eq (pe_callB (k_len (K := K) rfl) (by rfl) T.len PySem.boot_len (pa_cons (pv 5) pa_nil)) pe_int (nomark _)) (pw_and (pt_val (pe_callB (k_isi (K := K) rfl) (by rfl) T.isinstance (by decide +kernel) (pa_cons (pe_ix (k_ixt (K := K) rfl) (pv 5) pe_int (fun _ _ => rfl)) (pa_cons (pe_bltn (v := .ty "str") (by rfl) z_str (by decide +kernel) rfl) pa_nil)))) (pw_and1 (pt_cmpR (k_in (K := K) rfl) (pe_ix (k_ixt (K := K) rfl) (pv 5) pe_int (fun _ _ => rfl)) (pe_tup (pa_cons pe_str (pa_cons pe_str pa_nil))) (by rfl))))))) (pss_one (ps_expr (k_bm (K := K) rfl PySem.F.plainAttrs_list PySem.F.slot_list_extend PySem.F.type_list_extend mt_extend (pv 2) (pa_cons (pe_lst (pa_cons (pe_ix (k_ixt (K := K) rfl) (pv 5) pe_int (fun _ _ => rfl)) (pa_cons (pe_ix (k_ixt (K := K) rfl) (pv 5) pe_int (fun _ _ => rfl)) pa_nil))) pa_nil)))) (pss_one (ps_if (PW.pt (pw_and (pt_val (pe_use u__law_is_int (by decide) hr (by rfl) (pa_cons (pv 5) (pa_cons pe_int (pa_cons (pe_op op_sub (pv 1) pe_int) pa_nil))))) (pw_and1 (pt_cmpR (k_notIn (K := K) rfl) (pv 5) (pv 3) (by rfl))))) (pss_one (ps_expr (k_bm (K := K) rfl PySem.F.plainAttrs_list PySem.F.slot_list_append PySem.F.type_list_append mt_append (pv 3) (pa_cons (pv 5) pa_nil)))) (pss_one (ps_ret pe_bl)))))))))
      (pss_one (ps_ret (pe_cmpR (k_eqD (K := K) rfl hr.units) (pv 2) (pe_lst pa_nil) (nomark _)))))), ?_⟩
    refine ⟨_, rfl, by show 1 ≤ sizeLine; decide, fun L nL => ⟨by show 0 ≤ sizeLine; decide, fun M nM => ?_⟩⟩
    have sL := same_new (H := H) (o := .lst [v]) nL
    have sM := same_new (H := upd H L (.lst [v])) (o := .lst []) nM
    have eL := sM _ _ (upd_same (H := H) (a := L) (o := .lst [v]))
    have eM := upd_same (H := upd H L (.lst [v])) (a := M) (o := .lst [])
    have s1 := sL.trans sM
    have nMH : H M = none := sL.free nM
    have neLM : L ≠ M := fun z => by rw [← z, upd_same] at nM; cases nM
    have hf1 := hf.mono s1
    generalize upd (upd H L (.lst [v])) M (.lst []) = H1 at eL eM s1 hf1
    have dlen : f.doors.length = n + 1 := by rw [pm.length_eq, doorsN_len]
    have nodes := nodes_doors f
    have fdeep := f.deep_doors
    refine ⟨_, _, rfl, ?_⟩
    refine ⟨_, rfl, _, _, rfl, rfl, wide_mul (a := 8) (b := 8) (by omega) (by omega) (by decide) (by decide) (by decide), _, _, rfl, rfl, _, rfl, by omega, by omega, for_range (lo := 0) (n := (2 * ((n + 1 : Nat) : Int) - 1).toNat)
      (fun i σ H2 => ∃ (y4 y5 : Option V) (us : List V) (fs : List Fm) (ms : List Int), σ = [some v, some (.int ((n + 1 : Nat) : Int)), some (.ref L), some (.ref M), y4, y5] ∧ Same H H2 ∧ H2 L = some (.lst us) ∧ FHs H2 us fs ∧ H2 M = some (.lst (ms.map V.int)) ∧
        (fs.map nodesF).sum + i = 2 * n + 1 ∧ (∀ g ∈ fs, g.deep ≤ 5) ∧ (ms ++ fs.flatMap Fm.doors).Perm (doorsN n))
      ⟨none, none, [v], [f], [], rfl, s1, eL, .one hf1, eM, by simp; omega, (fun g hg => by rw [List.mem_singleton.mp hg]; omega), by simpa using pm⟩ ?_ ?_⟩
    · rintro i σ H2 hi ⟨y4, y5, us, fs, ms, rfl, s2, eL, fus, eM, cnt, dps, pms⟩
      have fne : fs ≠ [] := fun z => by
        rw [z] at cnt
        simp at cnt
        omega
      refine ⟨_, rfl, by show 0 ≤ sizeLine; decide, fun e ne => ?_⟩
      have se := same_new (H := H2) (o := .lst []) ne
      have eL3 := se _ _ eL
      have eM3 := se _ _ eM
      have fus := fus.map fun v a k => k.mono se
      refine ⟨_, _, .lst (sqL eL3) (fhs_dp fus), .lst (sqL (xs := []) upd_same) .nil, forms_shaped dps, rfl, false, congrArg V.bl ?_, ?_⟩
      · cases fs with
        | nil => exact absurd rfl fne
        | cons x r => simp [PyData.eqv, PyData.eqvAll]
      refine iteF ?_
      have s3 := s2.trans se
      generalize upd H2 e (.lst []) = H3 at se eL3 eM3 fus s3
      obtain ⟨us', u, fs', g, rfl, rfl, fus', fu⟩ := rs_last fne fus
      refine ⟨_, rfl, .inl ⟨rfl, _, sqL eL3⟩, L, _, u, rfl, rfl, eL3, by rw [List.length_append]; simp, ?_⟩
      rw [List.dropLast_concat]
      have s4 : Same H (upd H3 L (.lst us')) := same_mut s3 nL
      have eL4 := upd_same (H := H3) (a := L) (o := .lst us')
      have eM4 : upd H3 L (.lst us') M = some (.lst (ms.map V.int)) := by rw [upd_ne neLM.symm]; exact eM3
      have fus4 := fus'.map fun v a k => k.upd (o := .lst us') eL3
      have fu4 := fu.upd (o := .lst us') eL3
      generalize upd H3 L (.lst us') = H4 at s4 eL4 eM4 fus4 fu4
      have cnt2 : (fs'.map nodesF).sum + nodesF g + i = 2 * n + 1 := by
        rw [List.map_append, List.sum_append] at cnt
        simpa using cnt
      have dps2 : ∀ h ∈ fs', h.deep ≤ 5 := fun h hh => dps h (List.mem_append_left _ hh)
      have dpg : g.deep ≤ 5 := dps g (List.mem_append_right _ List.mem_cons_self)
      rw [List.flatMap_append, List.flatMap_cons, List.flatMap_nil, List.append_nil] at pms
      cases fu4 with
      | d x =>
        have mem : x ∈ doorsN n := pms.mem_iff.mp (List.mem_append_right _ (List.mem_append_right _ List.mem_cons_self))
        have xr := doorsN_mem.mp mem
        have ndx : (ms ++ (fs'.flatMap Fm.doors ++ [x])).Nodup := pms.nodup_iff.mpr (doorsN_nodup n)
        have xm : x ∉ ms := fun z => (List.nodup_append.mp ndx).2.2 x z x (List.mem_append_right _ List.mem_cons_self) rfl
        have ml : ms.length ≤ n + 1 := by
          have := pms.length_eq
          rw [List.length_append, doorsN_len] at this
          omega
        refine ⟨_, rfl, _, _, _, _, false, rfl, .ty _, .base (.int x), kit_ty (by decide +kernel), ?_⟩
        refine ⟨_, rfl, ?_⟩
        refine iteF ?_
        refine iteF ?_
        refine ⟨_, rfl, _, rfl, _, _, rfl, rfl, .int x, 0, _, rfl, .int x, _, rfl, ?_⟩
        rw [show inV (.int x) 0 (((n + 1 : Nat) : Int) - 1) = true from decide_eq_true (by omega)]
        refine iteT ?_
        refine ⟨_, rfl, _, rfl, M, _, rfl, .inl (sqL eM4), rfl, flat_ints _, true, congrArg V.bl ((congrArg Bool.not (inV_ints _ _)).trans (by rw [decide_eq_false xm]; rfl)), ?_⟩
        refine iteT ?_
        refine ⟨_, rfl, .inl ⟨rfl, _, sqL eM4⟩, _, rfl, M, _, _, rfl, rfl, eM4, by rw [List.length_map]; exact small_of (by omega), ?_⟩
        refine ⟨_, _, us', fs', ms ++ [x], rfl, same_mut s4 nMH, by rw [upd_ne neLM]; exact eL4, fus4.map (fun v a k => k.upd eM4), ?_, ?_, dps2, ?_⟩
        · rw [upd_same, List.map_append]
          rfl
        · have : nodesF (.d x) = 1 := rfl
          omega
        · refine List.Perm.trans ?_ pms
          rw [List.append_assoc]
          exact List.Perm.append_left ms List.perm_append_comm
      | @t a w l r vl vr ea fl fr =>
        refine ⟨_, rfl, _, _, _, _, true, rfl, .ty _, .base (.tup ea), kit_ty (by decide +kernel), ?_⟩
        refine ⟨_, rfl, ?_⟩
        refine iteT ?_
        refine ⟨_, rfl, a, _, rfl, .inr (.inl (.inl ea)), rfl, true, congrArg V.bl (decide_eq_true rfl), ?_⟩
        refine iteT ?_
        refine ⟨_, rfl, a, _, 0, _, rfl, rfl, .inl (.inl ea), rfl, ?_⟩
        refine ⟨_, _, _, _, true, rfl, .ty _, .base (.str _), kit_ty (by decide +kernel), ?_⟩
        refine ⟨_, rfl, ?_⟩
        refine iteT ?_
        refine ⟨_, rfl, a, _, 0, _, rfl, rfl, .inl (.inl ea), rfl, by show 2 ≤ sizeLine; decide, fun tp ntp => ?_⟩
        have stp := same_new (H := H4) (o := .tup [V.str "both", V.str "either"]) ntp
        refine ⟨tp, _, rfl, .inr (sqT upd_same), rfl, rfl, true, congrArg V.bl (by cases w <;> decide +kernel), ?_⟩
        refine iteT ?_
        have eL5 := stp _ _ eL4
        have eM5 := stp _ _ eM4
        have ea5 := stp _ _ ea
        have s5 := s4.trans stp
        have fus5 := fus4.map fun v a k => k.mono stp
        have fl5 := fl.mono stp
        have fr5 := fr.mono stp
        generalize upd H4 tp (.tup [V.str "both", V.str "either"]) = H5 at eL5 eM5 ea5 s5 fus5 fl5 fr5
        refine ⟨_, rfl, .inl ⟨rfl, _, sqL eL5⟩, _, rfl, a, _, 1, _, rfl, rfl, .inl (.inl ea5), rfl, _, rfl, a, _, 2, _, rfl, rfl, .inl (.inl ea5), rfl, by show 2 ≤ sizeLine; decide, fun X nX => ?_⟩
        have sX := same_new (H := H5) (o := .lst [vl, vr]) nX
        have eL6 := sX _ _ eL5
        have lus : us'.length ≤ 20 := by
          rw [fus5.1]
          have : ∀ l : List Fm, l.length ≤ (l.map nodesF).sum := fun l => by
            induction l with
            | nil => exact Nat.le_refl _
            | cons x r ih =>
              rw [List.map_cons, List.sum_cons, List.length_cons]
              have := nodes_pos x
              omega
          have := this fs'
          omega
        refine ⟨L, X, _, _, rfl, rfl, eL6, upd_same, Nat.le_of_lt (small_of (by show us'.length + 2 ≤ _; omega)), ?_⟩
        have sm6 : Same H (upd (upd H5 X (.lst [vl, vr])) L (.lst (us' ++ [vl, vr]))) := same_mut (s5.trans sX) nL
        have two : FHs (upd (upd H5 X (.lst [vl, vr])) L (.lst (us' ++ [vl, vr]))) [vl, vr] [l, r] := (Rs.one ((fl5.mono sX).upd eL6)).app (Rs.one ((fr5.mono sX).upd eL6))
        refine ⟨_, _, us' ++ [vl, vr], fs' ++ [l, r], ms, rfl, sm6, upd_same, (fus5.map fun v a k => (k.mono sX).upd eL6).app two, by rw [upd_ne neLM.symm]; exact sX _ _ eM5, ?_, ?_, ?_⟩
        · rw [List.map_append, List.sum_append]
          have : nodesF (.t w l r) = nodesF l + nodesF r + 1 := rfl
          simp
          omega
        · intro h hh
          have dp : max l.deep r.deep + 1 ≤ 5 := dpg
          rcases List.mem_append.mp hh with hh | hh
          · exact dps2 h hh
          · simp only [List.mem_cons, List.mem_nil_iff, or_false] at hh
            rcases hh with rfl | rfl <;> omega
        · rw [List.flatMap_append]
          have : [l, r].flatMap Fm.doors = (Fm.t w l r).doors := by
            show l.doors ++ (r.doors ++ []) = l.doors ++ r.doors
            rw [List.append_nil]
          rw [this]
          exact pms
    · rintro σ H2 ⟨y4, y5, us, fs, ms, rfl, s2, eL, fus, eM, cnt, dps, pms⟩
      rw [show (2 * ((n + 1 : Nat) : Int) - 1).toNat = 2 * n + 1 by omega] at cnt
      have f0 : fs = [] := by
        cases fs with
        | nil => rfl
        | cons x r =>
          simp at cnt
          have := nodes_pos x
          omega
      subst f0
      have u0 : us = [] := List.length_eq_zero_iff.mp fus.1
      subst u0
      refine ⟨_, rfl, by show 0 ≤ sizeLine; decide, fun e ne => ?_⟩
      have se := same_new (H := H2) (o := .lst []) ne
      exact ⟨_, _, .lst (sqL (xs := []) (se _ _ eL)) .nil, .lst (sqL (xs := []) upd_same) .nil, rfl, rfl, q _ (s2.trans se)⟩
end
end KQ
namespace KQ
open PySem PySem.Spec PyProof.Rows L2 KR KM StX
section
variable {P : Program} {w : World} {K : PySem.W.Frag} {mg : Str → Option Value} {base : Heap}
def spOfA : Sp := fun vs H Q _ => ∃ (m c g : Addr) (b : Int) (l : Addr) (xs : List V), vs = [.ref m, .ref l] ∧ MS H m c g b ∧ b ≤ 1000000 ∧ H l = some (.lst xs) ∧ l ≠ g ∧ xs ≠ [] ∧ xs.length ≤ 1000000 ∧
  ∀ H' x, Kept H H' m g → MS H' m c g (b + 1) → x ∈ xs → Q x H'
theorem ok_ofA (D : DefAt K mg "_law_of" s__law_of) (T : Bt mg) (u__law_draw : Use P w K mg base "_law_draw" 2 ["m", "limit"] spDraw) : Use P w K mg base "_law_of" 3 ["m", "some"] spOfA := by
  refine use_of D (fun f fd F => F.ok sc__law_of (fun vs H Q E h => ?_) (fun cdv A outer s H vs Q E hr h => ?_)) (fun _ _ _ _ _ _ us hl => match us, hl with | [_, _], _ => rfl)
  · obtain ⟨m, c, g, b, l, xs, rfl, _⟩ := h
    rfl
  · obtain ⟨m, c, g, b, l, xs, rfl, ms, hb, el, lg, ne, hle, q⟩ := h
    refine ⟨_, (pss_one (ps_ret (pe_ix (k_ixl (K := K) rfl) (pv 1) (pe_use u__law_draw (by decide) hr (by rfl) (pa_cons (pv 0) (pa_cons (pe_callB (k_len (K := K) rfl) (by rfl) T.len PySem.boot_len (pa_cons (pv 1) pa_nil)) pa_nil))) (fun _ _ => rfl)))), ?_⟩
    have lm : l ≠ m := by
      obtain ⟨cs, gs, k, h1, h2, h3, r⟩ := ms
      intro e
      rw [e, h1] at el
      cases el
    have pos := List.length_pos_iff.mpr ne
    refine ⟨_, rfl, _, rfl, _, rfl, l, _, rfl, .inl (sqL el), m, c, g, b, _, rfl, ms, hb, by omega, by omega, fun H1 d k1 ms1 d0 d1 => ?_⟩
    obtain ⟨x, hx⟩ := at_some (xs := xs) (i := d.toNat) (by omega)
    exact ⟨l, _, d, x, rfl, rfl, sqL (k1 _ _ el lm lg), atI_of (j := d.toNat) (by omega) hx, q H1 x k1 ms1 (List.mem_of_getElem? hx)⟩
def spBent : Sp := fun vs H Q _ => ∃ (m c g : Addr) (b : Int) (a : Addr) (rs : List Int) (many : Int), vs = [.ref m, .ref a, .int many] ∧ MS H m c g b ∧ b ≤ 90000 ∧ TI H a rs ∧ rs.length ≤ 60 ∧ 1 ≤ many ∧ many ≤ 60 ∧
  ∀ H' l (ws : List V), Kept H H' m g → MS H' m c g (b + 100) → H' l = some (.lst ws) → l ≠ m → l ≠ g → ws.length ≤ 100 → (∀ v ∈ ws, Good H' [m, g] v) → Q (.ref l) H'
/-- told as it is being made -/
structure Tld (H : Hp) (m c g a : Addr) (rs : List Int) (B : Int) (n : Nat) (H' : Hp) (l : Addr) : Prop where
  kept : Kept H H' m g
  ms : MS H' m c g B
  row : TI H' a rs
  ex : ∃ ws : List V, H' l = some (.lst ws) ∧ ws.length ≤ n ∧ ∀ v ∈ ws, Good H' [l, m, g] v
  new : H l = none
  lm : l ≠ m
  lc : l ≠ c
  lg : l ≠ g
theorem Tld.put {H H' : Hp} {m c g a : Addr} {rs : List Int} {B : Int} {l : Addr} {n : Nat} {ws : List V} (hk : Kept H H' m g) (ms : MS H' m c g B) (row : TI H' a rs) (e : H' l = some (.lst ws)) (ln : ws.length ≤ n)
    (gd : ∀ v ∈ ws, Good H' [l, m, g] v) (nw : H l = none) (lm : l ≠ m) (lc : l ≠ c) (lg : l ≠ g) {v : V} (hv : Good H' [l, m, g] v) :
    Tld H m c g a rs B (n + 1) (upd H' l (.lst (ws ++ [v]))) l := by
  have kk : KeptS H' (upd H' l (.lst (ws ++ [v]))) [l, m, g] := fun x u hx hn => by
    rw [upd_ne (fun z => hn (by rw [z]; exact List.mem_cons_self))]
    exact hx
  refine ⟨kept_mut hk nw, ms.put lm lc lg, ?_, ⟨ws ++ [v], upd_same, by rw [List.length_append]; show ws.length + 1 ≤ n + 1; omega, fun u hu => ?_⟩, nw, lm, lc, lg⟩
  · exact rd_lst row e
  · rcases List.mem_append.mp hu with hu | hu
    · exact (gd u hu).kept kk
    · rw [List.mem_singleton.mp hu]
      exact hv.kept kk
theorem Kept.s {H H' : Hp} {m g : Addr} (k : Kept H H' m g) : KeptS H H' [m, g] := fun a u h n => k a u h (fun z => n (by rw [z]; simp)) (fun z => n (by rw [z]; simp))
theorem Kept.s3 {H H' : Hp} {l m g : Addr} (k : Kept H H' m g) : KeptS H H' [l, m, g] := fun a u h n => k a u h (fun z => n (by rw [z]; simp)) (fun z => n (by rw [z]; simp))
theorem ms_tup {H : Hp} {m c g : Addr} {b : Int} (ms : MS H m c g b) {a : Addr} {vs : List V} (h : H a = some (.tup vs)) : a ∉ [m, g] := by
  obtain ⟨cs, gs, k, h1, h2, h3, r⟩ := ms
  intro hm
  rcases List.mem_cons.mp hm with z | z
  · rw [z, h1] at h
    cases h
  · rw [List.mem_singleton.mp z, h3] at h
    cases h
theorem ms_tup3 {H : Hp} {m c g l : Addr} {b : Int} (ms : MS H m c g b) {a : Addr} {vs ws : List V} (hl : H l = some (.lst ws)) (h : H a = some (.tup vs)) : a ∉ [l, m, g] := by
  intro hm
  rcases List.mem_cons.mp hm with z | z
  · rw [z, hl] at h
    cases h
  · exact ms_tup ms h z
theorem ms_new3 {H : Hp} {m c g l : Addr} {b : Int} (ms : MS H m c g b) {a : Addr} {ws : List V} (hl : H l = some (.lst ws)) (h : H a = none) : a ∉ [l, m, g] := by
  have n := ms.ne h
  intro hm
  rcases List.mem_cons.mp hm with z | z
  · rw [z, hl] at h
    cases h
  · rcases List.mem_cons.mp z with z | z
    · exact n.1 z
    · exact n.2.2 (List.mem_singleton.mp z)
theorem shaped_intsT (ns : List Int) : SeqAt.shaped (.tuple (ns.map .int)) = true := by
  unfold SeqAt.shaped
  simp only [PyData.canLay0, lay0, PyData.depth, depth0]
  rfl
theorem eqv_nilT (ns : List Int) : (!PyData.eqv (.tuple (ns.map .int)) (.tuple [])) = !ns.isEmpty := by
  cases ns <;> rfl
end
end KQ
namespace KQ
open PySem PySem.Spec PyProof.Rows L2 KR KM StX
section
variable {P : Program} {w : World} {K : PySem.W.Frag} {mg : Str → Option Value} {base : Heap}
def spDrawW : Sp := fun vs H Q _ => ∃ m c g b limit, vs = [.ref m, .int limit] ∧ MS H m c g b ∧ b ≤ 1000000 ∧ 1 ≤ limit ∧ limit ≤ 2 ^ 70 ∧ ∀ H' d, Kept H H' m g → MS H' m c g (b + 1) → 0 ≤ d → d < limit → Q (.int d) H'
theorem ok_drawW (D : DefAt K mg "_law_draw" s__law_draw) (T : Bt mg) (u__law_mixed : Use P w K mg base "_law_mixed" 1 ["cell", "n"] spMixed) : Use P w K mg base "_law_draw" 2 ["m", "limit"] spDrawW := by
  refine use_of D (fun f fd F => F.ok sc__law_draw (fun vs H Q E h => ?_) (fun cdv A outer s H vs Q E hr h => ?_)) (fun _ _ _ _ _ _ us hl => match us, hl with | [_, _], _ => rfl)
  · obtain ⟨m, c, g, b, limit, rfl, _⟩ := h
    rfl
  · obtain ⟨m, c, g, b, limit, rfl, ⟨cs, gs, n, hm, hc, hg, lc, rc, cg, lg, n0, n1⟩, b1, l1, l2, q⟩ := h
    refine ⟨_, (pss_cons (ps_set (i := 2) sc__law_draw.nd rfl (Or.inl rfl) (pe_dget (hu_of hr) (pv 0) pe_str (fun _ _ => rfl)))
      (pss_cons (ps_dput (hu_of hr) (pv 0) pe_str (pe_op op_add (pv 2) pe_int) rfl)
      (pss_cons (ps_if (pt_cmpR (k_neD (K := K) rfl hr.units) (pe_dget (hu_of hr) (pv 0) pe_str (fun _ _ => rfl)) (pe_lst pa_nil) (nomark _)) (pss_cons (ps_set (i := 3) sc__law_draw.nd rfl (Or.inl rfl) (pe_dget (hu_of hr) (pv 0) pe_str (fun _ _ => rfl)))
      (pss_cons (ps_set (i := 4) sc__law_draw.nd rfl (Or.inl rfl) (pe_op op_modN (pe_callTy call_int1 (by rfl) T.int (by decide +kernel) (pa_cons (pv 2) pa_nil)) (pe_callB (k_len (K := K) rfl) (by rfl) T.len PySem.boot_len (pa_cons (pv 3) pa_nil))))
      (pss_cons (ps_set (i := 5) sc__law_draw.nd rfl (Or.inl rfl) (pe_ix (k_ixl (K := K) rfl) (pv 3) (pv 4) (fun _ _ => rfl)))
      (pss_one (ps_if (pt_cmpR op_gt (pv 5) pe_int (nomark _)) (pss_cons (ps_asg (pe_op op_fdivW (pv 5) (pv 1)) (pg_sub (pv 3) (pv 4) set_list))
      (pss_one (ps_ret (pe_op op_modN (pe_callTy call_int1 (by rfl) T.int (by decide +kernel) (pa_cons (pv 5) pa_nil)) (pv 1))))) pss_nil))))) pss_nil)
      (pss_cons (ps_set (i := 3) sc__law_draw.nd rfl (Or.inl rfl) (pe_dget (hu_of hr) (pv 0) pe_str (fun _ _ => rfl)))
      (pss_one (ps_ret (pe_op op_modN (pe_callTy call_int1 (by rfl) T.int (by decide +kernel) (pa_cons (pe_use u__law_mixed (by decide) hr (by rfl) (pa_cons (pe_use u__law_mixed (by decide) hr (by rfl) (pa_cons (pe_op op_add (pe_ix (k_ixl (K := K) rfl) (pv 3) (pe_op op_modN (pe_callTy call_int1 (by rfl) T.int (by decide +kernel) (pa_cons (pv 2) pa_nil)) pe_int) (fun _ _ => rfl)) (pe_op op_mulW pe_int (pe_op op_fdivW (pv 2) pe_int))) (pa_cons (pv 2) pa_nil))) (pa_cons (pe_op op_add (pv 2) pe_int) pa_nil))) pa_nil)) (pv 1)))))))), ?_⟩
    have mc : m ≠ c := fun e => by rw [e, hc] at hm; cases hm
    have mg' : m ≠ g := fun e => by rw [e, hg] at hm; cases hm
    have e2 : (2 : Int) ^ 30 = 1073741824 := by decide
    refine ⟨_, rfl, m, _, rfl, .k (k := .inr "spot") hm, ?_⟩
    refine ⟨_, rfl, _, _, rfl, rfl, _, rfl, m, _, rfl, .k (k := .inr "spot") hm (small_of (Nat.le_of_ble_eq_true rfl)), ?_⟩
    rw [show putK [((.inr "cells" : L2.Key), V.ref c), (.inr "great", .ref g), (.inr "spot", .int n)] (.inr "spot") (V.int (n + 1)) = [(.inr "cells", .ref c), (.inr "great", .ref g), (.inr "spot", .int (n + 1))] from rfl]
    generalize hH1 : upd H m (.dK [((.inr "cells" : L2.Key), V.ref c), (.inr "great", .ref g), (.inr "spot", .int (n + 1))]) = H1
    have hm1 : H1 m = some (.dK [((.inr "cells" : L2.Key), V.ref c), (.inr "great", .ref g), (.inr "spot", .int (n + 1))]) := by rw [← hH1, upd_same]
    have hc1 : H1 c = some (.lst (cs.map V.int)) := by rw [← hH1, upd_ne mc.symm]; exact hc
    have hg1 : H1 g = some (.lst (gs.map V.int)) := by rw [← hH1, upd_ne mg'.symm]; exact hg
    have k1 : Kept H H1 m g := fun a u ha na _ => by rw [← hH1, upd_ne na]; exact ha
    refine ⟨_, rfl, m, _, rfl, .k (k := .inr "great") hm1, Nat.zero_le _, fun p np => ?_⟩
    have npg : p ≠ g := fun e => by rw [e, hg1] at np; cases np
    have npm : p ≠ m := fun e => by rw [e, hm1] at np; cases np
    have npc : p ≠ c := fun e => by rw [e, hc1] at np; cases np
    have hm2 : (upd H1 p (.lst [])) m = some (.dK [((.inr "cells" : L2.Key), V.ref c), (.inr "great", .ref g), (.inr "spot", .int (n + 1))]) := by rw [upd_ne npm.symm]; exact hm1
    have hc2 : (upd H1 p (.lst [])) c = some (.lst (cs.map V.int)) := by rw [upd_ne npc.symm]; exact hc1
    have hg2 : (upd H1 p (.lst [])) g = some (.lst (gs.map V.int)) := by rw [upd_ne npg.symm]; exact hg1
    have k2 : Kept H (upd H1 p (.lst [])) m g := fun a u ha na nb => by rw [upd_ne (ne_of_none (k1 a u ha na nb) np)]; exact k1 a u ha na nb
    refine ⟨.list (gs.map PyData.int), .list [], .lst (sqL hg2) (dpAll_ints gs), .lst (sqL (xs := []) upd_same) .nil, shaped_ints gs, rfl, _, rfl, ?_⟩
    rw [eqv_nil]
    generalize hH2 : upd H1 p (.lst []) = H2 at *
    have fin : ∀ H3, (∀ a u, H2 a = some u → a ≠ g → H3 a = some u) → (∃ gs' : List Int, H3 g = some (.lst (gs'.map V.int)) ∧ gs'.length = gs.length) → Kept H H3 m g ∧ MS H3 m c g (b + 1) := by
      intro H3 h3 ⟨gs', hg3, lg3⟩
      exact ⟨fun a u ha na nb => h3 a u (k2 a u ha na nb) nb, ⟨cs, gs', n + 1, h3 _ _ hm2 mg', h3 _ _ hc2 cg, hg3, lc, rc, cg, by omega, by omega, by omega⟩⟩
    have fin2 := fin H2 (fun a u ha _ => ha) ⟨gs, hg2, rfl⟩
    have f64 := fm (i := n) (j := 64) (by decide)
    have hat : ∃ x, cs[(n.fmod 64).toNat]? = some x ∧ 0 ≤ x ∧ x < 2147483647 := by
      have hl : (n.fmod 64).toNat < cs.length := by omega
      exact ⟨_, List.getElem?_eq_getElem hl, rc _ (List.getElem_mem hl)⟩
    obtain ⟨x, hx, x0, x1⟩ := hat
    have hd : 0 ≤ n / 64 ∧ n / 64 ≤ n := ⟨by omega, by omega⟩
    have e24 : (2 : Int) ^ 24 = 16777216 := by decide
    have e40 : (2 : Int) ^ 40 = 1099511627776 := by decide
    have e31 : (2 : Int) ^ 31 = 2147483648 := by decide
    cases gs with
    | nil =>
      refine ⟨_, rfl, m, _, rfl, .k (k := .inr "cells") hm2, ?_⟩
      refine ⟨_, rfl, _, rfl, .inl ⟨n, rfl, n, 64, rfl, rfl, (show (64 : Int) ≠ 0 by decide), c, _, n.fmod 64, V.int x, rfl, rfl, sqL hc2, atI_of (j := (n.fmod 64).toNat) (by omega) (at_map hx), ?_⟩⟩
      refine ⟨_, rfl, n, 64, rfl, rfl, wide_div (by decide) (by decide : (64 : Int).natAbs < 2 ^ 7) (by decide) (by decide), 31, n / 64, rfl, rfl, wide_mul (by decide : (31 : Int).natAbs < 2 ^ 5) (nb (b := 24) (by omega) (by omega)) (by decide) (by decide) (by decide), x, 31 * (n / 64), rfl, rfl, _, rfl, ?_⟩
      refine ⟨x + 31 * (n / 64), n, rfl, by omega, by omega, by omega, by omega, fun r r0 r1 => ⟨_, rfl, n, 7, rfl, rfl, r, n + 7, rfl, r0, by omega, by omega, by omega, fun r2 r3 r4 => .inl ⟨r2, rfl, _, rfl, r2, limit, rfl, rfl, (show limit ≠ 0 by omega), ?_⟩⟩⟩
      exact q _ _ fin2.1 fin2.2 (fm (by omega)).1 (fm (by omega)).2
    | cons g0 gr =>
      have fG := fm (i := n) (j := (((g0 :: gr).length : Nat) : Int)) (by rw [List.length_cons]; omega)
      have hat2 : ∃ y, (g0 :: gr)[(n.fmod ((g0 :: gr).length : Nat)).toNat]? = some y := ⟨_, List.getElem?_eq_getElem (by omega)⟩
      obtain ⟨y, hy⟩ := hat2
      refine ⟨_, rfl, m, _, rfl, .k (k := .inr "great") hm2, ?_⟩
      refine ⟨_, rfl, .inl ⟨n, rfl, _, rfl, g, _, rfl, .inl (sqL hg2), n, _, rfl, rfl, ?_, ?_⟩⟩
      · rw [List.length_map, List.length_cons]
        omega
      rw [List.length_map]
      refine ⟨_, rfl, _, rfl, g, _, _, V.int y, rfl, rfl, sqL hg2, atI_of (j := (n.fmod ((g0 :: gr).length : Nat)).toNat) (by omega) (at_map hy), ?_⟩
      refine ⟨_, rfl, y, 0, rfl, rfl, _, rfl, ?_⟩
      by_cases hpos : 0 < y
      · rw [decide_eq_true hpos]
        refine ⟨_, rfl, _, rfl, y, limit, rfl, rfl, wide_div (by omega) (nb (b := 71) (by omega) (by omega)) (by decide) (by decide), _, rfl, _, rfl, g, _, _, (n.fmod ((g0 :: gr).length : Nat)).toNat, rfl, rfl, hg2, ?_, ?_⟩
        · unfold ixN
          rw [List.length_map, if_pos fG.1, if_pos fG.2]
        refine ⟨_, rfl, .inl ⟨y, rfl, _, rfl, y, limit, rfl, rfl, (show limit ≠ 0 by omega), ?_⟩⟩
        have fin3 := fin (upd H2 g (.lst (((g0 :: gr).map V.int).set (n.fmod ((g0 :: gr).length : Nat)).toNat (V.int (y / limit))))) (fun a u ha na => by rw [upd_ne na]; exact ha)
          ⟨(g0 :: gr).set (n.fmod ((g0 :: gr).length : Nat)).toNat (y / limit), by rw [upd_same, List.map_set], by rw [List.length_set]⟩
        exact q _ _ fin3.1 fin3.2 (fm (by omega)).1 (fm (by omega)).2
      · rw [decide_eq_false hpos]
        refine ⟨_, rfl, m, _, rfl, .k (k := .inr "cells") hm2, ?_⟩
        refine ⟨_, rfl, _, rfl, .inl ⟨n, rfl, n, 64, rfl, rfl, (show (64 : Int) ≠ 0 by decide), c, _, n.fmod 64, V.int x, rfl, rfl, sqL hc2, atI_of (j := (n.fmod 64).toNat) (by omega) (at_map hx), ?_⟩⟩
        refine ⟨_, rfl, n, 64, rfl, rfl, wide_div (by decide) (by decide : (64 : Int).natAbs < 2 ^ 7) (by decide) (by decide), 31, n / 64, rfl, rfl, wide_mul (by decide : (31 : Int).natAbs < 2 ^ 5) (nb (b := 24) (by omega) (by omega)) (by decide) (by decide) (by decide), x, 31 * (n / 64), rfl, rfl, _, rfl, ?_⟩
        refine ⟨x + 31 * (n / 64), n, rfl, by omega, by omega, by omega, by omega, fun r r0 r1 => ⟨_, rfl, n, 7, rfl, rfl, r, n + 7, rfl, r0, by omega, by omega, by omega, fun r2 r3 r4 => .inl ⟨r2, rfl, _, rfl, r2, limit, rfl, rfl, (show limit ≠ 0 by omega), ?_⟩⟩⟩
        exact q _ _ fin2.1 fin2.2 (fm (by omega)).1 (fm (by omega)).2
theorem perm_full : ∀ {l m : List Int}, l.Nodup → (∀ x ∈ l, x ∈ m) → m.length ≤ l.length → l.Perm m
  | [], m, _, _, h => by
    rw [List.length_eq_zero_iff.mp (Nat.le_zero.mp h)]
  | x :: l, m, n, s, h => by
    obtain ⟨n1, n2⟩ := List.nodup_cons.mp n
    have p := List.perm_cons_erase (s x List.mem_cons_self)
    have pl := p.length_eq
    rw [List.length_cons] at pl h
    refine ((perm_full n2 (fun y hy => ?_) (by omega)).cons x).trans p.symm
    have ne : y ≠ x := fun e => n1 (e ▸ hy)
    exact (List.mem_erase_of_ne ne).mpr (s y (List.mem_cons_of_mem _ hy))
theorem FH.kept {H H' : Hp} {m c g : Addr} {b : Int} {v : V} {f : Fm} (h : FH H v f) (ms : MS H m c g b) (k : Kept H H' m g) : FH H' v f := by
  obtain ⟨cs, gs, n, hm, hc, hg, _⟩ := ms.ex
  induction h with
  | d n => exact .d n
  | @t a w l r vl vr e _ _ il ir => exact .t (k _ _ e (fun z => by rw [z, hm] at e; cases e) (fun z => by rw [z, hg] at e; cases e)) il ir
theorem Rs.take {α : Type} {R : Hp → V → α → Prop} {H : Hp} {vs : List V} {as : List α} (h : Rs R H vs as) (k : Nat) : Rs R H (vs.take k) (as.take k) := by
  refine ⟨by rw [List.length_take, List.length_take, h.1], fun i v e => ?_⟩
  rw [List.getElem?_take] at e ⊢
  split at e
  · rename_i c
    rw [if_pos c]
    exact h.2 i v e
  · cases e
theorem Rs.drop {α : Type} {R : Hp → V → α → Prop} {H : Hp} {vs : List V} {as : List α} (h : Rs R H vs as) (k : Nat) : Rs R H (vs.drop k) (as.drop k) := by
  refine ⟨by rw [List.length_drop, List.length_drop, h.1], fun i v e => ?_⟩
  rw [List.getElem?_drop] at e ⊢
  exact h.2 _ v e
theorem iteX {w : Bool} {a b : V} {te tf : TE} {σ : L2.St} {H : Hp} {Q : VK} (ha : ∀ R : VK, R a H → te σ H R) (hb : ∀ R : VK, R b H → tf σ H R) (h : Q (if w = true then a else b) H) : if w = true then te σ H Q else tf σ H Q := by
  cases w
  · exact hb Q h
  · exact ha Q h
abbrev s__law_form : Stmt := topS 29
theorem sc__law_form : FnScope ["m", "many", "parts", "lean", "words", "turn", "spot", "word"] ["m", "many"] (defScope s__law_form) := ⟨rfl, rfl, rfl, by decide +kernel, rfl, by decide +kernel, by decide +kernel⟩
def spForm : Sp := fun vs H Q _ => ∃ (m c g : Addr) (b : Int) (n : Nat), vs = [.ref m, .int ((n + 1 : Nat) : Int)] ∧ MS H m c g b ∧ b ≤ 50000 ∧ n < 5 ∧ ∀ H' v f, Kept H H' m g → MS H' m c g (b + 100) → FH H' v f → f.doors.Perm (doorsN n) → Q v H'
theorem ok_law_form (D : DefAt K mg "_law_form" s__law_form) (T : Bt mg) (u__law_draw : Use P w K mg base "_law_draw" 2 ["m", "limit"] spDraw) (u__law_of : Use P w K mg base "_law_of" 3 ["m", "some"] spOfA) (u__law_order : Use P w K mg base "_law_order" 3 ["m", "many"] spOrder) :
    Use P w K mg base "_law_form" 4 ["m", "many"] spForm := by
  refine use_of D (fun f fd F => F.ok sc__law_form (fun vs H Q E h => ?_) (fun cdv A outer s H vs Q E hr h => ?_)) (fun _ _ _ _ _ _ us hl => match us, hl with | [_, _], _ => rfl)
  · obtain ⟨m, c, g, b, n, rfl, _⟩ := h
    rfl
  · obtain ⟨m, c, g, b, n, rfl, ms, hb, n5, q⟩ := h
    refine ⟨_, (pss_cons (ps_par (i := 2) (j := 3) rfl sc__law_form.nd rfl rfl (by decide) rfl rfl (pa_cons (pe_use u__law_order (by decide) hr (by rfl) (pa_cons (pv 0) (pa_cons (pv 1) pa_nil))) (pa_cons (pe_use u__law_draw (by decide) hr (by rfl) (pa_cons (pv 0) (pa_cons pe_int pa_nil))) pa_nil)) (by rfl))
      (pss_cons (ps_set (i := 4) sc__law_form.nd rfl (Or.inl rfl) (pe_use u__law_of (by decide) hr (by rfl) (pa_cons (pv 0) (pa_cons (pe_lst (pa_cons (pe_tup (pa_cons pe_str (pa_cons pe_str pa_nil))) (pa_cons (pe_tup (pa_cons pe_str (pa_cons pe_str pa_nil))) pa_nil))) pa_nil))))
      (pss_cons (ps_for PassesOwn.never rfl (pi_range1 (by rfl) T.range (pa_cons (pe_op op_sub (pv 1) pe_int) pa_nil)) (pg_name (i := 5) sc__law_form.nd rfl (Or.inl rfl))
      (pss_cons (ps_set (i := 6) sc__law_form.nd rfl (Or.inl rfl) (pe_use u__law_draw (by decide) hr (by rfl) (pa_cons (pv 0) (pa_cons (pe_op op_sub (pe_callB (k_len (K := K) rfl) (by rfl) T.len PySem.boot_len (pa_cons (pv 2) pa_nil)) pe_int) pa_nil))))
      (pss_cons (ps_set (i := 7) sc__law_form.nd rfl (Or.inl rfl) (pe_ifExp (pt_cmpR op_le (pe_use u__law_draw (by decide) hr (by rfl) (pa_cons (pv 0) (pa_cons pe_int pa_nil))) (pv 3) (nomark _)) (pe_ix (k_ixt (K := K) rfl) (pv 4) pe_int (fun _ _ => rfl)) (pe_ix (k_ixt (K := K) rfl) (pv 4) pe_int (fun _ _ => rfl))))
      (pss_one (ps_set (i := 2) sc__law_form.nd rfl (Or.inl rfl) (pe_op op_cat (pe_op op_cat (pe_slice (k_sll (K := K) rfl) (pv 2) po_none (po_some (pv 6))) (pe_lst (pa_cons (pe_tup (pa_cons (pv 7) (pa_cons (pe_ix (k_ixl (K := K) rfl) (pv 2) (pv 6) (fun _ _ => rfl)) (pa_cons (pe_ix (k_ixl (K := K) rfl) (pv 2) (pe_op op_add (pv 6) pe_int) (fun _ _ => rfl)) pa_nil)))) pa_nil))) (pe_slice (k_sll (K := K) rfl) (pv 2) (po_some (pe_op op_add (pv 6) pe_int)) po_none)))))))
      (pss_one (ps_ret (pe_ix (k_ixl (K := K) rfl) (pv 2) pe_int (fun _ _ => rfl))))))), ?_⟩
    refine ⟨_, rfl, _, rfl, m, c, g, b, _, rfl, ms, by omega, by omega, by omega, fun H1 l ds k1 ms1 el nl ln nd dr => ?_⟩
    have pm : ds.Perm (doorsN n) := perm_full nd (fun x hx => doorsN_mem.mpr (dr x hx)) (by rw [doorsN_len, ln]; omega)
    refine ⟨_, rfl, m, c, g, _, 4, rfl, ms1, by omega, by decide, by decide, fun H2 lean k2 ms2 l0 l1 => ⟨_, _, rfl, ?_⟩⟩
    have lm := ms.ne nl
    have el2 := k2 _ _ el lm.1 lm.2.2
    have k02 := k1.trans k2
    refine ⟨_, rfl, by show 2 ≤ sizeLine; decide, fun t1 n1 => ⟨by show 2 ≤ sizeLine; decide, fun t2 n2 => ⟨by show 2 ≤ sizeLine; decide, fun W nW => ?_⟩⟩⟩
    have sa := same_new (H := H2) (o := .tup [V.str "both", V.str "either"]) n1
    have sb := same_new (H := upd H2 t1 (.tup [V.str "both", V.str "either"])) (o := .tup [V.str "either", V.str "both"]) n2
    have sc := same_new (H := upd (upd H2 t1 (.tup [V.str "both", V.str "either"])) t2 (.tup [V.str "either", V.str "both"])) (o := .lst [V.ref t1, V.ref t2]) nW
    have e1 := sc _ _ (sb _ _ (upd_same (H := H2) (a := t1) (o := .tup [V.str "both", V.str "either"])))
    have e2 := sc _ _ (upd_same (H := upd H2 t1 (.tup [V.str "both", V.str "either"])) (a := t2) (o := .tup [V.str "either", V.str "both"]))
    have eW := upd_same (H := upd (upd H2 t1 (.tup [V.str "both", V.str "either"])) t2 (.tup [V.str "either", V.str "both"])) (a := W) (o := .lst [V.ref t1, V.ref t2])
    have s23 := (sa.trans sb).trans sc
    have nW2 : H2 W = none := (sa.trans sb).free nW
    have Wm := ms2.ne nW2
    generalize upd (upd (upd H2 t1 (.tup [V.str "both", V.str "either"])) t2 (.tup [V.str "either", V.str "both"])) W (.lst [V.ref t1, V.ref t2]) = H3 at e1 e2 eW s23
    have ms3 := ms2.mono s23
    have el3 := s23 _ _ el2
    refine ⟨m, c, g, _, W, _, rfl, ms3, by omega, eW, Wm.2.2, by simp, by show 2 ≤ 1000000; decide, fun H4 x k4 ms4 hx => ?_⟩
    obtain ⟨ta, wa, rfl, eta⟩ : ∃ (ta : Addr) (wa : Bool), x = .ref ta ∧ H3 ta = some (.tup [.str (Fm.word wa), .str (Fm.word (!wa))]) := by
      simp only [List.mem_cons, List.mem_nil_iff, or_false] at hx
      rcases hx with rfl | rfl
      · exact ⟨t1, true, rfl, e1⟩
      · exact ⟨t2, false, rfl, e2⟩
    obtain ⟨cs, gs, n0, hm3, hc3, hg3, _⟩ := ms3.ex
    have eta4 := k4 _ _ eta (fun z => by rw [z, hm3] at eta; cases eta) (fun z => by rw [z, hg3] at eta; cases eta)
    have el4 := k4 _ _ el3 lm.1 lm.2.2
    have k04 := (k02.trans (Kept.of s23)).trans k4
    clear hm3 hc3 hg3 e1 e2 eW sa sb sc n1 n2 nW eta
    have fds : FHs H4 (ds.map V.int) (ds.map Fm.d) := by
      refine ⟨by rw [List.length_map, List.length_map], fun i v hv => ?_⟩
      obtain ⟨d, hd, rfl⟩ := map_at hv
      exact ⟨.d d, by rw [List.getElem?_map, hd]; rfl, .d d⟩
    refine ⟨_, rfl, _, _, rfl, rfl, _, rfl, by omega, by omega, for_range (lo := 0) (n := (((n + 1 : Nat) : Int) - 1).toNat)
      (fun i σ H5 => ∃ (y5 y6 y7 : Option V) (L : Addr) (us : List V) (fs : List Fm), σ = [some (.ref m), some (.int ((n + 1 : Nat) : Int)), some (.ref L), some (.int lean), some (.ref ta), y5, y6, y7] ∧ Kept H H5 m g ∧ MS H5 m c g (b + 20 + 2 * (i : Int)) ∧
        H5 ta = some (.tup [.str (Fm.word wa), .str (Fm.word (!wa))]) ∧ L ≠ m ∧ L ≠ g ∧ H5 L = some (.lst us) ∧ FHs H5 us fs ∧ fs.length + i = n + 1 ∧ (fs.flatMap Fm.doors).Perm (doorsN n))
      ⟨none, none, none, l, _, ds.map Fm.d, rfl, k04, ms4.le (by omega), eta4, lm.1, lm.2.2, el4, fds, by rw [List.length_map, ln]; omega, ?_⟩ ?_ ?_⟩
    · rw [List.flatMap_map]
      have : ds.flatMap (fun d => (Fm.d d).doors) = ds := by
        show ds.flatMap (fun d => [d]) = ds
        simp
      rw [this]
      exact pm
    · rintro i σ H5 hi ⟨y5, y6, y7, L, us, fs, rfl, k5, ms5, eta5, Lm, Lg, eL, fus, cnt, pms⟩
      have i4 : i < n := by omega
      have usl : us.length = fs.length := fus.1
      refine ⟨_, rfl, _, rfl, L, _, rfl, .inl (sqL eL), _, _, rfl, rfl, m, c, g, _, _, rfl, ms5, by omega, by omega, by omega, fun H6 spot k6 ms6 p0 p1 => ?_⟩
      obtain ⟨sp, rfl⟩ : ∃ sp : Nat, spot = (sp : Int) := ⟨spot.toNat, by omega⟩
      have sp1 : sp + 1 < fs.length := by omega
      refine ⟨_, rfl, m, c, g, _, 4, rfl, ms6, by omega, by decide, by decide, fun H7 dr k7 ms7 d0 d1 => ?_⟩
      obtain ⟨cs5, gs5, n5', hm5, hc5, hg5, _⟩ := ms5.ex
      obtain ⟨cs6, gs6, n6', hm6, hc6, hg6, _⟩ := ms6.ex
      have k57 := k6.trans k7
      have eta7 := k57 _ _ eta5 (fun z => by rw [z, hm5] at eta5; cases eta5) (fun z => by rw [z, hg5] at eta5; cases eta5)
      have eL7 := k57 _ _ eL Lm Lg
      have fus7 := fus.map fun v a (k : FH H5 v a) => k.kept ms5 k57
      have k07 := k5.trans k57
      clear hm5 hc5 hg5 hm6 hc6 hg6
      refine ⟨_, rfl, _, _, rfl, rfl, decide (dr ≤ lean), rfl, ?_⟩
      refine iteX (a := V.str (Fm.word wa)) (b := V.str (Fm.word (!wa))) (fun R hR => ⟨_, rfl, ta, _, 0, _, rfl, rfl, .inl (.inl eta7), rfl, hR⟩) (fun R hR => ⟨_, rfl, ta, _, 1, _, rfl, rfl, .inl (.inl eta7), rfl, hR⟩) ?_
      obtain ⟨wo, hwo⟩ : ∃ wo : Bool, (if decide (dr ≤ lean) = true then V.str (Fm.word wa) else V.str (Fm.word (!wa))) = V.str (Fm.word wo) := by
        split
        · exact ⟨_, rfl⟩
        · exact ⟨_, rfl⟩
      rw [hwo]
      obtain ⟨f0, hf0⟩ : ∃ f0, fs[sp]? = some f0 := ⟨_, List.getElem?_eq_getElem (by omega)⟩
      obtain ⟨f1, hf1⟩ : ∃ f1, fs[sp + 1]? = some f1 := ⟨_, List.getElem?_eq_getElem sp1⟩
      obtain ⟨v0, hv0, fv0⟩ := fus7.back hf0
      obtain ⟨v1, hv1, fv1⟩ := fus7.back hf1
      have c1 : cutV us none (some ((sp : Nat) : Int)) = us.take sp := by
        unfold cutV
        rw [HT.sIx_none, HT.sIx_nat, Nat.min_eq_left (by omega), List.drop_zero, Nat.sub_zero]
      have c2 : cutV us (some (((sp : Nat) : Int) + 2)) none = us.drop (sp + 2) := by
        unfold cutV
        rw [HT.sIx_none, show ((sp : Nat) : Int) + 2 = ((sp + 2 : Nat) : Int) by omega, HT.sIx_nat, Nat.min_eq_left (by omega)]
        exact List.take_of_length_le (by rw [List.length_drop]; exact Nat.le_refl _)
      refine ⟨_, rfl, _, rfl, _, rfl, L, _, rfl, sqL eL7, fun C1 nC1 => ?_⟩
      have z1 := same_new (H := H7) (o := .lst (cutV us none (some ((sp : Nat) : Int)))) nC1
      have w1 := upd_same (H := H7) (a := C1) (o := .lst (cutV us none (some ((sp : Nat) : Int))))
      generalize upd H7 C1 (.lst (cutV us none (some ((sp : Nat) : Int)))) = H8 at z1 w1
      rw [c1] at w1
      refine ⟨_, rfl, _, rfl, _, rfl, L, _, _, _, rfl, rfl, sqL (z1 _ _ eL7), atI_of (j := sp) (by omega) hv0, _, rfl, _, rfl, _, _, rfl, rfl, L, _, _, _, rfl, rfl, sqL (z1 _ _ eL7), atI_of (j := sp + 1) (by omega) hv1, by show 3 ≤ sizeLine; decide, fun t nt => ⟨by show 1 ≤ sizeLine; decide, fun C2 nC2 => ?_⟩⟩
      have z2 := same_new (H := H8) (o := .tup [V.str (Fm.word wo), v0, v1]) nt
      have z3 := same_new (H := upd H8 t (.tup [V.str (Fm.word wo), v0, v1])) (o := .lst [V.ref t]) nC2
      have w2 := z3 _ _ (upd_same (H := H8) (a := t) (o := .tup [V.str (Fm.word wo), v0, v1]))
      have w3 := upd_same (H := upd H8 t (.tup [V.str (Fm.word wo), v0, v1])) (a := C2) (o := .lst [V.ref t])
      have z123 := z1.trans (z2.trans z3)
      have w1 := (z2.trans z3) _ _ w1
      generalize upd (upd H8 t (.tup [V.str (Fm.word wo), v0, v1])) C2 (.lst [V.ref t]) = H9 at w1 w2 w3 z123
      refine ⟨C1, C2, _, _, rfl, rfl, w1, w3, ?_, fun C3 nC3 => ?_⟩
      · rw [List.length_take]
        exact Nat.le_of_lt (small_of (by show min sp us.length + 1 ≤ _; omega))
      have z4 := same_new (H := H9) (o := .lst (us.take sp ++ [V.ref t])) nC3
      have w4 := upd_same (H := H9) (a := C3) (o := .lst (us.take sp ++ [V.ref t]))
      have w2 := z4 _ _ w2
      have z14 := z123.trans z4
      generalize upd H9 C3 (.lst (us.take sp ++ [V.ref t])) = Ha at w2 w4 z14
      refine ⟨_, rfl, _, rfl, _, _, rfl, rfl, _, rfl, L, _, rfl, sqL (z14 _ _ eL7), fun C4 nC4 => ?_⟩
      have z5 := same_new (H := Ha) (o := .lst (cutV us (some (((sp : Nat) : Int) + 2)) none)) nC4
      have w5 := upd_same (H := Ha) (a := C4) (o := .lst (cutV us (some (((sp : Nat) : Int) + 2)) none))
      have w4 := z5 _ _ w4
      have w2 := z5 _ _ w2
      have z15 := z14.trans z5
      generalize upd Ha C4 (.lst (cutV us (some (((sp : Nat) : Int) + 2)) none)) = Hb at w2 w4 w5 z15
      rw [c2] at w5
      refine ⟨C3, C4, _, _, rfl, rfl, w4, w5, ?_, fun C5 nC5 => ?_⟩
      · rw [List.length_append, List.length_take, List.length_drop]
        exact Nat.le_of_lt (small_of (by show min sp us.length + 1 + (us.length - (sp + 2)) ≤ _; omega))
      have z6 := same_new (H := Hb) (o := .lst ((us.take sp ++ [V.ref t]) ++ us.drop (sp + 2))) nC5
      have z16 := z15.trans z6
      have n5H := ms7.ne (z15.free nC5)
      have fus8 := fus7.map fun v a k => k.mono z16
      have new : FH (upd Hb C5 (.lst ((us.take sp ++ [V.ref t]) ++ us.drop (sp + 2)))) (.ref t) (.t wo f0 f1) := .t (z6 _ _ w2) (fv0.mono z16) (fv1.mono z16)
      refine ⟨_, _, _, C5, _, (fs.take sp ++ [.t wo f0 f1]) ++ fs.drop (sp + 2), rfl, k07.trans (Kept.of z16), (ms7.mono z16).le (by omega), z16 _ _ eta7, n5H.1, n5H.2.2, upd_same, ((fus8.take sp).app (.one new)).app (fus8.drop (sp + 2)), ?_, ?_⟩
      · rw [List.length_append, List.length_append, List.length_take, List.length_drop]
        show min sp fs.length + 1 + (fs.length - (sp + 2)) + (i + 1) = n + 1
        omega
      · refine List.Perm.trans (List.Perm.of_eq ?_) pms
        have e : fs = fs.take sp ++ (f0 :: f1 :: fs.drop (sp + 2)) := by
          have d0 := List.drop_eq_getElem_cons (show sp < fs.length by omega)
          have d1 := List.drop_eq_getElem_cons sp1
          have g0 : fs[sp] = f0 := Option.some.inj ((List.getElem?_eq_getElem _).symm.trans hf0)
          have g1 : fs[sp + 1] = f1 := Option.some.inj ((List.getElem?_eq_getElem _).symm.trans hf1)
          rw [g0] at d0
          rw [g1] at d1
          rw [← d1, ← d0, List.take_append_drop]
        conv => rhs; rw [e]
        simp [List.flatMap_append, Fm.doors]
    · rintro σ H5 ⟨y5, y6, y7, L, us, fs, rfl, k5, ms5, eta5, Lm, Lg, eL, fus, cnt, pms⟩
      rw [show (((n + 1 : Nat) : Int) - 1).toNat = n by omega] at cnt ms5
      match fs, fus, cnt, pms with
      | [f], fus, cnt, pms =>
        obtain ⟨v, hv, fv⟩ := fus.back (i := 0) rfl
        refine ⟨_, rfl, L, _, _, _, rfl, rfl, sqL eL, atI_of (j := 0) rfl hv, q H5 v f k5 (ms5.le (by omega)) fv ?_⟩
        simpa using pms
      | [], _, cnt, _ => simp at cnt
      | _ :: _ :: _, _, cnt, _ =>
        exfalso
        simp only [List.length_cons] at cnt
        omega
end
end KQ
/-! [e for x in a for y in b], the second a list -/
namespace KR
open PySem PySem.Spec PyProof.Rows L2
theorem in_list {K : PySem.W.Frag} {a : Addr} {xs : List V} {g1 : TG} {tt1 : TT} {te : TE} {vs1 : List Nat} {σ2 : L2.St} {H4 : Hp} {D : Addr} {Qd : Hp → Prop} (Pw : Nat → Hp → Prop) (h0 : Pw 0 H4) (hl : ∀ i H, i ≤ xs.length → Pw i H → SqL K H a xs)
    (hs : ∀ i x H, xs[i]? = some x → Pw i H → g1 x (wipe σ2 vs1) H fun σ3 H5 => wipe σ3 vs1 = wipe σ2 vs1 ∧ tt1 σ3 H5 fun b H6 =>
      if b = true then te σ3 H6 fun y H7 => ∃ acc, H7 D = some (.lst acc) ∧ acc.length < sizeLine ∧ Pw (i + 1) (upd H7 D (.lst (acc ++ [y]))) else Pw (i + 1) H6) (hd : ∀ H, Pw xs.length H → Qd H) :
    ∃ W1 : Nat → Nat → Hp → Prop, (∃ m, W1 0 m H4) ∧ ∀ j k H, W1 j k H →
      ((L2.Itl K a).stop j H ∧ Qd H) ∨ ((L2.Itl K a).go j H ∧ ∃ Nx1 : Hp → Prop, (∀ H', Nx1 H' → ∃ k', k' < k ∧ W1 (j + 1) k' H') ∧ ∀ x H', (L2.Itl K a).yld j H x H' →
        g1 x (wipe σ2 vs1) H' fun σ3 H5 => wipe σ3 vs1 = wipe σ2 vs1 ∧ tt1 σ3 H5 fun b H6 =>
        if b = true then te σ3 H6 fun y H7 => ∃ acc, H7 D = some (.lst acc) ∧ acc.length < sizeLine ∧ Nx1 (upd H7 D (.lst (acc ++ [y]))) else Nx1 H6) := by
  refine ⟨fun i m H => m = xs.length - i ∧ i ≤ xs.length ∧ Pw i H, ⟨xs.length, by simp, Nat.zero_le _, h0⟩, ?_⟩
  rintro i m H ⟨rfl, hi, p⟩
  have q := hl i H hi p
  by_cases hlt : i < xs.length
  · refine .inr ⟨⟨xs, xs[i], q, by simp [hlt]⟩, Pw (i + 1), fun H' p' => ⟨xs.length - (i + 1), by omega, rfl, hlt, p'⟩, fun x H' y => ?_⟩
    obtain ⟨e, y⟩ := y
    subst e
    exact hs i x _ (y xs q) p
  · have e : i = xs.length := by omega
    subst e
    exact .inl ⟨⟨xs, q, Nat.le_refl _⟩, hd H p⟩
end KR
/-! wiped slots, without looking at them -/
namespace KR
open PySem PySem.Spec PyProof.Rows L2
theorem wipe_at (σ : L2.St) (i : Nat) : ∀ vs : List Nat, (wipe σ vs)[i]? = if i ∈ vs then (σ[i]?).map (fun _ => none) else σ[i]?
  | [] => by simp [wipe]
  | v :: vs => by
    show ((wipe σ vs).set v none)[i]? = _
    by_cases c : v = i
    · subst c
      rw [if_pos List.mem_cons_self]
      by_cases l : v < σ.length
      · rw [List.getElem?_set_self (by rw [wipe_length]; exact l), List.getElem?_eq_getElem l]
        rfl
      · rw [List.getElem?_eq_none (by rw [List.length_set, wipe_length]; omega), List.getElem?_eq_none (by omega)]
        rfl
    · rw [List.getElem?_set_ne c, wipe_at σ i vs]
      by_cases m : i ∈ vs
      · rw [if_pos m, if_pos (List.mem_cons_of_mem _ m)]
      · rw [if_neg m, if_neg fun h => (List.mem_cons.mp h).elim (fun e => c e.symm) m]
theorem wipe_set {σ : L2.St} {i : Nat} {x : Option V} {vs : List Nat} (h : i ∈ vs) : wipe (σ.set i x) vs = wipe σ vs := by
  refine List.ext_getElem? fun j => ?_
  rw [wipe_at, wipe_at]
  split
  · by_cases c : i = j
    · subst c
      by_cases l : i < σ.length
      · rw [List.getElem?_set_self l, List.getElem?_eq_getElem l]
        rfl
      · rw [List.getElem?_eq_none (by rw [List.length_set]; omega), List.getElem?_eq_none (by omega)]
    · rw [List.getElem?_set_ne c]
  · rename_i m
    have ne : i ≠ j := fun e => m (by rw [← e]; exact h)
    rw [List.getElem?_set_ne ne]
theorem wipe_wipe (σ : L2.St) (vs : List Nat) : wipe (wipe σ vs) vs = wipe σ vs := by
  refine List.ext_getElem? fun j => ?_
  rw [wipe_at, wipe_at]
  split
  · rw [Option.map_map]
    rfl
  · rfl
theorem wipe2 {σ : L2.St} {i j : Nat} {x y : Option V} {vs : List Nat} (h : i ∈ vs) (k : j ∈ vs) : wipe (((wipe σ vs).set i x).set j y) vs = wipe σ vs := (wipe_set k).trans ((wipe_set h).trans (wipe_wipe _ _))
theorem wipe1 {σ : L2.St} {i : Nat} {x : Option V} {vs : List Nat} (h : i ∈ vs) : wipe ((wipe σ vs).set i x) vs = wipe σ vs := (wipe_set h).trans (wipe_wipe _ _)
end KR
namespace KQ
open PySem PySem.Spec PyProof.Rows L2 KR KM StX
section
variable {P : Program} {w : World} {K : PySem.W.Frag} {mg : Str → Option Value} {base : Heap}
abbrev s_widened : Stmt := topS 14
theorem sc_widened : FnScope ["form", "door", "bits", "many", "word", "bit", "limbs", "apart", "least", "inner", "one", "pair", "_", "limb"] ["form", "door", "bits"] (defScope s_widened) := ⟨rfl, rfl, rfl, by decide +kernel, rfl, by decide +kernel, by decide +kernel⟩
def scWi : Scope := match (defBody s_widened).getD 5 (.Pass ⟨0, 0, 0, 0⟩) with
  | Stmt.Assign _ (Expr.ListComp _ _ sc _) _ => sc
  | _ => defScope s_widened
def OptF (H : Hp) (v : V) : Option Fm → Prop
  | none => v = .non
  | some g => FH H v g
def bitOf (bs : List Int) (x : Int) : Int := bs.getD x.toNat 0
/-- doors that have bits -/
def Bitten (bs : List Int) (f : Fm) : Prop := f.doors.Nodup ∧ ∀ x ∈ f.doors, 0 ≤ x ∧ x.toNat < bs.length
def spWide (k : Nat) : Sp := fun vs H Q _ => ∃ (v : V) (f : Fm) (d : Int) (bt : Addr) (bs : List Int), vs = [v, .int d, .ref bt] ∧ FH H v f ∧ H bt = some (.tup (bs.map V.int)) ∧ (∀ x ∈ bs, x = 0 ∨ x = 1) ∧ Bitten bs f ∧ f.doors.length ≤ k ∧ f.doors.length ≤ 5 ∧
  ∀ H' v', Same H H' → OptF H' v' (wideF (bitOf bs) d k f) → Q v' H'
theorem bit_at {bs : List Int} {x : Int} (h : 0 ≤ x ∧ x.toNat < bs.length) : bs[x.toNat]? = some (bitOf bs x) := by
  unfold bitOf
  rw [List.getD_eq_getElem?_getD, List.getElem?_eq_getElem h.2]
  rfl
/-- the list of bits of a form's doors -/
theorem lc_bits {g : TG} {tt : L2.TT} {te : TE} {vs : List Nat} {σ : L2.St} {H1 : Hp} {l D bt : Addr} {bs ds : List Int} {Qd : Hp → Prop} (el : H1 l = some (.lst (ds.map V.int))) (eb : H1 bt = some (.tup (bs.map V.int))) (hd : ∀ x ∈ ds, 0 ≤ x ∧ x.toNat < bs.length) (len : ds.length ≤ 1000) (nD : H1 D = none)
    (hs : ∀ (x : Int) (H : Hp), Same H1 H → x ∈ ds → ∀ N : Hp → Prop, (∃ acc, H D = some (.lst acc) ∧ acc.length < sizeLine ∧ N (upd H D (.lst (acc ++ [.int (bitOf bs x)])))) →
      g (.int x) (wipe σ vs) H fun σ2 H2 => wipe σ2 vs = wipe σ vs ∧ tt σ2 H2 fun b H3 => if b = true then te σ2 H3 fun y H4 => ∃ acc, H4 D = some (.lst acc) ∧ acc.length < sizeLine ∧ N (upd H4 D (.lst (acc ++ [y]))) else N H3)
    (hq : ∀ (H : Hp), Same H1 H → H D = some (.lst ((ds.map (bitOf bs)).map V.int)) → Qd H) : ∃ W : Nat → Nat → Hp → Prop, (∃ m, W 0 m (upd H1 D (.lst []))) ∧ ∀ i m H, W i m H →
      ((L2.Itl K l).stop i H ∧ Qd H) ∨ ((L2.Itl K l).go i H ∧ ∃ Nx : Hp → Prop, (∀ H', Nx H' → ∃ m', m' < m ∧ W (i + 1) m' H') ∧ ∀ x H', (L2.Itl K l).yld i H x H' → g x (wipe σ vs) H' fun σ2 H2 => wipe σ2 vs = wipe σ vs ∧ tt σ2 H2 fun b H3 =>
        if b = true then te σ2 H3 fun y H4 => ∃ acc, H4 D = some (.lst acc) ∧ acc.length < sizeLine ∧ Nx (upd H4 D (.lst (acc ++ [y]))) else Nx H3) := by
  refine lc_list (K := K) (a := l) (xs := ds.map V.int) (fun k H => Same H1 H ∧ H D = some (.lst (((ds.take k).map (bitOf bs)).map V.int))) ⟨same_new nD, upd_same⟩ (fun k H _ ⟨s, _⟩ => sqL (s _ _ el)) ?_ ?_
  · rintro k v H hk ⟨sm, eG⟩
    obtain ⟨x, hx, rfl⟩ := map_at hk
    refine hs x H sm (List.mem_of_getElem? hx) _ ⟨_, eG, ?_, same_mut sm nD, ?_⟩
    · rw [List.length_map, List.length_map, List.length_take]
      exact small_of (by omega)
    · rw [upd_same, take_snoc hx, List.map_append, List.map_append]
      rfl
  · rintro H ⟨sm, eG⟩
    rw [List.length_map, List.take_length] at eG
    exact hq H sm eG
theorem wide_all {b : Int → Int} {d : Int} {k : Nat} {f : Fm} (c : (f.doors.map b).sum = 0 ∨ (f.doors.map b).sum = f.doors.length) : wideF b d (k + 1) f = some (.t (decide ((f.doors.map b).sum > 0)) f (.d d)) := if_pos c
theorem iteC2 {w : Bool} {i j : Int} {σ : L2.St} {H : Hp} {Q : VK} (h : Q (.int (if w then i else j)) H) : if w = true then L2.tC (V.int i) σ H Q else L2.tC (V.int j) σ H Q := by
  cases w
  · exact h
  · exact h
theorem iteC3 {w : Bool} {σ : L2.St} {H : Hp} {Q : VK} (h : Q (.str (Fm.word (!w))) H) : if w = true then L2.tC (V.str "either") σ H Q else L2.tC (V.str "both") σ H Q := by
  cases w
  · exact h
  · exact h
theorem word_both (w : Bool) : decide (V.str (Fm.word w) = V.str "both") = w := by cases w <;> decide +kernel
theorem some_apart {b : Int → Int} {ds : List Int} {w : Bool} (h : ∀ x ∈ ds, b x = 0 ∨ b x = 1) (c0 : ¬ (ds.map b).sum = 0) (c1 : ¬ (ds.map b).sum = ds.length) : ∃ x ∈ ds, b x = 1 - (if w then 1 else 0) := by
  refine Classical.byContradiction fun no => ?_
  have all : ∀ x ∈ ds, b x = if w then 1 else 0 := fun x hx => by
    have a := h x hx
    have n : ¬ b x = 1 - (if w then 1 else 0) := fun z => no ⟨x, hx, z⟩
    cases w
    · have n : ¬ b x = 1 - 0 := n
      show b x = 0
      omega
    · have n : ¬ b x = 1 - 1 := n
      show b x = 1
      omega
  have sum : (ds.map b).sum = ds.length * (if w then 1 else 0) := by
    clear h c0 c1 no
    induction ds with
    | nil => simp
    | cons x r ih =>
      have := ih fun y hy => all y (List.mem_cons_of_mem _ hy)
      have e := all x List.mem_cons_self
      rw [List.map_cons, List.sum_cons, this, e, List.length_cons]
      cases w
      · simp
      · simp
        omega
  cases w
  · exact c0 (by simpa using sum)
  · exact c1 (by simpa using sum)
theorem wide_step {b : Int → Int} {d : Int} {k : Nat} {w : Bool} {l r : Fm} (c0 : ¬ ((Fm.t w l r).doors.map b).sum = 0) (c1 : ¬ ((Fm.t w l r).doors.map b).sum = (Fm.t w l r).doors.length) : wideF b d (k + 1) (.t w l r) =
      match apartF b w (limbsF (some w) (.t w l r)) with
      | [] => none
      | x :: xs =>
        if xs = [] then
          match wideF b d k x.2 with
          | none => none
          | some g => some (bracketF w (sortF (restF (limbsF (some w) (.t w l r)) (x :: xs) ++ [(x.1, g)])))
        else if (x :: xs).any (fun p => p.2.doors.any fun y => decide (b y = if w then 1 else 0)) then none
        else some (bracketF w (sortF (restF (limbsF (some w) (.t w l r)) (x :: xs) ++ [(x.1, .t (!w) (bracketF w (sortF (x :: xs))) (.d d))]))) := if_neg (fun z => z.elim c0 c1)
def pairD (p : Int × Fm) : PyData := .tuple [.int p.1, p.2.data]
theorem pair_eqv (p q : Int × Fm) : PyData.eqv (pairD p) (pairD q) = decide (p = q) := by
  unfold pairD
  simp only [PyData.eqv, PyData.eqvAll, fm_eqv, Bool.and_true]
  obtain ⟨i, f⟩ := p
  obtain ⟨j, g⟩ := q
  rw [Bool.eq_iff_iff]
  simp
theorem pair_lay {p : Int × Fm} (h : p.2.deep ≤ 4) : (pairD p).canLay0 = true ∧ (pairD p).depth ≤ 6 := by
  obtain ⟨a, b⟩ := fm_lay p.2
  simp [pairD, PyData.canLay0, PyData.depth, PyData.canLayAll0, PyData.depthAll, a]
  omega
theorem pair_shaped {p : Int × Fm} (h : p.2.deep ≤ 4) : SeqAt.shaped (pairD p) = true := by
  obtain ⟨a, b⟩ := pair_lay h
  unfold SeqAt.shaped
  rw [a, Bool.true_and, decide_eq_true_eq]
  omega
theorem pairs_shaped {ls : List (Int × Fm)} (h : ∀ p ∈ ls, p.2.deep ≤ 4) : SeqAt.shaped (.list (ls.map pairD)) = true := by
  have : PyData.canLayAll0 (ls.map pairD) = true ∧ PyData.depthAll (ls.map pairD) ≤ 7 := by
    induction ls with
    | nil => simp [PyData.canLayAll0, PyData.depthAll]
    | cons p r ih =>
      obtain ⟨a, b⟩ := ih fun q hq => h q (List.mem_cons_of_mem _ hq)
      obtain ⟨a2, b2⟩ := pair_lay (h p List.mem_cons_self)
      simp [PyData.canLayAll0, PyData.depthAll, a, a2]
      omega
  obtain ⟨a, b⟩ := this
  simp [SeqAt.shaped, PyData.canLay0, PyData.depth, a]
  omega
theorem pair_notIn (p : Int × Fm) (ap : List (Int × Fm)) : (!(ap.map pairD).any fun z => PyData.eqv z (pairD p)) = !decide (p ∈ ap) := by
  congr 1
  rw [Bool.eq_iff_iff, List.any_eq_true, decide_eq_true_eq]
  constructor
  · rintro ⟨z, hz, e⟩
    obtain ⟨q, hq, rfl⟩ := List.mem_map.mp hz
    rw [pair_eqv, decide_eq_true_eq] at e
    exact e ▸ hq
  · exact fun h => ⟨_, List.mem_map.mpr ⟨p, h, rfl⟩, by rw [pair_eqv, decide_eq_true_eq]⟩
theorem pfs_of {H : Hp} : ∀ {zs : List (PU × Fm)}, (∀ z ∈ zs, H z.1.2.2 = some (.tup [.int z.1.1, z.1.2.1]) ∧ FH H z.1.2.1 z.2) → PFs H (zs.map fun z => z.1.2.2) (zs.map fun z => (z.1.1, z.2)) := fun {zs} h => by
  refine ⟨by rw [List.length_map, List.length_map], fun i t ht => ?_⟩
  rw [List.getElem?_map] at ht
  cases e : zs[i]? with
  | none =>
    rw [e] at ht
    cases ht
  | some z =>
    rw [e] at ht
    cases ht
    obtain ⟨a, b⟩ := h z (List.mem_of_getElem? e)
    exact ⟨(z.1.1, z.2), z.1.2.1, by rw [List.getElem?_map, e]; rfl, a, b⟩
theorem dp_all {H : Hp} {zs : List (PU × Fm)} (h : ∀ y ∈ zs, Dp K H (.ref y.1.2.2) (pairD (y.1.1, y.2))) : ∀ as : List (PU × Fm), (∀ z ∈ as, z ∈ zs) → DpAll K H (as.map fun z => V.ref z.1.2.2) ((as.map fun z => (z.1.1, z.2)).map pairD)
  | [], _ => .nil
  | x :: r, s => .cons (h x (s x List.mem_cons_self)) (dp_all h r fun z hz => s z (List.mem_cons_of_mem _ hz))
theorem ok_widened (D : DefAt K mg "widened" s_widened) (T : Bt mg) (u_doors_of : Use P w K mg base "doors_of" 6 ["form"] (spDoors 5)) (u_limbs_of : Use P w K mg base "limbs_of" 11 ["form", "word"] (spLimbs 9)) (u_bracketed : Use P w K mg base "bracketed" 1 ["word", "limbs"] spBr) : ∀ k : Nat, Use P w K mg base "widened" (k + 12) ["form", "door", "bits"] (spWide k) := by
  intro k
  induction k with
  | zero =>
    refine use_of D (fun f fd F => F.ok sc_widened (fun vs H Q E h => ?_) (fun cdv A outer s H vs Q E hr h => ?_)) (fun _ _ _ _ _ _ us hl => match us, hl with | [_, _, _], _ => rfl)
    · obtain ⟨v, f, d, bt, bs, rfl, _⟩ := h
      rfl
    · obtain ⟨v, f, d, bt, bs, rfl, hf, _, _, _, dk, _⟩ := h
      exact absurd (Nat.lt_of_lt_of_le (doors_pos f) dk) (Nat.not_lt_zero _)
  | succ k ih =>
    have u_widened := ih
    refine use_of D (fun f fd F => F.ok sc_widened (fun vs H Q E h => ?_) (fun cdv A outer s H vs Q E hr h => ?_)) (fun _ _ _ _ _ _ us hl => match us, hl with | [_, _, _], _ => rfl)
    · obtain ⟨v, f, d, bt, bs, rfl, _⟩ := h
      rfl
    · obtain ⟨v, f, d, bt, bs, rfl, hf, eb, b01, ⟨nd, rng⟩, dk, d5, q⟩ := h
      refine ⟨_, (pss_cons (ps_set (i := 3) sc_widened.nd rfl (Or.inl rfl) (pe_callB (cr_sum rfl) (by rfl) T.sum (by decide +kernel) (pa_cons (pe_lc (own := [("one", 10)]) rfl sc_widened.nd (k_list (K := K) rfl (pe_use u_doors_of (by omega) hr (by rfl) (pa_cons (pv 0) pa_nil))) (blkOk_by (N := ["form", "door", "bits", "many", "word", "bit", "limbs", "apart", "least", "inner", "one", "pair", "_", "limb"]) (sc := defScope s_widened) (by decide +kernel)) (fun _ _ _ _ _ => (pg_name (i := 10) sc_widened.nd rfl (Or.inl rfl))) (fun _ _ _ _ _ => pts_nil) (fun _ _ _ _ _ => (pe_ix (k_ixt (K := K) rfl) (pv 2) (pv 10) (fun _ _ => rfl)))) pa_nil)))
      (pss_cons (ps_if (PW.pt (pw_or (pt_cmpR op_eq (pv 3) pe_int (nomark _)) (pw_or1 (pt_cmpR op_eq (pv 3) (pe_callB (k_len (K := K) rfl) (by rfl) T.len PySem.boot_len (pa_cons (pe_use u_doors_of (by omega) hr (by rfl) (pa_cons (pv 0) pa_nil)) pa_nil)) (nomark _))))) (pss_one (ps_ret (pe_tup (pa_cons (pe_ifExp (pt_cmpR op_gt (pv 3) pe_int (nomark _)) pe_str pe_str) (pa_cons (pv 0) (pa_cons (pv 1) pa_nil)))))) pss_nil)
      (pss_cons (ps_set (i := 4) sc_widened.nd rfl (Or.inl rfl) (pe_ix (k_ixt (K := K) rfl) (pv 0) pe_int (fun _ _ => rfl)))
      (pss_cons (ps_set (i := 5) sc_widened.nd rfl (Or.inr rfl) (pe_ifExp (pt_cmpR op_eq (pv 4) pe_str (nomark _)) pe_int pe_int))
      (pss_cons (ps_set (i := 6) sc_widened.nd rfl (Or.inl rfl) (pe_use u_limbs_of (by omega) hr (by rfl) (pa_cons (pv 0) (pa_cons (pv 4) pa_nil))))
      (pss_cons (ps_set (i := 7) sc_widened.nd rfl (Or.inr rfl) (pe_lc (own := [("pair", 11)]) rfl sc_widened.nd (k_list (K := K) rfl (pv 6)) (blkOk_by (N := ["form", "door", "bits", "many", "word", "bit", "limbs", "apart", "least", "inner", "one", "pair", "_", "limb"]) (sc := defScope s_widened) (by decide +kernel)) (fun _ _ _ _ _ => (pg_name (i := 11) sc_widened.nd rfl (Or.inl rfl))) (fun _ _ _ _ _ => (pts_one (pt_cmpR (k_in (K := K) rfl) (pe_op op_sub pe_int (pv 5)) (pe_lc (own := [("one", 10)]) rfl sc_widened.nd (k_list (K := K) rfl (pe_use u_doors_of (by omega) hr (by rfl) (pa_cons (pe_ix (k_ixt (K := K) rfl) (pv 11) pe_int (fun _ _ => rfl)) pa_nil))) (blkOk_by (N := ["form", "door", "bits", "many", "word", "bit", "limbs", "apart", "least", "inner", "one", "pair", "_", "limb"]) (sc := relS scWi (defScope s_widened)) (by decide +kernel)) (fun _ _ _ _ _ => (pg_name (i := 10) sc_widened.nd rfl (Or.inl rfl))) (fun _ _ _ _ _ => pts_nil) (fun _ _ _ _ _ => (pe_ix (k_ixt (K := K) rfl) (pv 2) (pv 10) (fun _ _ => rfl)))) (by rfl)))) (fun _ _ _ _ _ => (pv 11))))
      (pss_cons (ps_asg (pe_ix (k_ixl (K := K) rfl) (pv 7) pe_int (fun _ _ => rfl)) (pg_tup rfl (pgs_cons (pg_name (i := 8) sc_widened.nd rfl (Or.inl rfl)) (pgs_cons (pg_name (i := 9) sc_widened.nd rfl (Or.inl rfl)) pgs_nil))))
      (pss_cons (ps_if (pt_cmpR op_eq (pe_callB (k_len (K := K) rfl) (by rfl) T.len PySem.boot_len (pa_cons (pv 7) pa_nil)) pe_int (nomark _)) (pss_cons (ps_set (i := 9) sc_widened.nd rfl (Or.inl rfl) (pe_use u_widened (by omega) hr (by rfl) (pa_cons (pv 9) (pa_cons (pv 1) (pa_cons (pv 2) pa_nil)))))
      (pss_one (ps_if (pt_cmpR op_isN (pv 9) pe_non (nomark _)) (pss_one (ps_ret pe_non)) pss_nil))) (pss_one (ps_if (pt_cmpR (k_in (K := K) rfl) (pv 5) (pe_lc2 (own := [("_", 12), ("limb", 13), ("one", 10)]) (vs1 := [10]) rfl sc_widened.nd (k_list (K := K) rfl (pv 7)) (blkOk_by (N := ["form", "door", "bits", "many", "word", "bit", "limbs", "apart", "least", "inner", "one", "pair", "_", "limb"]) (sc := defScope s_widened) (by decide +kernel)) (by decide) (fun _ _ _ _ _ => (k_gtup (K := K) (n := 2) rfl rfl (pgs_cons (pg_name (i := 12) sc_widened.nd rfl (Or.inl rfl)) (pgs_cons (pg_name (i := 13) sc_widened.nd rfl (Or.inl rfl)) pgs_nil)))) (fun _ _ _ _ _ => pts_nil) (fun _ _ _ _ _ => (k_list (K := K) rfl (pe_use u_doors_of (by omega) hr (by rfl) (pa_cons (pv 13) pa_nil)))) (fun _ _ _ _ _ => (pg_name (i := 10) sc_widened.nd rfl (Or.inl rfl))) (fun _ _ _ _ _ => pts_nil) (fun _ _ _ _ _ => (pe_ix (k_ixt (K := K) rfl) (pv 2) (pv 10) (fun _ _ => rfl)))) (by rfl)) (pss_one (ps_ret pe_non)) (pss_one (ps_set (i := 9) sc_widened.nd rfl (Or.inl rfl) (pe_tup (pa_cons (pe_ifExp (pt_cmpR op_eq (pv 4) pe_str (nomark _)) pe_str pe_str) (pa_cons (pe_use u_bracketed (by omega) hr (by rfl) (pa_cons (pv 4) (pa_cons (pv 7) pa_nil))) (pa_cons (pv 1) pa_nil)))))))))
      (pss_one (ps_ret (pe_use u_bracketed (by omega) hr (by rfl) (pa_cons (pv 4) (pa_cons (pe_lst (k_star (K := K) rfl (pe_lc (own := [("pair", 11)]) rfl sc_widened.nd (k_list (K := K) rfl (pv 6)) (blkOk_by (N := ["form", "door", "bits", "many", "word", "bit", "limbs", "apart", "least", "inner", "one", "pair", "_", "limb"]) (sc := defScope s_widened) (by decide +kernel)) (fun _ _ _ _ _ => (pg_name (i := 11) sc_widened.nd rfl (Or.inl rfl))) (fun _ _ _ _ _ => (pts_one (pt_cmpR (k_notInD (K := K) rfl (room66f hr)) (pv 11) (pv 7) (by rfl)))) (fun _ _ _ _ _ => (pv 11))) (pa_cons (pe_tup (pa_cons (pv 8) (pa_cons (pv 9) pa_nil))) pa_nil))) pa_nil))))))))))))), ?_⟩
      have df := f.deep_doors
      refine ⟨_, rfl, v, f, rfl, hf, by omega, by omega, fun H1 l1 t1 n1 e1 => ?_⟩
      refine ⟨l1, rfl, ⟨_, sqL e1⟩, fun M nM => ?_⟩
      have eb1 := t1 _ _ eb
      refine lc_bits e1 eb1 rng (by omega) nM (fun x H2 s2 hx N hN => ?_) fun H2 s2 eM => ?_
      · exact ⟨rfl, _, rfl, _, rfl, bt, _, _, _, rfl, rfl, .inl (.inl (s2 _ _ eb1)), atI_of (j := x.toNat) (by have := (rng x hx).1; omega) (at_map (bit_at (rng x hx))), hN⟩
      · refine ⟨M, _, rfl, sqL eM, ?_⟩
        have s02 := t1.trans s2
        obtain ⟨my, hmy⟩ : ∃ my, (f.doors.map (bitOf bs)).sum = my := ⟨_, rfl⟩
        change gName 3 (V.int (f.doors.map (bitOf bs)).sum) _ _ _
        rw [hmy]
        have both : my = 0 ∨ my = (f.doors.length : Int) → ∀ H', Same H H' → ∀ p, H' p = none → Q (.ref p) (upd H' p (.tup [.str (Fm.word (decide (my > 0))), v, .int d])) := fun c H' s' p np => by
          have sp := s'.trans (same_new (o := .tup [V.str (Fm.word (decide (my > 0))), v, V.int d]) np)
          refine q _ _ sp ?_
          rw [wide_all (hmy ▸ c), hmy]
          exact .t upd_same (hf.mono sp) (.d d)
        by_cases c0 : my = 0
        · subst c0
          refine ⟨_, rfl, rfl, true, congrArg V.bl (decide_eq_true rfl), ?_⟩
          refine iteT ?_
          refine iteT ?_
          refine ⟨_, rfl, _, _, rfl, rfl, false, rfl, ?_⟩
          refine iteF ?_
          exact ⟨_, rfl, _, rfl, by show 3 ≤ sizeLine; decide, fun p np => both (.inl rfl) _ s02 p np⟩
        · refine ⟨_, rfl, rfl, false, congrArg V.bl (decide_eq_false fun z => c0 (V.int.inj z)), ?_⟩
          refine iteF ?_
          refine ⟨_, rfl, _, rfl, v, f, rfl, hf.mono s02, by omega, by omega, fun H3 l3 t3 n3 e3 => ?_⟩
          refine ⟨l3, _, rfl, .inl (sqL e3), ?_⟩
          have s03 := s02.trans t3
          rw [List.length_map]
          by_cases c1 : my = (f.doors.length : Int)
          · refine ⟨rfl, true, congrArg V.bl (decide_eq_true (congrArg V.int c1)), ?_⟩
            refine iteT ?_
            have pos := doors_pos f
            have pm : my > 0 := by omega
            have bb := both (.inr c1)
            rw [decide_eq_true pm] at bb
            refine ⟨_, rfl, _, _, rfl, rfl, true, congrArg V.bl (decide_eq_true pm), ?_⟩
            refine iteT ?_
            exact ⟨_, rfl, _, rfl, by show 3 ≤ sizeLine; decide, fun p np => bb _ s03 p np⟩
          · refine ⟨rfl, false, congrArg V.bl (decide_eq_false fun z => c1 (V.int.inj z)), ?_⟩
            refine iteF ?_
            cases hf with
            | d n =>
              exfalso
              have bn := b01 _ (List.mem_of_getElem? (bit_at (rng n List.mem_cons_self)))
              have e1 : (([n] : List Int).map (bitOf bs)).sum = bitOf bs n := by simp
              have c1 : ¬ my = ((1 : Nat) : Int) := c1
              have hm : (([n] : List Int).map (bitOf bs)).sum = my := hmy
              omega
            | @t a w l r vl vr e hl hr2 =>
              have hv : FH H (.ref a) (.t w l r) := .t e hl hr2
              obtain ⟨x0, hx0, bx0⟩ := some_apart (w := w) (fun x hx => b01 _ (List.mem_of_getElem? (bit_at (rng x hx)))) (by rw [hmy]; exact c0) (by rw [hmy]; exact c1)
              refine ⟨_, rfl, a, _, 0, _, rfl, rfl, .inl (.inl (s03 _ _ e)), rfl, ?_⟩
              refine ⟨_, rfl, rfl, w, congrArg V.bl (word_both w), ?_⟩
              refine iteC2 ?_
              refine ⟨_, rfl, _, rfl, .ref a, .t w l r, _, some w, rfl, hv.mono s03, wordIs w, by omega, nd, by omega, (fun w' l' r' e' z => by cases e'; exact absurd rfl z), fun H4 l4 ts t4 n4 e4 p4 => ?_⟩
              have s04 := s03.trans t4
              obtain ⟨zs, zt, zl, zh⟩ := pfs_list p4
              have ld := limbs_doors (some w) (.t w l r)
              have l2 := limbs_two w l r
              have lln := limbsF_len (some w) (.t w l r)
              have lnd := limbsF_nodup (a := some w) nd
              have wst := @wide_step (bitOf bs) d k w l r (by rw [hmy]; exact c0) (by rw [hmy]; exact c1)
              generalize limbsF (some w) (.t w l r) = L at p4 zl ld l2 lln lnd wst
              have zsl : zs.length = L.length := by rw [← zl, List.length_map]
              have lim : ∀ z ∈ zs, Bitten bs z.2 ∧ z.2.doors.length + 1 ≤ (Fm.t w l r).doors.length ∧ z.2.deep ≤ 4 := fun z hz => by
                have hm : (z.1.1, z.2) ∈ L := by
                  rw [← zl]
                  exact List.mem_map.mpr ⟨z, hz, rfl⟩
                have a1 := mem_split_len hm
                rw [ld.length_eq] at a1
                have a2 := z.2.deep_doors
                have a1 : z.2.doors.length + (L.length - 1) ≤ (Fm.t w l r).doors.length := a1
                refine ⟨⟨ls_nodup hm (ld.nodup_iff.mpr nd), fun x hx => rng x (ld.mem_iff.mp (mem_split_sub hm x hx))⟩, by omega, by omega⟩
              obtain ⟨c, hc⟩ : ∃ c : PU × Fm → Bool, c = fun z => z.2.doors.any fun x => decide (bitOf bs x = 1 - (if w then 1 else 0)) := ⟨_, rfl⟩
              refine ⟨_, rfl, l4, rfl, ⟨_, sqL e4⟩, fun Ap nAp => ?_⟩
              refine lc_filM (K := K) (f := fun (z : PU × Fm) => V.ref z.1.2.2) (h := fun (z : PU × Fm) => V.ref z.1.2.2) (xs := zs) c (by rw [e4, ← zt, List.map_map]; rfl) (by omega) nAp (fun z H5 s5 hz N hN => ?_) fun H5 s5 eAp => ?_
              · obtain ⟨bz, len, dz⟩ := lim z hz
                obtain ⟨ez, fz⟩ := zh z hz
                refine ⟨rfl, _, rfl, _, _, rfl, rfl, ?_⟩
                refine ⟨_, rfl, z.1.2.2, _, 1, _, rfl, rfl, .inl (.inl (s5 _ _ ez)), rfl, ?_⟩
                refine ⟨_, _, rfl, fz.mono s5, by omega, by omega, fun H6 l6 t6 n6 e6 => ?_⟩
                refine ⟨l6, rfl, ⟨_, sqL e6⟩, fun M2 nM2 => ?_⟩
                have eb6 := t6 _ _ (s5 _ _ (s04 _ _ eb))
                refine lc_bits e6 eb6 bz.2 (by omega) nM2 (fun x H7 s7 hx N2 hN2 => ?_) fun H7 s7 eM2 => ?_
                · exact ⟨rfl, _, rfl, _, rfl, bt, _, _, _, rfl, rfl, .inl (.inl (s7 _ _ eb6)), atI_of (j := x.toNat) (by have := (bz.2 x hx).1; omega) (at_map (bit_at (bz.2 x hx))), hN2⟩
                · refine ⟨M2, _, rfl, .inl (sqL eM2), rfl, by simp [flatV], ?_⟩
                  rw [show (if false = true then !L2.inV (V.int (1 - (if w = true then 1 else 0))) ((z.2.doors.map (bitOf bs)).map V.int) else L2.inV (V.int (1 - (if w = true then 1 else 0))) ((z.2.doors.map (bitOf bs)).map V.int)) = c z by
                    rw [hc]
                    refine (inV_ints _ _).trans ?_
                    rw [Bool.eq_iff_iff, decide_eq_true_eq, List.any_eq_true, List.mem_map]
                    simp only [decide_eq_true_eq]]
                  obtain ⟨n1, n2⟩ := hN H7 (t6.trans s7)
                  refine ⟨_, rfl, ?_⟩
                  cases hcz : c z
                  · refine iteF ?_
                    exact n2 hcz
                  · refine iteT ?_
                    exact ⟨_, rfl, n1 hcz⟩
              · have apE : apartF (bitOf bs) w L = (zs.filter c).map fun z => (z.1.1, z.2) := by
                  rw [← zl, hc]
                  unfold apartF
                  rw [List.filter_map]
                  rfl
                have apS : ∀ z ∈ zs.filter c, z ∈ zs := fun z hz => (List.mem_filter.mp hz).1
                generalize zs.filter c = as at eAp apE apS
                have s05 := s04.trans s5
                match as, eAp, apE, apS with
                | [], eAp, apE, apS =>
                  exfalso
                  have hx := ld.mem_iff.mpr hx0
                  obtain ⟨p, hp, hpx⟩ := List.mem_flatMap.mp hx
                  have : p ∈ apartF (bitOf bs) w L := List.mem_filter.mpr ⟨hp, List.any_eq_true.mpr ⟨x0, hpx, decide_eq_true bx0⟩⟩
                  rw [apE] at this
                  cases this
                | z0 :: zr, eAp, apE, apS =>
                rw [apE] at wst
                have hz0 := apS z0 List.mem_cons_self
                obtain ⟨b0, len0, d0⟩ := lim z0 hz0
                obtain ⟨e0, f0⟩ := zh z0 hz0
                refine ⟨_, rfl, Ap, _, _, _, rfl, rfl, sqL eAp, atI_of (j := 0) rfl rfl, ?_⟩
                refine ⟨z0.1.2.2, _, rfl, .inl (.inl (s5 _ _ e0)), rfl, ?_⟩
                refine ⟨_, _, rfl, _, [], rfl, rfl, ?_⟩
                obtain ⟨ap, hap⟩ : ∃ ap, ap = (z0 :: zr).map fun z => (z.1.1, z.2) := ⟨_, rfl⟩
                have tail : ∀ (H6 : Hp) (vin : V) (g : Fm), Same H5 H6 → FH H6 vin g → wideF (bitOf bs) d (k + 1) (.t w l r) = some (bracketF w (sortF (restF L ap ++ [(z0.1.1, g)]))) →
                    L2.tRet (L2.tCall spBr [] E0 (L2.tCons (L2.tVar 4) (L2.tCons (L2.tLst (tStar K (L2.tLc (L2.iList K (L2.tVar 6)) (L2.gName 11) (L2.tTest (L2.tOp (rNotInD K) (L2.tVar 11) (L2.tVar 7))) (L2.tVar 11) (List.map (fun x : Str × Nat => x.2) [("pair", 11)])) (L2.tCons (L2.tTup (L2.tCons (L2.tVar 8) (L2.tCons (L2.tVar 9) L2.tNil))) L2.tNil))) L2.tNil)))
                      { nx := fun x H' => Q V.non H', rt := Q } ((((((((List.set (L2.start ["form", "door", "bits", "many", "word", "bit", "limbs", "apart", "least", "inner", "one", "pair", "_", "limb"] [V.ref a, V.int d, V.ref bt]) 3 (some (V.int my))).set 4 (some (V.str (Fm.word w)))).set 5 (some (V.int (if w = true then 1 else 0)))).set 6 (some (V.ref l4))).set 7 (some (V.ref Ap))).set 8 (some (V.int z0.1.1))).set 9 (some z0.1.2.1)).set 9 (some vin)) H6 := by
                  intro H6 vin g s6 fv hw
                  have e46 := s6 _ _ (s5 _ _ e4)
                  have eAp6 := s6 _ _ eAp
                  refine ⟨_, rfl, _, rfl, l4, rfl, ⟨_, sqL e46⟩, fun R nR => ?_⟩
                  refine lc_filM (K := K) (f := fun (z : PU × Fm) => V.ref z.1.2.2) (h := fun (z : PU × Fm) => V.ref z.1.2.2) (xs := zs) (fun z => !decide ((z.1.1, z.2) ∈ ap)) (by rw [e46, ← zt, List.map_map]; rfl) (by omega) nR (fun z H7 s7 hz N hN => ?_) fun H7 s7 eR => ?_
                  · obtain ⟨ez, fz⟩ := zh z hz
                    have s57 := s5.trans (s6.trans s7)
                    have dpz : ∀ y ∈ zs, Dp K H7 (.ref y.1.2.2) (pairD (y.1.1, y.2)) := fun y hy => .tup (.inl (.inl (s57 _ _ (zh y hy).1))) (.cons (.int _) (.cons ((zh y hy).2.mono s57).dp .nil))
                    refine ⟨rfl, _, rfl, _, rfl, pairD (z.1.1, z.2), ap.map pairD, dpz z hz, ?_, pair_shaped (lim z hz).2.2, pairs_shaped (fun p hp => ?_), ?_⟩
                    · refine .lst (sqL (s7 _ _ eAp6)) ?_
                      rw [hap]
                      refine dp_all ?_ _ apS
                      exact dpz
                    · rw [hap] at hp
                      obtain ⟨y, hy, rfl⟩ := List.mem_map.mp hp
                      exact (lim y (apS y hy)).2.2
                    · rw [pair_notIn]
                      obtain ⟨n1, n2⟩ := hN H7 (.refl _)
                      refine ⟨_, rfl, ?_⟩
                      cases hcz : !decide ((z.1.1, z.2) ∈ ap)
                      · refine iteF ?_
                        exact n2 hcz
                      · refine iteT ?_
                        exact ⟨_, rfl, n1 hcz⟩
                  · have rE : restF L ap = (zs.filter fun z => !decide ((z.1.1, z.2) ∈ ap)).map fun z => (z.1.1, z.2) := by
                      unfold restF
                      rw [← zl, List.filter_map]
                      rfl
                    have rS : ∀ z ∈ zs.filter (fun z => !decide ((z.1.1, z.2) ∈ ap)), z ∈ zs := fun z hz => (List.mem_filter.mp hz).1
                    have rL : (zs.filter fun z => !decide ((z.1.1, z.2) ∈ ap)).length ≤ zs.length := List.length_filter_le _ _
                    generalize zs.filter (fun z => !decide ((z.1.1, z.2) ∈ ap)) = rs at eR rE rS rL
                    refine ⟨R, _, rfl, .inr (sqL eR), _, rfl, _, rfl, by show 2 ≤ sizeLine; decide, fun Tp nTp => ?_⟩
                    have sT := same_new (H := H7) (o := .tup [V.int z0.1.1, vin]) nTp
                    refine ⟨?_, fun l nl => ?_⟩
                    · rw [List.length_append, List.length_map]
                      exact Nat.le_of_lt (small_of (by show rs.length + 1 ≤ _; omega))
                    have sl := same_new (H := upd H7 Tp (.tup [V.int z0.1.1, vin])) (o := .lst (rs.map (fun z => V.ref z.1.2.2) ++ [V.ref Tp])) nl
                    have s5T := (s5.trans (s6.trans s7)).trans (sT.trans sl)
                    refine ⟨w, l, rs.map (fun z => z.1.2.2) ++ [Tp], restF L ap ++ [(z0.1.1, g)], rfl, ?_, PFs.app ?_ ?_, by simp, ?_, ?_, fun H8 v8 ms s8 pm asc fv8 => ?_⟩
                    · refine upd_same.trans ?_
                      rw [List.map_append, List.map_map]
                      rfl
                    · rw [rE]
                      exact pfs_of fun z hz => ⟨s5T _ _ (zh z (rS z hz)).1, (zh z (rS z hz)).2.mono s5T⟩
                    · refine ⟨rfl, fun i t ht => ?_⟩
                      match i, ht with
                      | 0, ht =>
                        cases ht
                        exact ⟨_, vin, rfl, sl _ _ upd_same, fv.mono (s7.trans (sT.trans sl))⟩
                    · rw [rE, List.length_append, List.length_map]
                      show rs.length + 1 ≤ 1000
                      omega
                    · rw [hap]
                      exact rest_nodup (b := bitOf bs) (w := w) (g := g) lnd apE
                    · refine q _ v8 (((s04.trans (s5.trans s6)).trans (s7.trans (sT.trans sl))).trans s8) ?_
                      rw [hw]
                      have ndl : ((restF L ap ++ [(z0.1.1, g)]).map (·.1)).Nodup := by
                        rw [hap]
                        exact rest_nodup (b := bitOf bs) (w := w) (g := g) lnd apE
                      rw [← sortF_uniq pm asc ndl]
                      exact fv8
                refine ⟨_, rfl, Ap, _, rfl, .inl (sqL eAp), ?_⟩
                match zr, eAp, apE, apS, wst, hap with
                | [], eAp, apE, apS, wst, hap =>
                  refine ⟨rfl, true, congrArg V.bl (decide_eq_true rfl), ?_⟩
                  refine iteT ?_
                  refine ⟨_, rfl, _, rfl, _, rfl, z0.1.2.1, z0.2, d, bt, bs, rfl, f0.mono s5, s05 _ _ eb, b01, b0, by omega, by omega, fun H6 v6 s6 o6 => ?_⟩
                  refine ⟨_, rfl, rfl, ?_⟩
                  cases hw : wideF (bitOf bs) d k z0.2 with
                  | none =>
                    rw [hw] at o6
                    obtain rfl : v6 = .non := o6
                    refine ⟨true, congrArg V.bl (decide_eq_true rfl), ?_⟩
                    refine iteT ?_
                    refine q H6 .non (s05.trans s6) ?_
                    rw [wst]
                    simp [hw, OptF]
                  | some g =>
                    rw [hw] at o6
                    have o6 : FH H6 v6 g := o6
                    refine ⟨false, congrArg V.bl (decide_eq_false fun z => by rw [z] at o6; cases o6), ?_⟩
                    refine iteF ?_
                    refine tail H6 v6 g s6 o6 ?_
                    rw [wst, hap]
                    simp [hw]
                | z1 :: zr, eAp, apE, apS, wst, hap =>
                  refine ⟨rfl, false, congrArg V.bl (decide_eq_false fun z => by have := V.int.inj z; simp at this; omega), ?_⟩
                  refine iteF ?_
                  have lenA : (lsDoors ap).length ≤ 5 := by
                    have a1 := (lsDoors_perm (rest_eq (bitOf bs) w L)).length_eq
                    rw [lsDoors_app, List.length_append, ld.length_eq, apE, ← hap] at a1
                    omega
                  have zsA : ∀ i, (((z0 :: z1 :: zr).take i).flatMap fun z => z.2.doors).length ≤ 5 := fun i => by
                    have a1 : lsDoors ap = (z0 :: z1 :: zr).flatMap fun z => z.2.doors := by
                      rw [hap]
                      unfold lsDoors
                      rw [List.flatMap_map]
                    rw [← List.take_append_drop i (z0 :: z1 :: zr), List.flatMap_append] at a1
                    rw [a1, List.length_append] at lenA
                    omega
                  refine ⟨_, rfl, _, rfl, Ap, rfl, ⟨_, sqL eAp⟩, fun M2 nM2 => ?_⟩
                  refine lc2_list (K := K) (a := Ap) (xs := (z0 :: z1 :: zr).map fun z => V.ref z.1.2.2) (fun i H6 => Same H5 H6 ∧ H6 M2 = some (.lst (((((z0 :: z1 :: zr).take i).flatMap fun z => z.2.doors).map (bitOf bs)).map V.int))) ⟨same_new nM2, upd_same⟩ (fun i H6 _ ⟨s6, _⟩ => sqL (s6 _ _ eAp)) ?_ ?_
                  · rintro i x H6 hx ⟨s6, eM⟩
                    obtain ⟨z, hz, rfl⟩ := map_at hx
                    have hzz := apS z (List.mem_of_getElem? hz)
                    obtain ⟨bz, len, dz⟩ := lim z hzz
                    obtain ⟨ez, fz⟩ := zh z hzz
                    refine ⟨z.1.2.2, _, rfl, .inl (.inl (s6 _ _ (s5 _ _ ez))), rfl, ?_⟩
                    refine ⟨_, _, rfl, _, [], rfl, rfl, ?_⟩
                    refine ⟨wipe2 (by decide) (by decide), ?_⟩
                    refine ⟨_, rfl, _, _, rfl, fz.mono (s5.trans s6), by omega, by omega, fun H7 l7 t7 n7 e7 => ?_⟩
                    refine ⟨l7, rfl, ⟨_, sqL e7⟩, ?_⟩
                    refine in_list (K := K) (a := l7) (xs := z.2.doors.map V.int) (fun j H8 => Same H5 H8 ∧ H8 l7 = some (.lst (z.2.doors.map V.int)) ∧ H8 M2 = some (.lst (((((z0 :: z1 :: zr).take i).flatMap (fun z => z.2.doors) ++ z.2.doors.take j).map (bitOf bs)).map V.int))) ⟨s6.trans t7, e7, ?_⟩ (fun j H8 _ ⟨_, e8, _⟩ => sqL e8) ?_ ?_
                    · rw [List.take_zero, List.append_nil]
                      exact t7 _ _ eM
                    · rintro j y H8 hy ⟨s8, e8, eM8⟩
                      obtain ⟨x, hx, rfl⟩ := map_at hy
                      have hxd := bz.2 x (List.mem_of_getElem? hx)
                      refine ⟨wipe1 (by decide), _, rfl, _, rfl, bt, _, _, _, rfl, rfl, .inl (.inl (s8 _ _ (s04.trans s5 _ _ eb))), atI_of (j := x.toNat) (by omega) (at_map (bit_at hxd)), ?_⟩
                      have ne : M2 ≠ l7 := fun z => by
                        rw [← z] at n7
                        rw [n7] at eM
                        cases eM
                      refine ⟨_, eM8, ?_, same_mut s8 nM2, ?_, ?_⟩
                      · rw [List.length_map, List.length_map, List.length_append, List.length_take]
                        have := zsA i
                        exact small_of (by omega)
                      · rw [upd_ne ne.symm]
                        exact e8
                      · rw [upd_same, take_snoc hx]
                        simp only [List.map_append, List.append_assoc, List.map_cons, List.map_nil]
                    · rintro H8 ⟨s8, e8, eM8⟩
                      refine ⟨s8, ?_⟩
                      rw [List.length_map, List.take_length] at eM8
                      rw [take_snoc hz, List.flatMap_append, eM8]
                      simp
                  · rintro H6 ⟨s6, eM⟩
                    rw [List.length_map, List.take_length] at eM
                    refine ⟨M2, _, rfl, .inl (sqL eM), rfl, by simp [flatV], ?_⟩
                    have apE2 : ((z0 :: z1 :: zr).map fun z => (z.1.1, z.2)) = (z0.1.1, z0.2) :: (z1.1.1, z1.2) :: zr.map fun z => (z.1.1, z.2) := rfl
                    obtain ⟨bb, hbb⟩ : ∃ bb, (ap.any fun p => p.2.doors.any fun y => decide (bitOf bs y = if w then 1 else 0)) = bb := ⟨_, rfl⟩
                    rw [show (if false = true then !L2.inV (V.int (if w = true then 1 else 0)) ((((z0 :: z1 :: zr).flatMap fun z => z.2.doors).map (bitOf bs)).map V.int) else L2.inV (V.int (if w = true then 1 else 0)) ((((z0 :: z1 :: zr).flatMap fun z => z.2.doors).map (bitOf bs)).map V.int)) = bb by
                      rw [← hbb, hap]
                      refine (inV_ints _ _).trans ?_
                      rw [Bool.eq_iff_iff, decide_eq_true_eq, List.any_eq_true, List.mem_map]
                      constructor
                      · rintro ⟨x, hx, e⟩
                        obtain ⟨z, hz, hxz⟩ := List.mem_flatMap.mp hx
                        exact ⟨(z.1.1, z.2), List.mem_map.mpr ⟨z, hz, rfl⟩, List.any_eq_true.mpr ⟨x, hxz, decide_eq_true e⟩⟩
                      · rintro ⟨p, hp, h⟩
                        obtain ⟨z, hz, rfl⟩ := List.mem_map.mp hp
                        obtain ⟨x, hx, e⟩ := List.any_eq_true.mp h
                        exact ⟨x, List.mem_flatMap.mpr ⟨z, hz, hx⟩, of_decide_eq_true e⟩]
                    rw [apE2] at wst hap
                    dsimp only at wst
                    rw [if_neg (by simp), ← hap, hbb] at wst
                    refine ⟨_, rfl, ?_⟩
                    cases bb with
                    | true =>
                      refine iteT ?_
                      refine q H6 .non (s05.trans s6) ?_
                      rw [wst]
                      rfl
                    | false =>
                      refine iteF ?_
                      refine ⟨_, rfl, rfl, w, congrArg V.bl (word_both w), ?_⟩
                      refine iteC3 ?_
                      refine ⟨_, rfl, _, rfl, w, Ap, (z0 :: z1 :: zr).map (fun z => z.1.2.2), ap, rfl, (s6 _ _ eAp).trans (by rw [List.map_map]; rfl), ?_, by rw [hap]; simp, ?_, ?_, fun H8 v8 ms s8 pm asc fv8 => ?_⟩
                      · rw [hap]
                        exact pfs_of fun z hz => ⟨s6 _ _ (s5 _ _ (zh z (apS z hz)).1), (zh z (apS z hz)).2.mono (s5.trans s6)⟩
                      · have := ls_len ap
                        omega
                      · rw [hap, ← apE2, ← apE]
                        exact ((apart_sub _ _ _).map _).nodup lnd
                      · refine ⟨_, rfl, by show 3 ≤ sizeLine; decide, fun p np => ?_⟩
                        have sp := same_new (H := H8) (o := .tup [V.str (Fm.word (!w)), v8, V.int d]) np
                        refine tail _ (.ref p) (.t (!w) (bracketF w (sortF ap)) (.d d)) ((s6.trans s8).trans sp) (.t upd_same ?_ (.d d)) wst
                        rw [← sortF_uniq pm asc (by
                          rw [hap, ← apE2, ← apE]
                          exact ((apart_sub _ _ _).map _).nodup lnd)]
                        exact fv8.mono sp
end
end KQ
/-! [e for x in a for y in b], both tuples -/
namespace KR
open PySem PySem.Spec PyProof.Rows L2
theorem in_tup {K : PySem.W.Frag} {a : Addr} {xs : List V} {g1 : TG} {tt1 : TT} {te : TE} {vs1 : List Nat} {σ2 : L2.St} {H4 : Hp} {D : Addr} {Qd : Hp → Prop} (Pw : Nat → Hp → Prop) (h0 : Pw 0 H4) (hl : ∀ i H, i ≤ xs.length → Pw i H → SqT K H a xs)
    (hs : ∀ i x H, xs[i]? = some x → Pw i H → g1 x (wipe σ2 vs1) H fun σ3 H5 => wipe σ3 vs1 = wipe σ2 vs1 ∧ tt1 σ3 H5 fun b H6 =>
      if b = true then te σ3 H6 fun y H7 => ∃ acc, H7 D = some (.lst acc) ∧ acc.length < sizeLine ∧ Pw (i + 1) (upd H7 D (.lst (acc ++ [y]))) else Pw (i + 1) H6) (hd : ∀ H, Pw xs.length H → Qd H) :
    ∃ W1 : Nat → Nat → Hp → Prop, (∃ m, W1 0 m H4) ∧ ∀ j k H, W1 j k H →
      ((Itt K a).stop j H ∧ Qd H) ∨ ((Itt K a).go j H ∧ ∃ Nx1 : Hp → Prop, (∀ H', Nx1 H' → ∃ k', k' < k ∧ W1 (j + 1) k' H') ∧ ∀ x H', (Itt K a).yld j H x H' →
        g1 x (wipe σ2 vs1) H' fun σ3 H5 => wipe σ3 vs1 = wipe σ2 vs1 ∧ tt1 σ3 H5 fun b H6 =>
        if b = true then te σ3 H6 fun y H7 => ∃ acc, H7 D = some (.lst acc) ∧ acc.length < sizeLine ∧ Nx1 (upd H7 D (.lst (acc ++ [y]))) else Nx1 H6) := by
  refine ⟨fun i m H => m = xs.length - i ∧ i ≤ xs.length ∧ Pw i H, ⟨xs.length, by simp, Nat.zero_le _, h0⟩, ?_⟩
  rintro i m H ⟨rfl, hi, p⟩
  have q := hl i H hi p
  by_cases hlt : i < xs.length
  · refine .inr ⟨⟨xs, xs[i], q, by simp [hlt]⟩, Pw (i + 1), fun H' p' => ⟨xs.length - (i + 1), by omega, rfl, hlt, p'⟩, fun x H' y => ?_⟩
    obtain ⟨e, y⟩ := y
    subst e
    exact hs i x _ (y xs q) p
  · have e : i = xs.length := by omega
    subst e
    exact .inl ⟨⟨xs, q, Nat.le_refl _⟩, hd H p⟩
theorem lc2_tup {K : PySem.W.Frag} {a : Addr} {xs : List V} {g : TG} {tt : TT} {wi1 : TI} {g1 : TG} {tt1 : TT} {te : TE} {vs vs1 : List Nat} {σ : L2.St} {H1 : Hp} {D : Addr} {Qd : Hp → Prop}
    (Pv : Nat → Hp → Prop) (h0 : Pv 0 (upd H1 D (.lst []))) (hl : ∀ i H, i ≤ xs.length → Pv i H → SqT K H a xs)
    (hs : ∀ i x H, xs[i]? = some x → Pv i H → g x (wipe σ vs) H fun σ2 H2 => wipe σ2 vs = wipe σ vs ∧ tt σ2 H2 fun b H3 =>
      if b = true then wi1 σ2 H3 fun J1 H4 => ∃ W1 : Nat → Nat → Hp → Prop, (∃ m, W1 0 m H4) ∧ ∀ j k H, W1 j k H →
        (J1.stop j H ∧ Pv (i + 1) H) ∨ (J1.go j H ∧ ∃ Nx1 : Hp → Prop, (∀ H', Nx1 H' → ∃ k', k' < k ∧ W1 (j + 1) k' H') ∧ ∀ x H', J1.yld j H x H' →
          g1 x (wipe σ2 vs1) H' fun σ3 H5 => wipe σ3 vs1 = wipe σ2 vs1 ∧ tt1 σ3 H5 fun b H6 =>
          if b = true then te σ3 H6 fun y H7 => ∃ acc, H7 D = some (.lst acc) ∧ acc.length < sizeLine ∧ Nx1 (upd H7 D (.lst (acc ++ [y]))) else Nx1 H6)
      else Pv (i + 1) H3) (hd : ∀ H, Pv xs.length H → Qd H) :
    ∃ W : Nat → Nat → Hp → Prop, (∃ m, W 0 m (upd H1 D (.lst []))) ∧ ∀ i m H, W i m H →
      ((Itt K a).stop i H ∧ Qd H) ∨ ((Itt K a).go i H ∧ ∃ Nx : Hp → Prop, (∀ H', Nx H' → ∃ m', m' < m ∧ W (i + 1) m' H') ∧ ∀ x H', (Itt K a).yld i H x H' →
        g x (wipe σ vs) H' fun σ2 H2 => wipe σ2 vs = wipe σ vs ∧ tt σ2 H2 fun b H3 =>
        if b = true then wi1 σ2 H3 fun J1 H4 => ∃ W1 : Nat → Nat → Hp → Prop, (∃ m, W1 0 m H4) ∧ ∀ j k H, W1 j k H →
          (J1.stop j H ∧ Nx H) ∨ (J1.go j H ∧ ∃ Nx1 : Hp → Prop, (∀ H', Nx1 H' → ∃ k', k' < k ∧ W1 (j + 1) k' H') ∧ ∀ x H', J1.yld j H x H' →
            g1 x (wipe σ2 vs1) H' fun σ3 H5 => wipe σ3 vs1 = wipe σ2 vs1 ∧ tt1 σ3 H5 fun b H6 =>
            if b = true then te σ3 H6 fun y H7 => ∃ acc, H7 D = some (.lst acc) ∧ acc.length < sizeLine ∧ Nx1 (upd H7 D (.lst (acc ++ [y]))) else Nx1 H6)
        else Nx H3) := by
  refine ⟨fun i m H => m = xs.length - i ∧ i ≤ xs.length ∧ Pv i H, ⟨xs.length, by simp, Nat.zero_le _, h0⟩, ?_⟩
  rintro i m H ⟨rfl, hi, p⟩
  have q := hl i H hi p
  by_cases hlt : i < xs.length
  · refine .inr ⟨⟨xs, xs[i], q, by simp [hlt]⟩, Pv (i + 1), fun H' p' => ⟨xs.length - (i + 1), by omega, rfl, hlt, p'⟩, fun x H' y => ?_⟩
    obtain ⟨e, y⟩ := y
    subst e
    exact hs i x _ (y xs q) p
  · have e : i = xs.length := by omega
    subst e
    exact .inl ⟨⟨xs, q, Nat.le_refl _⟩, hd H p⟩
end KR
namespace KQ
open PySem PySem.Spec PyProof.Rows L2 KR KM StX
section
variable {P : Program} {w : World} {K : PySem.W.Frag} {mg : Str → Option Value} {base : Heap}
abbrev s_forms_with : Stmt := topS 15
theorem sc_forms_with : FnScope ["number", "choices", "rows", "door", "begun", "bits", "choice", "told", "row", "bit", "form"] ["number", "choices"] (defScope s_forms_with) := ⟨rfl, rfl, rfl, by decide +kernel, rfl, by decide +kernel, by decide +kernel⟩

theorem cut_rep {m b d : Nat} {x : V} (h : b + d ≤ m) : cutV (List.replicate m x) (some ((b : Nat) : Int)) (some ((b + d : Nat) : Int)) = List.replicate d x := by
  unfold cutV HT.sIx
  rw [List.length_replicate]
  simp only [List.drop_replicate, List.take_replicate]
  congr 1
  split <;> split <;> omega
theorem OptF.mono {H H' : Hp} {v : V} : ∀ {o : Option Fm}, OptF H v o → Same H H' → OptF H' v o
  | none, h, _ => h
  | some _, h, s => FH.mono h s
theorem OptF.upd {H : Hp} {v : V} {D : Addr} {xs : List V} {u : HO} (e : H D = some (.lst xs)) : ∀ {o : Option Fm}, OptF H v o → OptF (L2.upd H D u) v o
  | none, h => h
  | some _, h => FH.upd h e
def spFW : Sp := fun vs H Q _ => ∃ (n m : Nat) (c t : Addr), vs = [.int ((n + 1 : Nat) : Int), .ref c] ∧ n < 5 ∧ H c = some (.lst (List.replicate m (.ref t))) ∧ n * (n + 1) / 2 ≤ m ∧ m ≤ 100 ∧ H t = some (.tup [.int 0, .int 1]) ∧
  ∀ H' r us, Same H H' → H' r = some (.tup us) → FHs H' us (allF n) → Q (.ref r) H'
theorem ok_forms_with (D : DefAt K mg "forms_with" s_forms_with) (T : Bt mg) (u_widened : Use P w K mg base "widened" 16 ["form", "door", "bits"] (spWide 4)) : Use P w K mg base "forms_with" 17 ["number", "choices"] spFW := by
  refine use_of D (fun f fd F => F.ok sc_forms_with (fun vs H Q E h => ?_) (fun cdv A outer s H vs Q E hr h => ?_)) (fun _ _ _ _ _ _ us hl => match us, hl with | [_, _], _ => rfl)
  · obtain ⟨n, m, c, t, rfl, _⟩ := h
    rfl
  · obtain ⟨n, m, c, t, rfl, n5, ec, lm, m100, et, q⟩ := h
    refine ⟨_, (pss_cons (ps_set (i := 2) sc_forms_with.nd rfl (Or.inl rfl) (pe_lst (pa_cons pe_int pa_nil)))
      (pss_cons (ps_for PassesOwn.never rfl (pi_range2 (by rfl) T.range (pa_cons pe_int (pa_cons (pv 0) pa_nil))) (pg_name (i := 3) sc_forms_with.nd rfl (Or.inr rfl))
      (pss_cons (ps_set (i := 4) sc_forms_with.nd rfl (Or.inl rfl) (pe_op op_fdivW (pe_op op_mulW (pv 3) (pe_op op_sub (pv 3) pe_int)) pe_int))
      (pss_cons (ps_set (i := 5) sc_forms_with.nd rfl (Or.inr rfl) (pe_lst (pa_cons (pe_tup pa_nil) pa_nil)))
      (pss_cons (ps_for PassesOwn.never rfl (k_list (K := K) rfl (pe_slice (k_sll (K := K) rfl) (pv 1) (po_some (pv 4)) (po_some (pe_op op_add (pv 4) (pv 3))))) (pg_name (i := 6) sc_forms_with.nd rfl (Or.inr rfl))
      (pss_one (ps_set (i := 5) sc_forms_with.nd rfl (Or.inr rfl) (pe_lc2 (own := [("row", 8), ("bit", 9)]) (vs1 := [9]) rfl sc_forms_with.nd (k_list (K := K) rfl (pv 5)) (blkOk_by (N := ["number", "choices", "rows", "door", "begun", "bits", "choice", "told", "row", "bit", "form"]) (sc := defScope s_forms_with) (by decide +kernel)) (by decide) (fun _ _ _ _ _ => (pg_name (i := 8) sc_forms_with.nd rfl (Or.inl rfl))) (fun _ _ _ _ _ => pts_nil) (fun _ _ _ _ _ => (k_tup (K := K) rfl (pv 6))) (fun _ _ _ _ _ => (pg_name (i := 9) sc_forms_with.nd rfl (Or.inl rfl))) (fun _ _ _ _ _ => pts_nil) (fun _ _ _ _ _ => (pe_tup (k_star (K := K) rfl (pv 8) (pa_cons (pv 9) pa_nil))))))))
      (pss_cons (ps_setLc2 (i := 7) (own := [("form", 10), ("row", 8)]) (vs1 := [8]) rfl sc_forms_with.nd rfl rfl (sw_true rfl rfl rfl (by decide +kernel)) (k_list (K := K) rfl (pv 2)) (blkOk_by (N := ["number", "choices", "rows", "door", "begun", "bits", "choice", "told", "row", "bit", "form"]) (sc := defScope s_forms_with) (by decide +kernel)) (by decide) (fun _ _ _ _ _ => (pg_name (i := 10) sc_forms_with.nd rfl (Or.inl rfl))) (fun _ _ _ _ _ => pts_nil) (fun _ _ _ _ _ => (k_list (K := K) rfl (pv 5))) (fun _ _ _ _ _ => (pg_name (i := 8) sc_forms_with.nd rfl (Or.inl rfl))) (fun _ _ _ _ _ => pts_nil) (fun _ _ _ _ _ => (pe_use u_widened (by decide) hr (by rfl) (pa_cons (pv 10) (pa_cons (pv 3) (pa_cons (pv 8) pa_nil))))))
      (pss_one (ps_setLc (i := 2) (own := [("form", 10)]) rfl sc_forms_with.nd rfl rfl (sw_true rfl rfl rfl (by decide +kernel)) (k_list (K := K) rfl (pv 7)) (blkOk_by (N := ["number", "choices", "rows", "door", "begun", "bits", "choice", "told", "row", "bit", "form"]) (sc := defScope s_forms_with) (by decide +kernel)) (fun _ _ _ _ _ => (pg_name (i := 10) sc_forms_with.nd rfl (Or.inl rfl))) (fun _ _ _ _ _ => (pts_one (pt_cmpR op_notN (pv 10) pe_non (nomark _)))) (fun _ _ _ _ _ => (pv 10)))))))))
      (pss_one (ps_ret (pe_callTy (k_tupOf (K := K) rfl) (by rfl) T.tuple (by decide +kernel) (pa_cons (pv 2) pa_nil)))))), ?_⟩
    refine ⟨by show 1 ≤ sizeLine; decide, fun R nR => ?_⟩
    have sR := same_new (H := H) (o := .lst [V.int 0]) nR
    refine ⟨_, rfl, 1, _, rfl, ⟨by decide, by decide, by omega, by omega⟩, for_range (lo := 1) (n := (((n + 1 : Nat) : Int) - 1).toNat)
      (fun i σ H1 => ∃ (y3 y4 y5 y6 y7 : Option V) (R1 : Addr) (us : List V), σ = [some (.int ((n + 1 : Nat) : Int)), some (.ref c), some (.ref R1), y3, y4, y5, y6, y7, none, none, none] ∧ Same H H1 ∧ H1 R1 = some (.lst us) ∧ FHs H1 us (allF i))
      ⟨none, none, none, none, none, R, [V.int 0], rfl, sR, upd_same, .one (.d 0)⟩ ?_ ?_⟩
    · rintro i σ H1 hi ⟨y3, y4, y5, y6, y7, R1, us, rfl, s1, eR1, fus⟩
      have hi4 : i < 4 := by omega
      refine ⟨_, rfl, _, rfl, _, _, rfl, rfl, _, _, rfl, rfl, wide_mul (a := 8) (b := 8) (by omega) (by omega) (by decide) (by decide) (by decide), _, _, rfl, rfl, wide_div (b := 4) (by decide) (by decide) (by decide) (by decide), ?_⟩
      change gName 4 (V.int ((1 + ((i : Nat) : Int)) * (1 + ((i : Nat) : Int) - 1) / 2)) _ _ _
      rw [show (1 + ((i : Nat) : Int)) * (1 + ((i : Nat) : Int) - 1) / 2 = ((i * (i + 1) / 2 : Nat) : Int) by
        match i, hi4 with
        | 0, _ => rfl
        | 1, _ => rfl
        | 2, _ => rfl
        | 3, _ => rfl]
      have roomy : i * (i + 1) / 2 + (i + 1) ≤ m := by
        have : i * (i + 1) / 2 + (i + 1) ≤ n * (n + 1) / 2 := by
          match i, hi4, n, n5, hi with
          | 0, _, 0, _, hi => omega
          | 0, _, 1, _, _ => decide
          | 0, _, 2, _, _ => decide
          | 0, _, 3, _, _ => decide
          | 0, _, 4, _, _ => decide
          | 1, _, 0, _, hi => omega
          | 1, _, 1, _, hi => omega
          | 1, _, 2, _, _ => decide
          | 1, _, 3, _, _ => decide
          | 1, _, 4, _, _ => decide
          | 2, _, 0, _, hi => omega
          | 2, _, 1, _, hi => omega
          | 2, _, 2, _, hi => omega
          | 2, _, 3, _, _ => decide
          | 2, _, 4, _, _ => decide
          | 3, _, 0, _, hi => omega
          | 3, _, 1, _, hi => omega
          | 3, _, 2, _, hi => omega
          | 3, _, 3, _, hi => omega
          | 3, _, 4, _, _ => decide
        omega
      generalize i * (i + 1) / 2 = bg at roomy
      refine ⟨by show 0 ≤ sizeLine; decide, fun e ne => ⟨by show 1 ≤ sizeLine; decide, fun B nB => ?_⟩⟩
      have se := same_new (H := H1) (o := .tup []) ne
      have sB := same_new (H := upd H1 e (.tup [])) (o := .lst [V.ref e]) nB
      have ee := sB _ _ (upd_same (H := H1) (a := e) (o := .tup []))
      have eB := upd_same (H := upd H1 e (.tup [])) (a := B) (o := .lst [V.ref e])
      have s2 := s1.trans (se.trans sB)
      have eR2 := (se.trans sB) _ _ eR1
      have fus := fus.map (H' := upd (upd H1 e (.tup [])) B (.lst [V.ref e])) (fun v a k => k.mono (se.trans sB))
      generalize upd (upd H1 e (.tup [])) B (.lst [V.ref e]) = H2 at ee eB s2 eR2 fus
      refine ⟨_, rfl, _, rfl, _, rfl, _, rfl, _, rfl, _, _, rfl, rfl, _, rfl, c, _, rfl, sqL (s2 _ _ ec), fun C nC => ?_⟩
      have cE : cutV (List.replicate m (V.ref t)) (some ((bg : Nat) : Int)) (some (((bg : Nat) : Int) + (1 + ((i : Nat) : Int)))) = List.replicate (i + 1) (V.ref t) := by
        rw [show ((bg : Nat) : Int) + (1 + ((i : Nat) : Int)) = ((bg + (i + 1) : Nat) : Int) by omega, cut_rep roomy]
      have eC := upd_same (H := H2) (a := C) (o := .lst (cutV (List.replicate m (V.ref t)) (some ((bg : Nat) : Int)) (some (((bg : Nat) : Int) + (1 + ((i : Nat) : Int))))))
      have sC := same_new (H := H2) (o := .lst (cutV (List.replicate m (V.ref t)) (some ((bg : Nat) : Int)) (some (((bg : Nat) : Int) + (1 + ((i : Nat) : Int)))))) nC
      refine ⟨C, rfl, ⟨_, sqL eC⟩, ?_⟩
      generalize upd H2 C (.lst (cutV (List.replicate m (V.ref t)) (some ((bg : Nat) : Int)) (some (((bg : Nat) : Int) + (1 + ((i : Nat) : Int)))))) = H3 at eC sC
      rw [cE] at eC
      have e3 := sC _ _ ee
      have eB3 := sC _ _ eB
      have s3 := s2.trans sC
      have eR3 := sC _ _ eR2
      have fus := fus.map fun v a k => k.mono sC
      have et3 := s3 _ _ et
      refine for_list (K := K) (a := C) (xs := List.replicate (i + 1) (V.ref t))
        (fun j σ H4 => ∃ (y6 : Option V) (B1 : Addr) (ws : List V), σ = [some (.int ((n + 1 : Nat) : Int)), some (.ref c), some (.ref R1), some (.int (1 + ((i : Nat) : Int))), some (.int ((bg : Nat) : Int)), some (.ref B1), y6, y7, none, none, none] ∧ Same H3 H4 ∧ H4 B1 = some (.lst ws) ∧ Rs RowV H4 ws (bitRows j))
        ⟨y6, B, [V.ref e], rfl, .refl _, eB3, .one ⟨e, rfl, e3⟩⟩ (fun j σ H4 _ ⟨_, _, _, _, s4, _⟩ => sqL (s4 _ _ eC)) ?_ ?_
      · rintro j v σ H4 hj ⟨z6, B1, ws, rfl, s4, eB1, rw1⟩
        have ji : j < i + 1 := by
          have := (List.getElem?_eq_some_iff.mp hj).1
          rw [List.length_replicate] at this
          exact this
        obtain rfl : v = .ref t := by
          have := List.mem_of_getElem? hj
          exact List.eq_of_mem_replicate this
        have wl : ws.length ≤ 16 := by
          rw [rw1.1]
          exact bitRows_small (by omega)
        refine ⟨_, rfl, B1, rfl, ⟨_, sqL eB1⟩, fun G nG => ?_⟩
        refine lc2_list (K := K) (a := B1) (xs := ws) (fun k H5 => Same H4 H5 ∧ ∃ xs, H5 G = some (.lst xs) ∧ Rs RowV H5 xs (((bitRows j).take k).flatMap fun r => [r ++ [0], r ++ [1]])) ⟨same_new nG, [], upd_same, .nil⟩ (fun k H5 _ ⟨s5, _⟩ => sqL (s5 _ _ eB1)) ?_ ?_
        · rintro k x H5 hx ⟨s5, xs, eG, rxs⟩
          obtain ⟨r, hr, b, rfl, eb⟩ := rw1.2 k x hx
          have tk : (bitRows j).take (k + 1) = (bitRows j).take k ++ [r] := take_snoc hr
          have xl : xs.length ≤ 32 := by
            rw [rxs.1]
            have := flat_take (fun r : List Int => [r ++ [(0 : Int)], r ++ [1]]) (bitRows j) k
            have a2 := flat_len (f := fun r : List Int => [r ++ [(0 : Int)], r ++ [1]]) (k := 2) (l := bitRows j) (fun x _ => Nat.le_refl _)
            have a3 := bitRows_small (n := j) (by omega)
            omega
          have rl := (bitRows_mem j r (List.mem_of_getElem? hr)).1
          refine ⟨rfl, _, rfl, t, rfl, ⟨_, sqT (s5 _ _ (s4 _ _ et3))⟩, ?_⟩
          refine in_tup (K := K) (a := t) (xs := [V.int 0, V.int 1]) (fun l H6 => Same H4 H6 ∧ ∃ xs, H6 G = some (.lst xs) ∧ Rs RowV H6 xs ((((bitRows j).take k).flatMap fun r => [r ++ [0], r ++ [1]]) ++ [r ++ [0], r ++ [1]].take l)) ⟨s5, xs, eG, by rw [List.take_zero, List.append_nil]; exact rxs⟩ (fun l H6 _ ⟨s6, _⟩ => sqT (s6 _ _ (s4 _ _ et3))) ?_ ?_
          · have step : ∀ (z : Int) (l : Nat) (H6 : Hp), l < 2 → [r ++ [0], r ++ [1]][l]? = some (r ++ [z]) → (Same H4 H6 ∧ ∃ xs, H6 G = some (.lst xs) ∧ Rs RowV H6 xs ((((bitRows j).take k).flatMap fun r => [r ++ [0], r ++ [1]]) ++ [r ++ [0], r ++ [1]].take l)) →
                ∀ p, H6 p = none → ∃ acc, (upd H6 p (.tup (r.map V.int ++ [V.int z]))) G = some (.lst acc) ∧ acc.length < sizeLine ∧ (Same H4 (upd (upd H6 p (.tup (r.map V.int ++ [V.int z]))) G (.lst (acc ++ [V.ref p]))) ∧ ∃ xs, (upd (upd H6 p (.tup (r.map V.int ++ [V.int z]))) G (.lst (acc ++ [V.ref p]))) G = some (.lst xs) ∧ Rs RowV (upd (upd H6 p (.tup (r.map V.int ++ [V.int z]))) G (.lst (acc ++ [V.ref p]))) xs ((((bitRows j).take k).flatMap fun r => [r ++ [0], r ++ [1]]) ++ [r ++ [0], r ++ [1]].take (l + 1))) := by
              rintro z l H6 hl hz ⟨s6, xs, eG, rxs⟩ p np
              have sp := same_new (H := H6) (o := .tup (r.map V.int ++ [V.int z])) np
              have eG2 := sp _ _ eG
              have len : xs.length ≤ 100 := by
                rw [rxs.1, List.length_append]
                have := flat_take (fun r : List Int => [r ++ [(0 : Int)], r ++ [1]]) (bitRows j) k
                have a2 := flat_len (f := fun r : List Int => [r ++ [(0 : Int)], r ++ [1]]) (k := 2) (l := bitRows j) (fun x _ => Nat.le_refl _)
                have a3 := bitRows_small (n := j) (by omega)
                have a4 : ([r ++ [(0 : Int)], r ++ [1]].take l).length ≤ 2 := List.length_take_le' _ _
                omega
              refine ⟨xs, eG2, small_of (by omega), same_mut (s6.trans sp) nG, _, upd_same, ?_⟩
              rw [take_snoc hz, ← List.append_assoc]
              refine (rxs.map fun v a k => (k.mono sp).upd eG2).app (.one (RowV.upd ⟨p, rfl, ?_⟩ eG2))
              rw [upd_same, List.map_append]
              rfl
            rintro l v H6 hl p6
            have ez : H6 b = some (.tup (r.map V.int)) := p6.1 _ _ eb
            have lz : (r.map V.int ++ [v]).length ≤ sizeLine := by
              rw [List.length_append, List.length_map, rl]
              exact Nat.le_of_lt (small_of (by show j + 1 ≤ _; omega))
            match l, hl with
            | 0, hl =>
              cases hl
              exact ⟨rfl, _, rfl, b, _, rfl, .inl (sqT ez), _, rfl, lz, step 0 0 H6 (by decide) rfl p6⟩
            | 1, hl =>
              cases hl
              exact ⟨rfl, _, rfl, b, _, rfl, .inl (sqT ez), _, rfl, lz, step 1 1 H6 (by decide) rfl p6⟩
          · rintro H6 ⟨s6, xs, eG, rxs⟩
            refine ⟨s6, xs, eG, ?_⟩
            rw [tk, List.flatMap_append]
            simpa using rxs
        · rintro H5 ⟨s5, xs, eG, rxs⟩
          rw [rw1.1, List.take_length] at rxs
          exact ⟨_, _, _, rfl, s4.trans s5, eG, rxs⟩
      · rintro σ H4 ⟨z6, B1, ws, rfl, s4, eB1, rw1⟩
        rw [List.length_replicate] at rw1
        have s14 := s3.trans s4
        have eR4 := s4 _ _ eR3
        have fus := fus.map fun v a k => k.mono s4
        have u52 : us.length ≤ 52 := by
          rw [fus.1]
          exact allF_small4 hi4
        have w16 : ws.length ≤ 16 := by
          rw [rw1.1]
          exact bitRows_small (by omega)
        have total : (toldF i).length ≤ 832 := by
          have := flat_len (f := fun f => (bitRows (i + 1)).map fun r => wideF (fun x => r.getD x.toNat 0) ((i + 1 : Nat) : Int) 4 f) (k := 16) (l := allF i) (fun x _ => by rw [List.length_map, ← rw1.1]; exact w16)
          have a2 : (allF i).length ≤ 52 := allF_small4 hi4
          unfold toldF
          omega
        obtain ⟨W, hW⟩ : ∃ W : Fm → List (Option Fm), W = fun f => (bitRows (i + 1)).map fun r => wideF (fun x => r.getD x.toNat 0) ((i + 1 : Nat) : Int) 4 f := ⟨_, rfl⟩
        have tE : toldF i = (allF i).flatMap W := by rw [hW]; rfl
        rw [tE] at total
        refine ⟨_, rfl, R1, rfl, ⟨_, sqL eR4⟩, fun G nG => ?_⟩
        refine lc2_list (K := K) (a := R1) (xs := us) (fun k H5 => Same H4 H5 ∧ ∃ xs, H5 G = some (.lst xs) ∧ Rs OptF H5 xs (((allF i).take k).flatMap W)) ⟨same_new nG, [], upd_same, .nil⟩ (fun k H5 _ ⟨s5, _⟩ => sqL (s5 _ _ eR4)) ?_ ?_
        · rintro k x H5 hx ⟨s5, xs, eG, rxs⟩
          obtain ⟨f, hf, fx⟩ := fus.2 k x hx
          have dpf := allF_doors i f (List.mem_of_getElem? hf)
          have dlen : f.doors.length = i + 1 := by rw [dpf.length_eq, doorsN_len]
          refine ⟨rfl, _, rfl, B1, rfl, ⟨_, sqL (s5 _ _ eB1)⟩, ?_⟩
          refine in_list (K := K) (a := B1) (xs := ws) (fun l H6 => Same H4 H6 ∧ ∃ xs, H6 G = some (.lst xs) ∧ Rs OptF H6 xs (((allF i).take k).flatMap W ++ (W f).take l)) ⟨s5, xs, eG, by rw [List.take_zero, List.append_nil]; exact rxs⟩ (fun l H6 _ ⟨s6, _⟩ => sqL (s6 _ _ eB1)) ?_ ?_
          · rintro l y H6 hy ⟨s6, xs, eG, rxs⟩
            obtain ⟨r, hr, b, rfl, eb⟩ := rw1.2 l y hy
            obtain ⟨rl, rb⟩ := bitRows_mem (i + 1) r (List.mem_of_getElem? hr)
            refine ⟨rfl, _, rfl, _, rfl, _, rfl, x, f, 1 + ((i : Nat) : Int), b, r, rfl, fx.mono s6, s6 _ _ eb, rb, ⟨dpf.nodup_iff.mpr (doorsN_nodup i), fun z hz => ?_⟩, by omega, by omega, fun H7 v7 s7 o7 => ?_⟩
            · have := doorsN_mem.mp (dpf.mem_iff.mp hz)
              omega
            · have len : xs.length ≤ 832 := by
                rw [rxs.1]
                exact Nat.le_trans (flat_room (f := W) hf l) total
              have eG7 := s7 _ _ eG
              refine ⟨xs, eG7, small_of (by omega), same_mut (s6.trans s7) nG, _, upd_same, ?_⟩
              have hWl : (W f)[l]? = some (wideF (bitOf r) (1 + ((i : Nat) : Int)) 4 f) := by
                rw [hW, List.getElem?_map, hr, show 1 + ((i : Nat) : Int) = ((i + 1 : Nat) : Int) by omega]
                rfl
              rw [take_snoc hWl, ← List.append_assoc]
              exact (rxs.map fun v a k => OptF.upd eG7 (k.mono s7)).app (.one (OptF.upd eG7 o7))
          · rintro H6 ⟨s6, xs, eG, rxs⟩
            refine ⟨s6, xs, eG, ?_⟩
            rw [take_snoc hf, List.flatMap_append]
            have wsl : (W f).take ws.length = W f := List.take_of_length_le (by rw [hW, List.length_map, rw1.1]; exact Nat.le_refl _)
            rw [wsl] at rxs
            simpa using rxs
        · rintro H5 ⟨s5, xs, eG, rxs⟩
          rw [fus.1, List.take_length, ← tE] at rxs
          rw [← tE] at total
          refine ⟨_, rfl, G, rfl, ⟨_, sqL eG⟩, fun N nN => ?_⟩
          refine lc_list (K := K) (a := G) (xs := xs) (fun k H6 => Same H5 H6 ∧ ∃ zs, H6 N = some (.lst zs) ∧ FHs H6 zs (((toldF i).take k).filterMap id)) ⟨same_new nN, [], upd_same, .nil⟩ (fun k H6 _ ⟨s6, _⟩ => sqL (s6 _ _ eG)) ?_ ?_
          · rintro k v H6 hk ⟨s6, zs, eN, fzs⟩
            obtain ⟨o, ho, ov⟩ := rxs.2 k v hk
            have tk := take_snoc ho
            have zl : zs.length ≤ 832 := by
              rw [fzs.1]
              have a1 := List.length_filterMap_le id ((toldF i).take k)
              have a2 : ((toldF i).take k).length ≤ (toldF i).length := List.length_take_le' _ _
              omega
            refine ⟨rfl, _, rfl, rfl, ?_⟩
            cases o with
            | none =>
              obtain rfl : v = .non := ov
              refine ⟨false, rfl, ?_⟩
              refine iteF ?_
              refine ⟨s6, zs, eN, ?_⟩
              rw [tk, List.filterMap_append]
              simpa using fzs
            | some g =>
              have ov : FH H5 v g := ov
              refine ⟨true, congrArg V.bl (congrArg Bool.not (decide_eq_false fun z => by rw [z] at ov; cases ov)), ?_⟩
              refine iteT ?_
              refine ⟨_, rfl, zs, eN, small_of (by omega), same_mut s6 nN, _, upd_same, ?_⟩
              rw [tk, List.filterMap_append]
              exact (fzs.map fun v a k => k.upd eN).app (.one ((ov.mono s6).upd eN))
          · rintro H6 ⟨s6, zs, eN, fzs⟩
            rw [rxs.1, List.take_length, ← allF_told] at fzs
            exact ⟨_, _, _, _, _, N, zs, rfl, (s14.trans s5).trans s6, eN, fzs⟩
    · rintro σ H1 ⟨y3, y4, y5, y6, y7, R1, us, rfl, s1, eR1, fus⟩
      rw [show (((n + 1 : Nat) : Int) - 1).toNat = n by omega] at fus
      refine ⟨_, rfl, R1, _, rfl, .inl ⟨sqL eR1, fun l nl => ?_⟩⟩
      exact q _ l us (s1.trans (same_new nl)) upd_same (fus.map fun v a k => k.mono (same_new nl))
end
end KQ
namespace KQ
open PySem PySem.Spec PyProof.Rows L2 KR KM StX
section
variable {P : Program} {w : World} {K : PySem.W.Frag} {mg : Str → Option Value} {base : Heap}
abbrev s_form_count : Stmt := topS 18
theorem sc_form_count : FnScope ["number", "limbs", "rows", "doors", "many", "size"] ["number"] (defScope s_form_count) := ⟨rfl, rfl, rfl, by decide +kernel, rfl, by decide +kernel, by decide +kernel⟩
def spFC : Sp := fun vs H Q _ => ∃ n : Nat, vs = [.int (n : Int)] ∧ 1 ≤ n ∧ n ≤ 40 ∧ ∀ H', Same H H' → Q (.int ((fcS (n - 1)).2.getD n 0)) H'
theorem ok_form_count (D : DefAt K mg "form_count" s_form_count) (T : Bt mg) (z_comb : mg "comb" = some (.builtin "math.comb")) (c_MOST_LEAVES : Cst mg "MOST_LEAVES" 40) (u_is_integer_within : Use P w K mg base "is_integer_within" 2 ["value", "least", "most"] spIntW) : Use P w K mg base "form_count" 3 ["number"] spFC := by
  refine use_of D (fun f fd F => F.ok sc_form_count (fun vs H Q E h => ?_) (fun cdv A outer s H vs Q E hr h => ?_)) (fun _ _ _ _ _ _ us hl => match us, hl with | [_], _ => rfl)
  · obtain ⟨n, rfl, _⟩ := h
    rfl
  · obtain ⟨n, rfl, n1, n40, q⟩ := h
    refine ⟨_, (pss_cons (ps_if (pt_not (pt_val (pe_use u_is_integer_within (by decide) hr (by rfl) (pa_cons (pv 0) (pa_cons pe_int (pa_cons (pe_cst (by rfl) c_MOST_LEAVES) pa_nil)))))) (pss_one ps_never) pss_nil)
      (pss_cons (ps_set (i := 1) sc_form_count.nd rfl (Or.inr rfl) (pe_lst (pa_cons pe_int (pa_cons pe_int pa_nil))))
      (pss_cons (ps_set (i := 2) sc_form_count.nd rfl (Or.inr rfl) (pe_lst (pa_cons pe_int (pa_cons pe_int pa_nil))))
      (pss_cons (ps_for PassesOwn.never rfl (pi_range2 (by rfl) T.range (pa_cons pe_int (pa_cons (pe_op op_add (pv 0) pe_int) pa_nil))) (pg_name (i := 3) sc_form_count.nd rfl (Or.inr rfl))
      (pss_cons (ps_set (i := 4) sc_form_count.nd rfl (Or.inl rfl) (pe_callB (cr_sum rfl) (by rfl) T.sum (by decide +kernel) (pa_cons (pe_lc (own := [("size", 5)]) rfl sc_form_count.nd (pi_range2 (by rfl) T.range (pa_cons pe_int (pa_cons (pv 3) pa_nil))) (blkOk_by (N := ["number", "limbs", "rows", "doors", "many", "size"]) (sc := defScope s_form_count) (by decide +kernel)) (fun _ _ _ _ _ => (pg_name (i := 5) sc_form_count.nd rfl (Or.inl rfl))) (fun _ _ _ _ _ => pts_nil) (fun _ _ _ _ _ => (pe_op op_mulW (pe_op op_mulW (pe_callM cr_comb (by rfl) z_comb (pa_cons (pe_op op_sub (pv 3) pe_int) (pa_cons (pe_op op_sub (pv 5) pe_int) pa_nil))) (pe_ix (k_ixl (K := K) rfl) (pv 1) (pv 5) (fun _ _ => rfl))) (pe_ix (k_ixl (K := K) rfl) (pv 2) (pe_op op_sub (pv 3) (pv 5)) (fun _ _ => rfl))))) pa_nil)))
      (pss_cons (ps_expr (k_bm (K := K) rfl PySem.F.plainAttrs_list PySem.F.slot_list_append PySem.F.type_list_append mt_append (pv 1) (pa_cons (pv 4) pa_nil)))
      (pss_one (ps_expr (k_bm (K := K) rfl PySem.F.plainAttrs_list PySem.F.slot_list_append PySem.F.type_list_append mt_append (pv 2) (pa_cons (pe_op op_mulW pe_int (pv 4)) pa_nil)))))))
      (pss_one (ps_ret (pe_ix (k_ixl (K := K) rfl) (pv 2) (pv 0) (fun _ _ => rfl)))))))), ?_⟩
    refine ⟨_, rfl, _, 1, 40, rfl, _, rfl, ?_⟩
    rw [decide_eq_true (show (1 : Int) ≤ (n : Int) ∧ (n : Int) ≤ 40 by omega)]
    refine ⟨by show 2 ≤ sizeLine; decide, fun L nL => ?_⟩
    refine ⟨by show 2 ≤ sizeLine; decide, fun R nR => ?_⟩
    have s0 := same_new (H := H) (o := .lst [V.int 0, V.int 1]) nL
    have s1 := same_new (H := upd H L (.lst [V.int 0, V.int 1])) (o := .lst [V.int 1, V.int 1]) nR
    have nR0 : H R = none := s0.free nR
    have eL0 := s1 _ _ (upd_same (H := H) (a := L) (o := .lst [V.int 0, V.int 1]))
    have eR0 := upd_same (H := upd H L (.lst [V.int 0, V.int 1])) (a := R) (o := .lst [V.int 1, V.int 1])
    have s2 := s0.trans s1
    generalize upd (upd H L (.lst [V.int 0, V.int 1])) R (.lst [V.int 1, V.int 1]) = H0 at s2 eL0 eR0 ⊢
    have nLR : L ≠ R := fun z => by
      subst z
      rw [upd_same] at nR
      cases nR
    refine ⟨_, rfl, _, _, rfl, rfl, 2, _, rfl, ⟨by decide, by decide, by omega, by omega⟩, for_range (lo := 2) (n := (((n : Nat) : Int) + 1 - 2).toNat)
      (fun i σ H1 => ∃ y3 y4 y5 : Option V, σ = [some (V.int (n : Int)), some (.ref L), some (.ref R), y3, y4, y5] ∧ Same H H1 ∧ H1 L = some (.lst ((fcS i).1.map V.int)) ∧ H1 R = some (.lst ((fcS i).2.map V.int))) ⟨none, none, none, rfl, s2, eL0, eR0⟩ ?_ ?_⟩
    · rintro i σ H1 hi ⟨y3, y4, y5, rfl, sm, eL, eR⟩
      have hm : i + 2 ≤ n := by omega
      obtain ⟨len1, len2⟩ := fcS_len i
      refine ⟨_, rfl, 1, _, rfl, ⟨by decide, by decide, by omega, by omega⟩, fun M nM => ?_⟩
      refine lc_range (lo := 1) (fun k H2 => Same H1 H2 ∧ H2 M = some (.lst (((List.range k).map fun k => PySem.W.mcComb ((i + 1 : Nat) : Int) ((k : Nat) : Int) * (fcS i).1.getD (k + 1) 0 * (fcS i).2.getD (i + 1 - k) 0).map V.int))) ⟨same_new nM, upd_same⟩ ?_ ?_
      · rintro k H2 hk ⟨sk, eM⟩
        have hk2 : k < i + 1 := by omega
        obtain ⟨bb1, _⟩ := fcS_bound (i := i) (j := k + 1) (by omega)
        obtain ⟨_, bb2⟩ := fcS_bound (i := i) (j := i + 1 - k) (by omega)
        refine ⟨rfl, _, rfl, _, _, rfl, rfl, _, rfl, _, _, rfl, rfl, i + 1, k, ?_, by omega, by omega, ?_⟩
        · show [V.int (2 + ((i : Nat) : Int) - 1), V.int (1 + ((k : Nat) : Int) - 1)] = _
          rw [show 2 + ((i : Nat) : Int) - 1 = ((i + 1 : Nat) : Int) by omega, show 1 + ((k : Nat) : Int) - 1 = ((k : Nat) : Int) by omega]
        have cs : (PySem.W.mcComb ((i + 1 : Nat) : Int) ((k : Nat) : Int)).natAbs < 2 ^ 64 := comb_small40 ⟨i + 1, by omega⟩ ⟨k, by omega⟩
        refine ⟨_, rfl, _, rfl, L, _, _, _, rfl, rfl, sqL (sk _ _ eL), atI_of (j := k + 1) (by omega) (at_map (getD_at (by omega))), ?_⟩
        refine ⟨_, _, rfl, rfl, wide_mul cs bb1 (by decide) (by decide) (by decide), ?_⟩
        refine ⟨_, rfl, _, rfl, _, rfl, _, _, rfl, rfl, R, _, _, _, rfl, rfl, sqL (sk _ _ eR), atI_of (j := i + 1 - k) (by omega) (at_map (getD_at (by omega))), ?_⟩
        refine ⟨_, _, rfl, rfl, wide_mul (a := 64 + 300) ?_ bb2 (by decide) (by decide) (by decide), ?_⟩
        · rw [Int.natAbs_mul, Nat.pow_add]
          exact Nat.mul_lt_mul'' cs bb1
        refine ⟨_, eM, ?_, same_mut sk nM, ?_⟩
        · rw [List.length_map, List.length_map, List.length_range]
          exact small_of (by omega)
        · rw [upd_same, List.range_succ, List.map_append, List.map_append]
          rfl
      · rintro H2 ⟨sk, eM⟩
        rw [show (2 + ((i : Nat) : Int) - 1).toNat = i + 1 by omega] at eM
        refine ⟨M, _, rfl, sqL eM, ?_⟩
        have eL2 := sk _ _ eL
        have eR2 := sk _ _ eR
        obtain ⟨my, hmy⟩ : ∃ my, fcMany i (fcS i) = my := ⟨_, rfl⟩
        have bm : my.natAbs < 2 ^ 300 := by
          have := (fcS_bound (i := i + 1) (j := i + 2) (by omega)).1
          rw [List.getD_eq_getElem?_getD, show (fcS (i + 1)).1 = (fcS i).1 ++ [fcMany i (fcS i)] from rfl, List.getElem?_append_right (by omega), len1, Nat.sub_self, hmy] at this
          exact this
        change gName 4 (V.int (fcMany i (fcS i))) _ _ _
        rw [hmy]
        have nLH : H L = none := nL
        refine ⟨_, rfl, .inl ⟨rfl, _, sqL eL2⟩, _, rfl, L, _, _, rfl, rfl, eL2, by rw [List.length_map, len1]; exact small_of (by omega), ?_⟩
        have eR3 : (upd H2 L (.lst ((fcS i).1.map V.int ++ [V.int my]))) R = some (.lst ((fcS i).2.map V.int)) := by rw [upd_ne nLR.symm]; exact eR2
        refine ⟨_, rfl, .inl ⟨rfl, _, sqL eR3⟩, _, rfl, 2, my, rfl, rfl, wide_mul (by decide : (2 : Int).natAbs < 2 ^ 2) bm (by decide) (by decide) (by decide), R, _, _, rfl, rfl, eR3, by rw [List.length_map, len2]; exact small_of (by omega), ?_⟩
        refine ⟨_, _, _, rfl, same_mut (same_mut (sm.trans sk) nLH) nR0, ?_, ?_⟩
        · rw [upd_ne nLR, upd_same, ← hmy]
          show _ = some (HO.lst (((fcS i).1 ++ [fcMany i (fcS i)]).map V.int))
          rw [List.map_append]
          rfl
        · rw [upd_same, ← hmy]
          show _ = some (HO.lst (((fcS i).2 ++ [2 * fcMany i (fcS i)]).map V.int))
          rw [List.map_append]
          rfl
    · rintro σ H1 ⟨y3, y4, y5, rfl, sm, eL, eR⟩
      rw [show (((n : Nat) : Int) + 1 - 2).toNat = n - 1 by omega] at eL eR
      obtain ⟨len1, len2⟩ := fcS_len (n - 1)
      exact ⟨_, rfl, _, rfl, R, _, _, _, rfl, rfl, sqL eR, atI_of (j := n) rfl (at_map (getD_at (by omega))), q H1 sm⟩
end
end KQ
/-! sorted(rows), rows tuples of whole numbers, any number of them -/
namespace KR
open PySem PySem.Spec PyProof.Rows L2 KM KQ
theorem lex_asym : ∀ x y : List Int, HT.lexLt x y = true → HT.lexLt y x = false
  | [], [], h => by cases h
  | [], _ :: _, _ => rfl
  | _ :: _, [], h => by cases h
  | x :: xs, y :: ys, h => by
    rw [HT.lexLt_cons] at h ⊢
    by_cases e : x = y
    · rw [if_pos e] at h
      rw [if_pos e.symm]
      exact lex_asym xs ys h
    · rw [if_neg e] at h
      rw [if_neg (fun z => e z.symm)]
      have := of_decide_eq_true h
      exact decide_eq_false (by omega)
theorem lex_tr : ∀ x y z : List Int, HT.lexLt y x = false → HT.lexLt z y = false → HT.lexLt z x = false
  | [], [], z, _, h => h
  | [], _ :: _, [], _, h => by cases h
  | [], _ :: _, _ :: _, _, _ => rfl
  | _ :: _, [], _, h, _ => by cases h
  | _ :: _, _ :: _, [], _, h => by cases h
  | x :: xs, y :: ys, z :: zs, h, g => by
    rw [HT.lexLt_cons] at h g ⊢
    by_cases e1 : y = x
    · rw [if_pos e1] at h
      by_cases e2 : z = y
      · rw [if_pos e2] at g
        rw [if_pos (e2.trans e1)]
        exact lex_tr xs ys zs h g
      · rw [if_neg e2] at g
        have := of_decide_eq_false g
        rw [if_neg (by omega)]
        exact decide_eq_false (by omega)
    · rw [if_neg e1] at h
      have a := of_decide_eq_false h
      by_cases e2 : z = y
      · rw [if_neg (by omega)]
        exact decide_eq_false (by omega)
      · rw [if_neg e2] at g
        have b := of_decide_eq_false g
        rw [if_neg (by omega)]
        exact decide_eq_false (by omega)
theorem lex_eq : ∀ x y : List Int, HT.lexLt x y = false → HT.lexLt y x = false → x = y
  | [], [], _, _ => rfl
  | [], _ :: _, h, _ => by cases h
  | _ :: _, [], _, h => by cases h
  | x :: xs, y :: ys, h, g => by
    rw [HT.lexLt_cons] at h g
    by_cases e : x = y
    · rw [if_pos e] at h
      rw [if_pos e.symm] at g
      rw [e, lex_eq xs ys h g]
    · rw [if_neg e] at h
      rw [if_neg (fun z => e z.symm)] at g
      have := of_decide_eq_false h
      have := of_decide_eq_false g
      omega
theorem swo_row (k : Value → List Int) : SrtO.Swo fun v u => HT.lexLt (k v) (k u) := ⟨fun _ _ h => lex_asym _ _ h, fun _ _ _ h g => lex_tr _ _ _ h g⟩
/-- a tuple of whole numbers, at least one -/
def IsRow (h : Heap) (v : Value) (ns : List Int) : Prop := ∃ a o its n, v = .ref a ∧ h.get? a = some o ∧ o.cls = .type "tuple" ∧ o.data = .seq (List.toArray its) n ∧ IntsAre its ns ∧ ns ≠ []
theorem IsRow.keeps {h h' : Heap} {v : Value} {ns : List Int} (p : IsRow h v ns) (k : ∀ b o, h.get? b = some o → o.cls = .type "tuple" → h'.get? b = some o) : IsRow h' v ns := by
  obtain ⟨a, o, its, n, e, ho, hc, hd, hi, ne⟩ := p
  exact ⟨a, o, its, n, e, k _ _ ho hc, hc, hd, hi, ne⟩
section
variable {prog : Program} {w : World} {A : Around} {s : Shared}
theorem kat_ints {fin : Bool} : ∀ {xs ys : List Value} {ns ms : List Int} {i : Nat} {R : Bool}, IntsAre xs ns → IntsAre ys ms →
    (ns.length - ms.length = 0 → ms.length - ns.length = 0 → fin = false) → (ns.length < ms.length → fin = true) → (ms.length < ns.length → fin = false) → R = HT.lexLt ns ms →
    PySem.W.KatLex prog w A true fin (fun r s' => s' = s ∧ r = R) (xs.zip ys) i s
  | [], [], _, _, i, R, .nil, .nil, h0, _, _, e => PySem.W.kat_nil ⟨rfl, by rw [e, h0 rfl rfl]; rfl⟩
  | [], _ :: _, _, _, i, R, .nil, .cons _ _ _, _, h1, _, e => PySem.W.kat_nil ⟨rfl, by rw [e, h1 (by simp)]; rfl⟩
  | _ :: _, [], _, _, i, R, .cons _ _ _, .nil, _, _, h2, e => PySem.W.kat_nil ⟨rfl, by rw [e, h2 (by simp)]; rfl⟩
  | _ :: xs, _ :: ys, _, _, i, R, .cons x t hi, .cons y u hj, h0, h1, h2, e => by
    rw [HT.lexLt_cons] at e
    rw [List.zip_cons_cons]
    refine PySem.W.kat_cons (SeqAt.EqAt.int_int x t y u prog w _ _ ?_)
    refine PySem.W.kat_go (fun e1 => ?_) (fun e1 => ?_)
    · have ex : x = y := by simpa using e1
      rw [if_pos ex] at e
      refine PySem.W.kat_yes (kat_ints hi hj (fun a b => h0 ?_ ?_) (fun a => h1 ?_) (fun a => h2 ?_) e)
      · rw [List.length_cons, List.length_cons]; omega
      · rw [List.length_cons, List.length_cons]; omega
      · rw [List.length_cons, List.length_cons]; omega
      · rw [List.length_cons, List.length_cons]; omega
    · have ex : ¬ x = y := by simpa using e1
      rw [if_neg ex] at e
      by_cases hz : i = 0
      · subst hz
        exact PySem.W.kat_no (oneLt_int ⟨rfl, e.symm⟩)
      · refine PySem.W.kat_no ?_
        rw [show (true && i == 0) = false by simp [hz]]
        exact PySem.W.kat_one _ _ (PyProof.Rows.lt_int (show s = s ∧ decide (x < y) = R from ⟨rfl, e.symm⟩))
theorem row_cmp {vs : List Value} {k : Value → List Int} (hp : ∀ v ∈ vs, IsRow s.heap v (k v)) : SrtO.Cmp prog w A s (tuples' true) (fun p => p.1 ∈ vs) (SrtO.lt2 fun v u => HT.lexLt (k v) (k u)) := by
  intro p q hm hm'
  show wpAny (model prog w) A (keyLt' (tuples' true) p.1 q.1) (fun r s' => s' = s ∧ r = HT.lexLt (k p.1) (k q.1)) (fun _ _ => False) s
  obtain ⟨a, o, its, n, e, ho, hc, hd, hi, ne⟩ := hp _ hm
  obtain ⟨a', o', its', n', e', ho', hc', hd', hi', ne'⟩ := hp _ hm'
  rw [e, e'] at *
  have l1 := hi.length
  have l2 := hi'.length
  refine PySem.W.kat_lt ho hd ho' hd' ?_
  show PySem.W.KatLex prog w A true _ _ (its.zip its') 0 s
  refine kat_ints hi hi' (fun a b => ?_) (fun a => ?_) (fun a => ?_) rfl
  · exact decide_eq_false (by rw [List.size_toArray, List.size_toArray]; omega)
  · exact decide_eq_true (by rw [List.size_toArray, List.size_toArray]; omega)
  · exact decide_eq_false (by rw [List.size_toArray, List.size_toArray]; omega)
theorem row_firsts {h : Heap} {k : Value → List Int} : ∀ {vs : List Value}, (∀ v ∈ vs, IsRow h v (k v)) → ∃ fs : List Value, PySem.W.KatTups h vs fs ∧ fs.length = vs.length ∧ ∀ f ∈ fs, ∃ x t, f = Value.int x t
  | [], _ => ⟨[], PySem.W.KatTups.nil, rfl, fun _ hm => by simp at hm⟩
  | v :: vs, hp => by
    obtain ⟨fs, h1, h2, h3⟩ := row_firsts (vs := vs) fun v' hm => hp v' (List.mem_cons_of_mem _ hm)
    obtain ⟨a, o, its, n, e, ho, hc, hd, hi, ne⟩ := hp v List.mem_cons_self
    subst e
    cases hk : k (.ref a) with
    | nil => exact absurd hk ne
    | cons x r =>
      rw [hk] at hi
      cases hi with
      | cons _ t hr =>
        refine ⟨.int x t :: fs, PySem.W.KatTups.cons ho hc hd rfl h1, by rw [List.length_cons, List.length_cons, h2], fun f hm => ?_⟩
        rcases List.mem_cons.mp hm with rfl | hm
        · exact ⟨x, t, rfl⟩
        · exact h3 f hm
theorem rows_sortable {a : Addr} {vs : List Value} {k : Value → List Int} (h0 : 0 < vs.length) (hp : ∀ v ∈ vs, IsRow s.heap v (k v)) (ha : ∀ o, s.heap.get? a = some o → o.cls ≠ .type "tuple") :
    SrtO.SortableO prog w A s a vs fun v u => HT.lexLt (k v) (k u) := by
  intro h' keep
  have hp' : ∀ v ∈ vs, IsRow h' v (k v) := fun v hm => (hp v hm).keeps fun b o e c => keep b o (fun z => by subst z; exact ha o e c) e
  obtain ⟨fs, h1, h2, h3⟩ := row_firsts hp'
  refine ⟨tuples' true, fun Q E hq => ?_, row_cmp hp'⟩
  refine PySem.W.kat_kind (T := .type "int") h1 (by omega) (fun f hm => ?_) (by rfl) ?_
  · obtain ⟨x, t, rfl⟩ := h3 f hm
    exact PySem.W.Looks.now
  · have e : (Value.type "int" != Value.type "tuple") = true := by first | decide +kernel | rfl | decide
    rw [e]
    exact hq
theorem sorted_rows {l : Addr} {vs : List Value} {k : Value → List Int} {E : Value → Shared → Prop} {Q : Value → Shared → Prop} (hl : s.heap.IsList l vs.toArray) (hz : vs.length ≤ sizeLine) (hp : ∀ v ∈ vs, IsRow s.heap v (k v))
    (h : ∀ (h' : Heap) (d : Addr) (out : List Value), SrtO.Srtd (fun v u => HT.lexLt (k v) (k u)) out → SrtO.Stb (fun v u => HT.lexLt (k v) (k u)) out vs → (∀ b o, s.heap.get? b = some o → h'.get? b = some o) → s.heap.objs.size ≤ d → (∃ n, h'.get? d = some (seqObj "list" out.toArray n)) → Q (.ref d) { s with heap := h' }) :
    wpAny (model prog w) A (call (.builtin "sorted") [.ref l]) Q E s := by
  refine SrtO.sorted_ord (swo_row k) hl hz (fun h2 h₁ a ha kk => ?_) fun out hs hb => ?_
  · refine rows_sortable (s := { s with heap := h₁ }) (by omega) (fun v hm => (hp v hm).keeps fun b o e _ => (kk b o e).2) fun o e => ?_
    have e' : some o = some (seqObj "list" vs.toArray 0) := e.symm.trans ha
    cases e'
    intro c
    exact absurd (Value.type.inj c) (by decide)
  · exact h _ _ out hs hb (fun b o e => PyProof.Rows.sortedAll_old e) (Nat.le_succ _) (PyProof.Rows.sortedAll_at s.heap vs out.toArray)
end
def intsV : List V → List Int
  | [] => []
  | .int i :: r => i :: intsV r
  | _ :: r => intsV r
theorem intsV_map : ∀ xs : List Int, intsV (xs.map V.int) = xs
  | [] => rfl
  | x :: xs => by
    show x :: intsV (xs.map V.int) = x :: xs
    rw [intsV_map xs]
def tupV : Option HO → List Int
  | some (.tup vs) => intsV vs
  | some (.frz _ (.tup vs)) => intsV vs
  | _ => []
/-- the row at a tracked tuple -/
def rowOf (H : Hp) : V → List Int
  | .ref t => tupV (H t)
  | _ => []
theorem rowOf_ti {H : Hp} {t : Addr} {xs : List Int} (h : TI H t xs) : rowOf H (.ref t) = xs := by
  show tupV (H t) = xs
  have h : Rd H t (.tup (xs.map V.int)) := h
  rcases h with h | ⟨o, h⟩
  · rw [h]
    exact intsV_map xs
  · rw [h]
    exact intsV_map xs
def rSortedR (K : PySem.W.Frag) : List V → Hp → VK → Prop := fun vs H Q => ∃ (a : Addr) (ts : List Addr) (rows : List (List Int)), vs = [V.ref a] ∧ SqL K H a (ts.map V.ref) ∧ Its H ts rows ∧ (∀ r ∈ rows, r ≠ []) ∧
  ∀ ts' rows' p, rows'.Perm rows → rows'.Pairwise (fun x y => HT.lexLt y x = false) → Its H ts' rows' → H p = none → Q (.ref p) (upd H p (.lst (ts'.map V.ref)))
def rSortedRM (K : PySem.W.Frag) : List V → Hp → VK → Prop := fun vs H Q => ∃ (a : Addr) (ts : List Addr) (rows : List (List Int)), vs = [V.ref a] ∧ SqL K H a (ts.map V.ref) ∧ Its H ts rows ∧ (∀ r ∈ rows, r ≠ []) ∧
  ∀ ts' rows' p, rows'.Perm rows → rows'.Pairwise (fun x y => HT.lexLt y x = false) → Its H ts' rows' → H p = none → (∀ t ∈ ts', t ∈ ts) → Q (.ref p) (upd H p (.lst (ts'.map V.ref)))
theorem its_rows {H : Hp} : ∀ {ts : List Addr} {rows : List (List Int)}, Its H ts rows → rows = ts.map fun t => rowOf H (.ref t)
  | [], [], _ => rfl
  | [], _ :: _, h => by cases h.1
  | _ :: _, [], h => by cases h.1
  | t :: ts, r :: rows, h => by
    obtain ⟨ys, e, ht⟩ := h.2 0 t rfl
    obtain rfl : r = ys := Option.some.inj e
    rw [List.map_cons, rowOf_ti ht, ← its_rows (ts := ts) (rows := rows) ⟨Nat.succ.inj h.1, fun i u hu => h.2 (i + 1) u hu⟩]
theorem its_of {H : Hp} {ts : List Addr} (h : ∀ t ∈ ts, ∃ xs, TI H t xs) : Its H ts (ts.map fun t => rowOf H (.ref t)) := by
  refine ⟨by rw [List.length_map], fun i t ht => ?_⟩
  obtain ⟨xs, hx⟩ := h t (List.mem_of_getElem? ht)
  exact ⟨xs, by rw [at_map (f := fun t => rowOf H (.ref t)) ht, rowOf_ti hx], hx⟩
theorem intsAre_vals {xs : List Int} : ∀ {us : List Value}, Vals (xs.map V.int) us → IntsAre us xs := fun r => intsAre_of r
section
variable {X : Cx}
theorem cr_sortedR : CallR X (.builtin "sorted") (rSortedR X.K) := by
  intro pins s σ H vs us Q I r h
  obtain ⟨a, ts, rows, rfl, hs, its0, ne, q⟩ := h
  obtain ⟨its, rv, hl, hz⟩ := I.list hs
  obtain ⟨u, rfl, ru⟩ := vals1 r
  obtain rfl : u = Value.ref a := ru
  obtain ⟨e1, e2⟩ := refs_back rv fun x m => by
    obtain ⟨t, _, rfl⟩ := List.mem_map.mp m
    exact ⟨t, rfl⟩
  have hx : ∀ t ∈ ts, ∃ xs, TI H t xs ∧ xs ≠ [] := fun t ht => by
    obtain ⟨i, hi⟩ := List.mem_iff_getElem?.mp ht
    obtain ⟨xs, e, hti⟩ := its0.2 i t hi
    exact ⟨xs, hti, ne xs (List.mem_of_getElem? e)⟩
  have mem : ∀ v ∈ its, ∃ t, v = .ref t ∧ t ∈ ts := fun v hv => by
    obtain ⟨t, rfl⟩ := e2 v hv
    have hm : V.ref t ∈ ts.map V.ref := by rw [e1]; exact List.mem_map.mpr ⟨_, hv, rfl⟩
    obtain ⟨t', ht', e⟩ := List.mem_map.mp hm
    cases e
    exact ⟨t, rfl, ht'⟩
  refine sorted_rows (k := fun u => rowOf H (backV u)) hl.isList (by rw [← rv.length]; exact hz) (fun v hv => ?_) fun h' d out h1 h2 kp hd hn => ?_
  · obtain ⟨t, rfl, ht⟩ := mem v hv
    obtain ⟨xs, hti, nx⟩ := hx t ht
    obtain ⟨its2, r2, ⟨o, ho, hc, n, hdt⟩, _⟩ := I.tuple (TI.seq (K := X.K) hti)
    refine ⟨t, o, its2, n, rfl, ho, hc, hdt, ?_, ?_⟩
    · show IntsAre its2 (rowOf H (.ref t))
      rw [rowOf_ti hti]
      exact intsAre_of r2
    · show rowOf H (.ref t) ≠ []
      rw [rowOf_ti hti]
      exact nx
  · have h3 : ∀ u ∈ out, ∃ t, u = Value.ref t ∧ t ∈ ts := fun u hu => mem u (h2.perm.mem_iff.mp hu)
    obtain ⟨n, hn⟩ := hn
    obtain ⟨ts', hts'⟩ : ∃ ts' : List Addr, out = ts'.map Value.ref := by
      clear hn h2 h1
      induction out with
      | nil => exact ⟨[], rfl⟩
      | cons u out ih =>
        obtain ⟨t, rfl, _⟩ := h3 u List.mem_cons_self
        obtain ⟨ts', e⟩ := ih fun v hv => h3 v (List.mem_cons_of_mem _ hv)
        exact ⟨t :: ts', by rw [e]; rfl⟩
    subst hts'
    have eb : (ts'.map Value.ref).map backV = ts'.map V.ref := by
      rw [List.map_map]
      rfl
    have mts : ∀ t ∈ ts', t ∈ ts := fun t ht => by
      obtain ⟨t', e, hm⟩ := h3 _ (List.mem_map.mpr ⟨t, ht, rfl⟩)
      cases e
      exact hm
    refine ⟨.ref d, upd H d (.lst (ts'.map V.ref)), I.laid (t' := s.toks) kp hd ⟨?_, ts'.map Value.ref, n, by rw [← eb]; exact vals_back fun u hu => (h3 u hu).imp fun _ h => h.1, hn⟩, rfl, ?_⟩
    · have := h2.len
      rw [List.length_map] at this ⊢
      have l2 := rv.length
      omega
    refine q ts' (ts'.map fun t => rowOf H (.ref t)) d ?_ ?_ (its_of fun t ht => (hx t (mts t ht)).imp fun _ h => h.1) (I.hok.fresh hd)
    · have := h2.perm.map fun u => rowOf H (backV u)
      rw [List.map_map] at this
      rw [its_rows its0]
      have e3 : its.map (fun u => rowOf H (backV u)) = ts.map fun t => rowOf H (.ref t) := by
        have := congrArg (List.map (rowOf H)) e1
        rw [List.map_map, List.map_map] at this
        exact this.symm
      rw [e3] at this
      exact this
    · have := List.pairwise_map.mp h1
      exact List.pairwise_map.mpr this
theorem cr_sortedRM : CallR X (.builtin "sorted") (rSortedRM X.K) := by
  intro pins s σ H vs us Q I r h
  obtain ⟨a, ts, rows, rfl, hs, its0, ne, q⟩ := h
  obtain ⟨its, rv, hl, hz⟩ := I.list hs
  obtain ⟨u, rfl, ru⟩ := vals1 r
  obtain rfl : u = Value.ref a := ru
  obtain ⟨e1, e2⟩ := refs_back rv fun x m => by
    obtain ⟨t, _, rfl⟩ := List.mem_map.mp m
    exact ⟨t, rfl⟩
  have hx : ∀ t ∈ ts, ∃ xs, TI H t xs ∧ xs ≠ [] := fun t ht => by
    obtain ⟨i, hi⟩ := List.mem_iff_getElem?.mp ht
    obtain ⟨xs, e, hti⟩ := its0.2 i t hi
    exact ⟨xs, hti, ne xs (List.mem_of_getElem? e)⟩
  have mem : ∀ v ∈ its, ∃ t, v = .ref t ∧ t ∈ ts := fun v hv => by
    obtain ⟨t, rfl⟩ := e2 v hv
    have hm : V.ref t ∈ ts.map V.ref := by rw [e1]; exact List.mem_map.mpr ⟨_, hv, rfl⟩
    obtain ⟨t', ht', e⟩ := List.mem_map.mp hm
    cases e
    exact ⟨t, rfl, ht'⟩
  refine sorted_rows (k := fun u => rowOf H (backV u)) hl.isList (by rw [← rv.length]; exact hz) (fun v hv => ?_) fun h' d out h1 h2 kp hd hn => ?_
  · obtain ⟨t, rfl, ht⟩ := mem v hv
    obtain ⟨xs, hti, nx⟩ := hx t ht
    obtain ⟨its2, r2, ⟨o, ho, hc, n, hdt⟩, _⟩ := I.tuple (TI.seq (K := X.K) hti)
    refine ⟨t, o, its2, n, rfl, ho, hc, hdt, ?_, ?_⟩
    · show IntsAre its2 (rowOf H (.ref t))
      rw [rowOf_ti hti]
      exact intsAre_of r2
    · show rowOf H (.ref t) ≠ []
      rw [rowOf_ti hti]
      exact nx
  · have h3 : ∀ u ∈ out, ∃ t, u = Value.ref t ∧ t ∈ ts := fun u hu => mem u (h2.perm.mem_iff.mp hu)
    obtain ⟨n, hn⟩ := hn
    obtain ⟨ts', hts'⟩ : ∃ ts' : List Addr, out = ts'.map Value.ref := by
      clear hn h2 h1
      induction out with
      | nil => exact ⟨[], rfl⟩
      | cons u out ih =>
        obtain ⟨t, rfl, _⟩ := h3 u List.mem_cons_self
        obtain ⟨ts', e⟩ := ih fun v hv => h3 v (List.mem_cons_of_mem _ hv)
        exact ⟨t :: ts', by rw [e]; rfl⟩
    subst hts'
    have eb : (ts'.map Value.ref).map backV = ts'.map V.ref := by
      rw [List.map_map]
      rfl
    have mts : ∀ t ∈ ts', t ∈ ts := fun t ht => by
      obtain ⟨t', e, hm⟩ := h3 _ (List.mem_map.mpr ⟨t, ht, rfl⟩)
      cases e
      exact hm
    refine ⟨.ref d, upd H d (.lst (ts'.map V.ref)), I.laid (t' := s.toks) kp hd ⟨?_, ts'.map Value.ref, n, by rw [← eb]; exact vals_back fun u hu => (h3 u hu).imp fun _ h => h.1, hn⟩, rfl, ?_⟩
    · have := h2.len
      rw [List.length_map] at this ⊢
      have l2 := rv.length
      omega
    refine q ts' (ts'.map fun t => rowOf H (.ref t)) d ?_ ?_ (its_of fun t ht => (hx t (mts t ht)).imp fun _ h => h.1) (I.hok.fresh hd) mts
    · have := h2.perm.map fun u => rowOf H (backV u)
      rw [List.map_map] at this
      rw [its_rows its0]
      have e3 : its.map (fun u => rowOf H (backV u)) = ts.map fun t => rowOf H (.ref t) := by
        have := congrArg (List.map (rowOf H)) e1
        rw [List.map_map, List.map_map] at this
        exact this.symm
      rw [e3] at this
      exact this
    · have := List.pairwise_map.mp h1
      exact List.pairwise_map.mpr this
end
/-- two orders of the same unlike rows are one -/
theorem rows_uniq : ∀ {xs ys : List (List Int)}, xs.Perm ys → xs.Pairwise (fun x y => HT.lexLt y x = false) → ys.Pairwise (fun x y => HT.lexLt y x = false) → xs = ys := by
  intro xs ys h hx hy
  exact h.eq_of_pairwise (fun a b _ _ h1 h2 => (lex_eq b a h1 h2).symm) hx hy
end KR
/-! sorted(set(xs)) of a list of whole numbers; a comprehension over a locked dict's keys -/
namespace KR
open PySem PySem.Spec PyProof.Rows L2 KM KQ
section
variable {P : Program} {w : World} {A : Around} {E : Value → Shared → Prop} {s : Shared}
/-- a set without members -/
abbrev bare (w : World) : Obj := { cls := .type "set", dict := none, data := .set #[] 0 (.fresh 0 0 (!w.params.followText "set-order")) }
abbrev bareS (w : World) (s : Shared) : Shared := { s with heap := s.heap.push (bare w) }
set_option maxHeartbeats 8000000 in
theorem set_of_list {l : Addr} {items : Array Value} (ns : List Int) {Q : Value → Shared → Prop} (free : A.handled = none) (lst : s.heap.IsList l items) (hit : IntsAre items.toList ns) (small : ns.length + 1 < scanBound)
    (out : ∀ (h' : Heap) (tk c : Nat), SetR w h' s.heap.objs.size (fun j => decide (j ∈ ns)) c → c ≤ ns.length → (∀ b o, s.heap.get? b = some o → h'.get? b = some o) → Q (.ref s.heap.objs.size) { s with heap := h', toks := tk }) :
    wpAny (model P w) A (call (.type "set") [.ref l]) Q E s := by
  have size : items.size = ns.length := by rw [← hit.length, Array.length_toList]
  obtain ⟨c0, tl0, m0⟩ := F.called_set.mro
  have m1 := F.called_set.made; have m2 := F.called_set.sub; have m3 := F.called_set.notType; have m4 := F.called_set.canCreate; have m5 := F.typeCall_set_1 (.ref l)
  refine wpAny_call (codeAny_of_tree (show wpAny _ _ (callAny (.type "set") _) _ _ _ from wpAny_pure ⟨Code.quiet_builtin _ (by decide +kernel), codeAny_builtin F.entry_type_call ?_⟩))
  rw [Around.under_plain (weight_type_call_type "set" [.ref l] []) rfl]; repeat (any_goals (first | assumption | wp_step))
  refine codeAny_mono (code_set_led1 (.ref l) (E := E) (Q₁ := fun u s1 => u = .ref s.heap.objs.size ∧ s1 = bareS w s) ⟨rfl, rfl⟩) fun z s1 hz => ?_
  cases z with
  | error e => exact hz
  | ok fl =>
    cases fl with
    | ret u =>
      obtain ⟨rfl, rfl⟩ := hz
      have at0 : (s.heap.push (bare w)).get? s.heap.objs.size = some (bare w) := Heap.get?_push_size _ rfl
      have ty0 : Shared.TypeIs (bareS w s) (.ref s.heap.objs.size) "set" := ⟨_, at0, rfl⟩
      have n1 := F.called_set.init.lookup; have n2 := F.called_set.init.bind (.ref s.heap.objs.size); repeat (any_goals (first | assumption | wp_step))
      refine codeAny_mono (codeAny_call_builtin (R := wants (fun r s2 => r = .none ∧ ∃ h' tk c, s2 = { s with heap := h', toks := tk } ∧ SetR w h' s.heap.objs.size (fun j => decide (j ∈ ns)) c ∧ c ≤ ns.length ∧ ∀ b o, s.heap.get? b = some o → h'.get? b = some o) E)
        F.called_set.init.plain F.entry_set_init (check_set_init_1 ty0 ?_)) fun r2 s2 hz2 => ?_
      · obtain ⟨⟨oc, od, oda, osl⟩, at1, c1, n1', d1⟩ := lst
        simp only at c1 d1; subst c1; subst d1
        have at2 : (s.heap.push (bare w)).get? l = some { cls := .type "list", dict := od, data := .seq items n1', slots := osl } := Heap.get?_push_of_some _ at1
        have u1 := F.sub_list_set; have u2 := F.sub_list_frozenset; have u3 : (Value.type "list" == Value.type "dict") = false := by decide
        have lst2 : (s.heap.push (bare w)).IsList l items := ⟨_, at2, rfl, n1', rfl⟩
        unfold Builtin.«set.__init__» noKeywords Builtin.Frozenset.updateFrom; generalize hq : pyIter = qi; wp_walk; subst hq
        refine wpAny_pyIter_list lst2 (wpAny_bind (wpAny_runValue ?_))
        have below : l < s.heap.objs.size := Heap.lt_size at1
        have free3 : A.in1.in1.in1.handled = none := by simp [free]
        have ne1 : l ≠ (s.heap.push (bare w)).objs.size := by rw [Heap.size_push]; exact Nat.ne_of_lt (Nat.lt_succ_of_lt below)
        have out1 : s.heap.objs.size ∉ [(s.heap.push (bare w)).objs.size, l] := by
          rw [Heap.size_push]
          simp only [List.mem_cons, List.not_mem_nil, or_false, not_or]
          exact ⟨Nat.ne_of_lt (Nat.lt_succ_self _), Nat.ne_of_gt below⟩
        have vals : ∀ (i : Nat) (v : Value), items[i]? = some v → ∃ k t, ns[i]? = some k ∧ v = .int k t := fun i v hv => by
          have hi : i < ns.length := by rw [← size]; exact (Array.getElem?_eq_some_iff.mp hv).1
          obtain ⟨t, e⟩ := PyProof.Rows.IntsAre.int_at hit i v (by rw [Array.getElem?_toList]; exact hv)
          exact ⟨ns[i], t, List.getElem?_eq_getElem hi, by rw [e, List.getD_eq_getElem?_getD, List.getElem?_eq_getElem hi]; rfl⟩
        refine set_update_ints ((Walks.list free3 _ l ne1 items).toS) s.heap.objs.size out1 ns size small vals (items.size - 0) 0 _ (by omega) (Nat.zero_le _) ⟨⟨_, Heap.get?_push_size _ rfl, rfl, rfl⟩, lst2.push _⟩ ⟨0, Nat.le_refl 0, setR_new_at (Heap.get?_push_of_some _ at0)⟩ ?_
        rintro ⟨h', g2, d', tk', os'⟩ c' mv hc' R'
        obtain rfl : g2 = s.gens := mv.gens
        obtain rfl : d' = s.drawn := mv.drawn
        obtain rfl : os' = s.os := mv.os
        refine (show wpAny _ _ _ _ _ _ from wpAny_pure (show wpAny _ _ (ret Value.none) _ _ _ from wpAny_pure ⟨rfl, h', tk', c', rfl, R', by rw [← size]; exact hc', fun b o e => ?_⟩))
        have b0 : b < s.heap.objs.size := Heap.lt_size e
        refine mv.heap b o ?_ (Heap.get?_push_of_some _ (Heap.get?_push_of_some _ e))
        rw [Heap.size_push]
        simp only [List.mem_cons, List.not_mem_nil, or_false, not_or]
        exact ⟨Nat.ne_of_lt b0, Nat.ne_of_lt (Nat.lt_succ_of_lt b0)⟩
      · cases r2 with
        | error e => exact hz2
        | ok f2 =>
          cases f2 with
          | ret r =>
            obtain ⟨rfl, h', tk, c', rfl, R', hc', kp⟩ := hz2
            repeat (any_goals (first | assumption | wp_step))
            exact out _ _ _ R' hc' kp
          | _ => exact hz2.elim
    | _ => exact hz.elim
end
section
variable {X : Cx}
theorem srt_set {pins : List (Addr × Obj)} {σ : L2.St} {H : Hp} {Q : VK} {s : Shared} {a : Addr} {S : Int → Bool} {n : Nat} (hc : X.calm = true) (I : Inv X pins σ H s) (R : SetR X.w s.heap a S n) (h64 : n < 64)
    (q : ∀ (ns : List Int) (p : Addr), ns.Pairwise (· < ·) → (∀ k : Int, k ∈ ns ↔ S k = true) → H p = none → Q (.ref p) (upd H p (.lst (ns.map V.int)))) :
    wpAny (model X.prog X.w) X.A (call (.builtin "sorted") [.ref a]) (EP X pins σ Q) X.xe s := by
  refine sorted_set R (I.ok.hd hc) h64 fun s' p out c ns k g o hp hg hi hs hm hl => ?_
  have hz : (ns.map V.int).length ≤ sizeLine := by
    rw [List.length_map, hl, sizeLine_eq]
    omega
  have new : H p = none := I.hok.fresh hp
  have J : Inv X pins σ (upd H p (.lst (ns.map V.int))) { s with heap := s'.heap, gens := s'.gens, drawn := s'.drawn, toks := s'.toks } :=
    I.call (ch := []) (Un.laid k hp new) (I.hok.laid k hp ⟨hz, out.toList, c, vals_of_ints hi, hg⟩) (by rw [g]; exact I.bare) (fun _ z => nomatch z)
  rw [show s' = { s with heap := s'.heap, gens := s'.gens, drawn := s'.drawn, toks := s'.toks } by cases s'; cases s; cases o; rfl]
  exact ⟨.ref p, _, J, rfl, q ns p hs hm new⟩
def tSrtSet (K : PySem.W.Frag) (ta : TE) : TE := fun σ H Q => ta σ H fun x H1 => ∃ (l : Addr) (xs : List Int), x = .ref l ∧ SqL K H1 l (xs.map V.int) ∧ xs.length < 64 ∧
  ∀ (ns : List Int) (p : Addr), ns.Pairwise (· < ·) → (∀ k : Int, k ∈ ns ↔ k ∈ xs) → H1 p = none → Q (.ref p) (upd H1 p (.lst (ns.map V.int)))
theorem pe_srtSet {a : Expr} {ta : TE} {p p2 q pos : Pos} (hc : X.calm = true) (hg : Gl X "sorted") (hm : X.mg "sorted" = none) (hg2 : Gl X "set") (hm2 : X.mg "set" = none) (ha : PE X a ta)
    (na : starEach [a] X.env = (false, eval a X.env) :: starEach [] X.env := by rfl) : PE X (.Call (.Name "sorted" p) [.Call (.Name "set" p2) [a] [] q] [] pos) (tSrtSet X.K ta) := by
  refine ⟨fun pins s σ H Q I h => ?_⟩
  refine Call_ (ld_blt I hg hm (show bootBuiltins (Str.ofString "sorted") = some (.builtin "sorted") by decide +kernel) ?_)
  refine PyProof.Rows.callWith_builtin1 (PyProof.Rows.args_cons ?_ rfl) rfl rfl
  refine Call_ (ld_blt I hg2 hm2 boot_set ?_)
  refine PyProof.Rows.callWith_type1 (PyProof.Rows.args_cons (thn (ha.run pins s σ H _ I h) fun v s1 ⟨x, H1, I1, r1, q1⟩ => PyProof.Rows.args_nil ?_) na) na rfl
  obtain ⟨l, xs, rfl, hq, hle, q1⟩ := q1
  cases r1
  obtain ⟨its, r, pl, hz⟩ := I1.list hq
  refine set_of_list xs (I1.ok.hd hc) pl.isList (by simpa using r.ints) (Nat.lt_of_le_of_lt hle (by decide)) fun h' tk c R hcl kp => ?_
  refine PyProof.Rows.args_nil ?_
  have I2 : Inv X pins σ H1 { s1 with heap := h', toks := tk } := I1.kept kp
  exact srt_set hc I2 R (by omega) fun ns p hs hm hn => q1 ns p hs (fun z => by rw [hm z, decide_eq_true_iff]) hn
end
/-! a comprehension over a locked dict's keys -/
theorem lc_keys {d : Addr} {o : Obj} {kvs : List (L2.Key × V)} {g : TG} {tt : TT} {te : TE} {vs : List Nat} {σ : L2.St} {H1 : Hp} {D : Addr} {Qd : Hp → Prop} (Pv : Nat → Hp → Prop) (h0 : Pv 0 (upd H1 D (.lst []))) (hl : ∀ i H, i ≤ kvs.length → Pv i H → H d = some (.frz o (.dK kvs)))
    (hs : ∀ i k v H, kvs[i]? = some (k, v) → Pv i H → g (kV k) (wipe σ vs) H fun σ2 H2 => wipe σ2 vs = wipe σ vs ∧ tt σ2 H2 fun b H3 =>
      if b = true then te σ2 H3 fun y H4 => ∃ acc, H4 D = some (.lst acc) ∧ acc.length < sizeLine ∧ Pv (i + 1) (upd H4 D (.lst (acc ++ [y]))) else Pv (i + 1) H3) (hd : ∀ H, Pv kvs.length H → Qd H) :
    ∃ W : Nat → Nat → Hp → Prop, (∃ m, W 0 m (upd H1 D (.lst []))) ∧ ∀ i m H, W i m H →
      ((Itk d o kvs).stop i H ∧ Qd H) ∨ ((Itk d o kvs).go i H ∧ ∃ Nx : Hp → Prop, (∀ H', Nx H' → ∃ m', m' < m ∧ W (i + 1) m' H') ∧ ∀ x H', (Itk d o kvs).yld i H x H' → g x (wipe σ vs) H' fun σ2 H2 => wipe σ2 vs = wipe σ vs ∧ tt σ2 H2 fun b H3 =>
        if b = true then te σ2 H3 fun y H4 => ∃ acc, H4 D = some (.lst acc) ∧ acc.length < sizeLine ∧ Nx (upd H4 D (.lst (acc ++ [y]))) else Nx H3) := by
  refine ⟨fun i m H => m = kvs.length - i ∧ i ≤ kvs.length ∧ Pv i H, ⟨kvs.length, by simp, Nat.zero_le _, h0⟩, ?_⟩
  rintro i m H ⟨rfl, hi, p⟩
  have q := hl i H hi p
  by_cases hlt : i < kvs.length
  · refine .inr ⟨⟨q, hlt⟩, Pv (i + 1), fun H' p' => ⟨kvs.length - (i + 1), by omega, rfl, hlt, p'⟩, fun x H' y => ?_⟩
    obtain ⟨e, k, v, hk, rfl⟩ := y
    subst e
    exact hs i k v _ hk p
  · obtain rfl : i = kvs.length := by omega
    exact .inl ⟨⟨q, Nat.le_refl _⟩, hd H p⟩
end KR
/-! an own error whose __init__ says super().__init__(text), then self.f = x -/
namespace KR
open PySem PySem.Spec PyProof.Rows L2
def spIni (C : Addr) (fld : Str) : Sp := fun vs H Q _ => ∃ a v, vs = [.ref a, v] ∧ H a = some (exo a C none) ∧ ∀ dx, H dx = none → dx ≠ a → Q .non (upd (upd H dx (exd dx [(fld, v)])) a (exo a C (some dx)))
def cxI (P : Program) (w : World) (K : PySem.W.Frag) (mg : Str → Option Value) (base : Heap) (N : List Str) (qual : Str) (scope : Scope) (f cc : Addr) (cd : Value) (A : Around) (outer : List Env) (s : Shared) (H : Hp) (E' : Value → Shared → Prop) : Cx where
  prog := P
  w := w
  K := K
  mg := mg
  base := base
  A := A.deeper (PySem.W.ksEnv qual scope s.heap.objs.size f cd cc)
  N := N
  s_0 := s
  H_0 := H
  env := PySem.W.ksEnv qual scope s.heap.objs.size f cd cc
  outer := outer
  stack := PySem.W.ksEnv qual scope s.heap.objs.size f cd cc :: outer
  ex := []
  calm := true
  fn := fun _ => false
  pn := []
  xe := E'
theorem lkp {β : Type} (f g : Str) (y : β) (fs : List (Str × β)) : ((f, y) :: fs).lookup g = if g = f then some y else fs.lookup g := by
  by_cases h : g = f
  · subst h
    simp [List.lookup]
  · have e : (g == f) = false := by simpa using h
    rw [if_neg h]
    simp [List.lookup, e]
theorem lookup_cc {cc c : Addr} {y : Str} (e : ([(("__class__" : Str), cc)] : List (Str × Addr)).lookup y = some c) : y = "__class__" ∧ c = cc := by
  rw [lkp] at e
  by_cases h : y = "__class__"
  · rw [if_pos h] at e
    exact ⟨h, (Option.some.inj e).symm⟩
  · rw [if_neg h] at e
    cases e
theorem cc_lookup {cc : Addr} : ([(("__class__" : Str), cc)] : List (Str × Addr)).lookup ("__class__" : Str) = some cc := by
  rw [lkp, if_pos rfl]
section
variable {P : Program} {w : World} {K : PySem.W.Frag} {mg : Str → Option Value} {base : Heap} {CX : CXT} {f cc cda C : Addr} {name qual fld x msg : Str} {params : Arguments} {scope : Scope} {dV kV doc pm ct oc ccl cl : Value} {an od cdd cld : Option Addr} {osl ccs csl : Array (Option Value)} {vs0 : Array Value} {file : Str} {tf : Tok} {ar : Arg}
  {j : Nat} {p0 p1 p2 p3 p4 p5 q1 q2 q3 q4 : Pos}
abbrev iniBody (msg fld x : Str) (j : Nat) (p0 p1 p2 p3 p4 p5 q1 q2 q3 q4 : Pos) : List Stmt :=
  [.Expr (.Call (.Attribute (.Call (.Name "super" p0) [] [] p1) "__init__" p2) [.Constant (.str msg) j p3] [] p4) p5, .Assign [.Attribute (.Name "self" q1) fld q2] (.Name x q3) q4]
theorem fn_ini (T : OexC K C)
    (lk : K.lookup f = some ⟨oc, od, .func (PySem.W.ksFn name qual params (iniBody msg fld x j p0 p1 p2 p3 p4 p5 q1 q2 q3 q4) scope dV kV doc pm an (.ref cda) ct cc), osl⟩)
    (hcd : PySem.W.codeIn K (.ref cda) qual = true) (hcode : K.lookup cda = some ⟨ccl, cdd, .fields vs0, ccs⟩) (hvs : vs0[2]? = some (.str file tf)) (hfile : ((P.main.file : Str) == file) = true)
    (htop : (P.main.scope.names.lookup ("super" : Str)).isSome = false) (hcell : K.lookup cc = some ⟨cl, cld, .cell (some (.ref C)), csl⟩)
    (hsup : PySem.W.ks_superIn K C C "__init__" = some (some (.builtin "ValueError.__init__"))) (hV : PySem.W.subIn K (.ref C) (.type "ValueError") = some true) (hmro : PySem.W.mroIn K C (.ref C) = some true)
    (hop : PySem.W.nsIn K cStatics "thirdparty.any" = some none) (hsm : mg "super" = none) (hfa : PySem.W.findIn K (.ref C) fld = some none)
    (hp : (params.posonlyargs ++ params.args).head? = some ar) (har : ar.arg = "self") (hx : ¬ (x = "self")) (hxd : (x == ("__debug__" : Str)) = false) (hxc : (x == ("__classdict__" : Str)) = false)
    (hk : scope.kind = .function) (hco : scope.isCoroutine = false) (hgen : scope.isGenerator = false)
    (l1 : scope.names.lookup ("self" : Str) = some .local) (l2 : scope.names.lookup x = some .local) (l3 : scope.names.lookup ("__class__" : Str) = some .free) (l4 : scope.names.lookup ("super" : Str) = some .globalImplicit)
    {pl : Sem Bool} (hev : ∀ L, eval (.Call (.Attribute (.Call (.Name "super" p0) [] [] p1) "__init__" p2) [.Constant (.str msg) j p3] [] p4) (PySem.W.ksEnv qual scope L f (.ref cda) cc) = (do
      let ov ← attributeBase (.Call (.Name "super" p0) [] [] p1) "__init__" (PySem.W.ksEnv qual scope L f (.ref cda) cc) (eval (.Call (.Name "super" p0) [] [] p1) (PySem.W.ksEnv qual scope L f (.ref cda) cc))
      standAt p2.atName
      let (fn, first) ← holding [ov] (getMethod ov "__init__" pl)
      callWith p4 fn first (backTo p4 (starEach [.Constant (.str msg) j p3] (PySem.W.ksEnv qual scope L f (.ref cda) cc))) []))
    (l5 : ∀ y ∈ scope.names, y.2 ≠ .cell) (l6 : ∀ y ∈ scope.names, y.2 = .free → y.1 = "__class__") :
    FnOk P w K mg base CX 1 f (PySem.W.ksFn name qual params (iniBody msg fld x j p0 p1 p2 p3 p4 p5 q1 q2 q3 q4) scope dV kV doc pm an (.ref cda) ct cc) ["self", x] (spIni C fld) := by
  refine ⟨fun vs H Q E h => ?_, fun A outer s H args us vs Q E hr e0 hb r hsp => ?_⟩
  · obtain ⟨a, v, rfl, _⟩ := h
    rfl
  obtain ⟨a, v, rfl, ha, q⟩ := hsp
  cases r with
  | cons ra r1 =>
  rename_i u0 us1
  cases r1 with
  | cons rv r2 =>
  rename_i u1 us2
  cases r2
  obtain rfl : u0 = Value.ref a := ra
  have KX : K.In s.heap := e0.mod.kin.keeps fun b o e => (e0.bs b o e).1
  have lim : s.heap.NoLimit := e0.mod.nolimit.keeps fun b o e => (e0.bs b o e).1
  refine PySem.ks_codeAny_call_defAt (fd := PySem.W.ksFn name qual params (iniBody msg fld x j p0 p1 p2 p3 p4 p5 q1 q2 q3 q4) scope dV kV doc pm an (.ref cda) ct cc) (body := iniBody msg fld x j p0 p1 p2 p3 p4 p5 q1 q2 q3 q4)
    (binds := [("self", .ref a), (x, u1)]) hr.depth (KX _ _ lk) rfl lim (PySem.W.codeRec_of KX hcd) rfl hb l5 (fun y hy => ?_) (fun h0 hns hkp => ?_) hco hgen hk
  · simp only [List.mem_cons, List.not_mem_nil, or_false] at hy
    rcases hy with rfl | rfl
    · exact l1
    · exact l2
  show PySem.wpAt (model P w) (A.deeper (PySem.W.ksEnv qual scope s.heap.objs.size f (.ref cda) cc)) (.func (iniBody msg fld x j p0 p1 p2 p3 p4 p5 q1 q2 q3 q4) (PySem.W.ksEnv qual scope s.heap.objs.size f (.ref cda) cc)) (execs (iniBody msg fld x j p0 p1 p2 p3 p4 p5 q1 q2 q3 q4) (PySem.W.ksEnv qual scope s.heap.objs.size f (.ref cda) cc)) _ _ _
  generalize hE : (fun (e : Value) (s' : Shared) => wpAny (model P w) (A.deeper (callEnv (PySem.W.ksFn name qual params (iniBody msg fld x j p0 p1 p2 p3 p4 p5 q1 q2 q3 q4) scope dV kV doc pm an (.ref cda) ct cc) s.heap.objs.size f)) (leaving (callEnv (PySem.W.ksFn name qual params (iniBody msg fld x j p0 p1 p2 p3 p4 p5 q1 q2 q3 q4) scope dV kV doc pm an (.ref cda) ct cc) s.heap.objs.size f) e)
    (fun _ s'' => CR CX outer P w H s Q E (.error e) s'') (fun e' s'' => CR CX outer P w H s Q E (.error e') s'') s') = E'
  have I0 : Inv (cxI P w K mg base ["self", x] qual scope f cc (.ref cda) A outer s H E') [] [some (.ref a), some v] H { s with heap := h0, toks := s.toks + 2 } := by
    have hcc : base.get? cc = some ⟨cl, cld, .cell (some (.ref C)), csl⟩ := e0.mod.kin _ _ hcell
    have hccs := e0.bs _ _ hcc
    have noA : ∀ b : Addr, b ∉ (cxI P w K mg base ["self", x] qual scope f cc (.ref cda) A outer s H E').ex := fun b z => absurd (show b ∈ ([] : List Addr) from z) (by simp)
    refine ⟨⟨e0.mod, hk, rfl, rfl, Nat.le_refl _, fun y z c h1 h2 => ?_, fun y hy => ?_, fun y c h => ?_, fun _ => hr.hd, Around.frames_deeper e0.frames, .inr ⟨rfl, rfl⟩, fun b z => absurd z (noA b), e0.bs, e0.bsz, fun b _ _ => noA b, fun b z => absurd z (noA b), e0.funs, e0.frf⟩,
      rfl, e0.bare, Un.kept hkp, ⟨_, hns, fun i y v' h1 h2 h3 => ?_⟩, fun y c h => ?_, e0.hok.fresh (Nat.le_refl _), fun y c h => ?_, fun p hp => absurd (show p ∈ ([] : List (Addr × Obj)) from hp) (by simp), e0.hok.kept hkp, rfl⟩
    · exact (lookup_cc h1).1.trans (lookup_cc h2).1.symm
    · have hy : scope.names.lookup y = some .cell ∨ scope.names.lookup y = some .free := hy
      rcases hy with hy | hy
      · exact absurd rfl (l5 _ (PySem.mem_of_lookup hy))
      · rw [show y = ("__class__" : Str) from l6 _ (PySem.mem_of_lookup hy) rfl]
        exact ⟨cc, cc_lookup⟩
    · cases h
    · match i, h1, h2 with
      | 0, h1, h2 =>
        cases h1
        cases h2
        refine ⟨.ref a, rfl, .inl ⟨l1, ?_⟩⟩
        show ([(x, u1), ("self", Value.ref a)] : List (Str × Value)).lookup ("self" : Str) = _
        rw [lkp, if_neg (fun z => hx z.symm), lkp, if_pos rfl]
      | 1, h1, h2 =>
        cases h1
        cases h2
        refine ⟨u1, rv, .inl ⟨l2, ?_⟩⟩
        show ([(x, u1), ("self", Value.ref a)] : List (Str × Value)).lookup x = _
        rw [lkp, if_pos rfl]
      | n + 2, h1, h2 => exact absurd h1 (by simp [cxI])
    · rw [(lookup_cc h).2]
      exact ⟨_, _, hkp _ _ hccs.1, rfl⟩
    · rw [(lookup_cc h).2]
      exact hccs.2
  have KX0 := I0.kIn
  have heg : H a = some (exo a C none) := ha
  obtain ⟨t1, hoe⟩ := exo_at I0.hok heg
  obtain ⟨nm, qn, N, bs, bm, sn, sub, ab, col, dd, k0, k1, k2, k3, k5, hC, hbm⟩ := T.cls
  have hcl : PySem.W.clsIn K C = some { name := nm, bases := bs, mro := .ref C :: bm, ns := N, qualname := qn, hasDict := true, slotNames := sn, subclasses := sub, abstract := ab, collection := col, hasDel := false } := by unfold PySem.W.clsIn; rw [hC] <;> rfl
  have inst : PySem.W.InstAt h0 a { cls := .ref C, dict := none, data := .fields #[.ref t1, .none, .none, .none, .bool false, .none] } C none := ⟨hoe, rfl, rfl, trivial⟩
  have hac : a ≠ C := PySem.W.ks_ne KX0 inst hcl
  refine PySem.ks_wpAt_execs_cons (PySem.ks_wpAt_Expr_any (hi := I0.quiet) (PySem.ks_wpAt_MethodCall (he := hev _) ?_))
  obtain ⟨mb, hmb1, hmb2⟩ := I0.mod.blt
  have hCo := KX0 _ _ hC
  refine PySem.ks_wpAt_super_base (env := PySem.W.ksEnv qual scope s.heap.objs.size f (.ref cda) cc) l4 l3 (by decide +kernel) rfl (KX0 _ _ lk) rfl hp rfl (KX0 _ _ hcode) rfl hvs hfile htop ?_
  refine PySem.W.ks_loadName_global hk l4 (PySem.Calls.loadGlobal_builtin (env := PySem.W.ksEnv qual scope s.heap.objs.size f (.ref cda) cc) (I0.mod.glob.keeps I0.bk) hsm (hmb1.keeps I0.bk) ((hmb2 "super" (by decide)).trans PyProof.Rows.Boot.«super») ⟨rfl, ?_⟩)
  refine wpAny_loadName_free hk l3 cc_lookup ⟨_, KX0 _ _ hcell, rfl⟩ ?_
  refine wpAny_loadName_local hk (by rw [har]; exact l1) hns (v := .ref a) (by rw [har]; show ([(x, u1), ("self", Value.ref a)] : List (Str × Value)).lookup ("self" : Str) = _; rw [lkp, if_neg (fun z => hx z.symm), lkp, if_pos rfl]) ?_
  refine PySem.ks_wpAny_isType_cls hCo rfl ⟨rfl, ?_⟩
  refine PySem.ks_wpAny_call_super hCo rfl inst.at_ inst.cls (fun c e => by cases e) (PySem.W.looks_mroIn KX0 hmro) (fun h1 e1 kk1 => ?_)
  have KX1 := KX0.keeps kk1
  have hI : PySem.W.Looks (model P w) h1 (isInstance (.ref a) (.type "ValueError")) true := (show PySem.W.InstAt h1 a { cls := .ref C, dict := none, data := .fields #[.ref t1, .none, .none, .none, .bool false, .none] } C none from ⟨kk1 _ _ hoe, rfl, rfl, trivial⟩).type.andThen (PySem.W.looks_subIn KX1 hV)
  have hsup2 : PySem.W.alongIn K "__init__" bm = some (some (.builtin "ValueError.__init__")) := by
    unfold PySem.W.ks_superIn at hsup
    rw [hcl] at hsup
    have e2 : ((Value.ref C :: bm).dropWhile (· != Value.ref C)).drop 1 = bm := by simp [List.dropWhile_cons]
    rw [← e2]
    exact hsup
  refine PySem.W.kxs_getMethod PySem.W.kxs_ValueError e1 (PySem.W.looks_opaque KX1 hop) (l₀ := .ref C :: bm) (fun A Q E s k q => wpAny_bind ((PySem.W.looks_clsIn KX1 hcl) A _ E s k (wpAny_pure q))) (l := bm) (by simp [List.dropWhile_cons]) KX1 hsup2 hI hac (by decide +kernel) ?_
  have I1 := I0.kept (t' := s.toks + 2) kk1
  have kk2 : ∀ b o, h0.get? b = some o → (h1.push (PySem.W.kxs_mw "ValueError.__init__" a)).get? b = some o := fun b o e => Heap.get?_push_of_some _ (kk1 _ _ e)
  have hmw : (h1.push (PySem.W.kxs_mw "ValueError.__init__" a)).get? h1.objs.size = some (PySem.W.kxs_mw "ValueError.__init__" a) := Heap.get?_push_at rfl rfl
  have I2 : Inv (cxI P w K mg base ["self", x] qual scope f cc (.ref cda) A outer s H E') [(h1.objs.size, PySem.W.kxs_mw "ValueError.__init__" a)] [some (.ref a), some v] H
      { s with heap := h1.push (PySem.W.kxs_mw "ValueError.__init__" a), toks := s.toks + 2 + 1 } := (I0.kept (t' := s.toks + 2 + 1) kk2).pins_of fun p hp => by
    rcases List.mem_append.mp (show p ∈ [] ++ [(h1.objs.size, PySem.W.kxs_mw "ValueError.__init__" a)] from hp) with hp | hp
    · cases hp
    · rw [List.mem_singleton] at hp
      subst hp
      exact ⟨hmw, I1.hok.fresh (Nat.le_refl _), Nat.ne_of_gt I1.lt, I1.nofs (Nat.le_refl _), fun v z => by cases z⟩
  have hargs : PA (cxI P w K mg base ["self", x] qual scope f cc (.ref cda) A outer s H E') [.Constant (.str msg) j p3] (tCons (tC (.str msg)) tNil) := pa_cons pe_str pa_nil
  have hspl := hargs.run p4 _ _ _ H (fun vs H1 => vs = [V.str msg] ∧ H1 = H) I2 ⟨rfl, rfl⟩
  refine PySem.W.kxs_callWith (i := "ValueError.__init__") (x := a) rfl (PySem.Calls.evalArgs_plain (wpAny_mono hspl (fun us s3 h3 => ?_) (fun _ _ z => z)))
  obtain ⟨vs, H1, I3, r3, rfl, rfl⟩ := h3
  cases r3 with
  | cons ru rn =>
  rename_i uz usz
  cases rn
  have hmw3 := (I3.pin (h1.objs.size, PySem.W.kxs_mw "ValueError.__init__" a) (by simp [cxI])).1
  refine ⟨hmw3, ?_⟩
  obtain ⟨t3, ho3⟩ := exo_at I3.hok heg
  have hC3 := I3.kIn _ _ hC
  obtain ⟨h3, g3, d3, tk3, os3⟩ := s3
  refine wpAny_call (codeAny_of_tree ?_)
  show wpAny _ _ (callAny (.ref h1.objs.size) ⟨[uz], []⟩) _ _ _
  simp only [callAny]
  refine wpAny_bind (wpAny_load hmw3 ?_)
  simp only [PySem.W.kxs_mw, show (Value.type "method-wrapper" == Value.type "method" || Value.type "method-wrapper" == Value.type "builtin_function_or_method" || Value.type "method-wrapper" == Value.type "method-wrapper") = true by decide, if_true]
  refine PySem.W.KFB.if_so (by decide) ?_
  refine wpAny_bind (PySem.W.check_bound_init PySem.F.excBase_ValueError.toExcCallFacts hC3 ho3 rfl ?_)
  refine wpAny_bind (wpAny_pure (wpAny_pure ?_))
  refine ⟨PySem.plainId_quiet PySem.F.excBase_ValueError.init.plain _, codeAny_builtin PySem.F.excBase_ValueError.initEntry ?_⟩
  refine PySem.W.exc_init_tree (cls := .ref C) (t0 := t3) (dv := none) (c2 := .none) (c3 := .none) (b4 := .bool false) ho3 (by show 1 ≤ sizeLine; rw [sizeLine_eq]; omega) (fun h4 k4 hx4 _ => ?_)
  have J := I3.write (t' := tk3) (x := a) (e := a) (o := exo a C none) (by rw [heg]; exact True.intro) (.inl rfl) k4 ⟨_, hx4⟩ (exo_ok hx4)
  have eu : upd H1 a (exo a C none) = H1 := by
    funext b
    by_cases hb : b = a
    · rw [hb, upd_same, heg]
    · rw [upd_ne hb]
  rw [eu] at J
  refine wpAt_of_wpAny ?_
  have hps : PSs (cxI P w K mg base ["self", x] qual scope f cc (.ref cda) A outer s H1 E') [.Assign [.Attribute (.Name "self" q1) fld q2] (.Name x q3) q4] _ :=
    pss_one (ps_ost (pe_var (i := 0) rfl (.inl l1)) (pe_var (i := 1) rfl (.inl l2) hxd hxc))
  refine wpAny_mono (hps.run _ _ _ H1 { nx := fun _ H' => Q .non H', rt := Q } J ⟨v, rfl, .ref a, rfl, a, C, rfl, T, hfa, .inl ⟨heg, fun dx n ne => q dx n ne⟩⟩) (fun fl s' hs => ?_) (fun _ _ z => z)
  cases fl with
  | ret u =>
    obtain ⟨v', σ', H', J', rv', q'⟩ := hs
    exact ⟨v', H', J'.os, J'.bare, J'.base, J'.hok, rv', q'⟩
  | next =>
    obtain ⟨σ', H', J', q'⟩ := hs
    exact ⟨V.non, H', J'.os, J'.bare, J'.base, J'.hok, rfl, q'⟩
  | brk =>
    obtain ⟨_, _, _, q'⟩ := hs
    exact False.elim q'
  | cont =>
    obtain ⟨_, _, _, q'⟩ := hs
    exact False.elim q'
end
end KR
/-! defs that raise; several clauses `except C as e` -/
namespace KR
open PySem PySem.Spec PyProof.Rows L2
def UseX (P : Program) (w : World) (K : PySem.W.Frag) (mg : Str → Option Value) (base : Heap) (x : Str) (k : Nat) (ps : List Str) (sp : Sp) : Prop :=
  ∃ f fd, FnOk P w K mg base (L2.CX P w) k f fd ps sp ∧ mg x = some (.ref f) ∧ PySem.W.keepIn K (.ref f) = true ∧ Binds K fd ps []
section
variable {P : Program} {w : World} {K : PySem.W.Frag} {mg : Str → Option Value} {base : Heap} {x qual : Str} {st : Stmt} {k : Nat} {N ps : List Str} {sp : Sp} {f : Addr} {fd : FuncData}
theorem lift0 {CX : CXT} (F : FnOk P w K mg base CX0 k f fd ps sp) : FnOk P w K mg base CX k f fd ps sp :=
  ⟨F.len, fun A outer s H args us vs Q E hr he hb hv hs => codeAny_mono (F.run A outer s H args us vs Q E hr he hb hv hs) fun r s' hq => by
    cases r with
    | error e => exact (show False from hq).elim
    | ok fl => cases fl <;> exact hq⟩
theorem Use.up (u : Use P w K mg base x k ps sp) : UseX P w K mg base x k ps sp := by
  obtain ⟨f, fd, F, a, b, c⟩ := u
  exact ⟨f, fd, lift0 F, a, b, c⟩
theorem usex_of (D : DefAt K mg x st) (ok : ∀ f fd, Fun K x x st f fd → FnOk P w K mg base (L2.CX P w) k f fd ps sp)
    (h : ∀ (kV doc pm : Value) (an : Option Addr) (cdv ct : Value) (us : List Value), us.length = ps.length → bindArgs (PySem.W.fnOf x x (defArgs st) (defBody st) (defScope st) .none kV doc pm an cdv ct) ⟨us, []⟩ = pure (ps.zip us)) :
    UseX P w K mg base x k ps sp := by
  obtain ⟨f, fd, F, hm⟩ := D
  exact ⟨f, fd, ok f fd F, hm, F.kp, F.binds h⟩
/-- a def of the text that may raise, by its body -/
theorem okX (F : Fun K x qual st f fd) (S : FnScope N ps (defScope st)) (len : ∀ vs H Q E, sp vs H Q E → vs.length = ps.length)
    (body : ∀ (cdv : Value) (A : Around) (outer : List Env) (s : Shared) (H : Hp) (vs : List V) (Q : VK) (E : XK), Takes (cxOf (L2.CX P w) P w K mg base N qual (defScope st) f cdv A outer s H E) (fun cls d _ H' => E cls d H') →
      PassesOwn (model P w) (A.deeper (envOfC qual (defScope st) s.heap.objs.size f cdv)) (envOfC qual (defScope st) s.heap.objs.size f cdv) (cxOf (L2.CX P w) P w K mg base N qual (defScope st) f cdv A outer s H E).xe →
      Room k (A.deeper (envOfC qual (defScope st) s.heap.objs.size f cdv)) → sp vs H Q E →
      ∃ t, PSs (cxOf (L2.CX P w) P w K mg base N qual (defScope st) f cdv A outer s H E) (defBody st) t ∧ t { nx := fun _ H' => Q .non H', rt := Q } (start N vs) H) : FnOk P w K mg base (L2.CX P w) (k + 1) f fd ps sp := by
  obtain ⟨oc, od, kV, doc, pm, an, cdv, ct, osl, rfl, lk, hcd⟩ := F.ex
  exact fn_of lk hcd S len fun A outer s H vs Q E hr hsp => body cdv A outer s H vs Q E (takes_of rfl rfl rfl rfl) (passes_of rfl) hr hsp
end
section
variable {X : Cx} {x : Str} {j k : Nat} {ps : List Str} {sp : Sp} {e : Expr} {es : List Expr} {t : TA} {p pos : Pos} {E : XK}
/-- a call that may raise what is wished -/
theorem pe_usex (u : UseX X.prog X.w X.K X.mg X.base x j ps sp) (tk : Takes X (fun cls d _ H => E cls d H)) (le : j ≤ k) (hr : Room k X.A) (hg : Gl X x) (ha : PA X (e :: es) t)
    (hdb : (x == ("__debug__" : Str)) = false := by decide) (he : starEach (e :: es) X.env = (false, eval e X.env) :: starEach es X.env := by rfl)
    (hpl : (backTo pos (starEach es X.env)).any (·.1) = false := by rfl) : PE X (.Call (.Name x p) (e :: es) [] pos) (tCall sp [] E t) := by
  obtain ⟨f, fd, F, hm, kp, b⟩ := u
  exact pe_call F (hr.mono le) hg hm kp b .nil (passes_call tk fun _ _ _ _ h => h) ha hdb he hpl
end
/-! ### own errors made -/
structure ErrC (P : Program) (w : World) (K : PySem.W.Frag) (mg : Str → Option Value) (base : Heap) (x : Str) (C : Addr) (fld : Str) : Prop where
  T : OexC K C
  ini : ∃ fI fd p, FnOk P w K mg base CX0 1 fI fd ["self", p] (spIni C fld) ∧ PySem.W.findIn K (.ref C) "__init__" = some (some (.ref fI)) ∧ PySem.W.typeIn K (.ref fI) = some (.type "function") ∧ Binds K fd ["self", p] []
  hm : mg x = some (.ref C)
  xf : XfC K C
  nf : PySem.W.findIn K (.ref C) fld = some none
def tUp (ta : TA) : TA := fun σ H Q => ∃ Q' : List V → Hp → Prop, ta σ H Q' ∧ ∀ vs H1, Q' vs H1 → Q vs H1
def tErr (C : Addr) (fld : Str) (ta : TA) : L2.St → Hp → XK → Prop := fun σ H Q => ta σ H fun vs H1 => ∃ v, vs = [v] ∧ ∀ H' d, Same H1 H' → H' d = some (.xd [(fld, v)]) → Q (.ref C) (some d) H'
section
variable {X : Cx} {x fld : Str} {C : Addr} {e : Expr} {es : List Expr} {ta : TA} {p pos : Pos}
theorem pa_up (ha : PA X es ta) : PA X es (tUp ta) := ⟨fun pos pins s σ H Q I h => by
  obtain ⟨Q', h1, h2⟩ := h
  exact wpAny_mono (ha.run pos pins s σ H Q' I h1) (fun us s1 ⟨vs, H1, I1, r1, q1⟩ => ⟨vs, H1, I1, r1, h2 _ _ q1⟩) fun _ _ z => z⟩
theorem pmk_err (er : ErrC X.prog X.w X.K X.mg X.base x C fld) (hr : Room 2 X.A) (hg : Gl X x) (ha : PA X (e :: es) ta)
    (hdb : (x == ("__debug__" : Str)) = false := by decide) (he : starEach (e :: es) X.env = (false, eval e X.env) :: starEach es X.env := by rfl) (hpl : (backTo pos (starEach es X.env)).any (·.1) = false := by rfl) :
    PMk X (.Call (.Name x p) (e :: es) [] pos) (tErr C fld ta) := fun pins s σ H Q I h => by
  obtain ⟨fI, fd, pn, F, iC, tI, hb⟩ := er.ini
  refine pmk_oex (CX := CX0) er.T iC tI F hr hb .nil (fun _ _ _ _ _ _ _ z => z.elim) hg er.hm (pa_up ha) hdb he hpl pins s σ H Q I ⟨_, h, fun vs H1 hv => ?_⟩
  obtain ⟨v, rfl, q⟩ := hv
  refine ⟨by show 1 ≤ 1000; decide, fun a na => ⟨a, v, rfl, upd_same, fun dx ndx nea => ?_⟩⟩
  have n1 : H1 dx = none := by rw [upd_ne nea] at ndx; exact ndx
  refine ⟨rfl, dx, [(fld, v)], upd_same, ?_, n1, q _ dx (fun b o hb => ?_) upd_same⟩
  · rw [upd_ne nea, upd_same]
  · have ba : b ≠ a := ne_of_none hb na
    rw [upd_ne (ne_of_none hb n1), del_ne ba, upd_ne ba, upd_ne (ne_of_none hb n1), upd_ne ba]
    exact hb
end
/-! ### several clauses with names -/
def wManyA (K : PySem.W.Frag) (Wout : WX) (D : Ends) : List (Value × Nat × (Addr → Value → Option Addr → TS)) → WX
  | [] => Wout
  | (c, i, ts) :: r => fun cls d σ H => ∃ b, PySem.W.exmOne K cls c = some b ∧
    (b = true → ∀ a, H a = none → ts a cls d { nx := fun σ' H' => D.nx (σ'.set i none) H', rt := D.rt, bk := fun σ' H' => D.bk (σ'.set i none) H', ct := fun σ' H' => D.ct (σ'.set i none) H' } (σ.set i (some (.ref a))) H) ∧
    (b = false → wManyA K Wout D r cls d σ H)
inductive HdsA (X : Cx) : List ExceptHandler → List (Value × Nat × (Addr → Value → Option Addr → TS)) → Prop
  | nil : HdsA X [] []
  | cons {x n : Str} {c : Value} {i : Nat} {ts : Addr → Value → Option Addr → TS} {b₀ : Stmt} {suite : List Stmt} {np pos' : Pos} {hds : List ExceptHandler} {l : List (Value × Nat × (Addr → Value → Option Addr → TS))} (hc : Names X x c)
      (hi : X.N[i]? = some n) (hln : X.env.kindOf n = some .local)
      (hsu : ∀ (a : Addr) (oe : Obj) (cls : Value) (d : Option Addr) (pn : List (Addr × Obj)), Zc cls d oe → (∃ vs, oe.data = .fields vs) → PSs (X.suite a ((a, oe) :: pn)) (b₀ :: suite) (ts a cls d)) (r : HdsA X hds l) :
      HdsA X (.ExceptHandler (some (.Name x np)) (some n) (b₀ :: suite) pos' :: hds) ((c, i, ts) :: l)
section
variable {X : Cx} {body : List Stmt} {h₀ : ExceptHandler} {hds : List ExceptHandler} {l : List (Value × Nat × (Addr → Value → Option Addr → TS))} {pos : Pos} {tb : WX → TS} {Wout : WX}
theorem ps_try_manyA (hs : X.stack = X.env :: X.outer) (hf : X.env.frame = some X.env.locals) (hN : X.N.Nodup) (tk : Takes X Wout)
    (hb : ∀ (W : WX) (pn : List (Addr × Obj)) (xe : Value → Shared → Prop), Takes (X.tr pn xe) W → PassesOwn (model X.prog X.w) X.A X.env xe → PSs (X.tr pn xe) body (tb W))
    (hh : HdsA X (h₀ :: hds) l) : PS X (.Try body (h₀ :: hds) [] [] pos) (fun D σ H => tb (wManyA X.K Wout D l) D σ H) := by
  refine ⟨fun pins s σ H D I h => ?_⟩
  have ok := I.ok
  have hfr : X.A.frames = some (X.env :: X.outer) := by rw [ok.frames, hs]
  refine wpAny_Try_except ?_
  refine wpAny_mono ((hb (wManyA X.K Wout D l) (X.pn ++ pins) (fun e s₁ => wpAny (model X.prog X.w) X.A (noteFrame e X.env) (fun _ s₂ => wpAny (model X.prog X.w) X.A (setFlight e none) (fun _ s₃ =>
    wpAny (model X.prog X.w) X.A (handleBy e X.env (h₀ :: hds)) (SP X pins D) X.xe s₃) X.xe s₂) X.xe s₁) (fun u s' xx => ?_) PassesOwn.looking).run [] s σ H D (I.toTry _) h) (fun f s1 hsp => ?_) (fun e s1 he => he)
  · obtain ⟨a, B, sI, pins', σ', H', cls, d, rfl, J', nb, up, sky, na, os, ag, w⟩ := xx
    have J : Inv X pins σ' H' sI := J'.ofTry ok
    have sky' : Sky B (X.env :: X.outer) a (Zc cls d) X.env.locals s'.heap := by rw [← hs]; exact sky
    show wpAny (model X.prog X.w) X.A (noteFrame (.ref a) X.env) _ _ _
    refine Sky.land Zc.steady hfr hf sky' fun h3 fl3 up3 => ?_
    have J3 : Inv X pins σ' H' { s' with heap := h3 } := J.landed nb fl3.1 (up.trans up3) os ag
    obtain ⟨oe3, vs3, he3, hz3, hd3⟩ := fl3.there
    have notFr : ∀ {h : Heap} {o : Obj} {vs : Array Value}, h.FunFrames B (X.env :: X.outer) → h.get? a = some o → o.data = .fields vs → a ∉ frs (X.env :: X.outer) := fun {h o vs} ff e dd hm => by
      obtain ⟨_, o', e', hnf⟩ := ff.mem hm
      rw [e] at e'; cases e'
      exact hnf _ dd
    have nfr := notFr fl3.2.2.1 he3 hd3
    have nL : a ≠ X.env.locals := fun z => nfr (List.mem_filterMap.mpr ⟨X.env, List.mem_cons_self, by rw [hf, z]⟩)
    have nF : a ∉ X.fs := fun hm => by
      obtain ⟨e, he, q⟩ := List.mem_filterMap.mp hm
      exact nfr (List.mem_filterMap.mpr ⟨e, List.mem_cons_of_mem _ he, q⟩)
    have S3 := J3.suite he3 hd3 na nL nF
    have go : ∀ {hds' : List ExceptHandler} {l' : List (Value × Nat × (Addr → Value → Option Addr → TS))}, HdsA X hds' l' → wManyA X.K Wout D l' cls d σ' H' →
        wpAny (model X.prog X.w) X.A (handleBy (.ref a) X.env hds') (SP X pins D) X.xe { s' with heap := h3 } := by
      intro hds' l' hk
      induction hk with
      | nil =>
        intro w
        refine wpAny_handleBy_nil ?_
        obtain ⟨k1, k2, k3, oe, vs, T, oT, ts', he, hz, hd, h1, hr⟩ := id fl3
        unfold PySem.passOn
        refine wpAny_bind (wpAny_field he hd h1 ?_)
        rw [if_neg (show ¬ ((Value.ref T == Value.none) = true) from by simp)]
        have fin : wpAny (model X.prog X.w) X.A (setFlight (.ref a) X.env.frame) (fun _ s4 => wpAny (model X.prog X.w) X.A (throw (.ref a) : Sem Flow) (SP X pins D) X.xe s4) X.xe { s' with heap := h3 } := by
          rw [hf]
          refine HandSPX.setFlight_upZ fl3 fun h4 hh4 up4 => wpAny_throw (tk _ _ ?_)
          exact ⟨a, B, sI, pins, σ', H', cls, d, rfl, J, nb, (up.trans up3).trans up4, .inr (.inr (by rw [hs]; exact hh4)), na, os, ag, w⟩
        first
          | exact wpAny_bind (wpAny_pure (wpAny_bind fin))
          | exact wpAny_bind fin
      | @cons x n c i ts b₀ suite np pos' hds2 l2 hc hi hln hsu r ih =>
        intro w
        have hloc : Loc X.env.scope n := .inl hln
        obtain ⟨b, hb1, hyes, hno⟩ := w
        refine wpAny_handleBy_cons (codeAny_handlers_test ?_) (by intro q; cases q)
        have LT : PySem.W.Looks (model X.prog X.w) h3 (typeOf (.ref a)) cls := fun A Q E s k q => wpAny_typeOf_ref (k _ _ he3) (by rw [hz3.1]; exact q)
        have LM := PySem.W.exm_one (M := model X.prog X.w) (J3.kIn) LT hb1
        have test : ∀ {Q : Value → Shared → Prop} {E : Value → Shared → Prop}, Q c { s' with heap := h3 } → wpAny (model X.prog X.w) (X.A.mark (some (.ref a))) (eval (.Name x np) X.env) Q E { s' with heap := h3 } := fun {Q E} q => by
          obtain ⟨hg, hdbg, hm | ⟨hm, hv, hnn⟩⟩ := hc
          · exact ld_glob (X := X.suite a ((a, oe3) :: (X.pn ++ pins))) S3 hg hm q hdbg
          · exact ld_blt (X := X.suite a ((a, oe3) :: (X.pn ++ pins))) S3 hg hm hv q hnn hdbg
        refine test (LM.here ?_)
        cases b with
        | true =>
          refine codeAny_handlers_suite_as ?_
          refine HandSPX.lands_againZ fl3 fun h4 fl4 up4 => ?_
          have J4 : Inv X pins σ' H' { s' with heap := h4 } := J.landed nb fl4.1 ((up.trans up3).trans up4) os ag
          obtain ⟨oe4, vs4, he4, hz4, hd4⟩ := fl4.there
          have S4 := J4.suite he4 hd4 na nL nF
          refine store_ok (X := X.suite a ((a, oe4) :: (X.pn ++ pins))) (v := .ref a) S4 hN hi hloc rfl (fun s5 S5 => ?_) (.inr hln)
          refine wpAny_mono ((hsu a oe4 cls d (X.pn ++ pins) hz4 ⟨_, hd4⟩).run [] s5 _ H' _ S5 (hyes rfl a na)) (fun f s6 hsp => ?_) (fun _ _ z => False.elim z)
          have end_ : ∀ {σ6 : L2.St} {H6 : Hp} {Q : Shared → Prop}, Inv (X.suite a ((a, oe4) :: (X.pn ++ pins))) [] σ6 H6 s6 → (∀ s7, Inv X pins (σ6.set i none) H6 s7 → Q s7) →
              wpAny (model X.prog X.w) X.A (do bindName X.env n .none; unbindBehindTheSuite X.env n pos') (fun _ s7 => Q s7) X.xe s6 := fun {σ6 H6 Q} S6 hq => gone_ok (S6.unsuite ok) hN hi hln hq
          cases f with
          | next =>
            obtain ⟨σ6, H6, S6, q6⟩ := hsp
            exact end_ S6 fun s7 J7 => ⟨_, _, J7, q6⟩
          | brk =>
            obtain ⟨σ6, H6, S6, q6⟩ := hsp
            exact end_ S6 fun s7 J7 => ⟨_, _, J7, q6⟩
          | cont =>
            obtain ⟨σ6, H6, S6, q6⟩ := hsp
            exact end_ S6 fun s7 J7 => ⟨_, _, J7, q6⟩
          | ret u =>
            obtain ⟨v6, σ6, H6, S6, r6, q6⟩ := hsp
            exact end_ S6 fun s7 J7 => ⟨_, _, _, J7, r6, q6⟩
        | false =>
          show wpAny _ X.A (handleBy (.ref a) X.env hds2) _ _ _
          exact ih (hno rfl)
    exact go hh w
  · cases f with
    | next =>
      obtain ⟨σ', H', J', q⟩ := hsp
      exact wpAny_execs_nil ⟨σ', H', J'.ofTry ok, q⟩
    | brk =>
      obtain ⟨σ', H', J', q⟩ := hsp
      exact ⟨σ', H', J'.ofTry ok, q⟩
    | cont =>
      obtain ⟨σ', H', J', q⟩ := hsp
      exact ⟨σ', H', J'.ofTry ok, q⟩
    | ret u =>
      obtain ⟨v, σ', H', J', r, q⟩ := hsp
      exact ⟨v, σ', H', J'.ofTry ok, r, q⟩
end
end KR
/-! a local name's def called in a try's body -/
namespace KR
open PySem PySem.Spec PyProof.Rows L2
def tCallLS (i : Nat) (f : Addr) (sp : Sp) (W : WX) (t : TA) : TE := fun σ H Q => σ[i]? = some (some (.ref f)) ∧ t σ H fun vs H1 => sp vs H1 Q (fun cls d H' => W cls d σ H')
section
variable {X : Cx} {k j i : Nat} {f : Addr} {fd : FuncData} {ps : List Str} {sp : Sp} {W : WX} {x : Str} {p pos : Pos} {e : Expr} {es : List Expr} {t : TA}
theorem pe_callLS (F : FnOk X.prog X.w X.K X.mg X.base (L2.CX X.prog X.w) j f fd ps sp) (le : j ≤ k) (hr : Room k X.A) (hN : X.N[i]? = some x) (hv : Vis X.env.scope x) (hk : PySem.W.keepIn X.K (.ref f) = true) (hb : Binds X.K fd ps []) (tk : Takes X W) (ha : PA X (e :: es) t)
    (hdb : (x == ("__debug__" : Str)) = false := by decide) (hcd : (x == ("__classdict__" : Str)) = false := by decide)
    (he : starEach (e :: es) X.env = (false, eval e X.env) :: starEach es X.env := by rfl) (hpl : (backTo pos (starEach es X.env)).any (·.1) = false := by rfl) : PE X (.Call (.Name x p) (e :: es) [] pos) (tCallLS i f sp W t) := by
  refine ⟨fun pins s σ H Q I h => ?_⟩
  obtain ⟨hs, ht⟩ := h
  refine wpAny_Call_Name_kw (thn ((pe_var (pos := p) hN hv hdb hcd).run pins s σ H (fun v H1 => v = .ref f ∧ H1 = H) I ⟨.ref f, hs, rfl, rfl⟩) fun u s1 ⟨v, H1, I1, r1, q1⟩ => ?_)
  obtain ⟨rfl, rfl⟩ := q1
  cases r1
  refine PySem.W.callWith_K (h₀ := X.base) I.ok.mod.kin hk (thn (ha.run pos pins s1 σ _ _ I1 ht) fun us s2 ⟨vs, H2, I2, r, q⟩ => ⟨I2.kIn, ?_⟩) he hpl
  have q' : sp (vs ++ []) H2 Q (fun cls d H' => W cls d σ H') := by rw [List.append_nil]; exact q
  refine run_fnSD (E := fun σ cls d H' => W cls d σ H') (dvs := []) (ds := []) F (hr.mono le) hb .nil (fun pins H s e s' I c => ?_) I2 r q'
  exact tk e s' (XE.of_call I (fun _ _ _ h => h) c)
end
/-- which clause takes which error -/
structure ExM (K : PySem.W.Frag) (A B : Addr) : Prop where
  aa : PySem.W.exmOne K (.ref A) (.ref A) = some true
  ba : PySem.W.exmOne K (.ref B) (.ref A) = some false
  bb : PySem.W.exmOne K (.ref B) (.ref B) = some true
end KR
namespace KQ
open PySem PySem.Spec PyProof.Rows L2 KR KM StX
section
variable {P : Program} {w : World} {K : PySem.W.Frag} {mg : Str → Option Value} {base : Heap}
abbrev s_all_forms : Stmt := topS 19
theorem sc_all_forms : FnScope ["number"] ["number"] (defScope s_all_forms) := ⟨rfl, rfl, rfl, by decide +kernel, rfl, by decide +kernel, by decide +kernel⟩
def spAF : Sp := fun vs H Q _ => ∃ n : Nat, vs = [.int ((n + 1 : Nat) : Int)] ∧ n < 5 ∧ ∀ H' r us, Same H H' → H' r = some (.tup us) → FHs H' us (allF n) → Q (.ref r) H'
theorem ok_all_forms (D : DefAt K mg "all_forms" s_all_forms) (T : Bt mg) (c_MOST_LISTED_LEAVES : Cst mg "MOST_LISTED_LEAVES" 5) (u_is_integer_within : Use P w K mg base "is_integer_within" 2 ["value", "least", "most"] spIntW) (u_forms_with : Use P w K mg base "forms_with" 17 ["number", "choices"] spFW) : Use P w K mg base "all_forms" 18 ["number"] spAF := by
  refine use_of D (fun f fd F => F.ok sc_all_forms (fun vs H Q E h => ?_) (fun cdv A outer s H vs Q E hr h => ?_)) (fun _ _ _ _ _ _ us hl => match us, hl with | [_], _ => rfl)
  · obtain ⟨n, rfl, _⟩ := h
    rfl
  · obtain ⟨n, rfl, n5, q⟩ := h
    refine ⟨_, (pss_cons (ps_if (pt_not (pt_val (pe_use u_is_integer_within (by decide) hr (by rfl) (pa_cons (pv 0) (pa_cons pe_int (pa_cons (pe_cst (by rfl) c_MOST_LISTED_LEAVES) pa_nil)))))) (pss_one ps_never) pss_nil)
      (pss_one (ps_ret (pe_use u_forms_with (by decide) hr (by rfl) (pa_cons (pv 0) (pa_cons (pe_op op_rep (pe_lst (pa_cons (pe_tup (pa_cons pe_int (pa_cons pe_int pa_nil))) pa_nil)) (pe_op op_fdivW (pe_op op_mulW (pv 0) (pe_op op_sub (pv 0) pe_int)) pe_int)) pa_nil)))))), ?_⟩
    refine ⟨_, rfl, _, 1, 5, rfl, _, rfl, ?_⟩
    rw [decide_eq_true (show (1 : Int) ≤ ((n + 1 : Nat) : Int) ∧ ((n + 1 : Nat) : Int) ≤ 5 by omega)]
    refine ⟨_, rfl, by show 2 ≤ sizeLine; decide, fun t nt => ⟨by show 1 ≤ sizeLine; decide, fun l nl => ?_⟩⟩
    have st := same_new (H := H) (o := .tup [V.int 0, V.int 1]) nt
    have sl := same_new (H := upd H t (.tup [V.int 0, V.int 1])) (o := .lst [V.ref t]) nl
    refine ⟨_, rfl, _, rfl, _, _, rfl, rfl, _, _, rfl, rfl, wide_mul (a := 8) (b := 8) (by omega) (by omega) (by decide) (by decide) (by decide), _, _, rfl, rfl, wide_div (b := 4) (by decide) (by decide) (by decide) (by decide), ?_⟩
    have e2 : (((n + 1 : Nat) : Int) * (((n + 1 : Nat) : Int) - 1) / 2) = ((n * (n + 1) / 2 : Nat) : Int) := by
      match n, n5 with
      | 0, _ => rfl
      | 1, _ => rfl
      | 2, _ => rfl
      | 3, _ => rfl
      | 4, _ => rfl
    have small : n * (n + 1) / 2 ≤ 10 := by
      match n, n5 with
      | 0, _ => decide
      | 1, _ => decide
      | 2, _ => decide
      | 3, _ => decide
      | 4, _ => decide
    refine ⟨l, _, [V.ref t], rfl, rfl, upd_same, by omega, by omega, ?_, fun p np => ?_⟩
    · rw [e2, Int.toNat_natCast]
      exact Nat.le_of_lt (small_of (by show 1 * _ ≤ _; omega))
    · have sp := same_new (H := upd (upd H t (.tup [V.int 0, V.int 1])) l (.lst [V.ref t])) (o := .lst (List.replicate (((n + 1 : Nat) : Int) * (((n + 1 : Nat) : Int) - 1) / 2).toNat [V.ref t]).flatten) np
      refine ⟨n, n * (n + 1) / 2, p, t, rfl, n5, ?_, Nat.le_refl _, by omega, sp _ _ (sl _ _ upd_same), fun H' r us s' er fus => q H' r us (((st.trans sl).trans sp).trans s') er fus⟩
      rw [upd_same, e2, Int.toNat_natCast]
      generalize n * (n + 1) / 2 = k
      have : ∀ k : Nat, (List.replicate k [V.ref t]).flatten = List.replicate k (V.ref t) := fun k => by
        induction k with
        | zero => rfl
        | succ k ih => rw [List.replicate_succ, List.flatten_cons, ih]; rfl
      rw [this]
/-- a number that is refused -/
def spNumX (CN : Addr) (hi : Int) : Sp := fun vs H _ E => ∃ u, vs = [u] ∧ OddV H u ∧ inV u 1 hi = false ∧ ∀ H' d, Same H H' → H' d = some (.xd [("value", u)]) → E (.ref CN) (some d) H'
theorem ok_all_formsX {CN : Addr} (D : DefAt K mg "all_forms" s_all_forms) (T : Bt mg) (c_MOST_LISTED_LEAVES : Cst mg "MOST_LISTED_LEAVES" 5) (e_BadNumber : ErrC P w K mg base "BadNumber" CN "value") (u_is_integer_within : Use P w K mg base "is_integer_within" 2 ["value", "least", "most"] spIntWA) (u_forms_with : Use P w K mg base "forms_with" 17 ["number", "choices"] spFW) : UseX P w K mg base "all_forms" 18 ["number"] (spNumX CN 5) := by
  refine usex_of D (fun f fd F => okX F sc_all_forms (fun vs H Q E h => ?_) (fun cdv A outer s H vs Q E tk po hr h => ?_)) (fun _ _ _ _ _ _ us hl => match us, hl with | [_], _ => rfl)
  · obtain ⟨u, rfl, _⟩ := h
    rfl
  · obtain ⟨u, rfl, o, bad, q⟩ := h
    refine ⟨_, (pss_cons (ps_if (pt_not (pt_val (pe_use u_is_integer_within (by decide) hr (by rfl) (pa_cons (pv 0) (pa_cons pe_int (pa_cons (pe_cst (by rfl) c_MOST_LISTED_LEAVES) pa_nil)))))) (pss_one (ps_raise rfl tk (pmk_err e_BadNumber (hr.mono (by decide)) (by rfl) (pa_cons (pv 0) pa_nil)))) pss_nil)
      (pss_one (ps_ret (pe_use u_forms_with (by decide) hr (by rfl) (pa_cons (pv 0) (pa_cons (pe_op op_rep (pe_lst (pa_cons (pe_tup (pa_cons pe_int (pa_cons pe_int pa_nil))) pa_nil)) (pe_op op_fdivW (pe_op op_mulW (pv 0) (pe_op op_sub (pv 0) pe_int)) pe_int)) pa_nil)))))), ?_⟩
    refine ⟨_, rfl, u, 1, 5, rfl, o, _, rfl, ?_⟩
    rw [bad]
    exact ⟨_, rfl, u, rfl, q⟩
theorem ok_form_countX {CN : Addr} (D : DefAt K mg "form_count" s_form_count) (T : Bt mg) (z_comb : mg "comb" = some (.builtin "math.comb")) (c_MOST_LEAVES : Cst mg "MOST_LEAVES" 40) (e_BadNumber : ErrC P w K mg base "BadNumber" CN "value") (u_is_integer_within : Use P w K mg base "is_integer_within" 2 ["value", "least", "most"] spIntWA) : UseX P w K mg base "form_count" 18 ["number"] (spNumX CN 40) := by
  refine usex_of D (fun f fd F => okX F sc_form_count (fun vs H Q E h => ?_) (fun cdv A outer s H vs Q E tk po hr h => ?_)) (fun _ _ _ _ _ _ us hl => match us, hl with | [_], _ => rfl)
  · obtain ⟨u, rfl, _⟩ := h
    rfl
  · obtain ⟨u, rfl, o, bad, q⟩ := h
    refine ⟨_, (pss_cons (ps_if (pt_not (pt_val (pe_use u_is_integer_within (by decide) hr (by rfl) (pa_cons (pv 0) (pa_cons pe_int (pa_cons (pe_cst (by rfl) c_MOST_LEAVES) pa_nil)))))) (pss_one (ps_raise rfl tk (pmk_err e_BadNumber (hr.mono (by decide)) (by rfl) (pa_cons (pv 0) pa_nil)))) pss_nil)
      (pss_cons (ps_set (i := 1) sc_form_count.nd rfl (Or.inr rfl) (pe_lst (pa_cons pe_int (pa_cons pe_int pa_nil))))
      (pss_cons (ps_set (i := 2) sc_form_count.nd rfl (Or.inr rfl) (pe_lst (pa_cons pe_int (pa_cons pe_int pa_nil))))
      (pss_cons (ps_for po rfl (pi_range2 (by rfl) T.range (pa_cons pe_int (pa_cons (pe_op op_add (pv 0) pe_int) pa_nil))) (pg_name (i := 3) sc_form_count.nd rfl (Or.inr rfl))
      (pss_cons (ps_set (i := 4) sc_form_count.nd rfl (Or.inl rfl) (pe_callB (cr_sum rfl) (by rfl) T.sum (by decide +kernel) (pa_cons (pe_lc (own := [("size", 5)]) rfl sc_form_count.nd (pi_range2 (by rfl) T.range (pa_cons pe_int (pa_cons (pv 3) pa_nil))) (blkOk_by (N := ["number", "limbs", "rows", "doors", "many", "size"]) (sc := defScope s_form_count) (by decide +kernel)) (fun _ _ _ _ _ => (pg_name (i := 5) sc_form_count.nd rfl (Or.inl rfl))) (fun _ _ _ _ _ => pts_nil) (fun _ _ _ _ _ => (pe_op op_mulW (pe_op op_mulW (pe_callM cr_comb (by rfl) z_comb (pa_cons (pe_op op_sub (pv 3) pe_int) (pa_cons (pe_op op_sub (pv 5) pe_int) pa_nil))) (pe_ix (k_ixl (K := K) rfl) (pv 1) (pv 5) (fun _ _ => rfl))) (pe_ix (k_ixl (K := K) rfl) (pv 2) (pe_op op_sub (pv 3) (pv 5)) (fun _ _ => rfl))))) pa_nil)))
      (pss_cons (ps_expr (k_bm (K := K) rfl PySem.F.plainAttrs_list PySem.F.slot_list_append PySem.F.type_list_append mt_append (pv 1) (pa_cons (pv 4) pa_nil)))
      (pss_one (ps_expr (k_bm (K := K) rfl PySem.F.plainAttrs_list PySem.F.slot_list_append PySem.F.type_list_append mt_append (pv 2) (pa_cons (pe_op op_mulW pe_int (pv 4)) pa_nil)))))))
      (pss_one (ps_ret (pe_ix (k_ixl (K := K) rfl) (pv 2) (pv 0) (fun _ _ => rfl)))))))), ?_⟩
    refine ⟨_, rfl, u, 1, 40, rfl, o, _, rfl, ?_⟩
    rw [bad]
    exact ⟨_, rfl, u, rfl, q⟩
end
end KQ
/-! a def of the text called in a try's body -/
namespace KR
open PySem PySem.Spec PyProof.Rows L2
def tCallW (sp : Sp) (W : WX) (t : TA) : TE := fun σ H Q => t σ H fun vs H1 => sp vs H1 Q (fun cls d H' => W cls d σ H')
section
variable {X : Cx} {k j : Nat} {ps : List Str} {sp : Sp} {W : WX} {x : Str} {p pos : Pos} {e : Expr} {es : List Expr} {t : TA}
theorem pe_usexW (u : UseX X.prog X.w X.K X.mg X.base x j ps sp) (tk : Takes X W) (le : j ≤ k) (hr : Room k X.A) (hg : Gl X x) (ha : PA X (e :: es) t)
    (hdb : (x == ("__debug__" : Str)) = false := by decide) (he : starEach (e :: es) X.env = (false, eval e X.env) :: starEach es X.env := by rfl)
    (hpl : (backTo pos (starEach es X.env)).any (·.1) = false := by rfl) : PE X (.Call (.Name x p) (e :: es) [] pos) (tCallW sp W t) := by
  obtain ⟨f, fd, F, hm, kp, b⟩ := u
  refine ⟨fun pins s σ H Q I h => ?_⟩
  refine wpAny_Call_Name_kw (ld_glob I hg hm ?_ hdb)
  refine PySem.W.callWith_K (h₀ := X.base) I.ok.mod.kin kp (thn (ha.run pos pins s σ _ _ I h) fun us s2 ⟨vs, H2, I2, r, q⟩ => ⟨I2.kIn, ?_⟩) he hpl
  have q' : sp (vs ++ []) H2 Q (fun cls d H' => W cls d σ H') := by rw [List.append_nil]; exact q
  refine run_fnSD (E := fun σ cls d H' => W cls d σ H') (dvs := []) (ds := []) F (hr.mono le) b .nil (fun pins H s e s' I c => ?_) I2 r q'
  exact tk e s' (XE.of_call I (fun _ _ _ h => h) c)
end
end KR
namespace KQ
open PySem PySem.Spec PyProof.Rows L2 KR KM StX
section
variable {P : Program} {w : World} {K : PySem.W.Frag} {mg : Str → Option Value} {base : Heap}
abbrev s__law_refused : Stmt := topS 39
theorem sc__law_refused : FnScope ["call", "value", "told", "e"] ["call", "value"] (defScope s__law_refused) := ⟨rfl, rfl, rfl, by decide +kernel, rfl, by decide +kernel, by decide +kernel⟩
def spRef (mg : Str → Option Value) : Sp := fun vs H Q _ => ∃ (fx : Addr) (hi : Int) (u : V), vs = [.ref fx, u] ∧ ((mg "form_count" = some (.ref fx) ∧ hi = 40) ∨ (mg "all_forms" = some (.ref fx) ∧ hi = 5)) ∧ OddV H u ∧ inV u 1 hi = false ∧
  ∀ H' t, Same H H' → H' t = some (.tup [.str "number", u]) → Q (.ref t) H'
theorem ok_law_refused {CN : Addr} (D : DefAt K mg "_law_refused" s__law_refused) (T : Bt mg) (e_BadNumber : ErrC P w K mg base "BadNumber" CN "value") (ex : PySem.W.exmOne K (.ref CN) (.ref CN) = some true)
    (ux0 : UseX P w K mg base "form_count" 18 ["number"] (spNumX CN 40)) (ux1 : UseX P w K mg base "all_forms" 18 ["number"] (spNumX CN 5)) : Use P w K mg base "_law_refused" 19 ["call", "value"] (spRef mg) := by
  refine use_of D (fun f fd F => F.ok sc__law_refused (fun vs H Q E h => ?_) (fun cdv A outer s H vs Q E hr h => ?_)) (fun _ _ _ _ _ _ us hl => match us, hl with | [_, _], _ => rfl)
  · obtain ⟨fx, hi, u, rfl, _⟩ := h
    rfl
  · obtain ⟨fx, hi, u, rfl, which, o, bad, q⟩ := h
    obtain ⟨f0, fd0, F0, g0, k0, b0⟩ := ux0
    obtain ⟨f1, fd1, F1, g1, k1, b1⟩ := ux1
    obtain ⟨fdx, F_call, kp_call, b_call⟩ : ∃ fdx, FnOk P w K mg base (L2.CX P w) 18 fx fdx ["number"] (spNumX CN hi) ∧ PySem.W.keepIn K (.ref fx) = true ∧ Binds K fdx ["number"] [] := by
      rcases which with ⟨e, rfl⟩ | ⟨e, rfl⟩
      · cases g0.symm.trans e
        exact ⟨fd0, F0, k0, b0⟩
      · cases g1.symm.trans e
        exact ⟨fd1, F1, k1, b1⟩
    refine ⟨_, (pss_cons (ps_set (i := 2) sc__law_refused.nd rfl (Or.inl rfl) (pe_tup (pa_cons pe_str pa_nil)))
      (pss_cons (ps_try_manyA rfl rfl sc__law_refused.nd takes_none5 (fun W pn xe tk po => (pss_one (ps_expr (pe_callLS (i := 0) F_call (by decide) hr rfl (Or.inl rfl) kp_call b_call tk (pa_cons (pv 1) pa_nil))))) (HdsA.cons (i := 3) ⟨by rfl, by decide, .inl e_BadNumber.hm⟩ rfl rfl (fun a oe cls d pn hz hf => (pss_one (ps_set (i := 2) sc__law_refused.nd rfl (Or.inl rfl) (pe_tup (pa_cons pe_str (pa_cons (pe_xf e_BadNumber.xf e_BadNumber.nf hz hf (pv 3) rfl) pa_nil)))))) HdsA.nil))
      (pss_one (ps_ret (pv 2))))), ?_⟩
    refine ⟨by show 1 ≤ sizeLine; decide, fun z nz => ?_⟩
    have s2 := same_new (H := H) (o := .tup [V.str "none"]) nz
    refine ⟨rfl, _, rfl, u, rfl, o.mono s2, bad, fun H' d s' e => ?_⟩
    refine ⟨true, ex, fun _ a na => ?_, (fun z => by cases z)⟩
    refine ⟨_, rfl, rfl, rfl, d, _, u, rfl, e, rfl, by show 2 ≤ sizeLine; decide, fun t nt => ?_⟩
    exact ⟨_, rfl, q _ t ((s2.trans s').trans (same_new nt)) upd_same⟩
end
end KQ
namespace KQ
open PySem PySem.Spec PyProof.Rows L2 KR KM StX
section
variable {P : Program} {w : World} {K : PySem.W.Frag} {mg : Str → Option Value} {base : Heap}
theorem k_min {X : Cx} (hK : X.K = K) (hc : X.calm = true) : CallR X (.builtin "min") (rMin K) := by
  subst hK
  exact cr_min hc
abbrev s__law_plain : Stmt := topS 35
theorem sc__law_plain : FnScope ["form", "rows", "limbs", "found", "least", "n", "limb"] ["form"] (defScope s__law_plain) := ⟨rfl, rfl, rfl, by decide +kernel, rfl, by decide +kernel, by decide +kernel⟩
/-- a least door and a place -/
def PlaceV (H : Hp) (v : V) (q : Fm × Nat) : Prop := ∃ t, v = .ref t ∧ H t = some (.tup [.int (minD q.1), .int (q.2 : Int)])
theorem PlaceV.mono {H H' : Hp} {v : V} {q : Fm × Nat} (h : PlaceV H v q) (s : Same H H') : PlaceV H' v q := let ⟨t, a, b⟩ := h; ⟨t, a, s _ _ b⟩
theorem PlaceV.upd {H : Hp} {v : V} {q : Fm × Nat} {D : Addr} {xs : List V} {o : HO} (h : PlaceV H v q) (e : H D = some (.lst xs)) : PlaceV (L2.upd H D o) v q := by
  obtain ⟨t, a, b⟩ := h
  exact ⟨t, a, by rw [upd_ne (fun z => by rw [z, e] at b; cases b)]; exact b⟩
theorem places : ∀ {H : Hp} {us : List V} {qs : List (Fm × Nat)}, Rs PlaceV H us qs → ∃ zs : List (PU × (Fm × Nat)), us = zs.map (fun z => V.ref z.1.2.2) ∧ zs.map (·.2) = qs ∧ ∀ z ∈ zs, z.1.1 = minD z.2.1 ∧ z.1.2.1 = .int (z.2.2 : Int) ∧ H z.1.2.2 = some (.tup [.int z.1.1, z.1.2.1])
  | H, [], [], _ => ⟨[], rfl, rfl, fun z hz => by cases hz⟩
  | H, [], _ :: _, h => by cases h.1
  | H, _ :: _, [], h => by cases h.1
  | H, u :: us, q :: qs, h => by
    obtain ⟨zs, a, b, c⟩ := places (H := H) (us := us) (qs := qs) ⟨Nat.succ.inj h.1, fun i v hv => h.2 (i + 1) v hv⟩
    obtain ⟨q', e1, t, rfl, e3⟩ := h.2 0 u rfl
    obtain rfl : q = q' := Option.some.inj e1
    refine ⟨((minD q.1, .int (q.2 : Int), t), q) :: zs, by rw [List.map_cons, a], by rw [List.map_cons, b], fun z hz => ?_⟩
    rcases List.mem_cons.mp hz with rfl | hz
    · exact ⟨rfl, rfl, e3⟩
    · exact c z hz
def spPlain (k : Nat) : Sp := fun vs H Q _ => ∃ (v : V) (f : Fm), vs = [v] ∧ FH H v f ∧ f.deep < k ∧ f.doors.length ≤ 60 ∧ f.doors.Nodup ∧ ∀ H' v', Same H H' → FH H' v' (plainF f) → Q v' H'
theorem ok_law_plain (D : DefAt K mg "_law_plain" s__law_plain) (T : Bt mg) (u__law_is_door : Use P w K mg base "_law_is_door" 1 ["part"] spLeaf) (uL : ∀ k : Nat, Use P w K mg base "_law_leaves" (k + 1) ["form"] (spDoors k)) (uM : ∀ k : Nat, Use P w K mg base "_law_limbs" (k + 1) ["form", "word"] (spRaw k)) : ∀ k : Nat, Use P w K mg base "_law_plain" (k + 3) ["form"] (spPlain k) := by
  intro k
  induction k with
  | zero =>
    have u__law_leaves := uL 1
    have u__law_limbs := uM 1
    refine use_of D (fun f fd F => F.ok sc__law_plain (fun vs H Q E h => ?_) (fun cdv A outer s H vs Q E hr h => ?_)) (fun _ _ _ _ _ _ us hl => match us, hl with | [_], _ => rfl)
    · obtain ⟨v, f, rfl, _, dk, _⟩ := h
      rfl
    · obtain ⟨v, f, rfl, hf, dk, _⟩ := h
      exact absurd dk (Nat.not_lt_zero _)
  | succ k ih =>
    have u__law_plain := ih
    have u__law_leaves := uL (k + 1)
    have u__law_limbs := uM (k + 1)
    refine use_of D (fun f fd F => F.ok sc__law_plain (fun vs H Q E h => ?_) (fun cdv A outer s H vs Q E hr h => ?_)) (fun _ _ _ _ _ _ us hl => match us, hl with | [_], _ => rfl)
    · obtain ⟨v, f, rfl, _⟩ := h
      rfl
    · obtain ⟨v, f, rfl, hf, dk, sm, nd, q⟩ := h
      refine ⟨_, (pss_cons (ps_if (pt_val (pe_use u__law_is_door (by omega) hr (by rfl) (pa_cons (pv 0) pa_nil))) (pss_one (ps_ret (pv 0))) pss_nil)
      (pss_cons (ps_set (i := 1) sc__law_plain.nd rfl (Or.inl rfl) (pe_callB (cr_sortedPU (K := K) rfl) (by rfl) T.sorted (by decide +kernel) (pa_cons (pe_lc (own := [("n", 5), ("limb", 6)]) rfl sc__law_plain.nd (k_enum (K := K) rfl (by rfl) T.enumerate (pa_cons (pe_use u__law_limbs (by omega) hr (by rfl) (pa_cons (pv 0) (pa_cons (pe_ix (k_ixt (K := K) rfl) (pv 0) pe_int (fun _ _ => rfl)) pa_nil))) pa_nil)) (blkOk_by (N := ["form", "rows", "limbs", "found", "least", "n", "limb"]) (sc := defScope s__law_plain) (by decide +kernel)) (fun _ _ _ _ _ => (k_gtup (K := K) (n := 2) rfl rfl (pgs_cons (pg_name (i := 5) sc__law_plain.nd rfl (Or.inl rfl)) (pgs_cons (pg_name (i := 6) sc__law_plain.nd rfl (Or.inl rfl)) pgs_nil)))) (fun _ _ _ _ _ => pts_nil) (fun _ _ _ _ _ => (pe_tup (pa_cons (pe_callB (k_min (K := K) rfl rfl) (by rfl) T.min (by decide +kernel) (pa_cons (pe_use u__law_leaves (by omega) hr (by rfl) (pa_cons (pv 6) pa_nil)) pa_nil)) (pa_cons (pv 5) pa_nil))))) pa_nil)))
      (pss_cons (ps_set (i := 2) sc__law_plain.nd rfl (Or.inl rfl) (pe_use u__law_limbs (by omega) hr (by rfl) (pa_cons (pv 0) (pa_cons (pe_ix (k_ixt (K := K) rfl) (pv 0) pe_int (fun _ _ => rfl)) pa_nil))))
      (pss_cons (ps_set (i := 3) sc__law_plain.nd rfl (Or.inl rfl) (pe_use u__law_plain (by omega) hr (by rfl) (pa_cons (pe_ix (k_ixl (K := K) rfl) (pv 2) (pe_ix (k_ixt (K := K) rfl) (pe_ix (k_ixl (K := K) rfl) (pv 1) pe_int (fun _ _ => rfl)) pe_int (fun _ _ => rfl)) (fun _ _ => rfl)) pa_nil)))
      (pss_cons (ps_for PassesOwn.never rfl (k_list (K := K) rfl (pe_slice (k_sll (K := K) rfl) (pv 1) (po_some pe_int) po_none)) (pg_tup rfl (pgs_cons (pg_name (i := 4) sc__law_plain.nd rfl (Or.inl rfl)) (pgs_cons (pg_name (i := 5) sc__law_plain.nd rfl (Or.inl rfl)) pgs_nil)))
      (pss_one (ps_set (i := 3) sc__law_plain.nd rfl (Or.inl rfl) (pe_tup (pa_cons (pe_ix (k_ixt (K := K) rfl) (pv 0) pe_int (fun _ _ => rfl)) (pa_cons (pv 3) (pa_cons (pe_use u__law_plain (by omega) hr (by rfl) (pa_cons (pe_ix (k_ixl (K := K) rfl) (pv 2) (pv 5) (fun _ _ => rfl)) pa_nil)) pa_nil)))))))
      (pss_one (ps_ret (pv 3)))))))), ?_⟩
      cases hf with
      | d n =>
        refine ⟨_, rfl, _, _, rfl, .d n, _, rfl, ?_⟩
        refine iteT ?_
        exact ⟨_, rfl, q H _ (.refl H) (.d n)⟩
      | @t a w l r vl vr e hl hr2 =>
        have hv : FH H (.ref a) (.t w l r) := .t e hl hr2
        refine ⟨_, rfl, _, _, rfl, hv, _, rfl, ?_⟩
        refine iteF ?_
        refine ⟨_, rfl, _, rfl, a, _, 0, _, rfl, rfl, .inl (.inl e), rfl, .ref a, .t w l r, w, rfl, hv, dk, by omega, fun H1 l1 us t1 n1 e1 f1 => ?_⟩
        refine ⟨l1, _, rfl, sqL e1, fun G nG => ?_⟩
        obtain ⟨gs, hgs⟩ : ∃ gs, rawF w (.t w l r) = gs := ⟨_, rfl⟩
        have gl := raw_len w (.t w l r)
        have gdeep : ∀ g ∈ gs, g.deep < (Fm.t w l r).deep := fun g hg => raw_less (by rw [hgs]; exact hg)
        have gsub : ∀ g ∈ gs, g.doors.Sublist (Fm.t w l r).doors := fun g hg => raw_sub (w := w) (by rw [hgs]; exact hg)
        have gnd := raw_nodup (w := w) nd
        have pE := plain_raw w l r
        have gne : gs ≠ [] := fun z => by
          have := raw_doors w (.t w l r)
          rw [hgs, z] at this
          have h2 := doors_pos (.t w l r)
          rw [← this] at h2
          cases h2
        rw [hgs] at f1 gl gnd pE
        refine lc_enumL (K := K) (a := l1) (xs := us) (fun k H2 => Same H1 H2 ∧ ∃ xs, H2 G = some (.lst xs) ∧ Rs PlaceV H2 xs (gs.zipIdx.take k)) ⟨same_new nG, [], upd_same, .nil⟩ (fun k H2 _ ⟨s2, _⟩ => sqL (s2 _ _ e1)) ?_ ?_
        · rintro i v T1 H2 hk ⟨s2, xs, eG, rxs⟩ hT
          obtain ⟨g, hg, fg⟩ := f1.2 i v hk
          have gm := List.mem_of_getElem? hg
          have sT : Same H2 (upd H2 T1 (.tup [.int (i : Nat), v])) := same_new hT
          have lenI := (List.getElem?_eq_some_iff.mp hg).1
          refine ⟨T1, _, rfl, .inl (.inl upd_same), rfl, _, _, rfl, _, [], rfl, rfl, ?_⟩
          have sub := (gsub g gm).length_le
          have dp := gdeep g gm
          refine ⟨rfl, _, rfl, v, g, rfl, (fg.mono s2).mono sT, by omega, by omega, fun H3 l3 t3 n3 e3 => ?_⟩
          refine ⟨l3, _, rfl, sqL e3, doors_pos g, fun m hm le => ?_⟩
          obtain rfl : m = minD g := IsLeast.uniq ⟨hm, le⟩ (own_least g).2
          refine ⟨_, rfl, by show 2 ≤ sizeLine; decide, fun p np => ?_⟩
          have sp := same_new (H := H3) (o := .tup [V.int (minD g), V.int ((i : Nat) : Int)]) np
          have eG3 := sp _ _ (t3 _ _ (sT _ _ eG))
          have xl : xs.length ≤ 60 := by
            rw [rxs.1, List.length_take, List.length_zipIdx]
            omega
          refine ⟨xs, eG3, small_of (by omega), same_mut (((s2.trans sT).trans t3).trans sp) nG, _, upd_same, ?_⟩
          have hz : gs.zipIdx[i]? = some (g, i) := by
            rw [List.getElem?_zipIdx, hg]
            simp
          rw [take_snoc hz]
          exact (rxs.map fun v a k => (((k.mono sT).mono t3).mono sp).upd eG3).app (.one (PlaceV.upd ⟨p, rfl, upd_same⟩ eG3))
        · rintro H2 ⟨s2, xs, eG, rxs⟩
          rw [f1.1, show gs.zipIdx.take gs.length = gs.zipIdx from List.take_of_length_le (by rw [List.length_zipIdx]; exact Nat.le_refl _)] at rxs
          obtain ⟨zs, rfl, zq, zh⟩ := places rxs
          have nz : ((zs.map Prod.fst).map (·.1)).Nodup := by
            have : (zs.map Prod.fst).map (·.1) = (gs.map fun g => (minD g, plainF g)).map (·.1) := by
              have a1 : (zs.map Prod.fst).map (·.1) = zs.map fun z => minD z.2.1 := by
                rw [List.map_map]
                exact List.map_congr_left fun z hz => (zh z hz).1
              have a2 : zs.map (fun z => minD z.2.1) = (gs.zipIdx.map Prod.fst).map minD := by
                rw [← zq, List.map_map, List.map_map]
                rfl
              rw [a1, a2, show gs.zipIdx.map Prod.fst = gs by simp, List.map_map]
              rfl
            rw [this]
            exact gnd
          refine ⟨G, zs.map Prod.fst, rfl, sqL (by rw [eG, List.map_map]; rfl), (fun x hx => ?_), nz, fun ys S pm lt nS => ?_⟩
          · obtain ⟨z, hz, rfl⟩ := List.mem_map.mp hx
            exact .inl (.inl (zh z hz).2.2)
          obtain ⟨ws, wp, ew⟩ := perm_pull pm zs rfl
          have sS := same_new (H := H2) (o := .lst (ys.map fun x => V.ref x.2.2)) nS
          have eS := upd_same (H := H2) (a := S) (o := .lst (ys.map fun x => V.ref x.2.2))
          generalize upd H2 S (.lst (ys.map fun x => V.ref x.2.2)) = H3 at sS eS ⊢
          rw [ew, List.map_map] at eS
          have eS : H3 S = some (.lst (ws.map fun z => V.ref z.1.2.2)) := eS
          have wh : ∀ z ∈ ws, z.1.1 = minD z.2.1 ∧ z.1.2.1 = .int (z.2.2 : Int) ∧ H3 z.1.2.2 = some (.tup [.int z.1.1, z.1.2.1]) ∧ gs[z.2.2]? = some z.2.1 := fun z hz => by
            obtain ⟨b1, b2, b3⟩ := zh z (wp.mem_iff.mp hz)
            refine ⟨b1, b2, sS _ _ b3, ?_⟩
            have : z.2 ∈ gs.zipIdx := by
              rw [← zq]
              exact List.mem_map.mpr ⟨z, wp.mem_iff.mp hz, rfl⟩
            exact List.mem_zipIdx_iff_getElem?.mp this
          have msE : (ws.map fun z => (minD z.2.1, plainF z.2.1)) = sortF (gs.map fun g => (minD g, plainF g)) := by
            refine sortF_uniq ?_ ?_ gnd
            · have a1 : (ws.map fun z => (minD z.2.1, plainF z.2.1)).Perm (zs.map fun z => (minD z.2.1, plainF z.2.1)) := wp.map _
              refine a1.trans ?_
              have a2 : zs.map (fun z => (minD z.2.1, plainF z.2.1)) = (gs.zipIdx.map Prod.fst).map fun g => (minD g, plainF g) := by
                rw [← zq, List.map_map, List.map_map]
                rfl
              rw [a2, show gs.zipIdx.map Prod.fst = gs by simp]
            · rw [List.pairwise_map]
              rw [ew, List.pairwise_map] at lt
              refine lt.imp_of_mem fun {x y} hx hy h => ?_
              show minD x.2.1 < minD y.2.1
              rw [← (wh x hx).1, ← (wh y hy).1]
              exact h
          rw [← msE] at pE
          have wl : ws.length = gs.length := by
            rw [wp.length_eq]
            have := congrArg List.length zq
            rw [List.length_map, List.length_zipIdx] at this
            exact this
          have s03 := (t1.trans s2).trans sS
          match ws, wh, eS, wl, pE with
          | [], _, _, wl, _ => exact absurd (List.length_eq_zero_iff.mp wl.symm) gne
          | w0 :: wr, wh, eS, wl, pE =>
          refine ⟨_, rfl, _, rfl, a, _, 0, _, rfl, rfl, .inl (.inl (s03 _ _ e)), rfl, .ref a, .t w l r, w, rfl, hv.mono s03, dk, by omega, fun H4 l4 us4 t4 n4 e4 f4 => ?_⟩
          rw [hgs] at f4
          have eS4 := t4 _ _ eS
          have s04 := s03.trans t4
          obtain ⟨b1, b2, b3, b4⟩ := wh w0 List.mem_cons_self
          rw [b2] at b3
          obtain ⟨v0, hv0, fv0⟩ := f4.back b4
          have gm := List.mem_of_getElem? b4
          refine ⟨_, rfl, _, rfl, S, _, _, _, rfl, rfl, sqL eS4, atI_of (j := 0) rfl rfl, ?_⟩
          refine ⟨w0.1.2.2, _, 1, _, rfl, rfl, .inl (.inl (t4 _ _ b3)), rfl, ?_⟩
          refine ⟨l4, _, _, _, rfl, rfl, sqL e4, atI_of (j := w0.2.2) rfl hv0, ?_⟩
          refine ⟨v0, w0.2.1, rfl, fv0, by have := gdeep _ gm; omega, by have := (gsub _ gm).length_le; omega, (gsub _ gm).nodup nd, fun H5 v5 s5 f5 => ?_⟩
          have eS5 := s5 _ _ eS4
          refine ⟨_, rfl, 1, rfl, S, _, rfl, sqL eS5, fun C nC => ?_⟩
          have cE : cutV ((w0 :: wr).map fun z => V.ref z.1.2.2) (some 1) none = wr.map fun z => V.ref z.1.2.2 := by
            unfold cutV
            rw [HT.sIx_none]
            simp [HT.sIx, List.take_of_length_le]
          have eC := upd_same (H := H5) (a := C) (o := .lst (cutV ((w0 :: wr).map fun z => V.ref z.1.2.2) (some 1) none))
          have sC := same_new (H := H5) (o := .lst (cutV ((w0 :: wr).map fun z => V.ref z.1.2.2) (some 1) none)) nC
          refine ⟨C, rfl, ⟨_, sqL eC⟩, ?_⟩
          generalize upd H5 C (.lst (cutV ((w0 :: wr).map fun z => V.ref z.1.2.2) (some 1) none)) = H6 at eC sC ⊢
          rw [cE] at eC
          have s46 := s5.trans sC
          refine for_list (K := K) (a := C) (xs := wr.map fun z => V.ref z.1.2.2)
            (fun i σ H7 => ∃ (y4 y5 : Option V) (v : V), σ = [some (.ref a), some (.ref S), some (.ref l4), some v, y4, y5, none] ∧ Same H6 H7 ∧ FH H7 v (hung w (plainF w0.2.1) ((wr.take i).map fun z => (minD z.2.1, plainF z.2.1))))
            ⟨none, none, v5, rfl, .refl _, f5.mono sC⟩ (fun i σ H7 _ ⟨_, _, _, _, s7, _⟩ => sqL (s7 _ _ eC)) ?_ ?_
          · rintro i v σ H7 hi ⟨y4, y5, v7, rfl, s7, f7⟩
            obtain ⟨z, hz, rfl⟩ := map_at hi
            obtain ⟨c1, c2, c3, c4⟩ := wh z (List.mem_cons_of_mem _ (List.mem_of_getElem? hz))
            rw [c2] at c3
            obtain ⟨vz, hvz, fvz⟩ := f4.back c4
            have gz := List.mem_of_getElem? c4
            have s47 := s46.trans s7
            refine ⟨z.1.2.2, _, rfl, .inl (.inl (s47 _ _ (t4 _ _ c3))), rfl, ?_⟩
            refine ⟨_, _, rfl, _, [], rfl, rfl, ?_⟩
            refine ⟨_, rfl, a, _, 0, _, rfl, rfl, .inl (.inl (s47 _ _ (s04 _ _ e))), rfl, _, rfl, _, rfl, _, rfl, l4, _, _, _, rfl, rfl, sqL (s47 _ _ e4), atI_of (j := z.2.2) rfl hvz, ?_⟩
            refine ⟨vz, z.2.1, rfl, fvz.mono s47, by have := gdeep _ gz; omega, by have := (gsub _ gz).length_le; omega, (gsub _ gz).nodup nd, fun H8 v8 s8 f8 => ?_⟩
            refine ⟨by show 3 ≤ sizeLine; decide, fun p np => ?_⟩
            have sp := same_new (H := H8) (o := .tup [V.str (Fm.word w), v7, v8]) np
            refine ⟨_, _, _, rfl, (s7.trans s8).trans sp, ?_⟩
            rw [take_snoc hz, List.map_append]
            show FH _ _ (hung w _ (_ ++ [(minD z.2.1, plainF z.2.1)]))
            rw [hung_snoc]
            exact .t upd_same ((f7.mono s8).mono sp) (f8.mono sp)
          · rintro σ H7 ⟨y4, y5, v7, rfl, s7, f7⟩
            rw [List.length_map, List.take_length] at f7
            refine ⟨_, rfl, q H7 v7 ((s04.trans s46).trans s7) ?_⟩
            rw [pE]
            exact f7
end
end KQ
set_option exponentiation.threshold 400
namespace KQ
open PySem PySem.Spec PyProof.Rows L2 KR KM StX
abbrev rowD (xs : List Int) : PyData := .tuple (xs.map PyData.int)
theorem k_indexD {X : Cx} {K : PySem.W.Frag} (hK : X.K = K) (hu : X.A.units + 65 < cLine) : MtR X "list.index" (rIndexD K) := by
  subst hK
  exact mt_indexD hu
/-! ### data with a great number -/
structure Nw (k W : Nat) (d : PyData) : Prop where
  sh : d.showable = true
  nd : d.hasDict = false
  dp : d.depth ≤ k
  lf : d.leavesShort 40 = true
  wt : d.weight ≤ W
theorem Nw.le {k W k' W' : Nat} {d : PyData} (h : Nw k W d) (h1 : k ≤ k') (h2 : W ≤ W') : Nw k' W' d := ⟨h.sh, h.nd, Nat.le_trans h.dp h1, h.lf, Nat.le_trans h.wt h2⟩
theorem nw_int {i : Int} (h : i.natAbs < 10 ^ 38) : Nw 0 140 (.int i) := by
  have hlog : i.natAbs = 0 ∨ i.natAbs.log2 < 130 := by
    by_cases h0 : i.natAbs = 0
    · exact .inl h0
    · exact .inr ((Nat.log2_lt h0).2 (Nat.lt_of_lt_of_le h (by decide)))
  refine ⟨?_, rfl, Nat.le_refl _, ?_, ?_⟩
  · simp only [PyData.showable]
    refine decide_eq_true ?_
    rcases hlog with h0 | h0
    · rw [h0]
      decide
    · omega
  · simp only [PyData.leavesShort]
    refine decide_eq_true ?_
    have e := int_text_length_le10 (k := 38) (by decide) h
    show (Str.ofString (toString i)).length ≤ 40
    rw [PySem.ofString_length]
    omega
  · simp only [PyData.weight]
    split
    · omega
    · rename_i h1
      rcases hlog with h0 | h0
      · exact absurd (show (i == 0) = true from by rw [Int.natAbs_eq_zero.mp h0]; rfl) h1
      · omega
theorem nw_two {x : Str} {d : PyData} {W : Nat} (hx : (PyData.str x).leavesShort 40 = true) (hc : (PyData.str x).weight ≤ 20) (h : Nw 1 W d) : Nw 2 (22 + W) (.tuple [.str x, d]) := by
  refine ⟨?_, ?_, ?_, ?_, ?_⟩
  · simp only [PyData.showable, PyData.showableAll, h.sh]; rfl
  · simp only [PyData.hasDict, PyData.hasDictAll, h.nd]; rfl
  · have := h.dp
    simp only [PyData.depth, PyData.depthAll]
    omega
  · have : PyData.leavesShort 40 (.str x) = true := hx
    simp only [PyData.leavesShort] at this
    simp only [PyData.leavesShort, PyData.leavesShortAll, this, h.lf]; rfl
  · have := h.wt
    have hc : x.cps.size ≤ 20 := hc
    simp only [PyData.weight, PyData.weightAll]
    omega
theorem word_short (w : Bool) : (PyData.str (Fm.word w)).leavesShort 40 = true ∧ (PyData.str (Fm.word w)).weight ≤ 20 ∧ (PyData.str (Fm.word w)).showable = true := by
  cases w
  · exact ⟨by decide +kernel, by decide +kernel, by decide +kernel⟩
  · exact ⟨by decide +kernel, by decide +kernel, by decide +kernel⟩
theorem nw_fm : ∀ f : Fm, (∀ x ∈ f.doors, 0 ≤ x ∧ x < 6) → Nw f.deep (200 * f.doors.length - 50) f.data
  | .d n, h => by
    have := h n List.mem_cons_self
    exact (nw_int (by omega)).le (Nat.le_refl _) (show 140 ≤ 200 * 1 - 50 by decide)
  | .t w l r, h => by
    have a := nw_fm l fun x hx => h x (List.mem_append_left _ hx)
    have b := nw_fm r fun x hx => h x (List.mem_append_right _ hx)
    obtain ⟨hx, hc, hs⟩ := word_short w
    have dl : (Fm.t w l r).doors.length = l.doors.length + r.doors.length := List.length_append
    refine ⟨?_, ?_, ?_, ?_, ?_⟩
    · show PyData.showable (.tuple [.str (Fm.word w), l.data, r.data]) = true
      have hs : PyData.showable (.str (Fm.word w)) = true := hs
      simp only [PyData.showable] at hs
      simp only [PyData.showable, PyData.showableAll, a.sh, b.sh, hs]; rfl
    · show PyData.hasDict (.tuple [.str (Fm.word w), l.data, r.data]) = false
      simp only [PyData.hasDict, PyData.hasDictAll, a.nd, b.nd]; rfl
    · have := a.dp
      have := b.dp
      show PyData.depth (.tuple [.str (Fm.word w), l.data, r.data]) ≤ max l.deep r.deep + 1
      simp only [PyData.depth, PyData.depthAll]
      omega
    · show PyData.leavesShort 40 (.tuple [.str (Fm.word w), l.data, r.data]) = true
      have hx : PyData.leavesShort 40 (.str (Fm.word w)) = true := hx
      simp only [PyData.leavesShort] at hx
      simp only [PyData.leavesShort, PyData.leavesShortAll, a.lf, b.lf, hx]; rfl
    · have := a.wt
      have := b.wt
      have hc : (Fm.word w).cps.size ≤ 20 := hc
      show PyData.weight (.tuple [.str (Fm.word w), l.data, r.data]) ≤ _
      have p1 := doors_pos l
      have p2 := doors_pos r
      simp only [PyData.weight, PyData.weightAll]
      rw [dl]
      omega
theorem room0f {k : Nat} {A : Around} (r : Room k A) : A.units < cLine := by
  have := r.un
  omega
theorem lay_rowD : ∀ xss : List (List Int), PyData.canLayAll0 (xss.map rowD) = true
  | [] => rfl
  | xs :: r => by
    rw [List.map_cons]
    simp only [PyData.canLayAll0, PyData.canLay0, lay0, lay_rowD r, Bool.and_self]
theorem depth_rowD : ∀ xss : List (List Int), PyData.depthAll (xss.map rowD) ≤ 1
  | [] => Nat.zero_le _
  | xs :: r => by
    rw [List.map_cons]
    have := depth_rowD r
    simp only [PyData.depthAll, PyData.depth, depth0]
    omega
theorem shaped_rowL (xss : List (List Int)) : SeqAt.shaped (.list (xss.map rowD)) = true := by
  have h1 : PyData.canLay0 (.list (xss.map rowD)) = true := by simp only [PyData.canLay0, lay_rowD]
  have h2 : PyData.depth (.list (xss.map rowD)) ≤ 64 := by
    have := depth_rowD xss
    simp only [PyData.depth]
    omega
  exact Bool.and_eq_true_iff.mpr ⟨h1, decide_eq_true h2⟩
theorem shaped_row (ns : List Int) : SeqAt.shaped (rowD ns) = true := by
  unfold SeqAt.shaped
  simp only [PyData.canLay0, lay0, PyData.depth, depth0]
  rfl
theorem any_rowD (xss : List (List Int)) (x : List Int) : ((xss.map rowD).any fun z => PyData.eqv z (rowD x)) = decide (x ∈ xss) := by
  induction xss with
  | nil => rfl
  | cons y r ih =>
    rw [List.map_cons, List.any_cons, ih, show PyData.eqv (rowD y) (rowD x) = decide (y = x) from eqv_ints y x]
    by_cases e : y = x
    · subst e
      simp
    · have e2 : ¬ x = y := fun q => e q.symm
      simp [e, e2]
theorem eqv_row (x y : List Int) : PyData.eqv (rowD x) (rowD y) = decide (x = y) := by
  show PyData.eqvAll _ _ = _
  exact eqv_ints x y
section
variable {P : Program} {w : World} {K : PySem.W.Frag} {mg : Str → Option Value} {base : Heap}
theorem FnG.or {k : Nat} {f : Addr} {fd : FuncData} {ps : List Str} {sp sq : Sp} (a : FnG P w K mg base k f fd ps sp) (b : FnG P w K mg base k f fd ps sq) : FnG P w K mg base k f fd ps (fun vs H Q E => sp vs H Q E ∨ sq vs H Q E) :=
  ⟨fun vs H Q E h => h.elim (a.len vs H Q E) (b.len vs H Q E), fun A outer s H args us vs Q E hg hr he hb hv h => h.elim (a.run A outer s H args us vs Q E hg hr he hb hv) (b.run A outer s H args us vs Q E hg hr he hb hv)⟩
def spLikeW (K : PySem.W.Frag) : Sp := fun vs H Q _ => ∃ x y d, vs = [x, y] ∧ Dp K H x d ∧ Dp K H y d ∧ isDisplay d = true ∧ Nw 20 10000 d ∧ Q (.bl true) H
theorem fn_likeW (T : Bt mg) {f : Addr} {fd : FuncData} (F : Fun K "_law_like" "_law_like" s__law_like f fd) : FnG P w K mg base 1 f fd ["got", "due"] (spLikeW K) := by
  refine Fun.okG F sc__law_like (fun vs H Q E h => ?_) (fun cdv A outer s H vs Q E gd hr h => ?_)
  · obtain ⟨x, y, d, rfl, _⟩ := h
    rfl
  · obtain ⟨x, y, d, rfl, hx, hy, dis, nc, q⟩ := h
    refine ⟨_, (pss_one (ps_ret (pe_cmpR op_eq (pe_callB (k_repr (K := K) rfl gd hr.units) (by rfl) T.repr (by decide +kernel) (pa_cons (pv 0) pa_nil)) (pe_callB (k_repr (K := K) rfl gd hr.units) (by rfl) T.repr (by decide +kernel) (pa_cons (pv 1) pa_nil)) (nomark _)))), ?_⟩
    have hl : d.shown.length ≤ sizeLine := by
      have h := PyData.shown_le 40 (by decide) d nc.lf
      have h2 := nc.wt
      rw [sizeLine_eq]
      omega
    have dp : d.depth ≤ 30 := Nat.le_trans nc.dp (by decide)
    refine ⟨_, rfl, x, d, rfl, hx, dis, nc.sh, nc.nd, dp, hl, _, rfl, y, d, rfl, hy, dis, nc.sh, nc.nd, dp, hl, ?_⟩
    refine ⟨rfl, ?_⟩
    rw [decide_eq_true rfl]
    exact q
def spLikeN : Sp := fun vs H Q _ => ∃ i : Int, vs = [.int i, .int i] ∧ i.natAbs < 2 ^ 360 ∧ Q (.bl true) H
theorem fn_likeN (T : Bt mg) {f : Addr} {fd : FuncData} (F : Fun K "_law_like" "_law_like" s__law_like f fd) : FnG P w K mg base 1 f fd ["got", "due"] spLikeN := by
  refine Fun.okG F sc__law_like (fun vs H Q E h => ?_) (fun cdv A outer s H vs Q E gd hr h => ?_)
  · obtain ⟨n, rfl, _⟩ := h
    rfl
  · obtain ⟨n, rfl, hn, q⟩ := h
    have hlog : n.natAbs.log2 < 1920 := by
      by_cases h0 : n.natAbs = 0
      · rw [h0]
        decide
      · exact Nat.lt_of_lt_of_le ((Nat.log2_lt h0).2 hn) (by decide)
    refine ⟨_, (pss_one (ps_ret (pe_cmpR op_eq (pe_callB SkE.call_repr_int (by rfl) T.repr (by decide +kernel) (pa_cons (pv 0) pa_nil)) (pe_callB SkE.call_repr_int (by rfl) T.repr (by decide +kernel) (pa_cons (pv 1) pa_nil)) (nomark _)))), ?_⟩
    refine ⟨_, rfl, _, rfl, hlog, _, rfl, _, rfl, hlog, rfl, ?_⟩
    rw [decide_eq_true rfl]
    exact q
def spLikeF (K : PySem.W.Frag) : Sp := fun vs H Q E => spLikeW K vs H Q E ∨ spLikeN vs H Q E
theorem ok_likeF (D : DefAt K mg "_law_like" s__law_like) (T : Bt mg) : UseG P w K mg base "_law_like" 1 ["got", "due"] (spLikeF K) :=
  use_ofG D (fun f fd F => KQ.FnG.or (fn_likeW T F) (fn_likeN T F)) (fun _ _ _ _ _ _ us hl => match us, hl with | [_, _], _ => rfl)
/-- a form is like itself -/
theorem like_fm {H : Hp} {Q : VK} {E : XK} {v v' : V} {f : Fm} (a : FH H v f) (b : FH H v' f) (h : ∀ x ∈ f.doors, 0 ≤ x ∧ x < 6) (len : f.doors.length ≤ 6) (q : Q (.bl true) H) : spLikeF K [v, v'] H Q E := by
  cases f with
  | d n =>
    cases a
    cases b
    have := h n List.mem_cons_self
    exact .inr ⟨n, rfl, Nat.lt_of_lt_of_le (show n.natAbs < 2 ^ 3 by omega) (by decide), q⟩
  | t w l r =>
    have dp := (Fm.t w l r).deep_doors
    exact .inl ⟨v, v', (Fm.t w l r).data, rfl, a.dp, b.dp, rfl, (nw_fm _ h).le (by omega) (by omega), q⟩
end
end KQ
set_option exponentiation.threshold 400
namespace KQ
open PySem PySem.Spec PyProof.Rows L2 KR KM StX
theorem pe_globf {X : Cx} {x : Str} {f : Addr} {pos : Pos} (hg : Gl X x) (hm : X.mg x = some (.ref f)) (hd : (x == ("__debug__" : Str)) = false := by decide) : PE X (.Name x pos) (tC (.ref f)) := pe_glob hg hm rfl hd
section
variable {P : Program} {w : World} {K : PySem.W.Frag} {mg : Str → Option Value} {base : Heap}
theorem RowV.kept {H H' : Hp} {m c g : Addr} {b : Int} {v : V} {r : List Int} (h : RowV H v r) (ms : MS H m c g b) (k : Kept H H' m g) : RowV H' v r := by
  obtain ⟨cs, gs, n, hm, hc, hg, _⟩ := ms.ex
  obtain ⟨t, e, et⟩ := h
  exact ⟨t, e, k _ _ et (fun z => by rw [z, hm] at et; cases et) (fun z => by rw [z, hg] at et; cases et)⟩
theorem facts {n : Nat} (h : n < 5) {f : Fm} (p : f.doors.Perm (doorsN n)) : f.doors.Perm (doorsN n) ∧ f.doors.length = n + 1 ∧ (∀ x ∈ f.doors, 0 ≤ x ∧ x < 6) ∧ f.doors.Nodup :=
  ⟨p, by rw [p.length_eq, doorsN_len], fun x hx => by have := doorsN_mem.mp (p.mem_iff.mp hx); omega, p.nodup_iff.mpr (doorsN_nodup n)⟩
theorem rows_dp {H : Hp} : ∀ {ws : List V} {rs : List (List Int)}, Rs RowV H ws rs → DpAll K H ws (rs.map rowD)
  | [], [], _ => .nil
  | [], _ :: _, h => by cases h.1
  | _ :: _, [], h => by cases h.1
  | u :: us, r :: rs, h => by
    obtain ⟨g, e, t, rfl, et⟩ := h.2 0 u rfl
    cases e
    exact .cons (.tup (sqT et) (dpAll_ints _)) (rows_dp ⟨Nat.succ.inj h.1, fun i v e => h.2 (i + 1) v e⟩)
/-- odd things: what they are -/
theorem odd_in {H : Hp} {x : V} {y z hi : Int} {l t : Addr} (hx : x ∈ [V.int 0, V.int y, V.bl true, V.non, V.str "3", V.int z, V.ref l, V.ref t]) (el : H l = some (.lst [V.int 2])) (et : H t = some (.tup [V.int 3])) (y0 : y < 0) (y5 : -5 ≤ y) (h1 : hi < z) (h2 : z < 10 ^ 30) (h3 : 1 ≤ hi) :
    OddV H x ∧ inV x 1 hi = false ∧ ∃ d : PyData, Dp K H x d ∧ Nw 1 200 d := by
  have z38 : z.natAbs < 10 ^ 38 := by
    have e : (10 : Int) ^ 30 = 1000000000000000000000000000000 := by decide
    have e2 : (10 : Nat) ^ 38 = 100000000000000000000000000000000000000 := by decide
    rw [e] at h2
    rw [e2]
    omega
  simp only [List.mem_cons, List.mem_nil_iff, or_false] at hx
  rcases hx with rfl | rfl | rfl | rfl | rfl | rfl | rfl | rfl
  · exact ⟨.int _, decide_eq_false (show ¬ ((1 : Int) ≤ 0 ∧ (0 : Int) ≤ hi) by omega), .int 0, .int _, (nw_int (by decide)).le (by decide) (by decide)⟩
  · exact ⟨.int _, decide_eq_false (show ¬ (1 ≤ y ∧ y ≤ hi) by omega), .int y, .int _, (nw_int (Nat.lt_of_lt_of_le (show y.natAbs < 10 by omega) (by decide))).le (by decide) (by decide)⟩
  · exact ⟨.bl _, rfl, .bool true, .bl _, ⟨rfl, rfl, by decide, rfl, by decide⟩⟩
  · exact ⟨.non, rfl, .none, .non, ⟨rfl, rfl, by decide, rfl, by decide⟩⟩
  · exact ⟨.str _, rfl, .str "3", .str _, ⟨by decide +kernel, rfl, by decide, by decide +kernel, by decide +kernel⟩⟩
  · exact ⟨.int _, decide_eq_false (show ¬ (1 ≤ z ∧ z ≤ hi) by omega), .int z, .int _, (nw_int z38).le (by decide) (by decide)⟩
  · exact ⟨.lst el, rfl, .list [.int 2], .lst (sqL el) (.cons (.int _) .nil), ⟨by decide +kernel, by decide +kernel, by decide +kernel, by decide +kernel, by decide +kernel⟩⟩
  · exact ⟨.tup et, rfl, .tuple [.int 3], .tup (sqT et) (.cons (.int _) .nil), ⟨by decide +kernel, by decide +kernel, by decide +kernel, by decide +kernel, by decide +kernel⟩⟩
abbrev s_law : Stmt := topS 40
theorem sc_law : FnScope ["script", "m", "many", "few", "told", "webs", "form", "odd", "n"] ["script"] (defScope s_law) := ⟨rfl, rfl, rfl, by decide +kernel, rfl, by decide +kernel, by decide +kernel⟩
/-- what law calls -/
structure Calls (P : Program) (w : World) (K : PySem.W.Frag) (mg : Str → Option Value) (base : Heap) : Prop where
  begun : Use P w K mg base "_law_begun" 2 ["script"] (spBegun K)
  draw : Use P w K mg base "_law_draw" 2 ["m", "limit"] spDraw
  drawW : Use P w K mg base "_law_draw" 2 ["m", "limit"] spDrawW
  of : Use P w K mg base "_law_of" 3 ["m", "some"] spOfA
  like : UseG P w K mg base "_law_like" 1 ["got", "due"] (spLikeF K)
  count : Use P w K mg base "form_count" 3 ["number"] spFC
  counted : Use P w K mg base "_law_counted" 2 ["number"] spLC
  all : Use P w K mg base "all_forms" 18 ["number"] spAF
  isform : Use P w K mg base "_law_is_form" 2 ["value", "many"] spIsForm
  plain : Use P w K mg base "_law_plain" 8 ["form"] (spPlain 5)
  web : Use P w K mg base "_law_web" 7 ["form"] (spWeb 5)
  form : Use P w K mg base "_law_form" 4 ["m", "many"] spForm
  refused : Use P w K mg base "_law_refused" 19 ["call", "value"] (spRef mg)
  gc : ∃ f, mg "form_count" = some (.ref f)
  ga : ∃ f, mg "all_forms" = some (.ref f)
def spLaw (K : PySem.W.Frag) : Sp := fun vs H Q _ => ∃ (a : Addr) (ns : List Int), vs = [.ref a] ∧ SqL K H a (ns.map V.int) ∧ ns.length ≤ 63 ∧ ∀ H', Q (.bl true) H'
theorem fn_law {f : Addr} {fd : FuncData} (F : Fun K "law" "law" s_law f fd) (T : Bt mg) (X : Calls P w K mg base) : FnG P w K mg base 20 f fd ["script"] (spLaw K) := by
  have u__law_begun := X.begun
  have u__law_draw := X.draw
  have u__law_drawW := X.drawW
  have u__law_of := X.of
  have u__law_like := X.like
  have u_form_count := X.count
  have u__law_counted := X.counted
  have u_all_forms := X.all
  have u__law_is_form := X.isform
  have u__law_plain := X.plain
  have u__law_web := X.web
  have u__law_form := X.form
  have u__law_refused := X.refused
  obtain ⟨fc, g_form_count⟩ := X.gc
  obtain ⟨fa, g_all_forms⟩ := X.ga
  refine Fun.okG F sc_law (fun vs H Q E h => ?_) (fun cdv A outer s H vs Q E gd hr h => ?_)
  · obtain ⟨a, ns, rfl, _⟩ := h
    rfl
  · obtain ⟨a, ns, rfl, hs, hl, q⟩ := h
    refine ⟨_, (pss_cons (ps_set (i := 1) sc_law.nd rfl (Or.inl rfl) (pe_use u__law_begun (by decide) hr (by rfl) (pa_cons (pv 0) pa_nil)))
      (pss_cons (ps_par (i := 2) (j := 3) rfl sc_law.nd rfl rfl (by decide) rfl rfl (pa_cons (pe_op op_add pe_int (pe_use u__law_draw (by decide) hr (by rfl) (pa_cons (pv 1) (pa_cons pe_int pa_nil)))) (pa_cons (pe_callB (call_min2 rfl) (by rfl) T.min (by decide +kernel) (pa_cons pe_int (pa_cons (pe_op op_add pe_int (pe_use u__law_draw (by decide) hr (by rfl) (pa_cons (pv 1) (pa_cons pe_int pa_nil)))) pa_nil))) pa_nil)) (by rfl))
      (pss_cons (ps_if (pt_not (pt_val (pe_useG u__law_like gd (by decide) hr (by rfl) (pa_cons (pe_use u_form_count (by decide) hr (by rfl) (pa_cons (pv 2) pa_nil)) (pa_cons (pe_use u__law_counted (by decide) hr (by rfl) (pa_cons (pv 2) pa_nil)) pa_nil))))) (pss_one (ps_ret pe_bl)) pss_nil)
      (pss_cons (ps_set (i := 4) sc_law.nd rfl (Or.inl rfl) (pe_use u_all_forms (by decide) hr (by rfl) (pa_cons (pv 3) pa_nil)))
      (pss_cons (ps_if (PW.pt (pw_or (pt_not (pt_val (pe_callB (k_isi (K := K) rfl) (by rfl) T.isinstance (by decide +kernel) (pa_cons (pv 4) (pa_cons (pe_bltn (v := .ty "tuple") (by rfl) T.tuple (by decide +kernel) rfl) pa_nil))))) (pw_or1 (pt_cmpR op_ne (pe_callB (k_len (K := K) rfl) (by rfl) T.len PySem.boot_len (pa_cons (pv 4) pa_nil)) (pe_use u__law_counted (by decide) hr (by rfl) (pa_cons (pv 3) pa_nil)) (nomark _))))) (pss_one (ps_ret pe_bl)) pss_nil)
      (pss_cons (ps_set (i := 5) sc_law.nd rfl (Or.inr rfl) (pe_lst pa_nil))
      (pss_cons (ps_for PassesOwn.never rfl (k_tup (K := K) rfl (pv 4)) (pg_name (i := 6) sc_law.nd rfl (Or.inl rfl))
      (pss_cons (ps_if (PW.pt (pw_or (pt_not (pt_val (pe_use u__law_is_form (by decide) hr (by rfl) (pa_cons (pv 6) (pa_cons (pv 3) pa_nil))))) (pw_or1 (pt_not (pt_val (pe_useG u__law_like gd (by decide) hr (by rfl) (pa_cons (pv 6) (pa_cons (pe_use u__law_plain (by decide) hr (by rfl) (pa_cons (pv 6) pa_nil)) pa_nil)))))))) (pss_one (ps_ret pe_bl)) pss_nil)
      (pss_one (ps_expr (k_bm (K := K) rfl PySem.F.plainAttrs_list PySem.F.slot_list_append PySem.F.type_list_append mt_append (pv 5) (pa_cons (pe_use u__law_web (by decide) hr (by rfl) (pa_cons (pv 6) pa_nil)) pa_nil))))))
      (pss_cons (ps_if (pt_cmpR (k_neD (K := K) rfl hr.units) (pe_lc (own := [("n", 8)]) rfl sc_law.nd (pi_range2 (by rfl) T.range (pa_cons pe_int (pa_cons (pe_callB (k_len (K := K) rfl) (by rfl) T.len PySem.boot_len (pa_cons (pv 5) pa_nil)) pa_nil))) (blkOk_by (N := ["script", "m", "many", "few", "told", "webs", "form", "odd", "n"]) (sc := defScope s_law) (by decide +kernel)) (fun _ _ _ _ _ => (pg_name (i := 8) sc_law.nd rfl (Or.inl rfl))) (fun _ _ _ _ _ => (pts_one (pt_cmpR (k_geT (K := K) rfl (room0f hr)) (pe_ix (k_ixl (K := K) rfl) (pv 5) (pe_op op_sub (pv 8) pe_int) (fun _ _ => rfl)) (pe_ix (k_ixl (K := K) rfl) (pv 5) (pv 8) (fun _ _ => rfl)) (nomark _)))) (fun _ _ _ _ _ => (pv 8))) (pe_lst pa_nil) (nomark _)) (pss_one (ps_ret pe_bl)) pss_nil)
      (pss_cons (ps_set (i := 6) sc_law.nd rfl (Or.inl rfl) (pe_use u__law_form (by decide) hr (by rfl) (pa_cons (pv 1) (pa_cons (pv 3) pa_nil))))
      (pss_cons (ps_if (PW.pt (pw_or (pt_cmpR (k_notInD (K := K) rfl (room66f hr)) (pe_use u__law_web (by decide) hr (by rfl) (pa_cons (pv 6) pa_nil)) (pv 5) (by rfl)) (pw_or1 (pt_not (pt_val (pe_useG u__law_like gd (by decide) hr (by rfl) (pa_cons (pe_ix (k_ixt (K := K) rfl) (pv 4) (k_bm (K := K) rfl PySem.F.plainAttrs_list PySem.F.slot_list_index PySem.F.type_list_index (k_indexD (K := K) rfl (room66f hr)) (pv 5) (pa_cons (pe_use u__law_web (by decide) hr (by rfl) (pa_cons (pv 6) pa_nil)) pa_nil)) (fun _ _ => rfl)) (pa_cons (pe_use u__law_plain (by decide) hr (by rfl) (pa_cons (pv 6) pa_nil)) pa_nil)))))))) (pss_one (ps_ret pe_bl)) pss_nil)
      (pss_cons (ps_set (i := 7) sc_law.nd rfl (Or.inl rfl) (pe_use u__law_of (by decide) hr (by rfl) (pa_cons (pv 1) (pa_cons (pe_lst (pa_cons pe_int (pa_cons (pe_un un_neg pe_int) (pa_cons pe_bl (pa_cons pe_non (pa_cons pe_str (pa_cons (pe_op op_add pe_int (pe_use u__law_drawW (by decide) hr (by rfl) (pa_cons (pv 1) (pa_cons (pe_op op_pow pe_int pe_int) pa_nil)))) (pa_cons (pe_lst (pa_cons pe_int pa_nil)) (pa_cons (pe_tup (pa_cons pe_int pa_nil)) pa_nil))))))))) pa_nil))))
      (pss_cons (ps_if (pt_not (pt_val (pe_useG u__law_like gd (by decide) hr (by rfl) (pa_cons (pe_use u__law_refused (by decide) hr (by rfl) (pa_cons (pe_globf (by rfl) g_form_count) (pa_cons (pv 7) pa_nil))) (pa_cons (pe_tup (pa_cons pe_str (pa_cons (pv 7) pa_nil))) pa_nil))))) (pss_one (ps_ret pe_bl)) pss_nil)
      (pss_cons (ps_set (i := 7) sc_law.nd rfl (Or.inl rfl) (pe_use u__law_of (by decide) hr (by rfl) (pa_cons (pv 1) (pa_cons (pe_lst (pa_cons pe_int (pa_cons (pe_un un_neg pe_int) (pa_cons pe_bl (pa_cons pe_non (pa_cons pe_str (pa_cons (pe_op op_add pe_int (pe_use u__law_drawW (by decide) hr (by rfl) (pa_cons (pv 1) (pa_cons (pe_op op_pow pe_int pe_int) pa_nil)))) (pa_cons (pe_lst (pa_cons pe_int pa_nil)) (pa_cons (pe_tup (pa_cons pe_int pa_nil)) pa_nil))))))))) pa_nil))))
      (pss_one (ps_ret (pe_useG u__law_like gd (by decide) hr (by rfl) (pa_cons (pe_use u__law_refused (by decide) hr (by rfl) (pa_cons (pe_globf (by rfl) g_all_forms) (pa_cons (pv 7) pa_nil))) (pa_cons (pe_tup (pa_cons pe_str (pa_cons (pv 7) pa_nil))) pa_nil)))))))))))))))))), ?_⟩
    refine ⟨_, rfl, a, ns, rfl, hs, hl, fun H1 m c g ms1 => ?_⟩
    refine ⟨_, rfl, m, c, g, _, 40, rfl, ms1, by omega, by omega, by omega, fun H2 d1 k2 ms2 d10 d11 => ⟨1, d1, rfl, rfl, ?_⟩⟩
    refine ⟨_, rfl, m, c, g, _, 7, rfl, ms2, by omega, by omega, by omega, fun H3 d2 k3 ms3 d20 d21 => ⟨1, d2, rfl, rfl, 5, 1 + d2, rfl, ?_⟩⟩
    refine ⟨_, _, rfl, ?_⟩
    change tSeq _ _ _ [some (.ref a), some (.ref m), some (.int (1 + d1)), some (.int (if 1 + d2 < 5 then 1 + d2 else 5)), none, none, none, none, none] H3
    obtain ⟨N, hN, N1, N40⟩ : ∃ N : Nat, 1 + d1 = (N : Int) ∧ 1 ≤ N ∧ N ≤ 40 := ⟨(1 + d1).toNat, by omega, by omega, by omega⟩
    obtain ⟨n, hn, n5⟩ : ∃ n : Nat, (if 1 + d2 < 5 then 1 + d2 else 5) = ((n + 1 : Nat) : Int) ∧ n < 5 := by
      by_cases c : 1 + d2 < 5
      · rw [if_pos c]
        exact ⟨d2.toNat, by omega, by omega⟩
      · rw [if_neg c]
        exact ⟨4, by omega, by omega⟩
    rw [hN, hn]
    have ms3 := ms3.le (show _ ≤ (10 : Int) by omega)
    clear hN hn d10 d11 d20 d21 ms1 ms2 k2 k3
    refine ⟨_, rfl, N, rfl, N1, N40, fun H4 s4 => ?_⟩
    refine ⟨_, rfl, N, rfl, N1, N40, fun H5 s5 => ?_⟩
    have eN : (fcS (N - 1)).2.getD N 0 = lcR N := by
      have := same_sums ⟨N - 1, by omega⟩
      have e : N - 1 + 1 = N := by omega
      dsimp only at this
      rw [e] at this
      exact this
    have bN : (lcR N).natAbs < 2 ^ 360 := by
      rw [← eN]
      exact Nat.lt_of_lt_of_le (fcS_bound (i := N - 1) (j := N) (by omega)).2 (Nat.pow_le_pow_right (by decide) (by decide))
    refine .inr ⟨lcR N, by rw [eN]; rfl, bN, true, rfl, ?_⟩
    refine iteF ?_
    have ms5 := ms3.mono (s4.trans s5)
    clear eN bN
    refine ⟨_, rfl, n, rfl, n5, fun H6 r us s6 er fus => ?_⟩
    have ms6 := ms5.mono s6
    clear ms5 ms3 s4 s5 s6
    have lenA : (us.length : Int) = lcR (n + 1) := by
      rw [fus.1]
      exact as_many ⟨n, n5⟩
    refine ⟨_, rfl, _, _, _, _, true, rfl, .ty _, .base (.tup er), kit_ty (by decide +kernel), ?_⟩
    refine ⟨_, rfl, ?_⟩
    refine iteF ?_
    refine ⟨_, rfl, r, _, rfl, .inr (sqT er), _, rfl, n + 1, rfl, by omega, by omega, fun H7 s7 => ?_⟩
    refine ⟨rfl, false, congrArg V.bl (by rw [lenA, decide_eq_true rfl]; rfl), ?_⟩
    refine iteF ?_
    refine ⟨by show 0 ≤ sizeLine; decide, fun W nW => ?_⟩
    have sW := same_new (H := H7) (o := .lst []) nW
    have eW := upd_same (H := H7) (a := W) (o := .lst [])
    have s8 := s7.trans sW
    have er8 := s8 _ _ er
    have ms8 := ms6.mono s8
    have fus8 := fus.map fun v a k => k.mono s8
    have nW6 : H6 W = none := s7.free nW
    generalize upd H7 W (.lst []) = H8 at eW s8 er8 ms8 fus8
    refine ⟨_, rfl, r, rfl, ⟨_, sqT er8⟩, for_tup (K := K) (a := r) (xs := us)
      (fun i σ H9 => ∃ (y6 : Option V) (ws : List V), σ = [some (.ref a), some (.ref m), some (.int (N : Int)), some (.int ((n + 1 : Nat) : Int)), some (.ref r), some (.ref W), y6, none, none] ∧ Same H6 H9 ∧ H9 W = some (.lst ws) ∧ Rs RowV H9 ws ((websI n).take i))
      ⟨none, [], rfl, s8, eW, .nil⟩ (fun i σ H9 _ ⟨_, _, _, s9, _⟩ => sqT (s9 _ _ er)) ?_ ?_⟩
    · rintro i v σ H9 hi ⟨y6, ws, rfl, s9, eW, rws⟩
      obtain ⟨f, hf, fv⟩ := fus.2 i v hi
      have fm := List.mem_of_getElem? hf
      obtain ⟨pm, dl, rg, nd⟩ := facts n5 (allF_doors n f fm)
      have dp := f.deep_doors
      have fv9 := fv.mono s9
      refine ⟨_, rfl, _, rfl, v, f, n, rfl, fv9, pm, by omega, fun Ha sa => ⟨_, rfl, ?_⟩⟩
      refine iteF ?_
      refine ⟨_, rfl, _, rfl, v, f, rfl, fv9.mono sa, by omega, by omega, nd, fun Hb vb sb fb => ?_⟩
      rw [listed_plain n5 fm] at fb
      refine like_fm ((fv9.mono sa).mono sb) fb rg (by omega) ⟨_, rfl, ?_⟩
      refine iteF ?_
      have sab := sa.trans sb
      refine ⟨_, rfl, .inl ⟨rfl, _, sqL (sab _ _ eW)⟩, _, rfl, v, f, rfl, fv9.mono sab, by omega, by omega, rg, fun Hc t sc et => ?_⟩
      have sac := sab.trans sc
      have eWc := sac _ _ eW
      have wl : ws.length ≤ 472 := by
        have a1 := rws.1
        have a2 := allF_small n5
        have a3 : ((websI n).take i).length ≤ (websI n).length := List.length_take_le' _ _
        have a4 : (websI n).length = (allF n).length := by unfold websI; rw [List.length_map]
        omega
      refine ⟨W, _, _, rfl, rfl, eWc, small_of (by omega), ?_⟩
      refine ⟨_, ws ++ [.ref t], rfl, same_mut (s9.trans sac) nW6, upd_same, ?_⟩
      have hw : (websI n)[i]? = some (webI (n + 1) f) := by
        unfold websI
        rw [List.getElem?_map, hf]
        rfl
      rw [take_snoc hw]
      rw [dl] at et
      exact (rws.map fun v a k => (k.mono sac).upd eWc).app (.one (RowV.upd ⟨t, rfl, et⟩ eWc))
    · rintro σ H9 ⟨y6, ws, rfl, s9, eW, rws⟩
      have wn : (websI n).length = us.length := by
        unfold websI
        rw [List.length_map]
        exact fus.1.symm
      rw [← wn, List.take_length] at rws
      have er9 := s9 _ _ er
      have ms9 := ms6.mono s9
      have fus9 := fus.map fun v a k => k.mono s9
      have Wm := ms6.ne nW6
      have n472 : (websI n).length ≤ 472 := by
        have := allF_small n5
        unfold websI
        rw [List.length_map]
        exact this
      have wsl := rws.1
      refine ⟨_, rfl, W, _, rfl, .inl (sqL eW), 1, _, rfl, ⟨by decide, by decide, by omega, by omega⟩, fun M nM => ?_⟩
      refine lc_range (lo := 1) (fun k Hk => Same H9 Hk ∧ Hk M = some (.lst [])) ⟨same_new nM, upd_same⟩ ?_ ?_
      · rintro k Hk hk ⟨sk, eM⟩
        have kl : k + 1 < (websI n).length := by omega
        obtain ⟨ra, hra⟩ : ∃ ra, (websI n)[k]? = some ra := ⟨_, List.getElem?_eq_getElem (by omega)⟩
        obtain ⟨rb, hrb⟩ : ∃ rb, (websI n)[k + 1]? = some rb := ⟨_, List.getElem?_eq_getElem kl⟩
        obtain ⟨va, hva, ta, rfl, eta⟩ := rws.back hra
        obtain ⟨vb, hvb, tb, rfl, etb⟩ := rws.back hrb
        refine ⟨rfl, _, rfl, _, rfl, _, _, rfl, rfl, W, _, _, _, rfl, rfl, sqL (sk _ _ eW), atI_of (j := k) (by omega) hva, ?_⟩
        refine ⟨_, rfl, _, rfl, W, _, _, _, rfl, rfl, sqL (sk _ _ eW), atI_of (j := k + 1) (by omega) hvb, ?_⟩
        refine ⟨ta, tb, ra, rb, rfl, rfl, sqT (sk _ _ eta), sqT (sk _ _ etb), false, congrArg V.bl (asc_at (webs_asc n n5) hra hrb), ?_⟩
        refine iteF ?_
        exact ⟨sk, eM⟩
      rintro Ha ⟨sa, eM⟩
      refine ⟨by show 0 ≤ sizeLine; decide, fun e ne => ?_⟩
      have se := same_new (H := Ha) (o := .lst []) ne
      refine ⟨_, _, .lst (sqL (xs := []) (se _ _ eM)) .nil, .lst (sqL (xs := []) upd_same) .nil, rfl, rfl, false, rfl, ?_⟩
      refine iteF ?_
      have sb := sa.trans se
      generalize upd Ha e (.lst []) = Hb at sb se
      have msb := ms9.mono sb
      have erb := sb _ _ er9
      have eWb := sb _ _ eW
      have fusb := fus9.map fun v a k => k.mono sb
      have rwsb := rws.map fun v a k => k.mono sb
      clear fus9 rws er9 eM sa se ms9 fus8 ms8 er8 fus er
      refine ⟨_, rfl, _, rfl, m, c, g, _, n, rfl, msb, by omega, n5, fun Hc vf f kc msc ff pmf => ?_⟩
      obtain ⟨cs0, gs0, n0, hm0, hc0, hg0, _⟩ := msb.ex
      have erc := kc _ _ erb (fun z => by rw [z, hm0] at erb; cases erb) (fun z => by rw [z, hg0] at erb; cases erb)
      have eWc := kc _ _ eWb Wm.1 Wm.2.2
      have fusc := fusb.map fun v a (k : FH Hb v a) => k.kept msb kc
      have rwsc := rwsb.map fun v a (k : RowV Hb v a) => k.kept msb kc
      clear fusb rwsb erb eWb hm0 hc0 hg0 kc msb
      obtain ⟨pm, dl, rg, nd⟩ := facts n5 pmf
      have dp := f.deep_doors
      obtain ⟨i, hpl, hwi, nowi⟩ := web_listed n5 pmf
      have inw := List.mem_of_getElem? hwi
      refine ⟨_, rfl, vf, f, rfl, ff, by omega, by omega, rg, fun Hd td sd etd => ?_⟩
      rw [dl] at etd
      refine ⟨_, rfl, rowD (webI (n + 1) f), (websI n).map rowD, .tup (sqT etd) (dpAll_ints _), .lst (sqL (sd _ _ eWc)) (rows_dp (rwsc.map fun v a k => k.mono sd)), shaped_row _, shaped_rowL _, false, congrArg V.bl (by rw [any_rowD, decide_eq_true inw]; rfl), ?_⟩
      refine iteF ?_
      have eWd := sd _ _ eWc
      have rwsd := rwsc.map fun v a k => k.mono sd
      refine ⟨_, rfl, _, rfl, .inl ⟨rfl, _, sqL eWd⟩, _, rfl, vf, f, rfl, ff.mono sd, by omega, by omega, rg, fun He te se ete => ?_⟩
      rw [dl] at ete
      obtain ⟨vi, hvi, fvi⟩ := fusc.back hpl
      have sde := sd.trans se
      refine ⟨W, .ref te, rowD (webI (n + 1) f), (websI n).map rowD, i, rowD (webI (n + 1) f), rfl, rfl, .lst (sqL (se _ _ eWd)) (rows_dp (rwsd.map fun v a k => k.mono se)), .tup (sqT ete) (dpAll_ints _), shaped_rowL _, shaped_row _, ?_, ?_, ?_, ?_⟩
      · rw [List.getElem?_map, hwi]
        rfl
      · rw [eqv_row]
        exact decide_eq_true rfl
      · intro k z hk hz
        rw [List.getElem?_map] at hz
        cases hz2 : (websI n)[k]? with
        | none =>
          rw [hz2] at hz
          cases hz
        | some y =>
          rw [hz2] at hz
          cases hz
          rw [eqv_row]
          exact decide_eq_false (nowi k y hk hz2)
      refine ⟨r, _, _, _, rfl, rfl, sqT (sde _ _ erc), atI_of (j := i) rfl hvi, ?_⟩
      refine ⟨_, rfl, vf, f, rfl, ff.mono sde, by omega, by omega, nd, fun Hf vp sf fp => ?_⟩
      have rgp : ∀ x ∈ (plainF f).doors, 0 ≤ x ∧ x < 6 := fun x hx => rg x ((plain_doors f).mem_iff.mp hx)
      refine like_fm ((fvi.mono sde).mono sf) fp rgp (by rw [(plain_doors f).length_eq]; omega) ⟨_, rfl, ?_⟩
      refine iteF ?_
      have msf := (msc.mono sde).mono sf
      clear fvi hvi fp rgp rwsc rwsd eWc eWd erc fusc inw hpl hwi nowi etd ete sde msc ff
      refine ⟨_, rfl, 1, rfl, _, rfl, 10, 20, rfl, rfl, ⟨by decide, by decide, by decide⟩, m, c, g, _, _, rfl, msf, by omega, by decide +kernel, by decide +kernel, fun Hg d3 kg msg d30 d31 => ⟨41, d3, rfl, rfl, ?_⟩⟩
      have e20 : (10 : Int) ^ Int.toNat 20 = 100000000000000000000 := by decide +kernel
      rw [e20] at d31
      have zs : (41 : Int) + d3 < 10 ^ 30 := by
        rw [show (10 : Int) ^ 30 = 1000000000000000000000000000000 by decide]
        omega
      refine ⟨by show 1 ≤ sizeLine; decide, fun l1 nl1 => ⟨by show 1 ≤ sizeLine; decide, fun t1 nt1 => ⟨by show 8 ≤ sizeLine; decide, fun L1 nL1 => ?_⟩⟩⟩
      have a1 := same_new (H := Hg) (o := .lst [V.int 2]) nl1
      have a2 := same_new (H := upd Hg l1 (.lst [V.int 2])) (o := .tup [V.int 3]) nt1
      have nLg := (a1.trans a2).free nL1
      have a3 := same_new (H := upd (upd Hg l1 (.lst [V.int 2])) t1 (.tup [V.int 3])) (o := .lst [V.int 0, V.int (-1), V.bl true, V.non, V.str "3", V.int (41 + d3), V.ref l1, V.ref t1]) nL1
      have el := a3 _ _ (a2 _ _ (upd_same (H := Hg) (a := l1) (o := .lst [V.int 2])))
      have et := a3 _ _ (upd_same (H := upd Hg l1 (.lst [V.int 2])) (a := t1) (o := .tup [V.int 3]))
      have a4 := (a1.trans a2).trans a3
      have lm := msg.ne nl1
      have tm := msg.ne (a1.free nt1)
      have Lm := msg.ne nLg
      have msi := msg.mono a4
      refine ⟨m, c, g, _, L1, [V.int 0, V.int (-1), V.bl true, V.non, V.str "3", V.int (41 + d3), V.ref l1, V.ref t1], rfl, msi, by omega, upd_same, Lm.2.2, by simp, by show 8 ≤ 1000000; decide, fun Hi1 x1 ki1 msj1 hx1 => ?_⟩
      have el := ki1 _ _ el lm.1 lm.2.2
      have et := ki1 _ _ et tm.1 tm.2.2
      clear a1 a2 a3 a4 nl1 nt1 nL1 nLg lm tm Lm
      obtain ⟨odd, bad, _⟩ := odd_in (K := K) (hi := 40) hx1 el et (by decide) (by decide) (by omega) zs (by decide)
      refine ⟨_, rfl, fc, 40, x1, rfl, .inl ⟨g_form_count, rfl⟩, odd, bad, fun Hk tk sk etk => ?_⟩
      refine ⟨_, rfl, by show 2 ≤ sizeLine; decide, fun tn ntn => ?_⟩
      have sn := same_new (H := Hk) (o := .tup [V.str "number", x1]) ntn
      have skn := sk.trans sn
      obtain ⟨_, _, dat, dpx, nwx⟩ := odd_in (K := K) (hi := 40) hx1 (skn _ _ el) (skn _ _ et) (by decide) (by decide) (by omega) zs (by decide)
      refine .inl ⟨.ref tk, .ref tn, .tuple [.str "number", dat], rfl, .tup (sqT (sn _ _ etk)) (.cons (.str _) (.cons dpx .nil)), .tup (sqT upd_same) (.cons (.str _) (.cons dpx .nil)), rfl, (nw_two (by decide +kernel) (by decide +kernel) nwx).le (by decide) (by decide), true, rfl, ?_⟩
      refine iteF ?_
      have msk := msj1.mono skn
      clear el et odd bad sk sn skn dpx nwx etk msi msg
      refine ⟨_, rfl, 2, rfl, _, rfl, 10, 20, rfl, rfl, ⟨by decide, by decide, by decide⟩, m, c, g, _, _, rfl, msk, by omega, by decide +kernel, by decide +kernel, fun Hm d4 km msm d40 d41 => ⟨6, d4, rfl, rfl, ?_⟩⟩
      have e20 : (10 : Int) ^ Int.toNat 20 = 100000000000000000000 := by decide +kernel
      rw [e20] at d41
      have zs : (6 : Int) + d4 < 10 ^ 30 := by
        rw [show (10 : Int) ^ 30 = 1000000000000000000000000000000 by decide]
        omega
      refine ⟨by show 1 ≤ sizeLine; decide, fun l2 nl2 => ⟨by show 1 ≤ sizeLine; decide, fun t2 nt2 => ⟨by show 8 ≤ sizeLine; decide, fun L2 nL2 => ?_⟩⟩⟩
      have a1 := same_new (H := Hm) (o := .lst [V.int 2]) nl2
      have a2 := same_new (H := upd Hm l2 (.lst [V.int 2])) (o := .tup [V.int 3]) nt2
      have nLg := (a1.trans a2).free nL2
      have a3 := same_new (H := upd (upd Hm l2 (.lst [V.int 2])) t2 (.tup [V.int 3])) (o := .lst [V.int 0, V.int (-2), V.bl true, V.non, V.str "3", V.int (6 + d4), V.ref l2, V.ref t2]) nL2
      have el := a3 _ _ (a2 _ _ (upd_same (H := Hm) (a := l2) (o := .lst [V.int 2])))
      have et := a3 _ _ (upd_same (H := upd Hm l2 (.lst [V.int 2])) (a := t2) (o := .tup [V.int 3]))
      have a4 := (a1.trans a2).trans a3
      have lm := msm.ne nl2
      have tm := msm.ne (a1.free nt2)
      have Lm := msm.ne nLg
      have msi := msm.mono a4
      refine ⟨m, c, g, _, L2, [V.int 0, V.int (-2), V.bl true, V.non, V.str "3", V.int (6 + d4), V.ref l2, V.ref t2], rfl, msi, by omega, upd_same, Lm.2.2, by simp, by show 8 ≤ 1000000; decide, fun Hi2 x2 ki2 msj2 hx2 => ?_⟩
      have el := ki2 _ _ el lm.1 lm.2.2
      have et := ki2 _ _ et tm.1 tm.2.2
      clear a1 a2 a3 a4 nl2 nt2 nL2 nLg lm tm Lm
      obtain ⟨odd, bad, _⟩ := odd_in (K := K) (hi := 5) hx2 el et (by decide) (by decide) (by omega) zs (by decide)
      refine ⟨_, rfl, fa, 5, x2, rfl, .inr ⟨g_all_forms, rfl⟩, odd, bad, fun Hk tk sk etk => ?_⟩
      refine ⟨_, rfl, by show 2 ≤ sizeLine; decide, fun tn ntn => ?_⟩
      have sn := same_new (H := Hk) (o := .tup [V.str "number", x2]) ntn
      have skn := sk.trans sn
      obtain ⟨_, _, dat, dpx, nwx⟩ := odd_in (K := K) (hi := 5) hx2 (skn _ _ el) (skn _ _ et) (by decide) (by decide) (by omega) zs (by decide)
      refine .inl ⟨.ref tk, .ref tn, .tuple [.str "number", dat], rfl, .tup (sqT (sn _ _ etk)) (.cons (.str _) (.cons dpx .nil)), .tup (sqT upd_same) (.cons (.str _) (.cons dpx .nil)), rfl, (nw_two (by decide +kernel) (by decide +kernel) nwx).le (by decide) (by decide), q _⟩
end
end KQ
namespace KQ
open PySem PySem.Spec PyProof.Rows L2 KR
section
variable {P : Program} {w : World} {K : PySem.W.Frag} {mg : Str → Option Value} {h : Heap} {Goal : Prop}
/-- a def that the top has -/
theorem step_def {x : Str} {st : Stmt} {f : Addr} {oc : Value} {od an : Option Addr} {osl : Array (Option Value)} {kV doc pm cdv ct : Value} (X : K.In h) (G : h.Ns mainGlobals mg)
    (a : PySem.W.nsIn K mainGlobals x = some (some (.ref f))) (l : K.lookup f = some ⟨oc, od, .func (PySem.W.fnOf x x (defArgs st) (defBody st) (defScope st) .none kV doc pm an cdv ct), osl⟩)
    (c : PySem.W.codeIn K cdv x = true) (k : PySem.W.keepIn K (.ref f) = true) (n : DefAt K mg x st → Goal) : Goal :=
  n ⟨f, _, fun_mk (st := st) l c k, PySem.W.mg_of X G a⟩
theorem step_cst {x : Str} {v : Int} {t : Tok} (X : K.In h) (G : h.Ns mainGlobals mg) (a : PySem.W.nsIn K mainGlobals x = some (some (.int v t))) (n : Cst mg x v → Goal) : Goal := n ⟨t, PySem.W.mg_of X G a⟩
theorem step_none {x : Str} (X : K.In h) (G : h.Ns mainGlobals mg) (a : PySem.W.nsIn K mainGlobals x = some none) (n : mg x = none → Goal) : Goal := n (PySem.W.mg_none_of X G a)
theorem step_cls {x : Str} {C : Addr} (X : K.In h) (G : h.Ns mainGlobals mg) (aC : PySem.W.nsIn K mainGlobals x = some (some (.ref C))) (pg : PySem.W.plainGet K C Str.empty = true) (hd : PySem.W.hasDictIn K C = true)
    (po : PySem.W.plainOver K C = true) (sa : PySem.W.findIn K (.ref C) "__setattr__" = some (some (.builtin "object.__setattr__"))) (mk : PySem.W.makesIn K C = true) (kc : PySem.W.keepIn K (.ref C) = true)
    (n : Cls K C → mg x = some (.ref C) → PySem.W.makesIn K C = true → PySem.W.keepIn K (.ref C) = true → Goal) : Goal := n ⟨pg, hd, po, sa⟩ (PySem.W.mg_of X G aC) mk kc
theorem step_init {q : Str} {st : Stmt} {C f : Addr} {oc : Value} {od an : Option Addr} {osl : Array (Option Value)} {kV doc pm cdv ct : Value}
    (a : PySem.W.findIn K (.ref C) "__init__" = some (some (.ref f))) (i : PySem.W.isFn K (.ref f) = true) (l : K.lookup f = some ⟨oc, od, .func (PySem.W.fnOf "__init__" q (defArgs st) (defBody st) (defScope st) .none kV doc pm an cdv ct), osl⟩)
    (c : PySem.W.codeIn K cdv q = true) (k : PySem.W.keepIn K (.ref f) = true) (mk : PySem.W.makesIn K C = true) (kc : PySem.W.keepIn K (.ref C) = true) (n : IAt K C q st → Goal) : Goal :=
  n ⟨f, _, fun_mk (st := st) l c k, ⟨mk, a, i, kc⟩⟩
theorem step_meth {m q : Str} {st : Stmt} {C f : Addr} {oc : Value} {od an : Option Addr} {osl : Array (Option Value)} {kV doc pm cdv ct : Value}
    (_X : Cls K C) (a : PySem.W.findIn K (.ref C) m = some (some (.ref f))) (i : PySem.W.isFn K (.ref f) = true) (l : K.lookup f = some ⟨oc, od, .func (PySem.W.fnOf m q (defArgs st) (defBody st) (defScope st) .none kV doc pm an cdv ct), osl⟩)
    (c : PySem.W.codeIn K cdv q = true) (k : PySem.W.keepIn K (.ref f) = true) (n : MAt K C m q st → Goal) : Goal :=
  n ⟨f, _, fun_mk (st := st) l c k, ⟨a, i, k⟩⟩
theorem step_noattr {x : Str} {C : Addr} (_X : Cls K C) (a : PySem.W.findIn K (.ref C) x = some none) (n : NoAttr K C x → Goal) : Goal := n a
end
end KQ
/-! own errors of the text, told by the written part -/
namespace KQ
open PySem PySem.Spec PyProof.Rows L2 KR
structure ErrK (P : Program) (K : PySem.W.Frag) (mg : Str → Option Value) (x : Str) (C : Addr) (fld : Str) : Prop where
  T : OexC K C
  ini : ∃ fI fd p, (∀ (w : World) (base : Heap), FnOk P w K mg base CX0 1 fI fd ["self", p] (spIni C fld)) ∧ PySem.W.findIn K (.ref C) "__init__" = some (some (.ref fI)) ∧ PySem.W.typeIn K (.ref fI) = some (.type "function") ∧ Binds K fd ["self", p] []
  hm : mg x = some (.ref C)
  xf : XfC K C
  nf : PySem.W.findIn K (.ref C) fld = some none
theorem ErrK.err {P : Program} {w : World} {K : PySem.W.Frag} {mg : Str → Option Value} {base : Heap} {x fld : Str} {C : Addr} (e : ErrK P K mg x C fld) : ErrC P w K mg base x C fld :=
  ⟨e.T, let ⟨fI, fd, p, F, a, b, c⟩ := e.ini; ⟨fI, fd, p, F w base, a, b, c⟩, e.hm, e.xf, e.nf⟩
section
variable {P : Program} {K : PySem.W.Frag} {mg : Str → Option Value} {h : Heap} {Goal : Prop}
theorem step_err {f cc cda C : Addr} {name qual fld x msg cx : Str} {params : Arguments} {scope : Scope} {dV kV doc pm ct oc ccl cl : Value} {an od cdd cld : Option Addr} {osl ccs csl : Array (Option Value)} {vs0 : Array Value} {file : Str} {tf : Tok} {ar : Arg}
    {j : Nat} {p0 p1 p2 p3 p4 p5 q1 q2 q3 q4 : Pos} {nm q : Str} {N : Addr} {bs bm : List Value} {sn : List Str} {sub : List Value} {ab : Bool} {col : Option Bool} {dd : Option Addr} {k0 k1 k2 k3 k5 : Option Value} {pl : Sem Bool}
    (X : K.In h) (G : h.Ns mainGlobals mg) (hsm : mg "super" = none)
    (aC : PySem.W.nsIn K mainGlobals cx = some (some (.ref C)))
    (lC : K.lookup C = some (excClassObj nm q C N bs bm true sn sub ab col dd k0 k1 k2 k3 k5 "ValueError.__new__")) (rv : PySem.HandSPX.refsVE bm = true)
    (sa : PySem.W.findIn K (.ref C) "__setattr__" = some (some (.builtin "object.__setattr__"))) (exC : PySem.W.subIn K (.ref C) (.type "BaseException") = some true) (tyC : PySem.W.typeIn K (.ref C) = some (.type "type")) (kC : PySem.W.keepIn K (.ref C) = true)
    (iC : PySem.W.findIn K (.ref C) "__init__" = some (some (.ref f))) (tI : PySem.W.typeIn K (.ref f) = some (.type "function"))
    (lk : K.lookup f = some ⟨oc, od, .func (PySem.W.ksFn name qual params (iniBody msg fld x j p0 p1 p2 p3 p4 p5 q1 q2 q3 q4) scope dV kV doc pm an (.ref cda) ct cc), osl⟩)
    (hcd : PySem.W.codeIn K (.ref cda) qual = true) (hcode : K.lookup cda = some ⟨ccl, cdd, .fields vs0, ccs⟩) (hvs : vs0[2]? = some (.str file tf)) (hfile : ((P.main.file : Str) == file) = true)
    (htop : (P.main.scope.names.lookup ("super" : Str)).isSome = false) (hcell : K.lookup cc = some ⟨cl, cld, .cell (some (.ref C)), csl⟩)
    (hsup : PySem.W.ks_superIn K C C "__init__" = some (some (.builtin "ValueError.__init__"))) (hV : PySem.W.subIn K (.ref C) (.type "ValueError") = some true) (hmro : PySem.W.mroIn K C (.ref C) = some true)
    (hop : PySem.W.nsIn K cStatics "thirdparty.any" = some none) (hfa : PySem.W.findIn K (.ref C) fld = some none)
    (hp : (params.posonlyargs ++ params.args).head? = some ar) (har : ar.arg = "self") (hx : ¬ (x = "self")) (hxd : (x == ("__debug__" : Str)) = false) (hxc : (x == ("__classdict__" : Str)) = false)
    (hk : scope.kind = .function) (hco : scope.isCoroutine = false) (hgen : scope.isGenerator = false)
    (l1 : scope.names.lookup ("self" : Str) = some .local) (l2 : scope.names.lookup x = some .local) (l3 : scope.names.lookup ("__class__" : Str) = some .free) (l4 : scope.names.lookup ("super" : Str) = some .globalImplicit)
    (hev : ∀ L, eval (.Call (.Attribute (.Call (.Name "super" p0) [] [] p1) "__init__" p2) [.Constant (.str msg) j p3] [] p4) (PySem.W.ksEnv qual scope L f (.ref cda) cc) = (do
      let ov ← attributeBase (.Call (.Name "super" p0) [] [] p1) "__init__" (PySem.W.ksEnv qual scope L f (.ref cda) cc) (eval (.Call (.Name "super" p0) [] [] p1) (PySem.W.ksEnv qual scope L f (.ref cda) cc))
      standAt p2.atName
      let (fn, first) ← holding [ov] (getMethod ov "__init__" pl)
      callWith p4 fn first (backTo p4 (starEach [.Constant (.str msg) j p3] (PySem.W.ksEnv qual scope L f (.ref cda) cc))) []))
    (l5 : ∀ y ∈ scope.names, y.2 ≠ .cell) (l6 : ∀ y ∈ scope.names, y.2 = .free → y.1 = "__class__")
    (hb : ∀ us : List Value, us.length = 2 → bindArgs (PySem.W.ksFn name qual params (iniBody msg fld x j p0 p1 p2 p3 p4 p5 q1 q2 q3 q4) scope dV kV doc pm an (.ref cda) ct cc) ⟨us, []⟩ = pure ((["self", x] : List Str).zip us))
    (ga : PySem.W.findIn K (.ref C) "__getattribute__" = some (some (.builtin "BaseException.__getattribute__"))) (gg : PySem.W.findIn K (.ref C) "__getattr__" = some none) (hdC : PySem.W.hasDictIn K C = true)
    (n : ErrK P K mg cx C fld → Goal) : Goal :=
  have T : OexC K C := ⟨⟨nm, q, N, bs, bm, sn, sub, ab, col, dd, k0, k1, k2, k3, k5, lC, rv⟩, sa, exC, tyC, kC⟩
  n ⟨T, ⟨f, _, x, fun w base => fn_ini T lk hcd hcode hvs hfile htop hcell hsup hV hmro hop hsm hfa hp har hx hxd hxc hk hco hgen l1 l2 l3 l4 hev l5 l6, iC, tI, Binds.all hb⟩, PySem.W.mg_of X G aC, ⟨ga, gg, exC, hdC⟩, hfa⟩
theorem step_exm1 {x fx : Str} {A : Addr} (eA : ErrK P K mg x A fx) (h1 : PySem.W.subIn K (.ref A) (.ref A) = some true) (n : PySem.W.exmOne K (.ref A) (.ref A) = some true → Goal) : Goal :=
  n (PySem.W.exm_ref eA.xf.exC eA.xf.hdC eA.T.tyC h1)
/-- which clause takes which of two own errors -/
theorem step_exm {x y fx fy : Str} {A B : Addr} (eA : ErrK P K mg x A fx) (eB : ErrK P K mg y B fy) (h1 : PySem.W.subIn K (.ref A) (.ref A) = some true) (h2 : PySem.W.subIn K (.ref B) (.ref A) = some false) (h3 : PySem.W.subIn K (.ref B) (.ref B) = some true)
    (n : ExM K A B → Goal) : Goal :=
  n ⟨PySem.W.exm_ref eA.xf.exC eA.xf.hdC eA.T.tyC h1, PySem.W.exm_ref eA.xf.exC eA.xf.hdC eA.T.tyC h2, PySem.W.exm_ref eB.xf.exC eB.xf.hdC eB.T.tyC h3⟩
end
end KQ
namespace KQ
open PySem PySem.Spec PyProof.Rows L2 KR
/-- a function of a module that the top brings in by its name -/
theorem step_bi {K : PySem.W.Frag} {mg : Str → Option Value} {h : Heap} {Goal : Prop} {x : Str} {v : String} (X : K.In h) (G : h.Ns mainGlobals mg) (a : PySem.W.nsIn K mainGlobals x = some (some (.builtin v))) (n : mg x = some (.builtin v) → Goal) : Goal := n (PySem.W.mg_of X G a)
end KQ
namespace KQ
open PySem PySem.Spec PyProof.Rows L2 KR KM StX
section
variable {P : Program} {w : World} {K : PySem.W.Frag} {mg : Str → Option Value} {base : Heap}
structure Defs (K : PySem.W.Frag) (mg : Str → Option Value) : Prop where
  d_is_integer : DefAt K mg "is_integer" s_is_integer
  d_is_integer_within : DefAt K mg "is_integer_within" s_is_integer_within
  d_is_leaf : DefAt K mg "is_leaf" s_is_leaf
  d_doors_of : DefAt K mg "doors_of" s_doors_of
  d_bracketed : DefAt K mg "bracketed" s_bracketed
  d_limbs_of : DefAt K mg "limbs_of" s_limbs_of
  d_widened : DefAt K mg "widened" s_widened
  d_forms_with : DefAt K mg "forms_with" s_forms_with
  d_form_count : DefAt K mg "form_count" s_form_count
  d_all_forms : DefAt K mg "all_forms" s_all_forms
  d__law_mixed : DefAt K mg "_law_mixed" s__law_mixed
  d__law_folded : DefAt K mg "_law_folded" s__law_folded
  d__law_draw : DefAt K mg "_law_draw" s__law_draw
  d__law_begun : DefAt K mg "_law_begun" s__law_begun
  d__law_like : DefAt K mg "_law_like" s__law_like
  d__law_of : DefAt K mg "_law_of" s__law_of
  d__law_is_int : DefAt K mg "_law_is_int" s__law_is_int
  d__law_order : DefAt K mg "_law_order" s__law_order
  d__law_form : DefAt K mg "_law_form" s__law_form
  d__law_is_door : DefAt K mg "_law_is_door" s__law_is_door
  d__law_leaves : DefAt K mg "_law_leaves" s__law_leaves
  d__law_mates : DefAt K mg "_law_mates" s__law_mates
  d__law_web : DefAt K mg "_law_web" s__law_web
  d__law_limbs : DefAt K mg "_law_limbs" s__law_limbs
  d__law_plain : DefAt K mg "_law_plain" s__law_plain
  d__law_is_form : DefAt K mg "_law_is_form" s__law_is_form
  d__law_choose : DefAt K mg "_law_choose" s__law_choose
  d__law_counted : DefAt K mg "_law_counted" s__law_counted
  d__law_refused : DefAt K mg "_law_refused" s__law_refused
  c_MOST_LEAVES : Cst mg "MOST_LEAVES" 40
  c_MOST_LISTED_LEAVES : Cst mg "MOST_LISTED_LEAVES" 5
theorem calls {CN : Addr} (D : Defs K mg) (T : Bt mg) (eN : ErrK P K mg "BadNumber" CN "value") (X : PySem.W.exmOne K (.ref CN) (.ref CN) = some true) (z_comb : mg "comb" = some (.builtin "math.comb")) (z_str : mg "str" = none) : Calls P w K mg base := by
  have eN := eN.err (w := w) (base := base)
  have u_is_integer := ok_is_integer (P := P) (w := w) (base := base) D.d_is_integer T
  have u_iw := ok_is_integer_within D.d_is_integer_within T u_is_integer
  have u_isA := ok_is_integerA (P := P) (w := w) (base := base) D.d_is_integer T
  have u_iwA := ok_is_integer_withinA D.d_is_integer_within T u_isA
  have u_leaf := ok_leaf (P := P) (w := w) (base := base) D.d_is_leaf T
  have u_doors := ok_doors D.d_doors_of T u_leaf
  have u_br := ok_bracketed (P := P) (w := w) (base := base) D.d_bracketed T
  have u_limbs := ok_limbs D.d_limbs_of T u_leaf u_br
  have u_wide := ok_widened D.d_widened T (u_doors 5) (u_limbs 9) u_br
  have u_fw := ok_forms_with D.d_forms_with T (u_wide 4)
  have u_all := ok_all_forms D.d_all_forms T D.c_MOST_LISTED_LEAVES u_iw u_fw
  have ux_all := ok_all_formsX D.d_all_forms T D.c_MOST_LISTED_LEAVES eN u_iwA u_fw
  have u_count := ok_form_count D.d_form_count T z_comb D.c_MOST_LEAVES u_iw
  have ux_count := ok_form_countX D.d_form_count T z_comb D.c_MOST_LEAVES eN u_iwA
  have u_mixed := ok_mixed (P := P) (w := w) (base := base) D.d__law_mixed T
  have u_draw := ok_draw D.d__law_draw T u_mixed
  have u_drawW := ok_drawW D.d__law_draw T u_mixed
  have u_folded := ok_folded (P := P) (w := w) (base := base) D.d__law_folded T
  have u_of := ok_ofA D.d__law_of T u_draw
  have u_order := ok_order D.d__law_order T u_draw
  have u_isint := ok_law_is_int (P := P) (w := w) (base := base) D.d__law_is_int T
  have u_door := ok_law_door (P := P) (w := w) (base := base) D.d__law_is_door T
  have u_leaves := ok_law_leaves D.d__law_leaves T u_door
  have u_raw := ok_law_limbs D.d__law_limbs T u_door
  have u_plain := ok_law_plain D.d__law_plain T u_door u_leaves u_raw
  have u_mates := ok_law_mates D.d__law_mates T u_door
  have u_web := ok_law_web D.d__law_web T (u_mates 5)
  have u_choose := ok_law_choose (P := P) (w := w) (base := base) D.d__law_choose T
  have u_counted := ok_law_counted D.d__law_counted T u_choose
  have u_like := ok_likeF (P := P) (w := w) (base := base) D.d__law_like T
  have u_form := ok_law_form D.d__law_form T u_draw u_of u_order
  have u_isform := ok_law_is_form D.d__law_is_form T z_str u_isint
  have u_refused := ok_law_refused D.d__law_refused T eN X ux_count ux_all
  obtain ⟨f0, _, _, g0, _⟩ := ux_count
  obtain ⟨f1, _, _, g1, _⟩ := ux_all
  exact ⟨ok_begun D.d__law_begun T u_folded, u_draw, u_drawW, u_of, u_like, u_count, u_counted, u_all, u_isform, u_plain 5, u_web, u_form, u_refused, ⟨f0, g0⟩, ⟨f1, g1⟩⟩
theorem finish {l : PySem.W.OpenLaw} {fa : Addr} {CN : Addr} (hfa : mg "law" = some (.ref fa)) (DL : DefAt K mg "law" s_law) (D : Defs K mg) (T : Bt mg) (eN : ErrK l.prog K mg "BadNumber" CN "value") (X : PySem.W.exmOne K (.ref CN) (.ref CN) = some true) (z_comb : mg "comb" = some (.builtin "math.comb")) (z_str : mg "str" = none) :
    ∃ fd : FuncData, (∀ (s : Shared) (u : Value), BindsTo s fd ⟨[u], []⟩ [("script", u)]) ∧ ∀ base : Heap, K.In base → base.Ns mainGlobals mg → FnG l.prog w K mg base 20 fa fd ["script"] (spLaw K) := by
  obtain ⟨f, fd, F, hm⟩ := DL
  have e := hfa.symm.trans hm
  cases e
  have F' := F
  obtain ⟨oc, od, kV, doc, pm, an, cdv, ct, osl, rfl, lk, hcd⟩ := F'.ex
  exact ⟨_, fun s v => .of_eq rfl, fun base _ _ => fn_law F T (calls D T eN X z_comb z_str)⟩
theorem walk {l : PySem.W.OpenLaw} {q : Program} {loose : List Str} {XP : (Str → Option Value) → Heap → Prop} {YP : World → Heap → Prop} {d : DefRec} {K : Params → PySem.W.Frag} (hn : l.most = some 63) (hdf : d.params.defaults = [])
    (hY : ∀ (w : World) (h : Heap), YP w h → (K w.params).In h)
    (F : ∀ (w : World) (mg : Str → Option Value) (fa : Addr) (h : Heap), (K w.params).In h → h.Ns mainGlobals mg → mg d.name = some (.ref fa) →
      ∃ fd : FuncData, (∀ (s : Shared) (u : Value), BindsTo s fd ⟨[u], []⟩ [("script", u)]) ∧ ∀ base : Heap, (K w.params).In base → base.Ns mainGlobals mg → FnG l.prog w (K w.params) mg base 20 fa fd ["script"] (spLaw (K w.params))) :
    PySem.W.WalkO q loose XP YP l.row.toRowW d [] (fun f vs => PySem.call f vs) :=
  KR.walk_ofG (n := 63) (k := 20) (x := "script") (sp := fun w => spLaw (K w.params)) hn (by decide) hdf ⟨rfl, by decide, by decide⟩ hY F (fun _ _ a ns hl _ hS => ⟨a, ns, rfl, hS, hl, fun _ => rfl⟩)
end
end KQ
open PySem PySem.W PyProof.Rows
set_option maxRecDepth 100000 in
set_option maxHeartbeats 0 in
theorem PySem.Challenge.cw_fittingdoors_k37_forms_counted_and_liste_holds : PySem.Challenge.rw_fittingdoors_k37_forms_counted_and_liste.Holds := by
  w_on; o_law; k_head; (case hw => w_witness2)
  k_fill
  refine KQ.walk (l := PySem.Challenge.rw_fittingdoors_k37_forms_counted_and_liste) rfl rfl (fun w h Y => PySem.W.kIn_of Y) ?F
  case F =>
    intro w mg fa h KX G hmg
    refine' KQ.step_def (x := "is_integer") (st := KQ.s_is_integer) KX G ?a1 ?l1 ?c1 ?k1 ?n1
    (case a1 => k_is); (case l1 => k_is); (case c1 => k_is); (case k1 => k_is)
    intro d_is_integer
    refine' KQ.step_def (x := "is_integer_within") (st := KQ.s_is_integer_within) KX G ?a2 ?l2 ?c2 ?k2 ?n2
    (case a2 => k_is); (case l2 => k_is); (case c2 => k_is); (case k2 => k_is)
    intro d_is_integer_within
    refine' KQ.step_def (x := "is_leaf") (st := KQ.s_is_leaf) KX G ?a3 ?l3 ?c3 ?k3 ?n3
    (case a3 => k_is); (case l3 => k_is); (case c3 => k_is); (case k3 => k_is)
    intro d_is_leaf
    refine' KQ.step_def (x := "doors_of") (st := KQ.s_doors_of) KX G ?a4 ?l4 ?c4 ?k4 ?n4
    (case a4 => k_is); (case l4 => k_is); (case c4 => k_is); (case k4 => k_is)
    intro d_doors_of
    refine' KQ.step_def (x := "bracketed") (st := KQ.s_bracketed) KX G ?a5 ?l5 ?c5 ?k5 ?n5
    (case a5 => k_is); (case l5 => k_is); (case c5 => k_is); (case k5 => k_is)
    intro d_bracketed
    refine' KQ.step_def (x := "limbs_of") (st := KQ.s_limbs_of) KX G ?a6 ?l6 ?c6 ?k6 ?n6
    (case a6 => k_is); (case l6 => k_is); (case c6 => k_is); (case k6 => k_is)
    intro d_limbs_of
    refine' KQ.step_def (x := "widened") (st := KQ.s_widened) KX G ?a7 ?l7 ?c7 ?k7 ?n7
    (case a7 => k_is); (case l7 => k_is); (case c7 => k_is); (case k7 => k_is)
    intro d_widened
    refine' KQ.step_def (x := "forms_with") (st := KQ.s_forms_with) KX G ?a8 ?l8 ?c8 ?k8 ?n8
    (case a8 => k_is); (case l8 => k_is); (case c8 => k_is); (case k8 => k_is)
    intro d_forms_with
    refine' KQ.step_def (x := "form_count") (st := KQ.s_form_count) KX G ?a9 ?l9 ?c9 ?k9 ?n9
    (case a9 => k_is); (case l9 => k_is); (case c9 => k_is); (case k9 => k_is)
    intro d_form_count
    refine' KQ.step_def (x := "all_forms") (st := KQ.s_all_forms) KX G ?a10 ?l10 ?c10 ?k10 ?n10
    (case a10 => k_is); (case l10 => k_is); (case c10 => k_is); (case k10 => k_is)
    intro d_all_forms
    refine' KQ.step_def (x := "_law_mixed") (st := KQ.s__law_mixed) KX G ?a11 ?l11 ?c11 ?k11 ?n11
    (case a11 => k_is); (case l11 => k_is); (case c11 => k_is); (case k11 => k_is)
    intro d__law_mixed
    refine' KQ.step_def (x := "_law_folded") (st := KQ.s__law_folded) KX G ?a12 ?l12 ?c12 ?k12 ?n12
    (case a12 => k_is); (case l12 => k_is); (case c12 => k_is); (case k12 => k_is)
    intro d__law_folded
    refine' KQ.step_def (x := "_law_draw") (st := KQ.s__law_draw) KX G ?a13 ?l13 ?c13 ?k13 ?n13
    (case a13 => k_is); (case l13 => k_is); (case c13 => k_is); (case k13 => k_is)
    intro d__law_draw
    refine' KQ.step_def (x := "_law_begun") (st := KQ.s__law_begun) KX G ?a14 ?l14 ?c14 ?k14 ?n14
    (case a14 => k_is); (case l14 => k_is); (case c14 => k_is); (case k14 => k_is)
    intro d__law_begun
    refine' KQ.step_def (x := "_law_like") (st := KQ.s__law_like) KX G ?a15 ?l15 ?c15 ?k15 ?n15
    (case a15 => k_is); (case l15 => k_is); (case c15 => k_is); (case k15 => k_is)
    intro d__law_like
    refine' KQ.step_def (x := "_law_of") (st := KQ.s__law_of) KX G ?a16 ?l16 ?c16 ?k16 ?n16
    (case a16 => k_is); (case l16 => k_is); (case c16 => k_is); (case k16 => k_is)
    intro d__law_of
    refine' KQ.step_def (x := "_law_is_int") (st := KQ.s__law_is_int) KX G ?a17 ?l17 ?c17 ?k17 ?n17
    (case a17 => k_is); (case l17 => k_is); (case c17 => k_is); (case k17 => k_is)
    intro d__law_is_int
    refine' KQ.step_def (x := "_law_order") (st := KQ.s__law_order) KX G ?a18 ?l18 ?c18 ?k18 ?n18
    (case a18 => k_is); (case l18 => k_is); (case c18 => k_is); (case k18 => k_is)
    intro d__law_order
    refine' KQ.step_def (x := "_law_form") (st := KQ.s__law_form) KX G ?a19 ?l19 ?c19 ?k19 ?n19
    (case a19 => k_is); (case l19 => k_is); (case c19 => k_is); (case k19 => k_is)
    intro d__law_form
    refine' KQ.step_def (x := "_law_is_door") (st := KQ.s__law_is_door) KX G ?a20 ?l20 ?c20 ?k20 ?n20
    (case a20 => k_is); (case l20 => k_is); (case c20 => k_is); (case k20 => k_is)
    intro d__law_is_door
    refine' KQ.step_def (x := "_law_leaves") (st := KQ.s__law_leaves) KX G ?a21 ?l21 ?c21 ?k21 ?n21
    (case a21 => k_is); (case l21 => k_is); (case c21 => k_is); (case k21 => k_is)
    intro d__law_leaves
    refine' KQ.step_def (x := "_law_mates") (st := KQ.s__law_mates) KX G ?a22 ?l22 ?c22 ?k22 ?n22
    (case a22 => k_is); (case l22 => k_is); (case c22 => k_is); (case k22 => k_is)
    intro d__law_mates
    refine' KQ.step_def (x := "_law_web") (st := KQ.s__law_web) KX G ?a23 ?l23 ?c23 ?k23 ?n23
    (case a23 => k_is); (case l23 => k_is); (case c23 => k_is); (case k23 => k_is)
    intro d__law_web
    refine' KQ.step_def (x := "_law_limbs") (st := KQ.s__law_limbs) KX G ?a24 ?l24 ?c24 ?k24 ?n24
    (case a24 => k_is); (case l24 => k_is); (case c24 => k_is); (case k24 => k_is)
    intro d__law_limbs
    refine' KQ.step_def (x := "_law_plain") (st := KQ.s__law_plain) KX G ?a25 ?l25 ?c25 ?k25 ?n25
    (case a25 => k_is); (case l25 => k_is); (case c25 => k_is); (case k25 => k_is)
    intro d__law_plain
    refine' KQ.step_def (x := "_law_is_form") (st := KQ.s__law_is_form) KX G ?a26 ?l26 ?c26 ?k26 ?n26
    (case a26 => k_is); (case l26 => k_is); (case c26 => k_is); (case k26 => k_is)
    intro d__law_is_form
    refine' KQ.step_def (x := "_law_choose") (st := KQ.s__law_choose) KX G ?a27 ?l27 ?c27 ?k27 ?n27
    (case a27 => k_is); (case l27 => k_is); (case c27 => k_is); (case k27 => k_is)
    intro d__law_choose
    refine' KQ.step_def (x := "_law_counted") (st := KQ.s__law_counted) KX G ?a28 ?l28 ?c28 ?k28 ?n28
    (case a28 => k_is); (case l28 => k_is); (case c28 => k_is); (case k28 => k_is)
    intro d__law_counted
    refine' KQ.step_def (x := "_law_refused") (st := KQ.s__law_refused) KX G ?a29 ?l29 ?c29 ?k29 ?n29
    (case a29 => k_is); (case l29 => k_is); (case c29 => k_is); (case k29 => k_is)
    intro d__law_refused
    refine' KQ.step_def (x := "law") (st := KQ.s_law) KX G ?a30 ?l30 ?c30 ?k30 ?n30
    (case a30 => k_is); (case l30 => k_is); (case c30 => k_is); (case k30 => k_is)
    intro d_law
    refine' KQ.step_cst (x := "MOST_LEAVES") (v := 40) KX G ?a31 ?n31
    (case a31 => k_is)
    intro c_MOST_LEAVES
    refine' KQ.step_cst (x := "MOST_LISTED_LEAVES") (v := 5) KX G ?a32 ?n32
    (case a32 => k_is)
    intro c_MOST_LISTED_LEAVES
    refine' KQ.step_none (x := "len") KX G ?a33 ?n33
    (case a33 => k_is)
    intro z_len
    refine' KQ.step_none (x := "range") KX G ?a34 ?n34
    (case a34 => k_is)
    intro z_range
    refine' KQ.step_none (x := "enumerate") KX G ?a35 ?n35
    (case a35 => k_is)
    intro z_enumerate
    refine' KQ.step_none (x := "zip") KX G ?a36 ?n36
    (case a36 => k_is)
    intro z_zip
    refine' KQ.step_none (x := "isinstance") KX G ?a37 ?n37
    (case a37 => k_is)
    intro z_isinstance
    refine' KQ.step_none (x := "int") KX G ?a38 ?n38
    (case a38 => k_is)
    intro z_int
    refine' KQ.step_none (x := "bool") KX G ?a39 ?n39
    (case a39 => k_is)
    intro z_bool
    refine' KQ.step_none (x := "tuple") KX G ?a40 ?n40
    (case a40 => k_is)
    intro z_tuple
    refine' KQ.step_none (x := "list") KX G ?a41 ?n41
    (case a41 => k_is)
    intro z_list
    refine' KQ.step_none (x := "max") KX G ?a42 ?n42
    (case a42 => k_is)
    intro z_max
    refine' KQ.step_none (x := "min") KX G ?a43 ?n43
    (case a43 => k_is)
    intro z_min
    refine' KQ.step_none (x := "repr") KX G ?a44 ?n44
    (case a44 => k_is)
    intro z_repr
    refine' KQ.step_none (x := "set") KX G ?a45 ?n45
    (case a45 => k_is)
    intro z_set
    refine' KQ.step_none (x := "sum") KX G ?a46 ?n46
    (case a46 => k_is)
    intro z_sum
    refine' KQ.step_none (x := "sorted") KX G ?a47 ?n47
    (case a47 => k_is)
    intro z_sorted
    refine' KQ.step_none (x := "super") KX G ?a48 ?n48
    (case a48 => k_is)
    intro z_super
    refine' KQ.step_none (x := "str") KX G ?a49 ?n49
    (case a49 => k_is)
    intro z_str
    refine' KQ.step_err (P := PySem.W.OpenLaw.prog PySem.Challenge.rw_fittingdoors_k37_forms_counted_and_liste) (cx := "BadNumber") (fld := "value") (x := "value") (msg := _) KX G z_super ?aC50 ?lC50 ?rv50 ?sa50 ?exC50 ?tyC50 ?kC50 ?iC50 ?tI50 ?lk50 ?hcd50 ?hcode50 ?hvs50 ?hfile50 ?htop50 ?hcell50 ?hsup50 ?hV50 ?hmro50 ?hop50 ?hfa50 ?hp50 ?har50 ?hx50 ?hxd50 ?hxc50 ?hk50 ?hco50 ?hgen50 ?l150 ?l250 ?l350 ?l450 ?hev50 ?l550 ?l650 ?hb50 ?ga50 ?gg50 ?hdC50 ?n50
    (case aC50 => k_is)
    (case lC50 => k_is)
    (case rv50 => rfl)
    (case sa50 => k_is)
    (case exC50 => k_is)
    (case tyC50 => k_is)
    (case kC50 => k_is)
    (case iC50 => k_is)
    (case tI50 => k_is)
    (case lk50 => (refine Eq.trans (b := some _) (by k_is) ?_; rfl))
    (case hcd50 => k_is)
    (case hcode50 => k_is)
    (case hvs50 => rfl)
    (case hfile50 => rfl)
    (case htop50 => rfl)
    (case hcell50 => k_is)
    (case hsup50 => ks_is)
    (case hV50 => k_is)
    (case hmro50 => k_is)
    (case hop50 => k_is)
    (case hfa50 => k_is)
    (case hp50 => rfl)
    (case har50 => rfl)
    (case hx50 => decide)
    (case hxd50 => decide)
    (case hxc50 => decide)
    (case hk50 => rfl)
    (case hco50 => rfl)
    (case hgen50 => rfl)
    (case l150 => rfl)
    (case l250 => rfl)
    (case l350 => rfl)
    (case l450 => rfl)
    (case hev50 => exact fun _ => rfl)
    (case l550 => decide +kernel)
    (case l650 => decide +kernel)
    (case hb50 => exact fun us hl => match us, hl with | [_, _], _ => rfl)
    (case ga50 => k_is)
    (case gg50 => k_is)
    (case hdC50 => k_is)
    intro eN
    refine' KQ.step_bi (x := "comb") (v := "math.comb") KX G ?a51 ?n51
    (case a51 => k_is)
    intro z_comb
    refine' KQ.step_exm1 eN ?a52 ?n52
    (case a52 => k_is)
    intro X
    exact KQ.finish hmg d_law ⟨d_is_integer, d_is_integer_within, d_is_leaf, d_doors_of, d_bracketed, d_limbs_of, d_widened, d_forms_with, d_form_count, d_all_forms, d__law_mixed, d__law_folded, d__law_draw, d__law_begun, d__law_like, d__law_of, d__law_is_int, d__law_order, d__law_form, d__law_is_door, d__law_leaves, d__law_mates, d__law_web, d__law_limbs, d__law_plain, d__law_is_form, d__law_choose, d__law_counted, d__law_refused, c_MOST_LEAVES, c_MOST_LISTED_LEAVES⟩ ⟨z_len, z_range, z_enumerate, z_zip, z_isinstance, z_int, z_bool, z_tuple, z_list, z_max, z_min, z_repr, z_set, z_sum, z_sorted⟩ eN X z_comb z_str
#print axioms PySem.Challenge.cw_fittingdoors_k37_forms_counted_and_liste_holds
