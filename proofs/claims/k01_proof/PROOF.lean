import PyProof.Rows.All
import Wide.All
import OpenK.AllK
import Wide.FinOn
import HandS.ForMost
import HandS.Exc
import HandS.IsInst
import HandS.Strs
import HandS.SetKeys
import HandS.Star
import HandS.Zip
import HandS.Conv
import HandS.Wide
import HandS.Style
import KE.DataMinMax
import KE.GoesNew
import KE.GoesMore
import KE.KDictKeyed
import PyProof.Rows.NestShow
import KE.DatumOrd
import KE.KDictZip
import HandS.TupLen
import PySem.Challenge.RW_fittingdoors_k01_whole_partings_beside_o
set_option Elab.async false
set_option linter.all false
set_option maxRecDepth 100000
set_option maxHeartbeats 8000000
/-! rules that the layer lacks: calls where no repr is going on; repr of data; max of a tuple; enumerate of a tuple -/
namespace KR
open PySem PySem.Spec PyProof.Rows L2

/-! ### defs called where no guard stands -/
structure FnG (P : Program) (w : World) (K : PySem.W.Frag) (mg : Str → Option Value) (base : Heap)
    (k : Nat) (f : Addr) (fd : FuncData) (ps : List Str) (sp : Sp) : Prop where
  len : ∀ vs H Q E, sp vs H Q E → vs.length = ps.length
  run : ∀ (A : Around) (outer : List Env) (s : Shared) (H : Hp) (args : Args) (us : List Value) (vs : List V) (Q : VK) (E : XK),
    A.guards = some [] → Room k A → Env0 P w K mg base A outer s H → BindsTo s fd args (ps.zip us) → Vals vs us → sp vs H Q E →
    codeAny (model P w) A (.call (.ref f) args) (CR CX0 outer P w H s Q E) s

theorem FnG.up {P : Program} {w : World} {K : PySem.W.Frag} {mg : Str → Option Value} {base : Heap} {j k : Nat} {f : Addr}
    {fd : FuncData} {ps : List Str} {sp : Sp} (F : FnG P w K mg base j f fd ps sp) (h : j ≤ k) : FnG P w K mg base k f fd ps sp :=
  ⟨F.len, fun A outer s H args us vs Q E hg hr => F.run A outer s H args us vs Q E hg (hr.mono h)⟩

theorem Fun.okG {P : Program} {w : World} {K : PySem.W.Frag} {mg : Str → Option Value} {base : Heap}
    {x qual : Str} {st : Stmt} {f : Addr} {fd : FuncData} {N ps : List Str} {k : Nat} {sp : Sp}
    (F : Fun K x qual st f fd) (S : FnScope N ps (defScope st)) (len : ∀ vs H Q E, sp vs H Q E → vs.length = ps.length)
    (body : ∀ (cdv : Value) (A : Around) (outer : List Env) (s : Shared) (H : Hp) (vs : List V) (Q : VK) (E : XK),
      (A.deeper (envOfC qual (defScope st) s.heap.objs.size f cdv)).guards = some [] →
      Room k (A.deeper (envOfC qual (defScope st) s.heap.objs.size f cdv)) → sp vs H Q E →
      ∃ t, PSs (cxOf CX0 P w K mg base N qual (defScope st) f cdv A outer s H E).nox (defBody st) t ∧
        t { nx := fun _ H' => Q .non H', rt := Q } (start N vs) H) : FnG P w K mg base (k + 1) f fd ps sp := by
  obtain ⟨oc, od, kV, doc, pm, an, cdv, ct, osl, rfl, lk, hcd⟩ := F.ex
  refine ⟨len, fun A outer s H args us vs Q E hg hr e0 hb r hsp => ?_⟩
  have hlen := len _ _ _ _ hsp
  have inS : K.In s.heap :=
    e0.mod.kin.keeps fun b o e => (e0.bs b o e).1
  have nolim : s.heap.NoLimit :=
    e0.mod.nolimit.keeps fun b o e => (e0.bs b o e).1
  have kinds : ∀ y ∈ ps.zip us, (defScope st).names.lookup y.1 = some .local ∨
      ((defScope st).names.lookup y.1 = some .cell ∧ ((cellsFrom (s.heap.objs.size + 1) (defScope st).names []).lookup y.1).isSome = true) := by
    rintro ⟨n, v⟩ hy
    rcases S.par n (List.of_mem_zip hy).1 with q | q
    · exact Or.inl q
    · exact Or.inr ⟨q, PySem.W.cellsFrom_some _ _ _ (Or.inl q)⟩
  refine codeAny_call_function hr.depth (inS _ _ lk) rfl S.co S.gen rfl
    (PySem.W.codeRec_of inS hcd) (hb _ _ _ _ ?_)
  refine wpAny_newFunctionEnv_cells S.kind kinds fun env he s1 x => ?_
  subst he
  refine ⟨nolim.keeps x.toInCall.keep, codeAny_func ?_⟩
  obtain ⟨t, ht, hq⟩ := body cdv A outer s H vs Q E hg (hr.deeper _) hsp
  have I : Inv (cxOf CX0 P w K mg base N qual (defScope st) f cdv A outer s H E) [] (start N vs) H s1 :=
    inv_start S hr.hd e0 hlen r x
  refine wpAny_mono (ht.nox.run [] s1 (start N vs) H _ I hq) (fun fl s' hs => ?_) (fun e s' hs => hs)
  have fin : ∀ {σ' : L2.St} {H' : Hp} {v : V} {u : Value}, Inv (cxOf CX0 P w K mg base N qual (defScope st) f cdv A outer s H E) [] σ' H' s' →
      RelV v u → Q v H' → CE outer P w H s Q u s' := by
    intro σ' H' v u J rv q
    exact ⟨v, H', J.os, J.bare, J.base, J.hok, rv, q⟩
  cases fl with
  | ret u =>
    obtain ⟨v, σ', H', J, rv, q⟩ := hs
    exact fin J rv q
  | next =>
    obtain ⟨σ', H', J, q⟩ := hs
    exact fin (v := V.non) (u := Value.none) J rfl q
  | brk =>
    obtain ⟨_, _, _, q⟩ := hs
    exact q.elim
  | cont =>
    obtain ⟨_, _, _, q⟩ := hs
    exact q.elim

section
variable {X : Cx} {k : Nat} {f : Addr} {fd : FuncData} {ps : List Str} {sp : Sp} {dvs : List V} {ds : List Value} {x : Str} {p pos : Pos} {e : Expr} {es : List Expr} {t : TA}

/-- a call where no guard stands -/
theorem pe_callG (F : FnG X.prog X.w X.K X.mg X.base k f fd ps sp) (gd : X.A.guards = some []) (hr : Room k X.A) (hg : Gl X x) (hm : X.mg x = some (.ref f))
    (hk : PySem.W.keepIn X.K (.ref f) = true) (hb : Binds X.K fd ps ds) (hd : Vals dvs ds) (ha : PA X (e :: es) t)
    (hdb : (x == ("__debug__" : Str)) = false := by decide)
    (he : starEach (e :: es) X.env = (false, eval e X.env) :: starEach es X.env := by rfl)
    (hpl : (backTo pos (starEach es X.env)).any (·.1) = false := by rfl) :
    PE X (.Call (.Name x p) (e :: es) [] pos) (tCall sp dvs E0 t) := by
  refine ⟨fun pins s σ H Q I h => ?_⟩
  refine wpAny_Call_Name_kw (ld_glob I hg hm ?_ hdb)
  refine PySem.W.callWith_K (h₀ := X.base) I.ok.mod.kin hk
    (thn (ha.run pos pins s σ H _ I h) fun us s1 ⟨vs, H1, I1, r, q⟩ => ⟨I1.kIn, ?_⟩) he hpl
  have r2 : Vals (vs ++ dvs) (us ++ ds) := r.append hd
  have hl : (us ++ ds).length = ps.length := by
    rw [← r2.length]
    exact F.len _ _ _ _ q
  refine wpAny_call (codeAny_mono (F.run X.A X.stack s1 H1 ⟨us, []⟩ (us ++ ds) (vs ++ dvs) Q E0 gd hr I1.env0
    (hb s1 us I1.kIn hl) r2 q) fun r s' hq => ?_)
  cases r with
  | error e => exact (show False from hq).elim
  | ok fl =>
    cases fl with
    | ret u => exact I1.after hq
    | next => exact (show False from hq).elim
    | brk => exact (show False from hq).elim
    | cont => exact (show False from hq).elim
end

/-! ### repr of data -/
def rRepr (K : PySem.W.Frag) : List V → Hp → VK → Prop := fun xs H Q => ∃ v d, xs = [v] ∧ Dp K H v d ∧
  isDisplay d = true ∧ d.showable = true ∧ d.hasDict = false ∧ d.depth ≤ 30 ∧ d.shown.length ≤ sizeLine ∧ Q (.str d.shown) H
theorem call_reprD {X : Cx} (gd : X.A.guards = some []) (hu : X.A.units + 64 < cLine) : CallR X (.builtin "repr") (rRepr X.K) := by
  intro pins s σ H xs us Q I r h
  obtain ⟨v, d, rfl, hd, hdisp, hs, hnd, hdep, hlen, q⟩ := h
  cases r with
  | cons r1 rr =>
    cases rr
    obtain ⟨as, rd⟩ := Dp.reads I d v _ hd r1
    obtain ⟨a, rfl⟩ := isRef_of_reads rd hdisp
    refine repr_of_reads' rd hs (PyData.noDict_hsm hnd) gd (by omega) (fun _ _ e => e) (fun h' u tk hk => ?_) hlen
    exact ⟨.str d.shown, H, I.kept hk, ⟨u, rfl⟩, q⟩

/-! ### the law's own call -/
theorem law_callG {P : Program} {w : World} {K : PySem.W.Frag} {mg mb : Str → Option Value} {k : Nat} {fa a : Addr} {fd : FuncData} {x : Str} {sp : Sp}
    {s₁ : Shared} {vs : List Value} {ns : List Int} (KX : K.In s₁.heap) (hns : s₁.heap.Ns mainGlobals mg) (hb : s₁.heap.Ns builtinsNs mb)
    (hbb : ∀ x : Str, x ≠ "__name__" → mb x = bootBuiltins x) (hlim : s₁.heap.NoLimit) (hg : s₁.gens = #[])
    (ha : s₁.heap.get? a = some { cls := .type "list", data := .seq vs.toArray }) (hi : IntsAre vs ns) (hl : ns.length ≤ sizeLine) (hr : Room k callerA)
    (F : ∀ base : Heap, K.In base → base.Ns mainGlobals mg → FnG P w K mg base k fa fd [x] sp)
    (hbind : ∀ (s : Shared) (u : Value), BindsTo s fd ⟨[u], []⟩ [(x, u)])
    (hsp : ∀ H : Hp, Only H → SqL K H a (ns.map V.int) → sp [.ref a] H (fun v _ => v = .bl true) fun _ _ _ => False) :
    codeAny (model P w) callerA (.call (.ref fa) ⟨[.ref a], []⟩)
      (fun r s' => r = .ok (.ret (.bool true)) ∧ OldK s₁.heap s'.heap ∧ s'.os = s₁.os ∧ AllBare s'.gens) s₁ := by
  have core : ∀ H : Hp, Only H → SqL K H a (ns.map V.int) → HOk P w H s₁.heap → (∀ b, H b ≠ none → b = a ∧ K.lookup b = none) →
      codeAny (model P w) callerA (.call (.ref fa) ⟨[.ref a], []⟩)
        (fun r s' => r = .ok (.ret (.bool true)) ∧ OldK s₁.heap s'.heap ∧ s'.os = s₁.os ∧ AllBare s'.gens) s₁ := by
    intro H hO hS hok hA
    have get1 : ∀ {b : Addr} {o : Obj}, s₁.heap.get? b = some o → H b = none → (hidT s₁.heap H).get? b = some o :=
      fun e n => hidT_get e n
    have freeD : ∀ {b : Addr} {o : Obj} {es : Array DictEntry} {ep : Nat}, s₁.heap.get? b = some o → o.data = .dict es ep → H b = none := by
      intro b o es ep e d
      apply Classical.byContradiction
      intro hne
      have eb := (hA b hne).1
      rw [eb, ha] at e
      cases e
      exact nomatch (show Data.seq vs.toArray _ = Data.dict es ep from d)
    have spaces : ∀ {b : Addr} {m : Str → Option Value}, s₁.heap.Ns b m → (hidT s₁.heap H).Ns b m := by
      rintro b m ⟨o, es, ep, e, d, r⟩
      exact ⟨o, es, ep, get1 e (freeD e d), d, r⟩
    have inB : K.In (hidT s₁.heap H) := by
      intro b o e
      refine get1 (KX b o e) (Classical.byContradiction fun hne => ?_)
      have := (hA b hne).2
      rw [e] at this
      cases this
    have hM : Mod K mg (hidT s₁.heap H) := by
      obtain ⟨mc, h1, h2⟩ := hlim
      exact ⟨inB, spaces hns, ⟨mb, spaces hb, hbb⟩, ⟨mc, spaces h1, h2⟩⟩
    have e0 : Env0 P w K mg (hidT s₁.heap H) callerA [] s₁ H :=
      ⟨rfl, hM, fun b o e => of_hidT e, Nat.le_of_eq (hidT_size _ _), trivial, fun b hb => (List.not_mem_nil hb).elim, hok, .of_eq hg⟩
    have run := (F _ inB (spaces hns)).run callerA [] s₁ H ⟨[.ref a], []⟩ [.ref a] [.ref a] _ _ (by first | rfl | decide) hr e0
      (hbind s₁ (.ref a)) (.cons rfl .nil) (hsp H hO hS)
    refine codeAny_mono run fun r s' h => ?_
    cases r with
    | error e => exact (show False from h).elim
    | ok fl =>
      cases fl with
      | next => exact (show False from h).elim
      | brk => exact (show False from h).elim
      | cont => exact (show False from h).elim
      | ret u =>
        obtain ⟨v, H', os, bare, un, hok', r', q⟩ := h
        obtain rfl : v = .bl true := q
        obtain rfl : u = Value.bool true := r'
        refine ⟨rfl, OldK.of_keep fun b o e => ?_, os, bare⟩
        rcases hO b with q | ⟨ob, xs, z⟩
        · exact un.keep b o e q (fun z => (List.not_mem_nil z).elim) (by simp)
        · have z2 := un.frzs b ob _ z
          obtain ⟨e1, _⟩ := hok b _ z
          obtain ⟨e2, _⟩ := hok' b _ z2
          rw [e] at e1
          cases e1
          exact e2
  have rv := vals_ints hi
  have lenV := hi.length
  cases hk : K.lookup a with
  | some o =>
    have e := KX a o hk
    rw [ha] at e
    cases e
    refine core (fun _ => none) (fun _ => Or.inl rfl) ?_ ?_ (fun b z => (z rfl).elim)
    · refine Or.inr ⟨_, vs.toArray, _, hk, rfl, rfl, rfl, ?_, ?_⟩
      · rw [List.size_toArray, lenV]
        exact hl
      · simpa using rv
    · intro b u z
      exact nomatch (show (none : Option HO) = some u from z)
  | none =>
    have only : ∀ b, (if b = a then some (HO.frz { cls := .type "list", data := .seq vs.toArray } (.lst (ns.map V.int))) else none) ≠ none → b = a := by
      intro b z
      exact Classical.byContradiction fun hb => z (if_neg hb)
    refine core (fun b => if b = a then some (.frz { cls := .type "list", data := .seq vs.toArray } (.lst (ns.map V.int))) else none) ?_ ?_ ?_ ?_
    · intro b
      by_cases hb : b = a
      · exact Or.inr ⟨_, _, if_pos hb⟩
      · exact Or.inl (if_neg hb)
    · exact Or.inl (Or.inr ⟨{ cls := .type "list", data := .seq vs.toArray }, if_pos rfl⟩)
    · intro b u z
      have hb := only b (by rw [show (if b = a then _ else _) = some u from z]; exact fun q => nomatch q)
      subst hb
      cases (if_pos rfl).symm.trans z
      exact ⟨ha, by rw [List.length_map]; exact hl, vs, _, rv, ha⟩
    · intro b z
      have hb := only b z
      exact ⟨hb, by rw [hb]; exact hk⟩

theorem walk_ofG {l : PySem.W.OpenLaw} {n k : Nat} {q : Program} {loose : List Str} {XP : (Str → Option Value) → Heap → Prop} {YP : World → Heap → Prop}
    {d : DefRec} {K : Params → PySem.W.Frag} {sp : World → Sp} {x : Str}
    (hn : l.most = some n) (hn2 : n ≤ sizeLine) (hdf : d.params.defaults = []) (hr : Room k callerA)
    (hY : ∀ (w : World) (h : Heap), YP w h → (K w.params).In h)
    (F : ∀ (w : World) (mg : Str → Option Value) (fa : Addr) (h : Heap), (K w.params).In h → h.Ns mainGlobals mg → mg d.name = some (.ref fa) →
      ∃ fd : FuncData, (∀ (s : Shared) (u : Value), BindsTo s fd ⟨[u], []⟩ [(x, u)]) ∧
        ∀ base : Heap, (K w.params).In base → base.Ns mainGlobals mg → FnG l.prog w (K w.params) mg base k fa fd [x] (sp w))
    (hsp : ∀ (w : World) (H : Hp) (a : Addr) (ns : List Int), ns.length ≤ n → Only H → SqL (K w.params) H a (ns.map V.int) →
      sp w [.ref a] H (fun v _ => v = .bl true) fun _ _ _ => False) :
    PySem.W.WalkO q loose XP YP l.row.toRowW d [] (fun f vs => PySem.call f vs) := by
  refine Att.attach_call hn hdf fun w s₀ s₁ mg mb fa o pm cd doc a vs ns G Y ho hd hcd hmg hobj hints hlen hg => ?_
  obtain ⟨fd, hb, hF⟩ := F w mg fa _ (hY w _ Y) G.T.g hmg
  exact law_callG (hY w _ Y) G.T.g G.T.b G.T.builtins G.T.nolimit hg hobj hints (Nat.le_trans hlen hn2) hr hF hb
    (fun H hO hS => hsp w H a ns hlen hO hS)
end KR
namespace KR
open PySem PySem.Spec PyProof.Rows L2

/-! ### max of a tuple of whole numbers -/
theorem dpAll_ints {K : PySem.W.Frag} {H : Hp} : ∀ ns : List Int, DpAll K H (ns.map V.int) (ns.map PyData.int)
  | [] => .nil
  | n :: ns => .cons (.int n) (dpAll_ints ns)
def rMaxT (K : PySem.W.Frag) : List V → Hp → VK → Prop := fun vs H Q => ∃ (a : Addr) (ns : List Int), vs = [V.ref a] ∧ SqT K H a (ns.map V.int) ∧ ns ≠ [] ∧
  ∀ m, m ∈ ns → (∀ y, y ∈ ns → y ≤ m) → Q (.int m) H
theorem maxOf_spec : ∀ (r : List Int) (x : Int), PySem.W.maxOf x r ∈ x :: r ∧ ∀ y ∈ x :: r, y ≤ PySem.W.maxOf x r
  | [], x => by
    refine ⟨List.mem_cons_self, fun y hy => ?_⟩
    rw [List.mem_singleton.mp hy]
    exact Int.le_refl _
  | z :: r, x => by
    have e : PySem.W.maxOf x (z :: r) = PySem.W.maxOf (if decide (x < z) = true then z else x) r := rfl
    rw [e]
    obtain ⟨h1, h2⟩ := maxOf_spec r (if decide (x < z) = true then z else x)
    have h3 : x ≤ (if decide (x < z) = true then z else x) ∧ z ≤ (if decide (x < z) = true then z else x) := by
      by_cases h : x < z
      · rw [if_pos (decide_eq_true h)]
        omega
      · rw [if_neg (by simpa using h)]
        omega
    have h4 := h2 _ List.mem_cons_self
    refine ⟨?_, fun y hy => ?_⟩
    · rcases List.mem_cons.mp h1 with q | q
      · rw [q]
        by_cases h : x < z
        · rw [if_pos (decide_eq_true h)]
          exact List.mem_cons_of_mem _ List.mem_cons_self
        · rw [if_neg (by simpa using h)]
          exact List.mem_cons_self
      · exact List.mem_cons_of_mem _ (List.mem_cons_of_mem _ q)
    · rcases List.mem_cons.mp hy with q | q
      · rw [q]
        omega
      · rcases List.mem_cons.mp q with q | q
        · rw [q]
          omega
        · exact h2 y (List.mem_cons_of_mem _ q)
theorem call_maxT {X : Cx} (hc : X.calm = true) (hu : X.A.units + 64 < cLine) : CallR X (.builtin "max") (rMaxT X.K) := by
  intro pins s σ H vs us Q I r h
  obtain ⟨a, ns, rfl, hs, hne, q⟩ := h
  obtain ⟨its, rv, hl, _⟩ := I.tuple hs
  rw [Vals.ref1 r]
  cases ns with
  | nil => exact (hne rfl).elim
  | cons x xs =>
    obtain ⟨as, rd⟩ := Dp.readsAll I ((x :: xs).map PyData.int) _ its (dpAll_ints (x :: xs)) rv
    refine PySem.W.max_tuple_datum (x := x) (xs := xs) (vs := its.toArray) (I.ok.hd hc) (show s.heap.IsTuple a its.toArray from hl) ⟨as, by rw [show its.toArray.toList = its by simp]; exact rd⟩ (by show X.A.units + 1 + 0 < cLine; omega) fun i v h' tk hv hh hk => ?_
    obtain ⟨bs, rr⟩ := hh
    obtain ⟨t, rfl⟩ : ∃ t, v = .int (PySem.W.maxOf x xs) t := by
      cases rr with
      | int _ t => exact ⟨t, rfl⟩
    obtain ⟨h1, h2⟩ := maxOf_spec xs x
    exact ⟨.int _, H, I.kept hk, ⟨_, rfl⟩, q _ h1 h2⟩

/-! ### enumerate of a tuple -/
def IteT (K : PySem.W.Frag) (a : Addr) : It where
  go := fun i H => ∃ (xs : List V) (x : V), SqT K H a xs ∧ xs[i]? = some x
  yld := fun i H v H' => ∃ T x, v = .ref T ∧ H T = none ∧ H' = upd H T (.tup [.int (i : Nat), x]) ∧ ∀ xs, SqT K H a xs → xs[i]? = some x
  stop := fun i H => ∃ xs : List V, SqT K H a xs ∧ xs.length ≤ i
theorem turn_enumT {P : Program} {w : World} {K : PySem.W.Frag} {elts : List Expr} {kk : Nat} {tpos : Pos} (a e it : Addr) (hea : a ≠ it) (hee : a ≠ e) :
    Turn P w K (.Tuple elts kk tpos) (IteT K a) [e, it] e
      (fun i h => (∃ old, IsEnum h e it ((i : Nat) : Int) old) ∧ h.IsTupleIter it a i ∧ e ≠ it) where
  mem := List.mem_cons_self
  obj := by
    rintro i h ⟨⟨old, he⟩, ⟨o, ho, hc, hd⟩, _⟩ b hb
    rcases List.mem_cons.mp hb with z | z
    · subst z
      exact ⟨_, he, fun v q => nomatch q⟩
    · cases List.mem_singleton.mp z
      exact ⟨o, ho, fun v q => by rw [hd] at q; cases q⟩
  keep := by
    rintro i h h' ⟨⟨old, he⟩, hi, hne⟩ k
    exact ⟨⟨old, k e List.mem_cons_self _ he⟩, hi.at fun o q => k it (List.mem_cons_of_mem _ List.mem_cons_self) o q, hne⟩
  item := by
    intro X hP hw hK hc i pins s σ H E I hf st hg
    subst hP hw hK
    obtain ⟨⟨old, he⟩, hit, hne⟩ := st
    obtain ⟨xs, x, hq, hx⟩ := hg
    obtain ⟨its, rv, p, hz⟩ := I.tuple hq
    obtain ⟨u, hu, ru⟩ := rv.get hx
    have hT : s.heap.IsTuple a its.toArray := p
    have hel : e < s.heap.objs.size := Heap.lt_size he
    have hil : it < s.heap.objs.size := by
      obtain ⟨_, q, _⟩ := hit
      exact Heap.lt_size q
    have hlt : i < its.toArray.size := by
      have := (List.getElem?_eq_some_iff.mp hu).1
      simpa using this
    have D := Draws.tuple (prog := X.prog) (w := X.w) (A := X.A.in1) (I.ok.hd hc) it a hea its.toArray
    have hef : e ∉ [it, a] := by
      intro hm
      rcases List.mem_cons.mp hm with z | z
      · exact hne z
      · exact hee (List.mem_singleton.mp z).symm
    refine wpAny_pyNext_enum_itemD D he ⟨hit, hT⟩ hlt hne hef fun x' h' tk hP ho hit' hT' hsz hk => ?_
    have ex : x' = u := by
      have h1 : its.toArray[i]? = some u := by simpa using hu
      rw [show its.toArray[i]? = some x' from hP] at h1
      exact Option.some.inj h1
    subst ex
    refine ⟨_, rfl, wpAny_letOwnedTupleGo_enum (s := { s with heap := h', toks := tk + 1 }) ho fun h'' he' sb => ?_⟩
    have hT2 : h''.get? s.heap.objs.size = some { cls := .type "tuple", data := .seq #[.int i tk, x'] } :=
      (sb.2 _ (Nat.ne_of_gt hel)).trans hT'
    have new : ObjOk X.prog X.w (upd H s.heap.objs.size (.tup [.int (i : Nat), x])) h'' s.heap.objs.size (.tup [.int (i : Nat), x]) :=
      ⟨show 2 ≤ sizeLine by decide, [.int i tk, x'], .cons ⟨_, rfl⟩ (.cons ru .nil), _, hT2, rfl, _, rfl⟩
    have I1 : Inv X pins σ (upd H s.heap.objs.size (.tup [.int (i : Nat), x])) { s with heap := h'', toks := tk + 1 } := by
      refine I.turnedNew (ch := [e, it]) (fun b ob hb q => ?_) hf (Nat.le_refl _) new
      have hbe : b ≠ e := fun z => hb (by rw [z]; exact List.mem_cons_self)
      have hbi : b ≠ it := fun z => hb (by rw [z]; exact List.mem_cons_of_mem _ List.mem_cons_self)
      exact (sb.2 b hbe).trans (hk b ob hbe hbi q)
    refine ⟨.ref s.heap.objs.size, _, I1, rfl, ⟨_, x, rfl, I.hok.fresh (Nat.le_refl _), rfl, fun ys hy => ?_⟩, ⟨⟨x', ?_⟩, ?_, hne⟩, fun b hb => ?_⟩
    · rw [I.tuple_inj hy hq]
      exact hx
    · rw [show ((i + 1 : Nat) : Int) = (i : Int) + 1 by omega]
      exact he'
    · exact hit'.1.at fun o q => (sb.2 it (Ne.symm hne)).trans q
    · have hb' : b < s.heap.objs.size := by
        rcases List.mem_cons.mp hb with z | z
        · rw [z]
          exact hel
        · rw [List.mem_singleton.mp z]
          exact hil
      rw [upd_ne (Nat.ne_of_lt hb')]
      exact (hf b hb).1
  done := by
    intro X hP hw hK hc i pins s σ H E I hf st hg
    subst hP hw hK
    obtain ⟨⟨old, he⟩, hit, hne⟩ := st
    obtain ⟨xs, hq, hx⟩ := hg
    obtain ⟨its, rv, p, hz⟩ := I.tuple hq
    obtain ⟨f0, f1, f2, f3, f4, f5⟩ := hf it (List.mem_cons_of_mem _ List.mem_cons_self)
    have hl := rv.length
    have hT : s.heap.IsTuple a its.toArray := p
    have hT0 : s.TypeIs (.ref e) "enumerate" := ⟨_, he, rfl⟩
    unfold pyNext
    refine wpAny_bind (wpAny_attempt (wpAny_callSpecial?_slot (name := Str.ofString "__next__") hT0 F.slot_enumerate_next
      (wpAny_call_entry F.slot_enumerate_next hT0 F.entry_enumerate_next ?_ (F.args_enumerate_next_1 _))))
    show wpAny _ _ (field (.ref e) 2 >>= _) _ _ s
    refine wpAny_bind (wpAny_field he rfl (x := .ref it) rfl ?_)
    refine wpAny_bind (wpAny_nextOf_tuple_end (A := X.A.in1) (I.ok.hd hc) hit hT ?_ fun h' x he' hx' => ?_)
    · simp
      omega
    · obtain ⟨o, ho, hcl⟩ := hx'
      refine wpAny_bind (wpAny_isInstance (T := "StopIteration") (b := true) ⟨o, ho, hcl⟩ isSubtype_stop ?_)
      exact wpAny_pure ⟨rfl, I.turned (t' := s.toks) (fun b o hb q => he' b o hb q) f0 f1 f3 f4 f5⟩
  self := fun A i s Q E st h => let ⟨⟨_, he⟩, _⟩ := st; wpAny_pyIter_enum he h
def iEnumT (K : PySem.W.Frag) (ta : TA) : TI := fun σ H R => ta σ H fun vs H1 => ∃ a xs, vs = [.ref a] ∧ SqT K H1 a xs ∧ R (IteT K a) H1
set_option maxHeartbeats 4000000 in
theorem meets_enumT (t : Addr) (items : Array Value) :
    Meets (Builtin.«enumerate.__new__» ⟨[.type "enumerate", .ref t], []⟩) (fun _ R s => s.heap.IsTuple t items ∧
      R (.ok (.ret (.ref (s.heap.push { cls := .type "tuple_iterator", data := .fields #[.ref t, .int 0 0] }).objs.size)))
        { s with heap := (s.heap.push { cls := .type "tuple_iterator", data := .fields #[.ref t, .int 0 0] }).push { cls := .type "enumerate", data := .fields #[.none, .bool false, .ref s.heap.objs.size, rawInt 0, .none, .none] } }) :=
  .of_wp fun prog w A R s h => by
    obtain ⟨hp, g, d, tk, os⟩ := s
    obtain ⟨h1, h⟩ := h
    have hsub := sub_enumerate
    have B := begins_tuple t items
    have q1 : ∀ {A' : Around} {E : Value → Shared → Prop} {Q : Value → Shared → Prop},
        Q (.ref hp.objs.size) ⟨hp.push { cls := .type "tuple_iterator", data := .fields #[.ref t, .int 0 0] }, g, d, tk, os⟩ → wpAny (model prog w) A' (pyIter (.ref t)) Q E ⟨hp, g, d, tk, os⟩ :=
      fun q => B.iter prog w _ _ ⟨hp, g, d, tk, os⟩ _ h1 q
    wp_walk using q1
    refine wpAny_stack_any fun st => wpAny_pure ?_
    split
    · rename_i c _ _ _ _ _
      cases (c == Value.type "enumerate")
      · wp_walk using q1
        exact ⟨_, rfl, h⟩
      · wp_walk using q1
        exact ⟨_, rfl, h⟩
    · wp_walk using q1
      exact ⟨_, rfl, h⟩
theorem call_enumT {prog : Program} {w : World} {A : Around} {E : Value → Shared → Prop} {s : Shared} {t : Addr} {items : Array Value} {Q : Value → Shared → Prop} (hT : s.heap.IsTuple t items)
    (h : ∀ h', IsEnum h' (s.heap.objs.size + 1) s.heap.objs.size 0 .none → h'.IsTupleIter s.heap.objs.size t 0 → h'.objs.size = s.heap.objs.size + 2 →
      (∀ b o, s.heap.get? b = some o → h'.get? b = some o) → Q (.ref (s.heap.objs.size + 1)) { s with heap := h' }) :
    wpAny (model prog w) A (call (.type "enumerate") [.ref t]) Q E s := by
  refine callType_new F.called_enumerate (by decide) (F.typeCall_enumerate_1 _) (F.newCall_enumerate_1 _) (fun obj => F.args_object_init_2 obj _) F.entry_enumerate_new
    (meets_enumT t items) ⟨hT, ?_⟩
  have hz : (s.heap.push { cls := .type "tuple_iterator", data := .fields #[.ref t, .int 0 0] }).objs.size = s.heap.objs.size + 1 := Heap.size_push ..
  show _ ∧ _
  rw [hz]
  have he : IsEnum ((s.heap.push { cls := .type "tuple_iterator", data := .fields #[.ref t, .int 0 0] }).push
      { cls := .type "enumerate", data := .fields #[.none, .bool false, .ref s.heap.objs.size, rawInt 0, .none, .none] }) (s.heap.objs.size + 1) s.heap.objs.size 0 .none := by
    have q := Heap.get?_push_size (s.heap.push { cls := .type "tuple_iterator", data := .fields #[.ref t, .int 0 0] })
      (o := { cls := .type "enumerate", data := .fields #[.none, .bool false, .ref s.heap.objs.size, rawInt 0, .none, .none] }) rfl
    rw [hz] at q
    exact q
  refine ⟨⟨_, he, rfl⟩, h _ he ⟨{ cls := .type "tuple_iterator", data := .fields #[.ref t, .int 0 0] }, Heap.get?_push_of_some _ (Heap.get?_push_size _ rfl), rfl, rfl⟩ (by rw [Heap.size_push, hz]) fun b o x => ?_⟩
  exact Heap.get?_push_of_some _ (Heap.get?_push_of_some _ x)
theorem pi_enumT {X : Cx} {e : Expr} {ta : TA} {p pos tpos : Pos} {elts : List Expr} {kk : Nat} (hg : Gl X "enumerate") (hm : X.mg "enumerate" = none)
    (ha : PA X [e] ta) (hs : starEach [e] X.env = [(false, eval e X.env)] := by rfl) :
    PI X (.Tuple elts kk tpos) (.Call (.Name "enumerate" p) [e] [] pos) (iEnumT X.K ta) := by
  refine ⟨fun pins s σ H R I h => ?_⟩
  refine Call_ (ld_blt I hg hm boot_enumerate (PyProof.Rows.callWith_type1
    (thn (ha.run pos pins s σ H _ I h) fun us s1 ⟨vs, H1, I1, r1, q1⟩ => ?_) hs rfl))
  obtain ⟨a, xs, ex, hq, q⟩ := q1
  subst ex
  rw [Vals.ref1 r1]
  obtain ⟨its, rv, p', hz⟩ := I1.tuple hq
  have hT : s1.heap.IsTuple a its.toArray := p'
  have hal : a < s1.heap.objs.size := by
    obtain ⟨o, ho, _⟩ := id hT
    exact Heap.lt_size ho
  refine call_enumT hT fun h' he hit hsz hk => wpAny_pyIter_enum he ?_
  have I2 : Inv X pins σ H1 { s1 with heap := h' } := I1.kept (t' := s1.toks) hk
  refine ⟨s1.heap.objs.size + 1, [s1.heap.objs.size + 1, s1.heap.objs.size], _, _, H1, rfl, I2,
    turn_enumT a (s1.heap.objs.size + 1) s1.heap.objs.size (Nat.ne_of_lt hal) (Nat.ne_of_lt (Nat.lt_succ_of_lt hal)), ⟨⟨.none, he⟩, hit, Nat.succ_ne_self _⟩, fun b hb => ?_, q⟩
  have hle : s1.heap.objs.size ≤ b := by
    rcases List.mem_cons.mp hb with z | z
    · rw [z]
      exact Nat.le_add_right _ _
    · rw [List.mem_singleton.mp z]
      exact Nat.le_refl _
  exact I1.fpOk hle (I1.hok.fresh hle)
end KR
/-! list(zip(t, u)) of two tuples -/
namespace KR
open PySem PySem.Spec PySem.W PyProof.Rows L2 RZ

section
variable {prog : Program} {w : World} {A : Around} {E : Value → Shared → Prop} {s : Shared}
theorem zipH_item {z TI TO T i1 i2 l1 l2 : Addr} {f : Bool} {oT : Obj} {k1 k2 : Nat} {xs ys : Array Value} {x y : Value} {Q : Option Value → Shared → Prop}
    (D : ZipApart z TI TO i1 i2 l1 l2) (hz : IsZipHeld s.heap z TI TO T f) (hT : s.heap.get? T = some oT) (hTI : IsPair s.heap TI (.ref i1) (.ref i2))
    (h1 : s.heap.IsTupleIter i1 l1 k1) (h2 : s.heap.IsTupleIter i2 l2 k2) (hl1 : s.heap.IsTuple l1 xs) (hl2 : s.heap.IsTuple l2 ys) (hx : xs[k1]? = some x) (hy : ys[k2]? = some y)
    (hQ : ∀ h', IsZipHeld h' z TI TO T true → h'.IsTupleIter i1 l1 (k1 + 1) → h'.IsTupleIter i2 l2 (k2 + 1) → IsPair h' s.heap.objs.size x y → h'.objs.size = s.heap.objs.size + 1 →
      (∀ c o, c ≠ z → c ≠ i1 → c ≠ i2 → s.heap.get? c = some o → h'.get? c = some o) → Q (some (.ref s.heap.objs.size)) { s with heap := h' }) :
    wpAny (model prog w) A (pyNext (.ref z)) Q E s := by
  have hTy : s.TypeIs (.ref z) "zip" := ⟨_, hz, rfl⟩
  unfold pyNext
  refine wpAny_bind (wpAny_attempt (wpAny_callSpecial?_slot (name := Str.ofString "__next__") hTy F.slot_zip_next
    (wpAny_call_entry F.slot_zip_next hTy F.entry_zip_next ?_ (F.args_zip_next_1 _))))
  show wpAny _ _ (field (.ref z) 2 >>= _) _ _ s
  refine wpAny_bind (wpAny_field hz rfl (x := .bool false) rfl ?_)
  show wpAny _ _ (field (.ref z) 3 >>= _) _ _ s
  refine wpAny_bind (wpAny_field hz rfl (x := .ref TI) rfl ?_)
  refine wpAny_bind (wpAny_seqItems hTI rfl ?_)
  show wpAny _ _ (Builtin.SmallTypes.ownedTupleIsFree (.ref z) >>= _) _ _ s
  refine wpAny_bind (wpAny_tupleHeld_zip hz hT fun g1 zz1 sb1 => ?_)
  simp only [Bool.false_eq_true, if_false]
  refine wpAny_bind ?_
  rw [← Array.forIn_toList]
  simp only [List.forIn_cons, List.forIn_nil]
  refine wpAny_bind (wpAny_bind (wpAny_holding ?_))
  show wpAny _ _ (Builtin.SmallTypes.nextOf (.ref i1) >>= _) _ _ { s with heap := g1 }
  refine wpAny_bind (wpAny_nextOf_tuple_item (s := { s with heap := g1 }) (h1.extBut sb1.extBut D.i1z) (hl1.extBut sb1.extBut D.l1z) hx fun g2 it2 sb2 => wpAny_pure ?_)
  refine wpAny_pure ?_
  refine wpAny_bind (wpAny_bind (wpAny_holding ?_))
  show wpAny _ _ (Builtin.SmallTypes.nextOf (.ref i2) >>= _) _ _ { s with heap := g2 }
  refine wpAny_bind (wpAny_nextOf_tuple_item (s := { s with heap := g2 }) ((h2.extBut sb1.extBut D.i2z).extBut sb2.extBut D.i12.symm)
    ((hl2.extBut sb1.extBut D.l2z).extBut sb2.extBut D.l2i1) hy fun g3 it3 sb3 => wpAny_pure ?_)
  refine wpAny_pure (wpAny_pure ?_)
  show wpAny _ _ (newTuple [x, y] >>= _) _ _ { s with heap := g3 }
  refine wpAny_bind (wpAny_newTuple ?_)
  have size3 : g3.objs.size = s.heap.objs.size := by rw [sb3.1, sb2.1, sb1.1]
  have zz3 : IsZipHeld g3 z TI TO T true := sb3.extBut _ _ D.i2z.symm (sb2.extBut _ _ D.i1z.symm zz1)
  have kp : ∀ c o, c ≠ z → c ≠ i1 → c ≠ i2 → s.heap.get? c = some o → g3.get? c = some o :=
    fun c o c1 c2 c3 e => sb3.extBut _ _ c3 (sb2.extBut _ _ c2 (sb1.extBut _ _ c1 e))
  have it1 : g3.IsTupleIter i1 l1 (k1 + 1) := it2.extBut sb3.extBut D.i12
  have pr : IsPair (g3.push { cls := .type "tuple", data := .seq #[x, y] }) g3.objs.size x y := Heap.get?_push_size _ rfl
  have sz4 : (g3.push { cls := .type "tuple", data := .seq #[x, y] }).objs.size = g3.objs.size + 1 := Heap.size_push ..
  refine wpAny_pure ⟨_, rfl, wpAny_pure ?_⟩
  show Q (some (.ref g3.objs.size)) _
  rw [size3] at pr sz4 ⊢
  exact hQ _ (Heap.get?_push_of_some _ zz3) (it1.at fun o e => Heap.get?_push_of_some _ e) (it3.at fun o e => Heap.get?_push_of_some _ e) pr sz4
    fun c o c1 c2 c3 e => Heap.get?_push_of_some _ (kp c o c1 c2 c3 e)
theorem zipH_end {z TI TO T i1 i2 l1 l2 : Addr} {f : Bool} {oT : Obj} {k1 : Nat} {xs : Array Value} {Q : Option Value → Shared → Prop} (hh : A.handled = none)
    (D : ZipApart z TI TO i1 i2 l1 l2) (hz : IsZipHeld s.heap z TI TO T f) (hT : s.heap.get? T = some oT) (hTI : IsPair s.heap TI (.ref i1) (.ref i2))
    (h1 : s.heap.IsTupleIter i1 l1 k1) (hl1 : s.heap.IsTuple l1 xs) (hx : xs[k1]? = none)
    (hQ : ∀ h', (∀ c o, c ≠ z → c ≠ i1 → s.heap.get? c = some o → h'.get? c = some o) → Q none { s with heap := h' }) : wpAny (model prog w) A (pyNext (.ref z)) Q E s := by
  have hTy : s.TypeIs (.ref z) "zip" := ⟨_, hz, rfl⟩
  unfold pyNext
  refine wpAny_bind (wpAny_attempt (wpAny_callSpecial?_slot (name := Str.ofString "__next__") hTy F.slot_zip_next
    (wpAny_call_entry F.slot_zip_next hTy F.entry_zip_next ?_ (F.args_zip_next_1 _))))
  show wpAny _ _ (field (.ref z) 2 >>= _) _ _ s
  refine wpAny_bind (wpAny_field hz rfl (x := .bool false) rfl ?_)
  show wpAny _ _ (field (.ref z) 3 >>= _) _ _ s
  refine wpAny_bind (wpAny_field hz rfl (x := .ref TI) rfl ?_)
  refine wpAny_bind (wpAny_seqItems hTI rfl ?_)
  show wpAny _ _ (Builtin.SmallTypes.ownedTupleIsFree (.ref z) >>= _) _ _ s
  refine wpAny_bind (wpAny_tupleHeld_zip hz hT fun g1 zz1 sb1 => ?_)
  simp only [Bool.false_eq_true, if_false]
  refine wpAny_bind ?_
  rw [← Array.forIn_toList]
  simp only [List.forIn_cons, List.forIn_nil]
  refine wpAny_bind (wpAny_bind (wpAny_holding ?_))
  show wpAny _ _ (Builtin.SmallTypes.nextOf (.ref i1) >>= _) _ _ { s with heap := g1 }
  refine wpAny_bind (wpAny_nextOf_tuple_end (s := { s with heap := g1 }) hh (h1.extBut sb1.extBut D.i1z) (hl1.extBut sb1.extBut D.l1z) hx fun g2 e sb2 he => ?_)
  obtain ⟨o, ho, hcl⟩ := he
  refine wpAny_bind (wpAny_isInstance (T := "StopIteration") (b := true) ⟨o, ho, hcl⟩ isSubtype_stop ?_)
  exact wpAny_pure (hQ g2 fun c o c1 c2 q => sb2 _ _ c2 (sb1.extBut _ _ c1 q))
end

section
variable {X : Cx} {pins : List (Addr × Obj)} {σ : L2.St}
/-- where the zip stands -/
def ZState (z TI TO i1 i2 a b S : Addr) (i : Nat) (h : Heap) : Prop :=
  IsPair h TI (.ref i1) (.ref i2) ∧ h.IsTupleIter i1 a i ∧ h.IsTupleIter i2 b i ∧
  ((IsZip h z TI TO .none ∧ ∃ u v, IsPair h TO u v) ∨
    ∃ T f oT, IsZipHeld h z TI TO T f ∧ h.get? T = some oT ∧ T ≠ S ∧ T ≠ z ∧ T ≠ i1 ∧ T ≠ i2 ∧ ∃ o2, h.get? TO = some o2)

theorem zl_loop {z TI TO i1 i2 a b S : Addr} {xs ys : List V} {R : Result → Shared → Prop} {H₀ : Hp} (D : ZipApart z TI TO i1 i2 a b) (hl : xs.length = ys.length) (hln : xs.length < sizeLine)
    (hS : S ∉ [z, TI, TO, i1, i2]) (hc : X.calm = true) (hS0 : H₀ S = none)
    (hR : ∀ (ts : List Addr) (H' : Hp) s', Inv X pins σ H' s' → Same H₀ H' → H' S = some (.lst (ts.map V.ref)) → ts.length = xs.length →
      (∀ (i : Nat) (t : Addr), ts[i]? = some t → H₀ t = none ∧ ∃ x y, xs[i]? = some x ∧ ys[i]? = some y ∧ H' t = some (.tup [x, y])) → R (.ok (.ret .none)) s') :
    ∀ (k i : Nat) (ts : List Addr) (H : Hp) (s : Shared), xs.length - i = k → i ≤ xs.length → ts.length = i → Inv X pins σ H s → Same H₀ H →
      SqT X.K H a xs → SqT X.K H b ys → H S = some (.lst (ts.map V.ref)) → (∀ c ∈ [z, TI, TO, i1, i2], FpOk X pins H c) →
      (∀ (i : Nat) (t : Addr), ts[i]? = some t → H₀ t = none ∧ ∃ x y, xs[i]? = some x ∧ ys[i]? = some y ∧ H t = some (.tup [x, y])) →
      ZState z TI TO i1 i2 a b S i s.heap → codeAny (model X.prog X.w) X.A.in1 (.builtin "list.extend.loop" ⟨[.ref S, .ref z, .none], []⟩) R s := by
  have Sz : S ≠ z := fun e => hS (by rw [e]; simp)
  have STI : S ≠ TI := fun e => hS (by rw [e]; simp)
  have STO : S ≠ TO := fun e => hS (by rw [e]; simp)
  have Si1 : S ≠ i1 := fun e => hS (by rw [e]; simp)
  have Si2 : S ≠ i2 := fun e => hS (by rw [e]; simp)
  intro k
  induction k with
  | zero =>
    intro i ts H s hk hi hts I sm qa qb eS fp tt st
    have e1 : i = xs.length := by omega
    obtain ⟨hTI, h1, h2, hz⟩ := st
    obtain ⟨its, rv, p1, _⟩ := I.tuple qa
    have l1 := rv.length
    have hend : its.toArray[i]? = none := by
      simp
      omega
    refine codeAny_builtin F.entry_extend_loop ?_
    rw [Around.under_plainId F.plain_extend_loop _]
    show wpAny _ _ (pyNext (.ref z) >>= _) _ _ s
    have fin : ∀ h' : Heap, (∀ c o, c ∉ [z, TI, TO, i1, i2] → s.heap.get? c = some o → h'.get? c = some o) → R (.ok (.ret .none)) { s with heap := h' } := by
      intro h' kp
      refine hR ts H _ (I.turnedL (t' := s.toks) (ch := [z, TI, TO, i1, i2]) kp fp) sm eS (by omega) tt
    rcases hz with ⟨hz, u, v, hTO⟩ | ⟨T, f, oT, hz, hT, n1, n2, n3, n4, o2, hO2⟩
    · obtain ⟨its2, rv2, p2, _⟩ := I.tuple qb
      refine wpAny_bind (pyNext_zipT_end (A := X.A.in1.in1) (I.ok.hd hc) D hz hTI hTO h1 h2 (show s.heap.IsTuple a its.toArray from p1) (show s.heap.IsTuple b its2.toArray from p2) (.inl hend) fun h' kp => ?_)
      exact wpAny_pure (fin h' fun c o hcm e => kp c o (fun q => hcm (by simp [q])) (fun q => hcm (by simp [q])) (fun q => hcm (by simp [q])) (fun q => hcm (by simp [q])) e)
    · refine wpAny_bind (zipH_end (A := X.A.in1.in1) (I.ok.hd hc) D hz hT hTI h1 (show s.heap.IsTuple a its.toArray from p1) hend fun h' kp => ?_)
      exact wpAny_pure (fin h' fun c o hcm e => kp c o (fun q => hcm (by simp [q])) (fun q => hcm (by simp [q])) e)
  | succ k ih =>
    intro i ts H s hk hi hts I sm qa qb eS fp tt st
    have hlt : i < xs.length := by omega
    have hlt2 : i < ys.length := by omega
    obtain ⟨hTI, h1, h2, hz⟩ := st
    obtain ⟨its, rv, p1, _⟩ := I.tuple qa
    obtain ⟨its2, rv2, p2, _⟩ := I.tuple qb
    have gx : xs[i]? = some xs[i] := List.getElem?_eq_getElem hlt
    have gy : ys[i]? = some ys[i] := List.getElem?_eq_getElem hlt2
    obtain ⟨u, hu, ru⟩ := rv.get gx
    obtain ⟨u2, hu2, ru2⟩ := rv2.get gy
    have au : its.toArray[i]? = some u := by simpa using hu
    have au2 : its2.toArray[i]? = some u2 := by simpa using hu2
    refine codeAny_builtin F.entry_extend_loop ?_
    rw [Around.under_plainId F.plain_extend_loop _]
    show wpAny _ _ (pyNext (.ref z) >>= _) _ _ s
    have lt : ∀ {c : Addr}, H c ≠ none → c < s.heap.objs.size := fun {c} hne => by
      cases q : H c with
      | none => exact (hne q).elim
      | some o => exact (I.hok c o q).lt
    have old5 : ∀ c ∈ [z, TI, TO, i1, i2], c < s.heap.objs.size → True := fun _ _ _ => trivial
    have new := I.hok.fresh (Nat.le_refl s.heap.objs.size)
    have go : ∀ h' : Heap, (∀ c o, c ∉ [z, TI, TO, i1, i2] → s.heap.get? c = some o → h'.get? c = some o) → IsPair h' s.heap.objs.size u u2 → h'.objs.size = s.heap.objs.size + 1 →
        (∀ c ∈ [z, TI, TO, i1, i2], c < s.heap.objs.size) → ZState z TI TO i1 i2 a b S (i + 1) h' →
        wpAny (model X.prog X.w) X.A.in1.in1 (updateSeq S (·.push (.ref s.heap.objs.size)) >>= fun _ => again (.builtin "list.extend.loop" ⟨[.ref S, .ref z, .none], []⟩))
          (fun fin s' => match fin with | .done f => R (.ok f) s' | .again c' => c'.quiet = true ∧ codeAny (model X.prog X.w) X.A.in1 c' R s') (fun e s' => R (.error e) s') { s with heap := h' } := by
      intro h' kp pr sz old st'
      have ob : ObjOk X.prog X.w (upd H s.heap.objs.size (.tup [xs[i], ys[i]])) h' s.heap.objs.size (.tup [xs[i], ys[i]]) :=
        ⟨show 2 ≤ sizeLine by decide, [u, u2], .cons ru (.cons ru2 .nil), _, pr, rfl, _, rfl⟩
      have I1 : Inv X pins σ (upd H s.heap.objs.size (.tup [xs[i], ys[i]])) { s with heap := h' } := I.turnedNew (t' := s.toks) kp fp (Nat.le_refl _) ob
      have nS : S ≠ s.heap.objs.size := ne_of_none eS new
      have eS1 : (upd H s.heap.objs.size (.tup [xs[i], ys[i]])) S = some (.lst (ts.map V.ref)) := by
        rw [upd_ne nS]
        exact eS
      obtain ⟨hz', its3, n3, ri, e3⟩ := I1.hok S _ eS1
      have l3 := ri.length
      rw [List.length_map] at l3
      have sm1 : Same H (upd H s.heap.objs.size (.tup [xs[i], ys[i]])) := fun c o e => by
        rw [upd_ne (ne_of_none e new)]
        exact e
      refine wpAny_bind (wpAny_updateSeq e3 rfl (wpAny_pure ⟨plainId_quiet F.plain_extend_loop _, ?_⟩) ?_)
      · have I2 : Inv X pins σ (upd (upd H s.heap.objs.size (.tup [xs[i], ys[i]])) S (.lst ((ts ++ [s.heap.objs.size]).map V.ref)))
            { s with heap := h'.update S (Obj.mapSeq (·.push (.ref s.heap.objs.size))) } := by
          have up := Heap.get?_update_self (Obj.mapSeq (·.push (Value.ref s.heap.objs.size))) e3 rfl
          refine I1.write (t' := s.toks) (by rw [eS1]; trivial) (.inl rfl) (fun c o hcS q => ?_) ⟨_, up⟩ ⟨?_, its3 ++ [.ref s.heap.objs.size], n3 + 1, ?_, ?_⟩
          · exact (Heap.get?_update_other _ _ (fun q' : S = c => hcS q'.symm)).trans q
          · rw [List.length_map, List.length_append]
            show ts.length + 1 ≤ sizeLine
            omega
          · rw [List.map_append]
            exact ri.append (.cons rfl .nil)
          · refine up.trans ?_
            simp [Obj.mapSeq]
        have keepS : ∀ c o, c ≠ S → h'.get? c = some o → (h'.update S (Obj.mapSeq (·.push (.ref s.heap.objs.size)))).get? c = some o :=
          fun c o hcS q => (Heap.get?_update_other _ _ (fun q' : S = c => hcS q'.symm)).trans q
        have sm2 : Same H₀ (upd (upd H s.heap.objs.size (.tup [xs[i], ys[i]])) S (.lst ((ts ++ [s.heap.objs.size]).map V.ref))) := fun c o e => by
          rw [upd_ne (fun q => by rw [q, hS0] at e; cases e)]
          exact sm1 c o (sm c o e)
        have seqs : ∀ (c : Addr) (vs : List V), c ≠ S → SqT X.K H c vs → SqT X.K (upd (upd H s.heap.objs.size (.tup [xs[i], ys[i]])) S (.lst ((ts ++ [s.heap.objs.size]).map V.ref))) c vs := by
          intro c vs hcS q
          rcases q with (q | ⟨o, q⟩) | q
          · exact .inl (.inl (by rw [upd_ne hcS]; exact sm1 _ _ q))
          · exact .inl (.inr ⟨o, by rw [upd_ne hcS]; exact sm1 _ _ q⟩)
          · exact .inr q
        have Sa : a ≠ S := fun q => by
          obtain ⟨o, ho, hcl, _⟩ := p1
          have := (I.hok S _ eS)
          obtain ⟨_, _, _, _, e⟩ := this
          rw [← q, ho] at e
          cases e
          exact nomatch (show Value.type "list" = Value.type "tuple" from hcl)
        have Sb : b ≠ S := fun q => by
          obtain ⟨o, ho, hcl, _⟩ := p2
          have := (I.hok S _ eS)
          obtain ⟨_, _, _, _, e⟩ := this
          rw [← q, ho] at e
          cases e
          exact nomatch (show Value.type "list" = Value.type "tuple" from hcl)
        refine ih (i + 1) (ts ++ [s.heap.objs.size]) _ _ (by omega) hlt (by rw [List.length_append, hts]; rfl) I2 sm2 (seqs a xs Sa qa) (seqs b ys Sb qb) upd_same (fun c hcm => ?_) (fun j t hj => ?_) ?_
        · have hcS : c ≠ S := fun q => hS (by rw [← q]; exact hcm)
          have f := fp c hcm
          refine ⟨?_, f.2⟩
          rw [upd_ne hcS, upd_ne (Nat.ne_of_lt (old c hcm))]
          exact f.1
        · by_cases hjl : j < ts.length
          · rw [List.getElem?_append_left hjl] at hj
            obtain ⟨q0, x, y, q1, q2, q3⟩ := tt j t hj
            refine ⟨q0, x, y, q1, q2, ?_⟩
            have htS : t ≠ S := fun q => by rw [q, eS] at q3; cases q3
            rw [upd_ne htS]
            exact sm1 _ _ q3
          · rw [List.getElem?_append_right (by omega)] at hj
            have hj0 : j - ts.length = 0 := by
              apply Classical.byContradiction
              intro q
              rw [List.getElem?_eq_none (by show 1 ≤ _; omega)] at hj
              cases hj
            rw [hj0] at hj
            cases hj
            have ej : j = i := by omega
            subst ej
            refine ⟨sm.free new, _, _, gx, gy, ?_⟩
            rw [upd_ne nS.symm, upd_same]
        · obtain ⟨s1, s2, s3, s4⟩ := st'
          refine ⟨keepS _ _ STI.symm s1, s2.at fun o e => keepS _ o Si1.symm e, s3.at fun o e => keepS _ o Si2.symm e, ?_⟩
          rcases s4 with ⟨s4, v1, v2, s5⟩ | ⟨T, f, oT, s4, s5, s6, s7⟩
          · exact .inl ⟨keepS _ _ Sz.symm s4, v1, v2, keepS _ _ STO.symm s5⟩
          · obtain ⟨m1, m2, m3, o2, m4⟩ := s7
            exact .inr ⟨T, f, oT, keepS _ _ Sz.symm s4, keepS _ _ s6 s5, s6, m1, m2, m3, o2, keepS _ _ STO.symm m4⟩
      · rw [List.size_toArray]
        omega
    have hil1 : i1 < s.heap.objs.size := by
      obtain ⟨_, q, _⟩ := h1
      exact Heap.lt_size q
    have hil2 : i2 < s.heap.objs.size := by
      obtain ⟨_, q, _⟩ := h2
      exact Heap.lt_size q
    have hSl : S < s.heap.objs.size := lt (by rw [eS]; exact fun q => nomatch q)
    rcases hz with ⟨hz, v1, v2, hTO⟩ | ⟨T, f, oT, hz, hT, n1, n2, n3, n4, o2, hO2⟩
    · have all5 : ∀ c ∈ [z, TI, TO, i1, i2], c < s.heap.objs.size := by
        intro c hcm
        simp only [List.mem_cons, List.not_mem_nil, or_false] at hcm
        rcases hcm with q | q | q | q | q
        · rw [q]; exact Heap.lt_size hz
        · rw [q]; exact Heap.lt_size hTI
        · rw [q]; exact Heap.lt_size hTO
        · rw [q]; exact hil1
        · rw [q]; exact hil2
      refine wpAny_bind (pyNext_zipT_item D hz hTI hTO h1 h2 (show s.heap.IsTuple a its.toArray from p1) (show s.heap.IsTuple b its2.toArray from p2) au au2 fun h' a1 a2 a3 a4 a5 a6 kp => ?_)
      refine go h' (fun c o hcm e => kp c o (fun q => hcm (by simp [q])) (fun q => hcm (by simp [q])) (fun q => hcm (by simp [q])) (fun q => hcm (by simp [q])) e) a5 a6 all5 ?_
      exact ⟨kp _ _ D.TIz D.TITO D.TIi1 D.TIi2 hTI, a3, a4, .inr ⟨s.heap.objs.size, false, _, a1, a5, Nat.ne_of_gt hSl, Nat.ne_of_gt (Heap.lt_size hz), Nat.ne_of_gt hil1, Nat.ne_of_gt hil2, _, a2⟩⟩
    · refine wpAny_bind (zipH_item D hz hT hTI h1 h2 (show s.heap.IsTuple a its.toArray from p1) (show s.heap.IsTuple b its2.toArray from p2) au au2 fun h' a1 a3 a4 a5 a6 kp => ?_)
      refine go h' (fun c o hcm e => kp c o (fun q => hcm (by simp [q])) (fun q => hcm (by simp [q])) (fun q => hcm (by simp [q])) e) a5 a6 ?_ ?_
      · intro c hcm
        simp only [List.mem_cons, List.not_mem_nil, or_false] at hcm
        rcases hcm with q | q | q | q | q
        · rw [q]; exact Heap.lt_size hz
        · rw [q]; exact Heap.lt_size hTI
        · rw [q]; exact Heap.lt_size hO2
        · rw [q]; exact hil1
        · rw [q]; exact hil2
      · exact ⟨kp _ _ D.TIz D.TIi1 D.TIi2 hTI, a3, a4, .inr ⟨T, true, oT, a1, kp _ _ n2 n3 n4 hT, n1, n2, n3, n4, o2, kp _ _ D.TOz D.TOi1 D.TOi2 hO2⟩⟩
end

theorem zip_nolen : typeLookup (.type "zip") "__len__" = pure none := by rw [typeLookup_type, builtinLookup_eq_fast]; kernel_rfl
theorem zip_nohint : typeLookup (.type "zip") "__length_hint__" = pure none := by rw [typeLookup_type, builtinLookup_eq_fast]; kernel_rfl

section
variable {X : Cx} {pins : List (Addr × Obj)} {σ : L2.St}
/-- what list(zip(t, u)) gives -/
def Zipped (xs ys : List V) (H : Hp) (Q : VK) : Prop := ∀ (l : Addr) (ts : List Addr) (H' : Hp), H l = none → Same H H' → H' l = some (.lst (ts.map V.ref)) → ts.length = xs.length →
  (∀ (i : Nat) (t : Addr), ts[i]? = some t → H t = none ∧ ∃ x y, xs[i]? = some x ∧ ys[i]? = some y ∧ H' t = some (.tup [x, y])) → Q (.ref l) H'
theorem call_lzip {z TI TO i1 i2 a b : Addr} {xs ys : List V} {H : Hp} {s : Shared} {Q : VK} (D : ZipApart z TI TO i1 i2 a b) (hl : xs.length = ys.length) (hln : xs.length < sizeLine)
    (hc : X.calm = true) (I : Inv X pins σ H s) (qa : SqT X.K H a xs) (qb : SqT X.K H b ys) (fp : ∀ c ∈ [z, TI, TO, i1, i2], FpOk X pins H c)
    (hz : IsZip s.heap z TI TO .none) (hTI : IsPair s.heap TI (.ref i1) (.ref i2)) (hTO : IsPair s.heap TO .none .none)
    (h1 : s.heap.IsTupleIter i1 a 0) (h2 : s.heap.IsTupleIter i2 b 0) (q : Zipped xs ys H Q) :
    wpAny (model X.prog X.w) X.A (call (.type "list") [.ref z]) (EP X pins σ Q) X.xe s := by
  have all5 : ∀ c ∈ [z, TI, TO, i1, i2], c < s.heap.objs.size := by
    intro c hcm
    simp only [List.mem_cons, List.not_mem_nil, or_false] at hcm
    rcases hcm with q | q | q | q | q
    · rw [q]; exact Heap.lt_size hz
    · rw [q]; exact Heap.lt_size hTI
    · rw [q]; exact Heap.lt_size hTO
    · rw [q]; obtain ⟨_, q', _⟩ := h1; exact Heap.lt_size q'
    · rw [q]; obtain ⟨_, q', _⟩ := h2; exact Heap.lt_size q'
  have hSf : s.heap.objs.size ∉ [z, TI, TO, i1, i2] := fun hm => Nat.lt_irrefl _ (all5 _ hm)
  have new := I.hok.fresh (Nat.le_refl s.heap.objs.size)
  refine callType_codes (Q₁ := fun obj s₁ => obj = .ref s.heap.objs.size ∧ s₁ = { s with heap := s.heap.push { cls := .type "list", data := .seq #[] } }) F.called_list (F.typeCall_list_1 _) F.entry_list_init
    (code_list_new _ ⟨rfl, rfl⟩) fun obj s₁ e => ?_
  obtain ⟨rfl, rfl⟩ := e
  have hS : (s.heap.push { cls := .type "list", data := .seq #[] }).get? s.heap.objs.size = some { cls := .type "list", data := .seq #[] } := Heap.get?_push_size _ rfl
  refine ⟨⟨_, hS, rfl⟩, F.args_list_init_2 _ _, ?_⟩
  have kp0 : ∀ c o, s.heap.get? c = some o → (s.heap.push { cls := .type "list", data := .seq #[] }).get? c = some o := fun c o e => Heap.get?_push_of_some _ e
  show wpAny _ _ (do let old ← Builtin.List.listItems (.ref s.heap.objs.size); Builtin.List.listUpdate (.ref s.heap.objs.size) (fun _ => #[]); letGo old.toList.reverse; Builtin.List.listExtendWith (.ref s.heap.objs.size) (.ref z) .none) _ _ _
  refine wpAny_bind ?_
  unfold Builtin.List.listItems
  refine wpAny_bind (wpAny_seqItems hS rfl (wpAny_pure ?_))
  show wpAny _ _ (updateSeq s.heap.objs.size (fun _ => #[]) >>= fun _ => letGo (#[] : Array Value).toList.reverse >>= fun _ => Builtin.List.listExtendWith (.ref s.heap.objs.size) (.ref z) .none) _ _ _
  refine wpAny_bind (wpAny_updateSeq hS rfl ?_)
  have hS2 := Heap.get?_update_self (Obj.mapSeq (fun _ => (#[] : Array Value))) hS rfl
  have kp1 : ∀ c o, s.heap.get? c = some o → ((s.heap.push { cls := .type "list", data := .seq #[] }).update s.heap.objs.size (Obj.mapSeq (fun _ => (#[] : Array Value)))).get? c = some o :=
    fun c o e => (Heap.get?_update_other _ _ (Nat.ne_of_gt (Heap.lt_size e))).trans (kp0 c o e)
  refine wpAny_bind (wpAny_letGo ?_)
  generalize ((s.heap.push { cls := .type "list", data := .seq #[] }).update s.heap.objs.size (Obj.mapSeq (fun _ => (#[] : Array Value)))) = g1 at hS2 kp1 ⊢
  have hTy : ({ s with heap := g1 } : Shared).TypeIs (.ref z) "zip" := ⟨_, kp1 _ _ hz, rfl⟩
  unfold Builtin.List.listExtendWith
  refine wpAny_bind (wpAny_typeOf hTy ?_)
  have n1 : Builtin.List.listSameRef (.ref s.heap.objs.size) (.ref z) = false := by
    simp [Builtin.List.listSameRef, Nat.ne_of_gt (Heap.lt_size hz)]
  have n2 : (Value.type "zip" == Value.type "list") = false := by decide
  have n3 : (Value.type "zip" == Value.type "tuple") = false := by decide
  simp only [n1, n2, n3, Bool.or_false, Bool.false_eq_true, if_false]
  refine wpAny_bind (wpAny_pyIter_zip (kp1 _ _ hz) ?_)
  refine wpAny_bind (wpAny_holding ?_)
  unfold Builtin.List.listLengthHint
  refine wpAny_bind (wpAny_specialOf hTy zip_nolen ?_)
  show wpAny _ _ (specialOf (Value.ref z) (Str.ofString "__length_hint__") >>= _) _ _ _
  refine wpAny_bind (wpAny_specialOf hTy zip_nohint ?_)
  refine wpAny_pure ?_
  show wpAny _ _ (rule "list.extend.makes-room" >>= fun _ => Builtin.List.listTouch (.ref s.heap.objs.size) >>= fun _ =>
    again (.builtin "list.extend.loop" ⟨[.ref s.heap.objs.size, .ref z, .none], []⟩)) _ _ _
  refine wpAny_bind (wpAny_rule ?_)
  refine wpAny_bind ?_
  show wpAny _ _ (updateSeq s.heap.objs.size (·.push .none) >>= fun _ => updateSeq s.heap.objs.size (·.pop)) _ _ _
  refine wpAny_bind (wpAny_updateSeq hS2 rfl ?_)
  have hS3 := Heap.get?_update_self (Obj.mapSeq (·.push Value.none)) hS2 rfl
  refine wpAny_updateSeq (hz := by seq_fits) hS3 rfl ?_
  have hS4 := Heap.get?_update_self (Obj.mapSeq (·.pop)) hS3 rfl
  have kp2 : ∀ c o, s.heap.get? c = some o → ((g1.update s.heap.objs.size (Obj.mapSeq (·.push Value.none))).update s.heap.objs.size (Obj.mapSeq (·.pop))).get? c = some o :=
    fun c o e => (Heap.get?_update_other _ _ (Nat.ne_of_gt (Heap.lt_size e))).trans ((Heap.get?_update_other _ _ (Nat.ne_of_gt (Heap.lt_size e))).trans (kp1 c o e))
  generalize ((g1.update s.heap.objs.size (Obj.mapSeq (·.push Value.none))).update s.heap.objs.size (Obj.mapSeq (·.pop))) = g2 at hS4 kp2 ⊢
  have I2 : Inv X pins σ (upd H s.heap.objs.size (.lst [])) { s with heap := g2 } := by
    refine I.laid (t' := s.toks) kp2 (Nat.le_refl _) ⟨Nat.zero_le _, [], _, .nil, hS4⟩
  have sm : Same H (upd H s.heap.objs.size (.lst [])) := fun c o e => by
    rw [upd_ne (ne_of_none e new)]
    exact e
  have sqt : ∀ (c : Addr) (vs : List V), SqT X.K H c vs → SqT X.K (upd H s.heap.objs.size (.lst [])) c vs := by
    intro c vs q
    rcases q with (q | ⟨o, q⟩) | q
    · exact .inl (.inl (sm _ _ q))
    · exact .inl (.inr ⟨o, sm _ _ q⟩)
    · exact .inr q
  refine wpAny_pure ⟨plainId_quiet F.plain_extend_loop _, zl_loop D hl hln hSf hc new (fun ts H' s' I' sm' eS len tt => ⟨rfl, .ref s.heap.objs.size, H', I', rfl, q _ ts H' new sm' eS len tt⟩)
    xs.length 0 [] _ _ (Nat.sub_zero _) (Nat.zero_le _) rfl I2 sm (sqt a xs qa) (sqt b ys qb) upd_same (fun c hcm => ?_) (fun i t h => by simp at h) ?_⟩
  · have f := fp c hcm
    refine ⟨?_, f.2⟩
    rw [upd_ne (Nat.ne_of_lt (all5 c hcm))]
    exact f.1
  · exact ⟨kp2 _ _ hTI, h1.at fun o e => kp2 _ o e, h2.at fun o e => kp2 _ o e, .inl ⟨kp2 _ _ hz, _, _, kp2 _ _ hTO⟩⟩

/-- list(zip(e, e2)), two tuples of one length -/
theorem pe_lzip {e e2 : Expr} {ta : TA} {p p2 pos pos2 : Pos} (hc : X.calm = true) (hg : Gl X "list") (hm : X.mg "list" = none) (hg2 : Gl X "zip") (hm2 : X.mg "zip" = none) (ha : PA X [e, e2] ta)
    (hs : starEach [e, e2] X.env = (false, eval e X.env) :: starEach [e2] X.env := by rfl) (hpl : (backTo pos2 (starEach [e2] X.env)).any (·.1) = false := by rfl)
    (hs1 : starEach [.Call (.Name "zip" p2) [e, e2] [] pos2] X.env = [(false, eval (.Call (.Name "zip" p2) [e, e2] [] pos2) X.env)] := by rfl) :
    PE X (.Call (.Name "list" p) [.Call (.Name "zip" p2) [e, e2] [] pos2] [] pos)
      (fun σ H Q => ta σ H fun vs H1 => ∃ a b xs ys, vs = [.ref a, .ref b] ∧ SqT X.K H1 a xs ∧ SqT X.K H1 b ys ∧ xs.length = ys.length ∧ xs.length < sizeLine ∧ Zipped xs ys H1 Q) := by
  refine ⟨fun pins s σ H Q I h => ?_⟩
  refine Call_ (ld_blt I hg hm boot_list (PyProof.Rows.callWith_type1 (args_cons (Call_ (ld_blt I hg2 hm2 PyProof.Rows.boot_zip (PyProof.Rows.callWith_type1
    (thn (ha.run pos2 pins s σ H _ I h) fun us s1 ⟨vs, H1, I1, r1, q1⟩ => ?_) hs hpl))) hs1) hs1 rfl))
  obtain ⟨a, b, xs, ys, ex, qa, qb, hl, hln, q⟩ := q1
  subst ex
  cases r1 with
  | cons r rr =>
    cases rr with
    | cons r' rr =>
      cases rr
      cases r
      cases r'
      obtain ⟨its, rv, p1, _⟩ := I1.tuple qa
      obtain ⟨its2, rv2, p2', _⟩ := I1.tuple qb
      obtain ⟨o1, ho1, _⟩ := id p1
      obtain ⟨o2, ho2, _⟩ := id p2'
      refine call_zipT (show s1.heap.IsTuple a its.toArray from p1) (show s1.heap.IsTuple b its2.toArray from p2') fun h' hz hTI hTO h1 h2 hsz hk => ?_
      have I2 : Inv X pins σ H1 { s1 with heap := h' } := I1.kept (t' := s1.toks) hk
      refine args_nil (call_lzip (PySem.W.ktu_apart s1.heap.objs.size a b (Heap.lt_size ho1) (Heap.lt_size ho2)) hl hln hc I2 qa qb (fun c hcm => ?_) hz hTI hTO h1 h2 q)
      have hle : s1.heap.objs.size ≤ c := by
        simp only [List.mem_cons, List.not_mem_nil, or_false] at hcm
        rcases hcm with z | z | z | z | z
        · rw [z]; exact Nat.le_add_right _ _
        · rw [z]; exact Nat.le_add_right _ _
        · rw [z]; exact Nat.le_add_right _ _
        · rw [z]; exact Nat.le_refl _
        · rw [z]; exact Nat.le_add_right _ _
      exact I1.fpOk hle (I1.hok.fresh hle)
end
end KR
/-! setdefault where the keys are tuples -/
namespace KR
open PySem PySem.Spec PyProof.Rows L2
section
variable {X : Cx} {pins : List (Addr × Obj)} {σ : L2.St} {H : Hp} {s : Shared} {a b : Addr} {d : V} {r : Value} {A : Around} {E : Value → Shared → Prop} {kvs : List (List L2.Key × V)} {k : List L2.Key}
theorem d_setdT {Q : Value → Shared → Prop} (hu : A.units + 1 < cLine) (I : Inv X pins σ H s) (e : H a = some (.dT kvs)) (eb : H b = some (.tup (k.map kV))) (rd : RelV d r) (l : kvs.length < sizeLine)
    (h1 : ∀ v, valV kvs k = some v → ∀ w' s', Inv X pins σ H s' → RelV v w' → Q w' s')
    (h2 : valV kvs k = none → ∀ s', Inv X pins σ (upd H a (.dT (putK kvs k d))) s' → Q r s') :
    wpAny (model X.prog X.w) A (call (.builtin "dict.setdefault") [.ref a, .ref b, r]) Q E s := by
  obtain ⟨z, hd, xs, rel, dd⟩ := dt_of I.hok e
  have hz : xs.length ≤ sizeLine := by
    rw [← Paired.length rel]
    exact z
  have vk := rel.val k
  refine call_setdefault_heap (hsz := hz) (tupleKind_room_in1 hu) (key_of I.hok eb) hd dd (fun p hp => ?_) (fun hn h' dd' hs => ?_)
  · rw [hp] at vk
    cases q0 : valV kvs k with
    | none =>
      rw [q0] at vk
      exact (show False from vk).elim
    | some v0 =>
      rw [q0] at vk
      exact h1 v0 q0 _ _ (I.tok _) vk
  · rw [hn] at vk
    cases q0 : valV kvs k with
    | some v0 =>
      rw [q0] at vk
      exact (show False from vk).elim
    | none =>
      have hl : (putK kvs k d).length ≤ sizeLine := by
        have := length_putK kvs k d
        omega
      refine h2 q0 _ ?_
      obtain ⟨q, es, ep, hq, g2, g3, g4, _, g5⟩ := dd'
      refine d_write I (by rw [e]; exact True.intro) hs ⟨q, hq⟩ ⟨hl, hd, _, (rel.put k eb rd).keeps fun c ys ec => ?_, q, es, ep, hq, g2, g3, g4, g5⟩
      rw [upd_ne (ne_of ec e (fun z => nomatch z))]
      exact ec
end
/-- d.setdefault(y, z), keys that are tuples -/
def tDSetT (td ty tx : TE) : TE := fun σ H Q => td σ H fun x H1 => ∃ a, x = .ref a ∧ IsD H1 a ∧ ty σ H1 fun y H2 => tx σ H2 fun z H3 =>
  ∃ (kvs : List (List L2.Key × V)) (k : List L2.Key) (b : Addr), H3 a = some (.dT kvs) ∧ y = .ref b ∧ H3 b = some (.tup (k.map kV)) ∧ kvs.length < sizeLine ∧
  (∀ v, valV kvs k = some v → Q v H3) ∧ (valV kvs k = none → Q z (upd H3 a (.dT (putK kvs k z))))
theorem pe_dsetdT {X : Cx} {o e f : Expr} {td ty tx : TE} {apos cpos : Pos} (hu : X.A.units + 1 < cLine) (ho : PE X o td) (he : PE X e ty) (hf : PE X f tx) (m : M2 X o "setdefault" apos e f cpos) :
    PE X (.Call (.Attribute o "setdefault" apos) [e, f] [] cpos) (tDSetT td ty tx) := by
  refine ⟨fun pins s σ H Q I h => ?_⟩
  refine wpAny_Call_method m.base m.few m.line PySem.F.plainAttrs_dict PySem.F.slot_dict_setdefault PySem.F.type_dict_setdefault
    (thn (ho.run pins s σ H _ I h) fun u s1 ⟨x, H1, I1, rx, a, ex, d, q1⟩ => ?_)
  subst ex
  obtain rfl : u = Value.ref a := rx
  obtain ⟨t1, t2, _⟩ := isD_at I1 d
  refine ⟨t1, t2, ?_⟩
  rw [m.trees]
  refine Calls.callWith_builtin rfl (Calls.evalArgs_plain (Calls.spliced_cons (thn (he.run pins s1 σ H1 _ I1 q1) fun iv s2 ⟨y, H2, I2, ry, q2⟩ =>
    Calls.spliced_cons (thn (hf.run pins s2 σ H2 _ I2 q2) fun fv s3 ⟨z, H3, I3, rz, kvs, k, b, ea, ey, eb, hl, q3, q4⟩ => Calls.spliced_nil ?_))))
  subst ey
  cases (show iv = Value.ref b from ry)
  exact d_setdT hu I3 ea eb rz hl (fun v hv w' s4 I4 rw' => ⟨v, _, I4, rw', q3 v hv⟩) fun hn s4 I4 => ⟨z, _, I4, rz, q4 hn⟩
end KR
/-! short words: a def by its name and promise -/
namespace KR
open PySem PySem.Spec PyProof.Rows L2

/-- the built-ins that the text does not hide -/
structure Bt (mg : Str → Option Value) : Prop where
  len : mg "len" = none
  range : mg "range" = none
  enumerate : mg "enumerate" = none
  zip : mg "zip" = none
  isinstance : mg "isinstance" = none
  int : mg "int" = none
  bool : mg "bool" = none
  tuple : mg "tuple" = none
  list : mg "list" = none
  max : mg "max" = none
  min : mg "min" = none
  repr : mg "repr" = none
  set : mg "set" = none
  sum : mg "sum" = none
  sorted : mg "sorted" = none
def Cst (mg : Str → Option Value) (x : Str) (v : Int) : Prop := ∃ t, mg x = some (.int v t)
def DefAt (K : PySem.W.Frag) (mg : Str → Option Value) (x : Str) (st : Stmt) : Prop := ∃ f fd, Fun K x x st f fd ∧ mg x = some (.ref f)
def Use (P : Program) (w : World) (K : PySem.W.Frag) (mg : Str → Option Value) (base : Heap) (x : Str) (k : Nat) (ps : List Str) (sp : Sp) : Prop :=
  ∃ f fd, FnOk P w K mg base CX0 k f fd ps sp ∧ mg x = some (.ref f) ∧ PySem.W.keepIn K (.ref f) = true ∧ Binds K fd ps []
def UseG (P : Program) (w : World) (K : PySem.W.Frag) (mg : Str → Option Value) (base : Heap) (x : Str) (k : Nat) (ps : List Str) (sp : Sp) : Prop :=
  ∃ f fd, FnG P w K mg base k f fd ps sp ∧ mg x = some (.ref f) ∧ PySem.W.keepIn K (.ref f) = true ∧ Binds K fd ps []

section
variable {P : Program} {w : World} {K : PySem.W.Frag} {mg : Str → Option Value} {base : Heap} {x : Str} {st : Stmt} {k : Nat} {ps : List Str} {sp : Sp}
theorem use_of (D : DefAt K mg x st) (ok : ∀ f fd, Fun K x x st f fd → FnOk P w K mg base CX0 k f fd ps sp)
    (h : ∀ (kV doc pm : Value) (an : Option Addr) (cdv ct : Value) (us : List Value), us.length = ps.length → bindArgs (PySem.W.fnOf x x (defArgs st) (defBody st) (defScope st) .none kV doc pm an cdv ct) ⟨us, []⟩ = pure (ps.zip us)) :
    Use P w K mg base x k ps sp := by
  obtain ⟨f, fd, F, hm⟩ := D
  exact ⟨f, fd, ok f fd F, hm, F.kp, F.binds h⟩
theorem use_ofG (D : DefAt K mg x st) (ok : ∀ f fd, Fun K x x st f fd → FnG P w K mg base k f fd ps sp)
    (h : ∀ (kV doc pm : Value) (an : Option Addr) (cdv ct : Value) (us : List Value), us.length = ps.length → bindArgs (PySem.W.fnOf x x (defArgs st) (defBody st) (defScope st) .none kV doc pm an cdv ct) ⟨us, []⟩ = pure (ps.zip us)) :
    UseG P w K mg base x k ps sp := by
  obtain ⟨f, fd, F, hm⟩ := D
  exact ⟨f, fd, ok f fd F, hm, F.kp, F.binds h⟩
end
section
variable {X : Cx} {x : Str} {j k : Nat} {ps : List Str} {sp : Sp} {e : Expr} {es : List Expr} {t : TA} {p pos : Pos} {v : Int}
theorem pe_use (u : Use X.prog X.w X.K X.mg X.base x j ps sp) (le : j ≤ k) (hr : Room k X.A) (hg : Gl X x) (ha : PA X (e :: es) t)
    (hdb : (x == ("__debug__" : Str)) = false := by decide) (he : starEach (e :: es) X.env = (false, eval e X.env) :: starEach es X.env := by rfl)
    (hpl : (backTo pos (starEach es X.env)).any (·.1) = false := by rfl) : PE X (.Call (.Name x p) (e :: es) [] pos) (tCall sp [] E0 t) := by
  obtain ⟨f, fd, F, hm, kp, b⟩ := u
  exact pe_call F (hr.mono le) hg hm kp b .nil pass0 ha hdb he hpl
theorem pe_useG (u : UseG X.prog X.w X.K X.mg X.base x j ps sp) (gd : X.A.guards = some []) (le : j ≤ k) (hr : Room k X.A) (hg : Gl X x) (ha : PA X (e :: es) t)
    (hdb : (x == ("__debug__" : Str)) = false := by decide) (he : starEach (e :: es) X.env = (false, eval e X.env) :: starEach es X.env := by rfl)
    (hpl : (backTo pos (starEach es X.env)).any (·.1) = false := by rfl) : PE X (.Call (.Name x p) (e :: es) [] pos) (tCall sp [] E0 t) := by
  obtain ⟨f, fd, F, hm, kp, b⟩ := u
  exact pe_callG F gd (hr.mono le) hg hm kp b .nil ha hdb he hpl
theorem pe_cst (hg : Gl X x) (h : Cst X.mg x v) (hd : (x == ("__debug__" : Str)) = false := by decide) : PE X (.Name x pos) (tC (.int v)) := by
  obtain ⟨t, h⟩ := h
  exact pe_glob hg h ⟨t, rfl⟩ hd
end
/-- seqs kept -/
theorem sameT {K : PySem.W.Frag} {H H' : Hp} {a : Addr} {xs : List V} (e : Same H H') (h : SqT K H a xs) : SqT K H' a xs := by
  rcases h with (h | ⟨o, h⟩) | h
  · exact .inl (.inl (e _ _ h))
  · exact .inl (.inr ⟨o, e _ _ h⟩)
  · exact .inr h
theorem same_new {H : Hp} {p : Addr} {o : HO} (h : H p = none) : Same H (upd H p o) := fun b x e => by
  rw [upd_ne (ne_of_none e h)]
  exact e
/-- an object that H does not know was changed -/
theorem same_mut {H H' : Hp} {p : Addr} {o : HO} (e : Same H H') (h : H p = none) : Same H (upd H' p o) := fun a u ha => by
  rw [upd_ne (ne_of_none ha h)]
  exact e a u ha
theorem sqT {K : PySem.W.Frag} {H : Hp} {a : Addr} {xs : List V} (h : H a = some (.tup xs)) : SqT K H a xs := .inl (.inl h)
theorem sqL {K : PySem.W.Frag} {H : Hp} {a : Addr} {xs : List V} (h : H a = some (.lst xs)) : SqL K H a xs := .inl (.inl h)
end KR
/-! loops over enumerate(tuple), over a tuple, over a range, by an invariant -/
namespace KR
open PySem PySem.Spec PyProof.Rows L2
theorem for_enumT {K : PySem.W.Frag} {a : Addr} {xs : List V} {g : TG} {tb : TS} {D : Ends} {σ : L2.St} {H : Hp} (Pv : Nat → L2.St → Hp → Prop) (h0 : Pv 0 σ H)
    (hq : ∀ i σ H, Pv i σ H → SqT K H a xs)
    (hs : ∀ (i : Nat) (x : V) (T : Addr) (σ : L2.St) (H : Hp), xs[i]? = some x → Pv i σ H → H T = none →
      g (.ref T) σ (upd H T (.tup [.int (i : Nat), x])) fun σ2 H2 => tb { D with nx := Pv (i + 1), ct := Pv (i + 1), bk := D.nx } σ2 H2)
    (hd : ∀ σ H, Pv xs.length σ H → D.nx σ H) :
    ∃ W : Nat → Nat → L2.St → Hp → Prop, (∃ m, W 0 m σ H) ∧ ∀ i m σ H, W i m σ H →
      ((IteT K a).stop i H ∧ D.nx σ H) ∨ ((IteT K a).go i H ∧ ∃ N : L2.St → Hp → Prop, (∀ σ' H', N σ' H' → ∃ m', m' < m ∧ W (i + 1) m' σ' H') ∧
        ∀ v H', (IteT K a).yld i H v H' → g v σ H' fun σ2 H2 => tb { D with nx := N, ct := N, bk := D.nx } σ2 H2) := by
  refine ⟨fun i m σ H => m = xs.length - i ∧ i ≤ xs.length ∧ Pv i σ H, ⟨xs.length, rfl, Nat.zero_le _, h0⟩, ?_⟩
  rintro i m σ H ⟨rfl, hi, p⟩
  have q := hq i σ H p
  by_cases hlt : i < xs.length
  · have hx : xs[i]? = some xs[i] := List.getElem?_eq_getElem hlt
    refine .inr ⟨⟨xs, _, q, hx⟩, Pv (i + 1), fun σ' H' p' => ⟨xs.length - (i + 1), by omega, rfl, hlt, p'⟩, fun v H' y => ?_⟩
    obtain ⟨T, x', rfl, hT, rfl, f1⟩ := y
    exact hs i x' T σ H (f1 xs q) p hT
  · have e : i = xs.length := by omega
    subst e
    exact .inl ⟨⟨xs, q, Nat.le_refl _⟩, hd σ H p⟩
theorem for_enumL {K : PySem.W.Frag} {a : Addr} {xs : List V} {g : TG} {tb : TS} {D : Ends} {σ : L2.St} {H : Hp} (Pv : Nat → L2.St → Hp → Prop) (h0 : Pv 0 σ H)
    (hq : ∀ i σ H, Pv i σ H → SqL K H a xs)
    (hs : ∀ (i : Nat) (x : V) (T : Addr) (σ : L2.St) (H : Hp), xs[i]? = some x → Pv i σ H → H T = none →
      g (.ref T) σ (upd H T (.tup [.int (i : Nat), x])) fun σ2 H2 => tb { D with nx := Pv (i + 1), ct := Pv (i + 1), bk := D.nx } σ2 H2)
    (hd : ∀ σ H, Pv xs.length σ H → D.nx σ H) :
    ∃ W : Nat → Nat → L2.St → Hp → Prop, (∃ m, W 0 m σ H) ∧ ∀ i m σ H, W i m σ H →
      ((Ite K a).stop i H ∧ D.nx σ H) ∨ ((Ite K a).go i H ∧ ∃ N : L2.St → Hp → Prop, (∀ σ' H', N σ' H' → ∃ m', m' < m ∧ W (i + 1) m' σ' H') ∧
        ∀ v H', (Ite K a).yld i H v H' → g v σ H' fun σ2 H2 => tb { D with nx := N, ct := N, bk := D.nx } σ2 H2) := by
  refine ⟨fun i m σ H => m = xs.length - i ∧ i ≤ xs.length ∧ Pv i σ H, ⟨xs.length, rfl, Nat.zero_le _, h0⟩, ?_⟩
  rintro i m σ H ⟨rfl, hi, p⟩
  have q := hq i σ H p
  by_cases hlt : i < xs.length
  · have hx : xs[i]? = some xs[i] := List.getElem?_eq_getElem hlt
    refine .inr ⟨⟨xs, _, q, hx⟩, Pv (i + 1), fun σ' H' p' => ⟨xs.length - (i + 1), by omega, rfl, hlt, p'⟩, fun v H' y => ?_⟩
    obtain ⟨T, x', rfl, hT, rfl, f1⟩ := y
    exact hs i x' T σ H (f1 xs q) p hT
  · have e : i = xs.length := by omega
    subst e
    exact .inl ⟨⟨xs, q, Nat.le_refl _⟩, hd σ H p⟩
/-- an item of a mapped list -/
theorem map_at {α β : Type} {f : α → β} {xs : List α} {i : Nat} {y : β} (h : (xs.map f)[i]? = some y) : ∃ x, xs[i]? = some x ∧ y = f x := by
  rw [List.getElem?_map] at h
  cases e : xs[i]? with
  | none =>
    rw [e] at h
    cases h
  | some x =>
    rw [e] at h
    exact ⟨x, rfl, (Option.some.inj h).symm⟩
theorem at_map {α β : Type} {f : α → β} {xs : List α} {i : Nat} {x : α} (h : xs[i]? = some x) : (xs.map f)[i]? = some (f x) := by
  rw [List.getElem?_map, h]
  rfl
/-- a seq's place -/
theorem atI_of {xs : List V} {i : Int} {j : Nat} {v : V} (e : i = (j : Int)) (h : xs[j]? = some v) : atI xs i = some v := at_of e h
end KR
/-! comprehensions of two clauses: a list, then a range -/
namespace KR
open PySem PySem.Spec PyProof.Rows L2
theorem in_range {lo : Int} {n : Nat} {g1 : TG} {tt1 : TT} {te : TE} {vs1 : List Nat} {σ2 : L2.St} {H4 : Hp} {D : Addr} {Nx : Hp → Prop} (Pw : Nat → Hp → Prop) (h0 : Pw 0 H4)
    (hs : ∀ j H, j < n → Pw j H → g1 (.int (lo + (j : Nat))) (wipe σ2 vs1) H fun σ3 H5 => wipe σ3 vs1 = wipe σ2 vs1 ∧ tt1 σ3 H5 fun b H6 =>
      if b = true then te σ3 H6 fun y H7 => ∃ acc, H7 D = some (.lst acc) ∧ acc.length < sizeLine ∧ Pw (j + 1) (upd H7 D (.lst (acc ++ [y]))) else Pw (j + 1) H6)
    (hd : ∀ H, Pw n H → Nx H) :
    ∃ W1 : Nat → Nat → Hp → Prop, (∃ m, W1 0 m H4) ∧ ∀ j k H, W1 j k H →
      ((Itr lo n).stop j H ∧ Nx H) ∨ ((Itr lo n).go j H ∧ ∃ Nx1 : Hp → Prop, (∀ H', Nx1 H' → ∃ k', k' < k ∧ W1 (j + 1) k' H') ∧
        ∀ x H', (Itr lo n).yld j H x H' → g1 x (wipe σ2 vs1) H' fun σ3 H5 => wipe σ3 vs1 = wipe σ2 vs1 ∧ tt1 σ3 H5 fun b H6 =>
          if b = true then te σ3 H6 fun y H7 => ∃ acc, H7 D = some (.lst acc) ∧ acc.length < sizeLine ∧ Nx1 (upd H7 D (.lst (acc ++ [y]))) else Nx1 H6) := by
  refine ⟨fun j k H => k = n - j ∧ j ≤ n ∧ Pw j H, ⟨n, by simp, Nat.zero_le _, h0⟩, ?_⟩
  rintro j k H ⟨rfl, hj, p⟩
  by_cases hlt : j < n
  · refine .inr ⟨hlt, Pw (j + 1), fun H' p' => ⟨n - (j + 1), by omega, rfl, hlt, p'⟩, fun x H' y => ?_⟩
    obtain ⟨e, y⟩ := y
    subst e y
    exact hs j _ hlt p
  · have e : j = n := by omega
    subst e
    exact .inl ⟨Nat.le_refl _, hd H p⟩
theorem lc2_list {K : PySem.W.Frag} {a : Addr} {xs : List V} {g : TG} {tt : TT} {wi1 : TI} {g1 : TG} {tt1 : TT} {te : TE} {vs vs1 : List Nat} {σ : L2.St} {H1 : Hp} {D : Addr} {Qd : Hp → Prop}
    (Pv : Nat → Hp → Prop) (h0 : Pv 0 (upd H1 D (.lst []))) (hl : ∀ i H, i ≤ xs.length → Pv i H → SqL K H a xs)
    (hs : ∀ i x H, xs[i]? = some x → Pv i H → g x (wipe σ vs) H fun σ2 H2 => wipe σ2 vs = wipe σ vs ∧ tt σ2 H2 fun b H3 =>
      if b = true then wi1 σ2 H3 fun J1 H4 => ∃ W1 : Nat → Nat → Hp → Prop, (∃ m, W1 0 m H4) ∧ ∀ j k H, W1 j k H →
        (J1.stop j H ∧ Pv (i + 1) H) ∨ (J1.go j H ∧ ∃ Nx1 : Hp → Prop, (∀ H', Nx1 H' → ∃ k', k' < k ∧ W1 (j + 1) k' H') ∧ ∀ x H', J1.yld j H x H' →
          g1 x (wipe σ2 vs1) H' fun σ3 H5 => wipe σ3 vs1 = wipe σ2 vs1 ∧ tt1 σ3 H5 fun b H6 =>
          if b = true then te σ3 H6 fun y H7 => ∃ acc, H7 D = some (.lst acc) ∧ acc.length < sizeLine ∧ Nx1 (upd H7 D (.lst (acc ++ [y]))) else Nx1 H6)
      else Pv (i + 1) H3) (hd : ∀ H, Pv xs.length H → Qd H) :
    ∃ W : Nat → Nat → Hp → Prop, (∃ m, W 0 m (upd H1 D (.lst []))) ∧ ∀ i m H, W i m H →
      ((Itl K a).stop i H ∧ Qd H) ∨ ((Itl K a).go i H ∧ ∃ Nx : Hp → Prop, (∀ H', Nx H' → ∃ m', m' < m ∧ W (i + 1) m' H') ∧ ∀ x H', (Itl K a).yld i H x H' →
        g x (wipe σ vs) H' fun σ2 H2 => wipe σ2 vs = wipe σ vs ∧ tt σ2 H2 fun b H3 =>
        if b = true then wi1 σ2 H3 fun J1 H4 => ∃ W1 : Nat → Nat → Hp → Prop, (∃ m, W1 0 m H4) ∧ ∀ j k H, W1 j k H →
          (J1.stop j H ∧ Nx H) ∨ (J1.go j H ∧ ∃ Nx1 : Hp → Prop, (∀ H', Nx1 H' → ∃ k', k' < k ∧ W1 (j + 1) k' H') ∧ ∀ x H', J1.yld j H x H' →
            g1 x (wipe σ2 vs1) H' fun σ3 H5 => wipe σ3 vs1 = wipe σ2 vs1 ∧ tt1 σ3 H5 fun b H6 =>
            if b = true then te σ3 H6 fun y H7 => ∃ acc, H7 D = some (.lst acc) ∧ acc.length < sizeLine ∧ Nx1 (upd H7 D (.lst (acc ++ [y]))) else Nx1 H6)
        else Nx H3) := by
  refine ⟨fun i m H => m = xs.length - i ∧ i ≤ xs.length ∧ Pv i H, ⟨xs.length, by simp, Nat.zero_le _, h0⟩, ?_⟩
  rintro i m H ⟨rfl, hi, p⟩
  have q := hl i H hi p
  by_cases hlt : i < xs.length
  · refine .inr ⟨⟨xs, xs[i], q, by simp [hlt]⟩, Pv (i + 1), fun H' p' => ⟨xs.length - (i + 1), by omega, rfl, hlt, p'⟩, fun x H' y => ?_⟩
    obtain ⟨e, y⟩ := y
    subst e
    exact hs i x _ (y xs q) p
  · have e : i = xs.length := by omega
    subst e
    exact .inl ⟨⟨xs, q, Nat.le_refl _⟩, hd H p⟩
end KR
/-! the rules with the written part told, for a comprehension's block -/
namespace KR
open PySem PySem.Spec PyProof.Rows L2
section
variable {X : Cx} {K : PySem.W.Frag} {tg l e e2 o : Expr} {tl te to : TE} {ta t : TA} {es : List Expr} {T id : String} {r : V → List V → Hp → VK → Prop} {name : Str}
theorem k_ixl (hK : X.K = K) : IxR X (rIxL K) := by
  subst hK
  exact ix_list
theorem k_ixt (hK : X.K = K) : IxR X (rIxT K) := by
  subst hK
  exact ix_tup
theorem k_list (hK : X.K = K) (hl : PE X l tl) : PI X tg l (iList K tl) := by
  subst hK
  exact pi_list hl
theorem k_tup (hK : X.K = K) (hl : PE X l tl) : PI X tg l (iTup K tl) := by
  subst hK
  exact pi_tup hl
theorem k_isi (hK : X.K = K) : CallR X (.builtin "isinstance") (rIsi K) := by
  subst hK
  exact call_isi
theorem k_slt (hK : X.K = K) : SlR X (rSlT K) := by
  subst hK
  exact sl_tup
theorem k_sll (hK : X.K = K) : SlR X (rSlL K) := by
  subst hK
  exact sl_list
theorem k_catT (hK : X.K = K) : OpR X (binaryOp .Add) (rCatT K) := by
  subst hK
  exact op_catT
theorem k_in (hK : X.K = K) : OpR X (compareOp .In) (rIn K false) := by
  subst hK
  exact op_in_seq
theorem k_notIn (hK : X.K = K) : OpR X (compareOp .NotIn) (rIn K true) := by
  subst hK
  exact op_notIn_seq
def rLenK (K : PySem.W.Frag) : List V → Hp → VK → Prop := fun xs H Q => ∃ p ys, xs = [.ref p] ∧ (SqL K H p ys ∨ SqT K H p ys) ∧ Q (.int ys.length) H
theorem k_len (hK : X.K = K) : CallR X (.builtin "len") (rLenK K) := by
  subst hK
  exact call_len_seq
def rListK (K : PySem.W.Frag) : List V → Hp → VK → Prop := fun xs H Q => ∃ p ys, xs = [.ref p] ∧ (SqL K H p ys ∨ SqT K H p ys) ∧ ∀ l, H l = none → Q (.ref l) (upd H l (.lst ys))
theorem k_listOf (hK : X.K = K) : CallR X (.type "list") (rListK K) := by
  subst hK
  exact call_list_of
def rTupK (K : PySem.W.Frag) : List V → Hp → VK → Prop := fun xs H Q => ∃ p ys, xs = [.ref p] ∧ ((SqL K H p ys ∧ ∀ l, H l = none → Q (.ref l) (upd H l (.tup ys))) ∨ (SqT K H p ys ∧ Q (.ref p) H))
theorem k_tupOf (hK : X.K = K) : CallR X (.type "tuple") (rTupK K) := by
  subst hK
  exact call_tuple_of
theorem k_eqD (hK : X.K = K) (hu : X.A.units + 64 < cLine) : OpR X (compareOp .Eq) (rEqD K) := by
  subst hK
  exact op_eqD hu
theorem k_neD (hK : X.K = K) (hu : X.A.units + 64 < cLine) : OpR X (compareOp .NotEq) (rNeD K) := by
  subst hK
  exact op_neD hu
theorem k_maxT (hK : X.K = K) (hc : X.calm = true) (hu : X.A.units + 64 < cLine) : CallR X (.builtin "max") (rMaxT K) := by
  subst hK
  exact call_maxT hc hu
theorem k_max (hK : X.K = K) (hc : X.calm = true) : CallR X (.builtin "max") (rMax K) := by
  subst hK
  exact cr_max hc
theorem k_sum (hK : X.K = K) (hc : X.calm = true) : CallR X (.builtin "sum") (rSum K) := by
  subst hK
  exact cr_sum hc
theorem k_repr (hK : X.K = K) (gd : X.A.guards = some []) (hu : X.A.units + 64 < cLine) : CallR X (.builtin "repr") (rRepr K) := by
  subst hK
  exact call_reprD gd hu
theorem k_enumT {p pos tpos : Pos} {elts : List Expr} {kk : Nat} (hK : X.K = K) (hg : Gl X "enumerate") (hm : X.mg "enumerate" = none) (ha : PA X [e] ta)
    (hs : starEach [e] X.env = [(false, eval e X.env)] := by rfl) : PI X (.Tuple elts kk tpos) (.Call (.Name "enumerate" p) [e] [] pos) (iEnumT K ta) := by
  subst hK
  exact pi_enumT hg hm ha hs
theorem k_enum {p pos tpos : Pos} {elts : List Expr} {kk : Nat} (hK : X.K = K) (hg : Gl X "enumerate") (hm : X.mg "enumerate" = none) (ha : PA X [e] ta)
    (hs : starEach [e] X.env = [(false, eval e X.env)] := by rfl) : PI X (.Tuple elts kk tpos) (.Call (.Name "enumerate" p) [e] [] pos) (iEnum K ta) := by
  subst hK
  exact pi_enum hg hm ha hs
theorem k_zip {p pos tpos : Pos} {elts : List Expr} {kk : Nat} (hK : X.K = K) (hg : Gl X "zip") (hm : X.mg "zip" = none) (ha : PA X [e, e2] ta)
    (hs : starEach [e, e2] X.env = (false, eval e X.env) :: starEach [e2] X.env := by rfl) (hpl : (backTo pos (starEach [e2] X.env)).any (·.1) = false := by rfl) :
    PI X (.Tuple elts kk tpos) (.Call (.Name "zip" p) [e, e2] [] pos) (RZ.iZipA K ta) := by
  subst hK
  exact RZ.pi_zipA hg hm ha hs hpl
def tLzip (K : PySem.W.Frag) (ta : TA) : TE := fun σ H Q => ta σ H fun vs H1 => ∃ a b xs ys, vs = [.ref a, .ref b] ∧ SqT K H1 a xs ∧ SqT K H1 b ys ∧ xs.length = ys.length ∧ xs.length < sizeLine ∧ Zipped xs ys H1 Q
theorem k_lzip {p p2 pos pos2 : Pos} (hK : X.K = K) (hc : X.calm = true) (hg : Gl X "list") (hm : X.mg "list" = none) (hg2 : Gl X "zip") (hm2 : X.mg "zip" = none) (ha : PA X [e, e2] ta)
    (hs : starEach [e, e2] X.env = (false, eval e X.env) :: starEach [e2] X.env := by rfl) (hpl : (backTo pos2 (starEach [e2] X.env)).any (·.1) = false := by rfl)
    (hs1 : starEach [.Call (.Name "zip" p2) [e, e2] [] pos2] X.env = [(false, eval (.Call (.Name "zip" p2) [e, e2] [] pos2) X.env)] := by rfl) :
    PE X (.Call (.Name "list" p) [.Call (.Name "zip" p2) [e, e2] [] pos2] [] pos) (tLzip K ta) := by
  subst hK
  exact pe_lzip hc hg hm hg2 hm2 ha hs hpl hs1
theorem k_bm {apos cpos : Pos} (hK : X.K = K) (pa : PlainAttrs T) (slot : Slot T name id) (hty : typeOf (.builtin id) = pure (.type "method_descriptor")) (hm : MtR X id r) (ho : PE X o to) (ha : PA X (e :: es) t)
    (hbase : attributeBase o name X.env (eval o X.env) = eval o X.env := by rfl)
    (hfew : ((backTo cpos (starEach (e :: es) X.env)).all (fun x => !x.1) && (backToKw cpos (keywordEach [] X.env)).all (fun x => x.1.isSome)
      && decide ((e :: es).length + ([] : List Keyword).length + (if ([] : List Keyword).isEmpty then 0 else 1) < 30)) = true := by rfl)
    (hline : (apos.endLine == cpos.line) = true := by rfl) (hs : starEach (e :: es) X.env = (false, eval e X.env) :: starEach es X.env := by rfl)
    (hplain : (backTo cpos (starEach es X.env)).any (·.1) = false := by rfl) : PE X (.Call (.Attribute o name apos) (e :: es) [] cpos) (tBM K T r to t) := by
  subst hK
  exact pe_bm pa slot hty hm ho ha hbase hfew hline hs hplain
theorem k_star {p : Pos} {e : Expr} (hK : X.K = K) (he : PE X e te) (hr : PA X es t) (hs : starEach (.Starred e p :: es) X.env = (true, eval e X.env) :: starEach es X.env := by rfl) : PA X (.Starred e p :: es) (StX.tStar K te t) := by
  subst hK
  exact StX.pa_star he hr hs
theorem k_fld {apos : Pos} {f : Str} (hK : X.K = K) (h : PE X o te) (hx : attributeBase o f X.env (eval o X.env) = eval o X.env) : PE X (.Attribute o f apos) (tFld K te f) := by
  subst hK
  exact pe_fld h hx
end
end KR
/-! methods and instances by their names -/
namespace KR
open PySem PySem.Spec PyProof.Rows L2
def MAt (K : PySem.W.Frag) (C : Addr) (m qual : Str) (st : Stmt) : Prop := ∃ f fd, Fun K m qual st f fd ∧ Meth K C m f
def IAt (K : PySem.W.Frag) (C : Addr) (qual : Str) (st : Stmt) : Prop := ∃ f fd, Fun K "__init__" qual st f fd ∧ Mk K C f
def MUse (P : Program) (w : World) (K : PySem.W.Frag) (mg : Str → Option Value) (base : Heap) (C : Addr) (m : Str) (k : Nat) (ps : List Str) (sp : Sp) : Prop :=
  ∃ f fd, FnOk P w K mg base CX0 k f fd ps sp ∧ Meth K C m f ∧ Binds K fd ps []
def KUse (P : Program) (w : World) (K : PySem.W.Frag) (mg : Str → Option Value) (base : Heap) (C : Addr) (x : Str) (k : Nat) (ps : List Str) (sp : Sp) : Prop :=
  ∃ f fd, FnOk P w K mg base CX0 k f fd ps sp ∧ Mk K C f ∧ mg x = some (.ref C) ∧ Binds K fd ps []
section
variable {P : Program} {w : World} {K : PySem.W.Frag} {mg : Str → Option Value} {base : Heap} {x m qual : Str} {st : Stmt} {k : Nat} {ps : List Str} {sp : Sp} {C : Addr}
theorem muse_of (D : MAt K C m qual st) (ok : ∀ f fd, Fun K m qual st f fd → FnOk P w K mg base CX0 k f fd ps sp)
    (h : ∀ (kV doc pm : Value) (an : Option Addr) (cdv ct : Value) (us : List Value), us.length = ps.length → bindArgs (PySem.W.fnOf m qual (defArgs st) (defBody st) (defScope st) .none kV doc pm an cdv ct) ⟨us, []⟩ = pure (ps.zip us)) :
    MUse P w K mg base C m k ps sp := by
  obtain ⟨f, fd, F, hm⟩ := D
  exact ⟨f, fd, ok f fd F, hm, F.binds h⟩
theorem kuse_of (D : IAt K C qual st) (hm : mg x = some (.ref C)) (ok : ∀ f fd, Fun K "__init__" qual st f fd → FnOk P w K mg base CX0 k f fd ps sp)
    (h : ∀ (kV doc pm : Value) (an : Option Addr) (cdv ct : Value) (us : List Value), us.length = ps.length → bindArgs (PySem.W.fnOf "__init__" qual (defArgs st) (defBody st) (defScope st) .none kV doc pm an cdv ct) ⟨us, []⟩ = pure (ps.zip us)) :
    KUse P w K mg base C x k ps sp := by
  obtain ⟨f, fd, F, mk⟩ := D
  exact ⟨f, fd, ok f fd F, mk, hm, F.binds h⟩
end
section
variable {X : Cx} {x m : Str} {j k : Nat} {ps : List Str} {sp : Sp} {o e : Expr} {es : List Expr} {ta : TE} {t : TA} {p pos apos : Pos} {C : Addr}
theorem pe_mUse {pl : Sem Bool} (he : PE X o ta) (c : Cls X.K C) (u : MUse X.prog X.w X.K X.mg X.base C m j ps sp) (le : j ≤ k) (hr : Room k X.A) (ha : PA X (e :: es) t)
    (hst : starEach (e :: es) X.env = (false, eval e X.env) :: starEach es X.env := by rfl) (hpl : (backTo pos (starEach es X.env)).any (·.1) = false := by rfl)
    (ht : eval (.Call (.Attribute o m apos) (e :: es) [] pos) X.env = (do
      let ov ← eval o X.env
      standAt apos.atName
      let (f, first) ← holding [ov] (getMethod ov m pl)
      callWith pos f first (backTo pos (starEach (e :: es) X.env)) (backToKw pos (keywordEach [] X.env))) := by rfl) :
    PE X (.Call (.Attribute o m apos) (e :: es) [] pos) (tMeth C m sp [] E0 ta t) := by
  obtain ⟨f, fd, F, hm, b⟩ := u
  exact pe_meth he c hm F (hr.mono le) b .nil pass0 ha hst hpl ht
theorem pe_kUse (u : KUse X.prog X.w X.K X.mg X.base C x j ps sp) (le : j + 1 ≤ k) (hr : Room k X.A) (hg : Gl X x) (ha : PA X (e :: es) t)
    (hdb : (x == ("__debug__" : Str)) = false := by decide) (he : starEach (e :: es) X.env = (false, eval e X.env) :: starEach es X.env := by rfl)
    (hpl : (backTo pos (starEach es X.env)).any (·.1) = false := by rfl) : PE X (.Call (.Name x p) (e :: es) [] pos) (tMake C sp [] E0 t) := by
  obtain ⟨f, fd, F, mk, hm, b⟩ := u
  exact pe_make mk F (hr.mono le) hg hm b .nil pass0 ha hdb he hpl
end
theorem ixN_nat {n j : Nat} {i : Int} (e : i = (j : Int)) (h : j < n) : ixN n i = some j := by
  subst e
  unfold ixN
  rw [if_pos (by omega), if_pos (by omega)]
  rfl
end KR
/-! partings: the mathematics -/
namespace KM
/-- blocks numbered as they are first met, m of them ahead -/
def Rg : Int → List Int → Prop
  | _, [] => True
  | m, x :: r => 0 ≤ x ∧ x ≤ m ∧ Rg (if x = m then m + 1 else m) r
/-- how many blocks, m of them ahead -/
def bc : Int → List Int → Int
  | m, [] => m
  | m, x :: r => bc (if x = m then m + 1 else m) r
structure Par (p : List Int) : Prop where
  ne : p ≠ []
  le : p.length ≤ 60
  rg : Rg 0 p
theorem bc_app : ∀ (m : Int) (xs ys : List Int), bc m (xs ++ ys) = bc (bc m xs) ys
  | _, [], _ => rfl
  | m, x :: xs, ys => bc_app (if x = m then m + 1 else m) xs ys
theorem rg_app : ∀ (m : Int) (xs ys : List Int), Rg m (xs ++ ys) ↔ Rg m xs ∧ Rg (bc m xs) ys
  | _, [], _ => ⟨fun h => ⟨trivial, h⟩, fun h => h.2⟩
  | m, x :: xs, ys => by
    show (0 ≤ x ∧ x ≤ m ∧ Rg _ (xs ++ ys)) ↔ (0 ≤ x ∧ x ≤ m ∧ Rg _ xs) ∧ _
    rw [rg_app]
    exact ⟨fun ⟨a, b, c, d⟩ => ⟨⟨a, b, c⟩, d⟩, fun ⟨⟨a, b, c⟩, d⟩ => ⟨a, b, c, d⟩⟩
theorem bc_ge : ∀ (m : Int) (xs : List Int), m ≤ bc m xs
  | _, [] => Int.le_refl _
  | m, x :: xs => by
    have h := bc_ge (if x = m then m + 1 else m) xs
    show m ≤ bc (if x = m then m + 1 else m) xs
    split at h <;> split <;> first | omega | contradiction
theorem bc_le : ∀ (m : Int) (xs : List Int), bc m xs ≤ m + xs.length
  | m, [] => by
    show m ≤ m + ((0 : Nat) : Int)
    omega
  | m, x :: xs => by
    have h := bc_le (if x = m then m + 1 else m) xs
    show bc (if x = m then m + 1 else m) xs ≤ m + ((xs.length + 1 : Nat) : Int)
    split at h <;> split <;> first | omega | contradiction
theorem rg_at {p : List Int} {i : Nat} {x : Int} (h : Rg 0 p) (hx : p[i]? = some x) : 0 ≤ x ∧ x ≤ bc 0 (p.take i) := by
  obtain ⟨hi, e⟩ := List.getElem?_eq_some_iff.mp hx
  have e2 : p = p.take i ++ (x :: p.drop (i + 1)) := by
    rw [← e, List.getElem_cons_drop, List.take_append_drop]
  rw [e2, rg_app] at h
  have h2 : 0 ≤ x ∧ x ≤ bc 0 (p.take i) ∧ Rg _ (p.drop (i + 1)) := h.2
  exact ⟨h2.1, h2.2.1⟩
theorem bc_take {p : List Int} {i : Nat} {x : Int} (hx : p[i]? = some x) : bc 0 (p.take (i + 1)) = if x = bc 0 (p.take i) then bc 0 (p.take i) + 1 else bc 0 (p.take i) := by
  rw [List.take_add_one, hx, bc_app]
  rfl
/-- all values lie below the number of blocks, each number below it is one -/
theorem rg_mem : ∀ (m : Int) (p : List Int), 0 ≤ m → Rg m p → (∀ x ∈ p, 0 ≤ x ∧ x < bc m p) ∧ ∀ y, m ≤ y → y < bc m p → y ∈ p
  | m, [], hm, _ => ⟨fun x hx => (nomatch hx), fun y h1 h2 => by
    have h2' : y < m := h2
    omega⟩
  | m, x :: r, hm, h => by
    obtain ⟨h0, h1, h2⟩ := h
    have hm2 : 0 ≤ (if x = m then m + 1 else m) := by split <;> omega
    obtain ⟨ih1, ih2⟩ := rg_mem (if x = m then m + 1 else m) r hm2 h2
    have e : bc m (x :: r) = bc (if x = m then m + 1 else m) r := rfl
    have g := bc_ge (if x = m then m + 1 else m) r
    rw [e]
    refine ⟨fun y hy => ?_, fun y h3 h4 => ?_⟩
    · rcases List.mem_cons.mp hy with q | q
      · subst q
        refine ⟨h0, ?_⟩
        split at g <;> split <;> first | omega | contradiction
      · exact ih1 y q
    · by_cases hy : x = y
      · rw [hy]
        exact List.mem_cons_self
      · refine List.mem_cons_of_mem _ (ih2 y ?_ h4)
        split <;> omega
theorem par_max {p : List Int} (h : Par p) {m : Int} (hm : m ∈ p) (hle : ∀ y ∈ p, y ≤ m) : m + 1 = bc 0 p := by
  obtain ⟨h1, h2⟩ := rg_mem 0 p (Int.le_refl _) h.rg
  have a := (h1 m hm).2
  have b0 := (h1 m hm).1
  by_cases e : m + 1 = bc 0 p
  · exact e
  · have := hle (bc 0 p - 1) (h2 _ (by omega) (by omega))
    omega
/-- two partings with the same kernel are one -/
theorem rg_unique : ∀ (n : Nat) (p q : List Int), p.length = n → q.length = n → Rg 0 p → Rg 0 q →
    (∀ (i j : Nat) (x y u v : Int), p[i]? = some x → p[j]? = some y → q[i]? = some u → q[j]? = some v → (x = y ↔ u = v)) → p = q ∧ bc 0 p = bc 0 q
  | 0, p, q, hp, hq, _, _, _ => by
    rw [List.eq_nil_of_length_eq_zero hp, List.eq_nil_of_length_eq_zero hq]
    exact ⟨rfl, rfl⟩
  | n + 1, p, q, hp, hq, rp, rq, h => by
    obtain ⟨p', x, rfl⟩ : ∃ p' x, p = p' ++ [x] := ⟨p.dropLast, p.getLast (by intro e; rw [e] at hp; cases hp), (List.dropLast_concat_getLast _).symm⟩
    obtain ⟨q', u, rfl⟩ : ∃ q' u, q = q' ++ [u] := ⟨q.dropLast, q.getLast (by intro e; rw [e] at hq; cases hq), (List.dropLast_concat_getLast _).symm⟩
    have lp : p'.length = n := by simpa using hp
    have lq : q'.length = n := by simpa using hq
    rw [rg_app] at rp rq
    have gp : ∀ {i : Nat} {z : Int}, p'[i]? = some z → (p' ++ [x])[i]? = some z := fun {i z} e => by
      have := (List.getElem?_eq_some_iff.mp e).1
      rw [List.getElem?_append_left this]
      exact e
    have gq : ∀ {i : Nat} {z : Int}, q'[i]? = some z → (q' ++ [u])[i]? = some z := fun {i z} e => by
      have := (List.getElem?_eq_some_iff.mp e).1
      rw [List.getElem?_append_left this]
      exact e
    obtain ⟨e1, e2⟩ := rg_unique n p' q' lp lq rp.1 rq.1 fun i j a b c d h1 h2 h3 h4 => h i j a b c d (gp h1) (gp h2) (gq h3) (gq h4)
    subst e1
    have lastp : (p' ++ [x])[n]? = some x := by
      rw [List.getElem?_append_right (by omega), lp]
      simp
    have lastq : (p' ++ [u])[n]? = some u := by
      rw [List.getElem?_append_right (by omega), lp]
      simp
    obtain ⟨x0, x1, _⟩ := rp.2
    obtain ⟨u0, u1, _⟩ := rq.2
    obtain ⟨m1, m2⟩ := rg_mem 0 p' (Int.le_refl _) rp.1
    have exu : x = u := by
      by_cases hx : x < bc 0 p'
      · obtain ⟨i, hi, ei⟩ := List.getElem_of_mem (m2 x x0 hx)
        have e3 : p'[i]? = some x := by rw [List.getElem?_eq_getElem hi, ei]
        exact ((h i n x x x u (gp e3) lastp (gq e3) lastq).mp rfl)
      · by_cases hu : u < bc 0 p'
        · obtain ⟨i, hi, ei⟩ := List.getElem_of_mem (m2 u u0 hu)
          have e3 : p'[i]? = some u := by rw [List.getElem?_eq_getElem hi, ei]
          exact ((h i n u x u u (gp e3) lastp (gq e3) lastq).mpr rfl).symm
        · omega
    subst exu
    exact ⟨rfl, rfl⟩

/-! ### numbering -/
variable {α : Type} [DecidableEq α]
def ins (ks : List α) (x : α) : List α := if x ∈ ks then ks else ks ++ [x]
def firsts (xs : List α) : List α := xs.foldl ins []
def num (xs : List α) : List Int := xs.map fun x => (((firsts xs).idxOf x : Nat) : Int)
theorem firsts_snoc (xs : List α) (x : α) : firsts (xs ++ [x]) = ins (firsts xs) x := by
  unfold firsts
  rw [List.foldl_append]
  rfl
theorem ins_nodup {ks : List α} (h : ks.Nodup) (x : α) : (ins ks x).Nodup := by
  unfold ins
  split
  · exact h
  · rename_i hx
    rw [List.nodup_append]
    refine ⟨h, by simp, fun a ha b hb => ?_⟩
    rw [List.mem_singleton.mp hb]
    intro e
    exact hx (e ▸ ha)
theorem mem_ins {ks : List α} {x y : α} : y ∈ ins ks x ↔ y ∈ ks ∨ y = x := by
  unfold ins
  split
  · rename_i hx
    exact ⟨Or.inl, fun h => h.elim id fun e => e ▸ hx⟩
  · rw [List.mem_append, List.mem_singleton]
theorem firsts_rec {P : List α → Prop} (h0 : P []) (hs : ∀ xs x, P xs → P (xs ++ [x])) : ∀ xs, P xs := by
  intro xs
  have : ∀ n (xs : List α), xs.length = n → P xs := by
    intro n
    induction n with
    | zero =>
      intro xs h
      rw [List.eq_nil_of_length_eq_zero h]
      exact h0
    | succ n ih =>
      intro xs h
      have hne : xs ≠ [] := by
        intro e
        rw [e] at h
        cases h
      rw [← List.dropLast_concat_getLast hne]
      exact hs _ _ (ih _ (by rw [List.length_dropLast, h]; rfl))
  exact this _ xs rfl
theorem firsts_nodup (xs : List α) : (firsts xs).Nodup := by
  refine firsts_rec (P := fun xs => (firsts xs).Nodup) (by exact List.nodup_nil) (fun xs x h => ?_) xs
  rw [firsts_snoc]
  exact ins_nodup h x
theorem mem_firsts {y : α} (xs : List α) : y ∈ firsts xs ↔ y ∈ xs := by
  refine firsts_rec (P := fun xs => y ∈ firsts xs ↔ y ∈ xs) (by exact Iff.rfl) (fun xs x h => ?_) xs
  rw [firsts_snoc, mem_ins, h, List.mem_append, List.mem_singleton]
theorem idx_ins {ks : List α} {x y : α} (hy : y ∈ ks) : (ins ks x).idxOf y = ks.idxOf y := by
  unfold ins
  split
  · rfl
  · rw [List.idxOf_append, if_pos hy]
theorem num_snoc (xs : List α) (x : α) : num (xs ++ [x]) = num xs ++ [if x ∈ firsts xs then (((firsts xs).idxOf x : Nat) : Int) else ((firsts xs).length : Int)] := by
  unfold num
  rw [List.map_append, firsts_snoc]
  congr 1
  · refine List.map_congr_left fun y hy => ?_
    rw [idx_ins ((mem_firsts xs).mpr hy)]
  · show [_] = [_]
    congr 1
    split
    · rename_i h
      show (((ins (firsts xs) x).idxOf x : Nat) : Int) = _
      rw [idx_ins h]
    · rename_i h
      show (((ins (firsts xs) x).idxOf x : Nat) : Int) = _
      unfold ins
      rw [if_neg h, List.idxOf_append, if_neg h]
      simp
theorem firsts_len (xs : List α) : ((firsts xs).length : Int) = bc 0 (num xs) ∧ Rg 0 (num xs) := by
  refine firsts_rec (P := fun xs => ((firsts xs).length : Int) = bc 0 (num xs) ∧ Rg 0 (num xs)) ⟨rfl, trivial⟩ (fun xs x h => ?_) xs
  obtain ⟨h1, h2⟩ := h
  rw [num_snoc, firsts_snoc, bc_app, rg_app, ← h1]
  unfold ins
  by_cases hx : x ∈ firsts xs
  · rw [if_pos hx, if_pos hx]
    have hl := List.idxOf_lt_length_of_mem hx
    refine ⟨?_, h2, ?_⟩
    · show _ = if _ then _ else _
      rw [if_neg (by omega)]
    · exact ⟨by omega, by omega, trivial⟩
  · rw [if_neg hx, if_neg hx]
    refine ⟨?_, h2, ?_⟩
    · show _ = if _ then _ else _
      rw [if_pos rfl, List.length_append]
      show ((_ + 1 : Nat) : Int) = _
      show _ = bc _ []
      show _ = (_ : Int) + 1
      omega
    · exact ⟨by omega, by omega, trivial⟩
theorem num_rg (xs : List α) : Rg 0 (num xs) := (firsts_len xs).2
theorem num_len (xs : List α) : (num xs).length = xs.length := by
  unfold num
  rw [List.length_map]
theorem num_get {xs : List α} {i : Nat} {x : α} (h : xs[i]? = some x) : (num xs)[i]? = some (((firsts xs).idxOf x : Nat) : Int) := by
  unfold num
  rw [List.getElem?_map, h]
  rfl
theorem num_ker {xs : List α} {i j : Nat} {x y : α} {u v : Int} (hi : xs[i]? = some x) (hj : xs[j]? = some y) (ui : (num xs)[i]? = some u) (vj : (num xs)[j]? = some v) : u = v ↔ x = y := by
  rw [num_get hi] at ui
  rw [num_get hj] at vj
  cases ui
  cases vj
  constructor
  · intro e
    have e' : (firsts xs).idxOf x = (firsts xs).idxOf y := by omega
    have hx := (mem_firsts xs).mpr (List.mem_of_getElem? hi)
    have hy := (mem_firsts xs).mpr (List.mem_of_getElem? hj)
    have a := List.getElem_idxOf (List.idxOf_lt_length_of_mem hx)
    have b := List.getElem_idxOf (List.idxOf_lt_length_of_mem hy)
    rw [← a, ← b]
    congr 1
  · intro e
    rw [e]
theorem num_par {xs : List α} (h : xs ≠ []) (hl : xs.length ≤ 60) : Par (num xs) :=
  ⟨fun e => h (List.eq_nil_of_length_eq_zero (by rw [← num_len xs, e]; rfl)), by rw [num_len]; exact hl, num_rg xs⟩
/-- a parting is told by its kernel -/
theorem num_is {xs : List α} {q : List Int} (hl : q.length = xs.length) (hq : Rg 0 q)
    (h : ∀ (i j : Nat) (x y : α) (u v : Int), xs[i]? = some x → xs[j]? = some y → q[i]? = some u → q[j]? = some v → (x = y ↔ u = v)) : num xs = q := by
  refine (rg_unique xs.length (num xs) q (num_len xs) hl (num_rg xs) hq fun i j a b u v h1 h2 h3 h4 => ?_).1
  have li := (List.getElem?_eq_some_iff.mp h1).1
  have lj := (List.getElem?_eq_some_iff.mp h2).1
  rw [num_len] at li lj
  have gi : xs[i]? = some xs[i] := List.getElem?_eq_getElem li
  have gj : xs[j]? = some xs[j] := List.getElem?_eq_getElem lj
  rw [num_ker gi gj h1 h2]
  exact h i j _ _ u v gi gj h3 h4
end KM
namespace KM
/-! doors by block; all partings -/
def doorsOf (p : List Int) (b : Int) : List Int := (p.zipIdx.filter fun q => decide (q.1 = b)).map fun q => ((q.2 : Nat) : Int)
theorem doorsOf_snoc (p : List Int) (x b : Int) : doorsOf (p ++ [x]) b = doorsOf p b ++ (if x = b then [((p.length : Nat) : Int)] else []) := by
  unfold doorsOf
  rw [List.zipIdx_append, List.filter_append, List.map_append]
  by_cases h : x = b
  · simp [h]
  · simp [h]
theorem doorsOf_len (p : List Int) (b : Int) : (doorsOf p b).length ≤ p.length := by
  unfold doorsOf
  rw [List.length_map]
  refine Nat.le_trans (List.length_filter_le _ _) ?_
  rw [List.length_zipIdx]
  exact Nat.le_refl _
theorem doorsOf_small (p : List Int) (b : Int) : ∀ x ∈ doorsOf p b, 0 ≤ x ∧ x < p.length := by
  intro x hx
  unfold doorsOf at hx
  obtain ⟨q, hq, rfl⟩ := List.mem_map.mp hx
  have h1 := (List.mem_filter.mp hq).1
  have h2 := List.mem_zipIdx h1
  omega
/-- a row and one door more, into each block and a new one -/
def ext (row : List Int) : List (List Int) := (List.range (bc 0 row + 1).toNat).map fun b => row ++ [((b : Nat) : Int)]
def allP : Nat → List (List Int)
  | 0 => [[0]]
  | n + 1 => (allP n).flatMap ext
theorem allP_ok : ∀ (n : Nat), ∀ r ∈ allP n, Rg 0 r ∧ r.length = n + 1
  | 0, r, h => by
    rw [List.mem_singleton.mp h]
    exact ⟨⟨Int.le_refl _, Int.le_refl _, trivial⟩, rfl⟩
  | n + 1, r, h => by
    obtain ⟨q, hq, hr⟩ := List.mem_flatMap.mp h
    obtain ⟨b, hb, rfl⟩ := List.mem_map.mp hr
    obtain ⟨h1, h2⟩ := allP_ok n q hq
    have hb := List.mem_range.mp hb
    have := bc_ge 0 q
    refine ⟨?_, by rw [List.length_append, h2]; rfl⟩
    rw [rg_app]
    exact ⟨h1, by omega, by omega, trivial⟩
theorem allP_count : ∀ n : Fin 8, (allP n.val).length ≤ 4140 := by decide +kernel
theorem ext_len (row : List Int) : (ext row).length = (bc 0 row + 1).toNat := by
  unfold ext
  rw [List.length_map, List.length_range]
theorem flat_take {α β : Type} (f : α → List β) {xs : List α} {i : Nat} {x : α} (h : xs[i]? = some x) : (xs.take (i + 1)).flatMap f = (xs.take i).flatMap f ++ f x := by
  rw [List.take_add_one, h]
  simp
theorem flat_le {α β : Type} (f : α → List β) {xs : List α} {i : Nat} {x : α} (h : xs[i]? = some x) : ((xs.take i).flatMap f).length + (f x).length ≤ (xs.flatMap f).length := by
  have e : xs = xs.take (i + 1) ++ xs.drop (i + 1) := (List.take_append_drop _ _).symm
  have e2 : (xs.flatMap f).length = ((xs.take (i + 1)).flatMap f).length + ((xs.drop (i + 1)).flatMap f).length := by
    conv => lhs; rw [e]
    rw [List.flatMap_append, List.length_append]
  rw [e2, flat_take f h, List.length_append]
  omega
theorem ext_take {row : List Int} {j : Nat} (hj : j < (bc 0 row + 1).toNat) : (ext row).take (j + 1) = (ext row).take j ++ [row ++ [((j : Nat) : Int)]] := by
  have h : (ext row)[j]? = some (row ++ [((j : Nat) : Int)]) := by
    unfold ext
    rw [List.getElem?_map, List.getElem?_range hj]
    rfl
  rw [List.take_add_one, h]
  rfl
end KM
namespace KM
/-! ### clumps: roots -/
def up (hs : List Nat) (x : Nat) : Nat := hs.getD x x
def Dn (hs : List Nat) : Prop := ∀ x, up hs x ≤ x
def rt (hs : List Nat) : Nat → Nat → Nat
  | 0, x => x
  | f + 1, x => if up hs x = x then x else rt hs f (up hs x)
/-- more fuel changes nothing -/
theorem rt_more {hs : List Nat} (h : Dn hs) : ∀ (f x k : Nat), x ≤ f → rt hs (f + k) x = rt hs f x := by
  intro f
  induction f with
  | zero =>
    intro x k hx
    have e0 : x = 0 := by omega
    subst e0
    have e : up hs 0 = 0 := by have := h 0; omega
    cases k with
    | zero => rfl
    | succ k =>
      show rt hs (0 + (k + 1)) 0 = 0
      rw [Nat.zero_add]
      show (if up hs 0 = 0 then 0 else _) = 0
      rw [if_pos e]
  | succ f ih =>
    intro x k hx
    rw [show f + 1 + k = (f + k) + 1 by omega]
    show (if up hs x = x then x else rt hs (f + k) (up hs x)) = (if up hs x = x then x else rt hs f (up hs x))
    have hx0 := h x
    by_cases e : up hs x = x
    · rw [if_pos e, if_pos e]
    · rw [if_neg e, if_neg e, ih _ k (by omega)]
def root (hs : List Nat) (x : Nat) : Nat := rt hs x x
theorem root_fuel {hs : List Nat} (h : Dn hs) {f x : Nat} (hx : x ≤ f) : rt hs f x = root hs x := by
  have := rt_more h x x (f - x) (Nat.le_refl _)
  rw [show x + (f - x) = f by omega] at this
  exact this
theorem root_at {hs : List Nat} (h : Dn hs) (x : Nat) : root hs x = if up hs x = x then x else root hs (up hs x) := by
  have hx0 := h x
  cases x with
  | zero =>
    rw [if_pos (by omega)]
    rfl
  | succ x =>
    show (if up hs (x + 1) = x + 1 then x + 1 else rt hs x (up hs (x + 1))) = _
    by_cases e : up hs (x + 1) = x + 1
    · rw [if_pos e, if_pos e]
    · rw [if_neg e, if_neg e, root_fuel h (by omega)]
theorem root_self {hs : List Nat} (h : Dn hs) {x : Nat} (e : up hs x = x) : root hs x = x := by
  rw [root_at h, if_pos e]
theorem root_up {hs : List Nat} (h : Dn hs) (x : Nat) : root hs (up hs x) = root hs x := by
  rw [root_at h x]
  by_cases e : up hs x = x
  · rw [if_pos e, e, root_self h e]
  · rw [if_neg e]
theorem root_le {hs : List Nat} (h : Dn hs) : ∀ (n x : Nat), x ≤ n → root hs x ≤ x ∧ up hs (root hs x) = root hs x
  | 0, x, hx => by
    have e0 : x = 0 := by omega
    subst e0
    have e : up hs 0 = 0 := by have := h 0; omega
    rw [root_self h e]
    exact ⟨Nat.le_refl _, e⟩
  | n + 1, x, hx => by
    have hx0 := h x
    by_cases e : up hs x = x
    · rw [root_self h e]
      exact ⟨Nat.le_refl _, e⟩
    · have ih := root_le h n (up hs x) (by omega)
      rw [root_up h] at ih
      exact ⟨by omega, ih.2⟩
theorem up_root {hs : List Nat} (h : Dn hs) (x : Nat) : up hs (root hs x) = root hs x := (root_le h x x (Nat.le_refl _)).2
theorem root_le' {hs : List Nat} (h : Dn hs) (x : Nat) : root hs x ≤ x := (root_le h x x (Nat.le_refl _)).1
theorem up_set {hs : List Nat} {x v y : Nat} (hx : x < hs.length) : up (hs.set x v) y = if y = x then v else up hs y := by
  unfold up
  rw [List.getD_eq_getElem?_getD, List.getElem?_set, List.getD_eq_getElem?_getD]
  by_cases e : x = y
  · subst e
    simp [hx]
  · have e2 : ¬ y = x := fun q => e q.symm
    simp [e, e2]
theorem dn_set {hs : List Nat} (h : Dn hs) {x v : Nat} (hx : x < hs.length) (hv : v ≤ x) : Dn (hs.set x v) := fun y => by
  rw [up_set hx]
  split
  · omega
  · exact h y
/-- a shorter way: the roots stay -/
theorem root_halve {hs : List Nat} (h : Dn hs) {x : Nat} (hx : x < hs.length) : ∀ (n y : Nat), y ≤ n → root (hs.set x (up hs (up hs x))) y = root hs y := by
  have hv : up hs (up hs x) ≤ x := Nat.le_trans (h _) (h x)
  have h2 := dn_set h hx hv
  intro n
  induction n with
  | zero =>
    intro y hy
    have e0 : y = 0 := by omega
    subst e0
    have a := root_le' h 0
    have b := root_le' h2 0
    omega
  | succ n ih =>
    intro y hy
    rw [root_at h2, up_set hx]
    by_cases e : y = x
    · subst e
      rw [if_pos rfl]
      by_cases e2 : up hs (up hs y) = y
      · have e3 : up hs y = y := by
          have := h (up hs y)
          have := h y
          omega
        rw [if_pos e2, root_self h e3]
      · have lt : up hs (up hs y) < y := by
          have := h (up hs y)
          have := h y
          omega
        rw [if_neg e2, ih _ (by omega), root_up h, root_up h]
    · rw [if_neg e]
      have hy0 := h y
      by_cases e2 : up hs y = y
      · rw [if_pos e2, root_self h e2]
      · rw [if_neg e2, ih _ (by omega), root_up h]
/-- two roots made one -/
theorem root_unite {hs : List Nat} (h : Dn hs) {a b : Nat} (hb : b < hs.length) (ea : up hs a = a) (eb : up hs b = b) (lt : a < b) : ∀ (n y : Nat), y ≤ n → root (hs.set b a) y = if root hs y = b then a else root hs y := by
  have h2 := dn_set h hb (Nat.le_of_lt lt)
  intro n
  induction n with
  | zero =>
    intro y hy
    have e0 : y = 0 := by omega
    subst e0
    have p := root_le' h 0
    have q := root_le' h2 0
    rw [if_neg (by omega)]
    omega
  | succ n ih =>
    intro y hy
    rw [root_at h2, up_set hb]
    by_cases e : y = b
    · subst e
      rw [if_pos rfl, if_neg (by omega), ih _ (by omega), root_self h ea, root_self h eb, if_neg (by omega), if_pos rfl]
    · rw [if_neg e]
      have hy0 := h y
      by_cases e2 : up hs y = y
      · rw [if_pos e2, root_self h e2, if_neg e]
      · rw [if_neg e2, ih _ (by omega), root_up h]
/-! ### what is glued together -/
def J (R : Nat → Nat → Prop) (a b x y : Nat) : Prop := R x y ∨ (R x a ∧ R b y) ∨ (R x b ∧ R a y)
def glue (ts : List (Nat × Nat)) : Nat → Nat → Prop := ts.foldl (fun R t => J R t.1 t.2) Eq
theorem glue_snoc (ts : List (Nat × Nat)) (t : Nat × Nat) : glue (ts ++ [t]) = J (glue ts) t.1 t.2 := by
  unfold glue
  rw [List.foldl_append]
  rfl
structure Eqv (R : Nat → Nat → Prop) : Prop where
  refl : ∀ x, R x x
  symm : ∀ x y, R x y → R y x
  trans : ∀ x y z, R x y → R y z → R x z
theorem J_eqv {R : Nat → Nat → Prop} (h : Eqv R) (a b : Nat) : Eqv (J R a b) := by
  refine ⟨fun x => .inl (h.refl x), fun x y q => ?_, fun x y z q1 q2 => ?_⟩
  · rcases q with q | ⟨q, r⟩ | ⟨q, r⟩
    · exact .inl (h.symm _ _ q)
    · exact .inr (.inr ⟨h.symm _ _ r, h.symm _ _ q⟩)
    · exact .inr (.inl ⟨h.symm _ _ r, h.symm _ _ q⟩)
  · have t := h.trans
    have s := h.symm
    rcases q1 with q1 | ⟨q1, r1⟩ | ⟨q1, r1⟩ <;> rcases q2 with q2 | ⟨q2, r2⟩ | ⟨q2, r2⟩
    · exact .inl (t _ _ _ q1 q2)
    · exact .inr (.inl ⟨t _ _ _ q1 q2, r2⟩)
    · exact .inr (.inr ⟨t _ _ _ q1 q2, r2⟩)
    · exact .inr (.inl ⟨q1, t _ _ _ r1 q2⟩)
    · exact .inr (.inl ⟨q1, r2⟩)
    · exact .inl (t _ _ _ q1 r2)
    · exact .inr (.inr ⟨q1, t _ _ _ r1 q2⟩)
    · exact .inl (t _ _ _ q1 r2)
    · exact .inr (.inr ⟨q1, r2⟩)
theorem glue_eqv (ts : List (Nat × Nat)) : Eqv (glue ts) := by
  refine firsts_rec' (P := fun ts => Eqv (glue ts)) ⟨fun _ => rfl, fun _ _ h => Eq.symm h, fun _ _ _ h1 h2 => Eq.trans h1 h2⟩ (fun ts t h => ?_) ts
  rw [glue_snoc]
  exact J_eqv h _ _
where
  firsts_rec' {α : Type} {P : List α → Prop} (h0 : P []) (hs : ∀ xs x, P xs → P (xs ++ [x])) : ∀ xs, P xs := by
    intro xs
    have : ∀ n (xs : List α), xs.length = n → P xs := by
      intro n
      induction n with
      | zero =>
        intro xs h
        rw [List.eq_nil_of_length_eq_zero h]
        exact h0
      | succ n ih =>
        intro xs h
        have hne : xs ≠ [] := by
          intro e
          rw [e] at h
          cases h
        rw [← List.dropLast_concat_getLast hne]
        exact hs _ _ (ih _ (by rw [List.length_dropLast, h]; rfl))
    exact this _ xs rfl
/-- the roots behind a tie -/
theorem tie_roots {hs hs' : List Nat} {R : Nat → Nat → Prop} {a b : Nat} (e : Eqv R) (h : ∀ x y, root hs x = root hs y ↔ R x y)
    (h' : ∀ y, root hs' y = if root hs y = max (root hs a) (root hs b) then min (root hs a) (root hs b) else root hs y) (x y : Nat) : root hs' x = root hs' y ↔ J R a b x y := by
  unfold J
  rw [h' x, h' y, ← h x y, ← h x a, ← h b y, ← h x b, ← h a y]
  generalize root hs x = rx
  generalize root hs y = ry
  generalize root hs a = ra
  generalize root hs b = rb
  rcases Nat.lt_trichotomy ra rb with g | g | g
  · rw [Nat.max_eq_right (by omega), Nat.min_eq_left (by omega)]
    split <;> split <;> omega
  · subst g
    rw [Nat.max_self, Nat.min_self]
    split <;> split <;> omega
  · rw [Nat.max_eq_left (by omega), Nat.min_eq_right (by omega)]
    split <;> split <;> omega
/-- labels behind a tie -/
theorem tie_labels {L L' : Nat → Int} {R : Nat → Nat → Prop} {a b : Nat} {S : Nat → Prop} (h : ∀ x y, S x → S y → (L x = L y ↔ R x y)) (sa : S a) (sb : S b)
    (h' : ∀ y, S y → L' y = if L y = L b then L a else L y) (x y : Nat) (sx : S x) (sy : S y) : L' x = L' y ↔ J R a b x y := by
  unfold J
  rw [h' x sx, h' y sy, ← h x y sx sy, ← h x a sx sa, ← h b y sb sy, ← h x b sx sb, ← h a y sa sy]
  generalize L x = rx
  generalize L y = ry
  generalize L a = ra
  generalize L b = rb
  split <;> split <;> omega
theorem up_range (n x : Nat) : up (List.range n) x = x := by
  unfold up
  rw [List.getD_eq_getElem?_getD]
  by_cases h : x < n
  · rw [List.getElem?_range h]
    rfl
  · rw [List.getElem?_eq_none (by rw [List.length_range]; omega)]
    rfl
theorem dn_range (n : Nat) : Dn (List.range n) := fun x => by
  rw [up_range]
  exact Nat.le_refl _
theorem root_range (n x : Nat) : root (List.range n) x = x := root_self (dn_range n) (up_range n x)
end KM
namespace KQ
open PySem PySem.Spec PyProof.Rows L2 KR
def topS (i : Nat) : Stmt := PySem.Challenge.pw_fittingdoors_k01_whole_partings_beside_o.main.body.getD i (.Pass ⟨0, 0, 0, 0⟩)
section
variable {P : Program} {w : World} {K : PySem.W.Frag} {mg : Str → Option Value} {base : Heap}
abbrev s_is_integer : Stmt := topS 10
theorem sc_is_integer : FnScope ["value"] ["value"] (defScope s_is_integer) := ⟨rfl, rfl, rfl, by decide +kernel, rfl, by decide +kernel, by decide +kernel⟩
def spIsInteger : Sp := fun vs H Q _ => ∃ i : Int, vs = [.int i] ∧ Q (.bl true) H
theorem ok_is_integer (D : DefAt K mg "is_integer" s_is_integer) (T : Bt mg) : Use P w K mg base "is_integer" 1 ["value"] spIsInteger := by
  refine use_of D (fun f fd F => F.ok sc_is_integer (fun vs H Q E h => ?_) (fun cdv A outer s H vs Q E hr h => ?_)) (fun _ _ _ _ _ _ us hl => match us, hl with | [_], _ => rfl)
  · obtain ⟨i, rfl, _⟩ := h
    rfl
  · obtain ⟨i, rfl, q⟩ := h
    refine ⟨_, (pss_one (ps_ret (pe_and (pe_callB (k_isi (K := K) rfl) (by rfl) T.isinstance (by decide +kernel) (pa_cons (pv 0) (pa_cons (pe_bltn (v := .ty "int") (by rfl) T.int (by decide +kernel) rfl) pa_nil))) (pe_one (pe_not (pe_callB (k_isi (K := K) rfl) (by rfl) T.isinstance (by decide +kernel) (pa_cons (pv 0) (pa_cons (pe_bltn (v := .ty "bool") (by rfl) T.bool (by decide +kernel) rfl) pa_nil)))))))), ?_⟩
    refine ⟨_, rfl, _, _, _, _, true, rfl, .ty _, .base (.int i), kit_ty (by decide +kernel), true, rfl, iteT ?_⟩
    exact ⟨_, rfl, _, _, _, _, false, rfl, .ty _, .base (.int i), kit_ty (by decide +kernel), _, rfl, q⟩
abbrev s_is_integer_within : Stmt := topS 11
theorem sc_is_integer_within : FnScope ["value", "least", "most"] ["value", "least", "most"] (defScope s_is_integer_within) := ⟨rfl, rfl, rfl, by decide +kernel, rfl, by decide +kernel, by decide +kernel⟩
def spIntW : Sp := fun vs H Q _ => ∃ i lo hi : Int, vs = [.int i, .int lo, .int hi] ∧ Q (.bl (decide (lo ≤ i ∧ i ≤ hi))) H
theorem ok_is_integer_within (D : DefAt K mg "is_integer_within" s_is_integer_within) (T : Bt mg) (u_is_integer : Use P w K mg base "is_integer" 1 ["value"] spIsInteger) :
    Use P w K mg base "is_integer_within" 2 ["value", "least", "most"] spIntW := by
  refine use_of D (fun f fd F => F.ok sc_is_integer_within (fun vs H Q E h => ?_) (fun cdv A outer s H vs Q E hr h => ?_)) (fun _ _ _ _ _ _ us hl => match us, hl with | [_, _, _], _ => rfl)
  · obtain ⟨i, lo, hi, rfl, _⟩ := h
    rfl
  · obtain ⟨i, lo, hi, rfl, q⟩ := h
    refine ⟨_, (pss_one (ps_ret (pe_and (pe_use u_is_integer (by decide) hr (by rfl) (pa_cons (pv 0) pa_nil)) (pe_one (pe_chain op_le op_le (pv 1) (pv 0) (pv 2)))))), ?_⟩
    refine ⟨_, rfl, i, rfl, true, rfl, iteT ?_⟩
    refine ⟨_, rfl, _, rfl, lo, i, rfl, rfl, _, rfl, ?_⟩
    by_cases h1 : lo ≤ i
    · rw [decide_eq_true h1]
      refine iteT ⟨_, rfl, i, hi, rfl, rfl, ?_⟩
      have e : decide (lo ≤ i ∧ i ≤ hi) = decide (i ≤ hi) := by simp [h1]
      rw [e] at q
      exact q
    · rw [decide_eq_false h1]
      refine iteF ?_
      have e : decide (lo ≤ i ∧ i ≤ hi) = false := by simp [h1]
      rw [e] at q
      exact q
abbrev s_is_tuple_within : Stmt := topS 12
theorem sc_is_tuple_within : FnScope ["value", "least", "most"] ["value", "least", "most"] (defScope s_is_tuple_within) := ⟨rfl, rfl, rfl, by decide +kernel, rfl, by decide +kernel, by decide +kernel⟩
def spTupW (K : PySem.W.Frag) : Sp := fun vs H Q _ => ∃ (a : Addr) (xs : List V) (lo hi : Int), vs = [.ref a, .int lo, .int hi] ∧ SqT K H a xs ∧ TyX K H (.ref a) (.type "tuple") ∧ Q (.bl (decide (lo ≤ xs.length ∧ (xs.length : Int) ≤ hi))) H
theorem ok_is_tuple_within (D : DefAt K mg "is_tuple_within" s_is_tuple_within) (T : Bt mg) :
    Use P w K mg base "is_tuple_within" 1 ["value", "least", "most"] (spTupW K) := by
  refine use_of D (fun f fd F => F.ok sc_is_tuple_within (fun vs H Q E h => ?_) (fun cdv A outer s H vs Q E hr h => ?_)) (fun _ _ _ _ _ _ us hl => match us, hl with | [_, _, _], _ => rfl)
  · obtain ⟨a, xs, lo, hi, rfl, _⟩ := h
    rfl
  · obtain ⟨a, xs, lo, hi, rfl, hs, ht, q⟩ := h
    refine ⟨_, (pss_one (ps_ret (pe_and (pe_callB (k_isi (K := K) rfl) (by rfl) T.isinstance (by decide +kernel) (pa_cons (pv 0) (pa_cons (pe_bltn (v := .ty "tuple") (by rfl) T.tuple (by decide +kernel) rfl) pa_nil))) (pe_one (pe_chain op_le op_le (pv 1) (pe_callB (k_len (K := K) rfl) (by rfl) T.len PySem.boot_len (pa_cons (pv 0) pa_nil)) (pv 2)))))), ?_⟩
    refine ⟨_, rfl, _, _, _, _, true, rfl, .ty _, ht, kit_ty (by decide +kernel), true, rfl, iteT ?_⟩
    refine ⟨_, rfl, _, rfl, a, xs, rfl, .inr hs, lo, _, rfl, rfl, _, rfl, ?_⟩
    by_cases h1 : lo ≤ (xs.length : Int)
    · rw [decide_eq_true h1]
      refine iteT ⟨_, rfl, _, hi, rfl, rfl, ?_⟩
      have e : decide (lo ≤ (xs.length : Int) ∧ (xs.length : Int) ≤ hi) = decide ((xs.length : Int) ≤ hi) := by simp [h1]
      rw [e] at q
      exact q
    · rw [decide_eq_false h1]
      refine iteF ?_
      have e : decide (lo ≤ (xs.length : Int) ∧ (xs.length : Int) ≤ hi) = false := by simp [h1]
      rw [e] at q
      exact q
end
end KQ
namespace KQ
open PySem PySem.Spec PyProof.Rows L2 KR KM
section
variable {P : Program} {w : World} {K : PySem.W.Frag} {mg : Str → Option Value} {base : Heap}
/-- a tuple of whole numbers stands at a -/
def TI (H : Hp) (a : Addr) (p : List Int) : Prop := H a = some (.tup (p.map V.int))
theorem TI.mono {H H' : Hp} {a : Addr} {p : List Int} (h : TI H a p) (e : Same H H') : TI H' a p := e _ _ h
theorem TI.ty {H : Hp} {a : Addr} {p : List Int} (h : TI H a p) : TyX K H (.ref a) (.type "tuple") := .base (.tup h)
theorem TI.seq {H : Hp} {a : Addr} {p : List Int} (h : TI H a p) : SqT K H a (p.map V.int) := .inl (.inl h)
abbrev s_first_wrong_block : Stmt := topS 17
theorem sc_first_wrong_block : FnScope ["blocks", "many", "place", "block"] ["blocks"] (defScope s_first_wrong_block) := ⟨rfl, rfl, rfl, by decide +kernel, rfl, by decide +kernel, by decide +kernel⟩
def spFwb : Sp := fun vs H Q _ => ∃ a p, vs = [.ref a] ∧ TI H a p ∧ Par p ∧ ∀ H', Same H H' → Q .non H'
theorem ok_first_wrong_block (D : DefAt K mg "first_wrong_block" s_first_wrong_block) (T : Bt mg) :
    Use P w K mg base "first_wrong_block" 3 ["blocks"] spFwb := by
  refine use_of D (fun f fd F => F.ok sc_first_wrong_block (fun vs H Q E h => ?_) (fun cdv A outer s H vs Q E hr h => ?_)) (fun _ _ _ _ _ _ us hl => match us, hl with | [_], _ => rfl)
  · obtain ⟨a, p, rfl, _⟩ := h
    rfl
  · obtain ⟨a, p, rfl, hp, par, q⟩ := h
    refine ⟨_, (pss_cons (ps_set (i := 1) sc_first_wrong_block.nd rfl (Or.inl rfl) pe_int)
      (pss_cons (ps_for PassesOwn.never rfl (k_enumT (K := K) rfl (by rfl) T.enumerate (pa_cons (pv 0) pa_nil)) (pg_tup rfl (pgs_cons (pg_name (i := 2) sc_first_wrong_block.nd rfl (Or.inl rfl)) (pgs_cons (pg_name (i := 3) sc_first_wrong_block.nd rfl (Or.inl rfl)) pgs_nil)))
      (pss_cons (ps_if (PW.pt (pw_or (pt_not (pt_val (pe_callB (k_isi (K := K) rfl) (by rfl) T.isinstance (by decide +kernel) (pa_cons (pv 3) (pa_cons (pe_bltn (v := .ty "int") (by rfl) T.int (by decide +kernel) rfl) pa_nil))))) (pw_or (pt_val (pe_callB (k_isi (K := K) rfl) (by rfl) T.isinstance (by decide +kernel) (pa_cons (pv 3) (pa_cons (pe_bltn (v := .ty "bool") (by rfl) T.bool (by decide +kernel) rfl) pa_nil)))) (pw_or (pt_cmpR op_lt (pv 3) pe_int (nomark _)) (pw_or1 (pt_cmpR op_gt (pv 3) (pv 1) (nomark _))))))) (pss_one (ps_ret (pv 2))) pss_nil)
      (pss_one (ps_if (pt_cmpR op_eq (pv 3) (pv 1) (nomark _)) (pss_one (ps_aug (i := 1) sc_first_wrong_block.nd rfl (Or.inl rfl) pe_int ip_add)) pss_nil))))
      (pss_one (ps_ret pe_non)))), ?_⟩
    refine ⟨_, rfl, a, _, rfl, hp.seq, for_enumT (K := K) (a := a) (xs := p.map V.int)
      (fun i σ H1 => ∃ y2 y3, σ = [some (.ref a), some (.int (bc 0 (p.take i))), y2, y3] ∧ Same H H1)
      ⟨none, none, rfl, Same.refl H⟩ (fun i σ H1 ⟨_, _, _, sm⟩ => (hp.mono sm).seq) ?_ ?_⟩
    · rintro i v T1 σ H1 hi ⟨y2, y3, rfl, sm⟩ hT
      obtain ⟨x, hx, rfl⟩ := map_at hi
      obtain ⟨x0, x1⟩ := rg_at par.rg hx
      refine ⟨T1, _, rfl, .inl (.inl upd_same), rfl, _, _, rfl, _, [], rfl, rfl, ?_⟩
      refine ⟨_, rfl, _, _, _, _, true, rfl, .ty _, .base (.int x), kit_ty (by decide +kernel), true, rfl, iteF ?_⟩
      refine ⟨_, rfl, _, _, _, _, false, rfl, .ty _, .base (.int x), kit_ty (by decide +kernel), false, rfl, iteF ?_⟩
      refine ⟨_, rfl, x, 0, rfl, rfl, _, rfl, ?_⟩
      rw [decide_eq_false (show ¬ x < 0 by omega)]
      refine iteF ⟨_, rfl, _, rfl, x, bc 0 (p.take i), rfl, rfl, _, rfl, ?_⟩
      rw [decide_eq_false (show ¬ x > bc 0 (p.take i) by omega)]
      refine iteF ?_
      · refine ⟨_, rfl, _, rfl, rfl, _, rfl, ite2 (fun e => ?_) (fun e => ?_)⟩
        · have e' : x = bc 0 (p.take i) := V.int.inj (of_decide_eq_true e)
          refine ⟨_, rfl, _, _, rfl, rfl, ?_⟩
          refine ⟨some (.int (i : Nat)), some (.int x), ?_, sm.trans (same_new hT)⟩
          rw [bc_take hx, if_pos e']
          rfl
        · have e' : ¬ x = bc 0 (p.take i) := fun z => e (decide_eq_true (by rw [z]))
          refine ⟨some (.int (i : Nat)), some (.int x), ?_, sm.trans (same_new hT)⟩
          rw [bc_take hx, if_neg e']
          rfl
    · rintro σ H1 ⟨y2, y3, rfl, sm⟩
      exact q H1 sm
abbrev s_is_parting : Stmt := topS 18
theorem sc_is_parting : FnScope ["value"] ["value"] (defScope s_is_parting) := ⟨rfl, rfl, rfl, by decide +kernel, rfl, by decide +kernel, by decide +kernel⟩
def spIsPar : Sp := fun vs H Q _ => ∃ a p, vs = [.ref a] ∧ TI H a p ∧ Par p ∧ ∀ H', Same H H' → Q (.bl true) H'
theorem par_le {p : List Int} (h : Par p) : decide ((1 : Int) ≤ ((p.map V.int).length : Int) ∧ ((p.map V.int).length : Int) ≤ 60) = true := by
  refine decide_eq_true ?_
  rw [List.length_map]
  have h1 := h.le
  have h2 : p.length ≠ 0 := fun e => h.ne (List.eq_nil_of_length_eq_zero e)
  omega
theorem ok_is_parting (D : DefAt K mg "is_parting" s_is_parting) (T : Bt mg) (c_MOST_DOORS : Cst mg "MOST_DOORS" 60) (u_is_tuple_within : Use P w K mg base "is_tuple_within" 1 ["value", "least", "most"] (spTupW K))
    (u_first_wrong_block : Use P w K mg base "first_wrong_block" 3 ["blocks"] spFwb) : Use P w K mg base "is_parting" 4 ["value"] spIsPar := by
  refine use_of D (fun f fd F => F.ok sc_is_parting (fun vs H Q E h => ?_) (fun cdv A outer s H vs Q E hr h => ?_)) (fun _ _ _ _ _ _ us hl => match us, hl with | [_], _ => rfl)
  · obtain ⟨a, p, rfl, _⟩ := h
    rfl
  · obtain ⟨a, p, rfl, hp, par, q⟩ := h
    refine ⟨_, (pss_one (ps_ret (pe_and (pe_use u_is_tuple_within (by decide) hr (by rfl) (pa_cons (pv 0) (pa_cons pe_int (pa_cons (pe_cst (by rfl) c_MOST_DOORS) pa_nil)))) (pe_one (pe_cmpR op_isN (pe_use u_first_wrong_block (by decide) hr (by rfl) (pa_cons (pv 0) pa_nil)) pe_non (nomark _)))))), ?_⟩
    refine ⟨_, rfl, a, _, _, _, rfl, hp.seq, hp.ty, true, ?_, iteT ?_⟩
    · rw [par_le par]
    · refine ⟨_, rfl, a, p, rfl, hp, par, fun H1 sm => ?_⟩
      exact ⟨rfl, q H1 sm⟩
abbrev s_need_parting : Stmt := topS 19
theorem sc_need_parting : FnScope ["parting", "place"] ["parting"] (defScope s_need_parting) := ⟨rfl, rfl, rfl, by decide +kernel, rfl, by decide +kernel, by decide +kernel⟩
def spNeed : Sp := fun vs H Q _ => ∃ a p, vs = [.ref a] ∧ TI H a p ∧ Par p ∧ ∀ H', Same H H' → Q (.ref a) H'
theorem ok_need_parting (D : DefAt K mg "need_parting" s_need_parting) (T : Bt mg) (c_MOST_DOORS : Cst mg "MOST_DOORS" 60) (u_is_tuple_within : Use P w K mg base "is_tuple_within" 1 ["value", "least", "most"] (spTupW K))
    (u_first_wrong_block : Use P w K mg base "first_wrong_block" 3 ["blocks"] spFwb) : Use P w K mg base "need_parting" 4 ["parting"] spNeed := by
  refine use_of D (fun f fd F => F.ok sc_need_parting (fun vs H Q E h => ?_) (fun cdv A outer s H vs Q E hr h => ?_)) (fun _ _ _ _ _ _ us hl => match us, hl with | [_], _ => rfl)
  · obtain ⟨a, p, rfl, _⟩ := h
    rfl
  · obtain ⟨a, p, rfl, hp, par, q⟩ := h
    refine ⟨_, (pss_cons (ps_if (pt_not (pt_val (pe_use u_is_tuple_within (by decide) hr (by rfl) (pa_cons (pv 0) (pa_cons pe_int (pa_cons (pe_cst (by rfl) c_MOST_DOORS) pa_nil)))))) (pss_one ps_never) pss_nil)
      (pss_cons (ps_set (i := 1) sc_need_parting.nd rfl (Or.inl rfl) (pe_use u_first_wrong_block (by decide) hr (by rfl) (pa_cons (pv 0) pa_nil)))
      (pss_cons (ps_if (pt_cmpR op_notN (pv 1) pe_non (nomark _)) (pss_one ps_never) pss_nil)
      (pss_one (ps_ret (pe_callTy (k_tupOf (K := K) rfl) (by rfl) T.tuple (by decide +kernel) (pa_cons (pv 0) pa_nil))))))), ?_⟩
    refine ⟨_, rfl, a, _, _, _, rfl, hp.seq, hp.ty, true, ?_, iteF ?_⟩
    · rw [par_le par]
    · refine ⟨_, rfl, a, p, rfl, hp, par, fun H1 sm => ?_⟩
      refine ⟨_, rfl, rfl, _, rfl, iteF ?_⟩
      exact ⟨_, rfl, a, _, rfl, .inr ⟨(hp.mono sm).seq, q H1 sm⟩⟩
abbrev s_need_parting_of : Stmt := topS 20
theorem sc_need_parting_of : FnScope ["parting", "doors"] ["parting", "doors"] (defScope s_need_parting_of) := ⟨rfl, rfl, rfl, by decide +kernel, rfl, by decide +kernel, by decide +kernel⟩
def spNeedOf : Sp := fun vs H Q _ => ∃ a p, vs = [.ref a, .int (p.length : Int)] ∧ TI H a p ∧ Par p ∧ ∀ H', Same H H' → Q (.ref a) H'
theorem ok_need_parting_of (D : DefAt K mg "need_parting_of" s_need_parting_of) (T : Bt mg) (u_need_parting : Use P w K mg base "need_parting" 4 ["parting"] spNeed) :
    Use P w K mg base "need_parting_of" 5 ["parting", "doors"] spNeedOf := by
  refine use_of D (fun f fd F => F.ok sc_need_parting_of (fun vs H Q E h => ?_) (fun cdv A outer s H vs Q E hr h => ?_)) (fun _ _ _ _ _ _ us hl => match us, hl with | [_, _], _ => rfl)
  · obtain ⟨a, p, rfl, _⟩ := h
    rfl
  · obtain ⟨a, p, rfl, hp, par, q⟩ := h
    refine ⟨_, (pss_cons (ps_expr (pe_use u_need_parting (by decide) hr (by rfl) (pa_cons (pv 0) pa_nil)))
      (pss_cons (ps_if (pt_cmpR op_ne (pe_callB (k_len (K := K) rfl) (by rfl) T.len PySem.boot_len (pa_cons (pv 0) pa_nil)) (pv 1) (nomark _)) (pss_one ps_never) pss_nil)
      (pss_one (ps_ret (pe_callTy (k_tupOf (K := K) rfl) (by rfl) T.tuple (by decide +kernel) (pa_cons (pv 0) pa_nil)))))), ?_⟩
    refine ⟨_, rfl, a, p, rfl, hp, par, fun H1 sm => ?_⟩
    refine ⟨_, rfl, a, _, rfl, .inr (hp.mono sm).seq, _, rfl, rfl, _, rfl, ?_⟩
    rw [List.length_map, decide_eq_true rfl]
    refine iteF ?_
    exact ⟨_, rfl, a, _, rfl, .inr ⟨(hp.mono sm).seq, q H1 sm⟩⟩
abbrev s_need_two_partings : Stmt := topS 21
theorem sc_need_two_partings : FnScope ["parting", "other"] ["parting", "other"] (defScope s_need_two_partings) := ⟨rfl, rfl, rfl, by decide +kernel, rfl, by decide +kernel, by decide +kernel⟩
def spTwo : Sp := fun vs H Q _ => ∃ a b p r, vs = [.ref a, .ref b] ∧ TI H a p ∧ TI H b r ∧ Par p ∧ Par r ∧ p.length = r.length ∧ ∀ H', Same H H' → Q .non H'
theorem ok_need_two_partings (D : DefAt K mg "need_two_partings" s_need_two_partings) (T : Bt mg) (u_need_parting : Use P w K mg base "need_parting" 4 ["parting"] spNeed)
    (u_need_parting_of : Use P w K mg base "need_parting_of" 5 ["parting", "doors"] spNeedOf) : Use P w K mg base "need_two_partings" 6 ["parting", "other"] spTwo := by
  refine use_of D (fun f fd F => F.ok sc_need_two_partings (fun vs H Q E h => ?_) (fun cdv A outer s H vs Q E hr h => ?_)) (fun _ _ _ _ _ _ us hl => match us, hl with | [_, _], _ => rfl)
  · obtain ⟨a, b, p, r, rfl, _⟩ := h
    rfl
  · obtain ⟨a, b, p, r, rfl, hp, hb, par, parb, hl, q⟩ := h
    refine ⟨_, (pss_cons (ps_expr (pe_use u_need_parting (by decide) hr (by rfl) (pa_cons (pv 0) pa_nil)))
      (pss_one (ps_expr (pe_use u_need_parting_of (by decide) hr (by rfl) (pa_cons (pv 1) (pa_cons (pe_callB (k_len (K := K) rfl) (by rfl) T.len PySem.boot_len (pa_cons (pv 0) pa_nil)) pa_nil)))))), ?_⟩
    refine ⟨_, rfl, a, p, rfl, hp, par, fun H1 sm => ?_⟩
    refine ⟨_, rfl, _, rfl, a, _, rfl, .inr (hp.mono sm).seq, b, r, ?_, hb.mono sm, parb, fun H2 sm2 => q H2 (sm.trans sm2)⟩
    rw [List.length_map, hl]
    rfl
abbrev s_block_count : Stmt := topS 24
theorem sc_block_count : FnScope ["parting"] ["parting"] (defScope s_block_count) := ⟨rfl, rfl, rfl, by decide +kernel, rfl, by decide +kernel, by decide +kernel⟩
def spCount : Sp := fun vs H Q _ => ∃ a p, vs = [.ref a] ∧ TI H a p ∧ Par p ∧ Q (.int (bc 0 p)) H
theorem ok_block_count (D : DefAt K mg "block_count" s_block_count) (T : Bt mg) : Use P w K mg base "block_count" 1 ["parting"] spCount := by
  refine use_of D (fun f fd F => F.ok sc_block_count (fun vs H Q E h => ?_) (fun cdv A outer s H vs Q E hr h => ?_)) (fun _ _ _ _ _ _ us hl => match us, hl with | [_], _ => rfl)
  · obtain ⟨a, p, rfl, _⟩ := h
    rfl
  · obtain ⟨a, p, rfl, hp, par, q⟩ := h
    refine ⟨_, (pss_one (ps_ret (pe_op op_add (pe_callB (k_maxT (K := K) rfl rfl hr.units) (by rfl) T.max (by decide +kernel) (pa_cons (pv 0) pa_nil)) pe_int))), ?_⟩
    refine ⟨_, rfl, a, p, rfl, hp.seq, par.ne, fun m hm hle => ?_⟩
    refine ⟨_, _, rfl, rfl, ?_⟩
    show Q (.int (m + 1)) H
    rw [par_max par hm hle]
    exact q
abbrev s_size_of : Stmt := topS 25
theorem sc_size_of : FnScope ["parting"] ["parting"] (defScope s_size_of) := ⟨rfl, rfl, rfl, by decide +kernel, rfl, by decide +kernel, by decide +kernel⟩
def spSize : Sp := fun vs H Q _ => ∃ a p, vs = [.ref a] ∧ TI H a p ∧ Par p ∧ ∀ H', Same H H' → Q (.int (bc 0 p)) H'
theorem ok_size_of (D : DefAt K mg "size_of" s_size_of) (T : Bt mg) (u_need_parting : Use P w K mg base "need_parting" 4 ["parting"] spNeed) (u_block_count : Use P w K mg base "block_count" 1 ["parting"] spCount) :
    Use P w K mg base "size_of" 5 ["parting"] spSize := by
  refine use_of D (fun f fd F => F.ok sc_size_of (fun vs H Q E h => ?_) (fun cdv A outer s H vs Q E hr h => ?_)) (fun _ _ _ _ _ _ us hl => match us, hl with | [_], _ => rfl)
  · obtain ⟨a, p, rfl, _⟩ := h
    rfl
  · obtain ⟨a, p, rfl, hp, par, q⟩ := h
    refine ⟨_, (pss_cons (ps_expr (pe_use u_need_parting (by decide) hr (by rfl) (pa_cons (pv 0) pa_nil)))
      (pss_one (ps_ret (pe_use u_block_count (by decide) hr (by rfl) (pa_cons (pv 0) pa_nil))))), ?_⟩
    refine ⟨_, rfl, a, p, rfl, hp, par, fun H1 sm => ?_⟩
    exact ⟨_, rfl, a, p, rfl, hp.mono sm, par, q H1 sm⟩
end
end KQ
namespace KQ
open PySem PySem.Spec PyProof.Rows L2 KR KM
/-! ### a dict of the first ones' places -/
section
variable {α κ : Type} [DecidableEq α] [DecidableEq κ]
def dg (f : α → κ) (ks : List α) : List (κ × V) := ks.zipIdx.map fun p => (f p.1, V.int ((p.2 : Nat) : Int))
theorem dg_len (f : α → κ) (ks : List α) : (dg f ks).length = ks.length := by
  unfold dg
  rw [List.length_map, List.length_zipIdx]
theorem dg_snoc (f : α → κ) (ks : List α) (x : α) : dg f (ks ++ [x]) = dg f ks ++ [(f x, V.int ((ks.length : Nat) : Int))] := by
  unfold dg
  rw [List.zipIdx_append, List.map_append]
  simp
theorem dg_any {f : α → κ} (hf : ∀ a b, f a = f b → a = b) (ks : List α) (x : α) : ((dg f ks).any fun kv => decide (kv.1 = f x)) = decide (x ∈ ks) := by
  refine firsts_rec (P := fun ks => ((dg f ks).any fun kv => decide (kv.1 = f x)) = decide (x ∈ ks)) (by simp [dg]) (fun ks y h => ?_) ks
  rw [dg_snoc, List.any_append, h]
  simp only [List.any_cons, List.any_nil, Bool.or_false, List.mem_append, List.mem_singleton]
  by_cases e : x = y
  · subst e
    simp
  · have e2 : f y ≠ f x := fun q => e (hf _ _ q).symm
    simp [e, e2]
theorem dg_val {f : α → κ} (hf : ∀ a b, f a = f b → a = b) (ks : List α) (x : α) (h : ks.Nodup) :
    valV (dg f ks) (f x) = if x ∈ ks then some (V.int ((ks.idxOf x : Nat) : Int)) else none := by
  refine firsts_rec (P := fun ks => ks.Nodup → valV (dg f ks) (f x) = if x ∈ ks then some (V.int ((ks.idxOf x : Nat) : Int)) else none) (fun _ => rfl) (fun ks y ih hn => ?_) ks h
  rw [List.nodup_append] at hn
  have ih := ih hn.1
  have hy : y ∉ ks := fun hm => hn.2.2 y hm y (List.mem_singleton.mpr rfl) rfl
  unfold valV at ih ⊢
  rw [dg_snoc, List.find?_append, Option.map_or, ih]
  by_cases hx : x ∈ ks
  · rw [if_pos hx, if_pos (List.mem_append_left _ hx), List.idxOf_append, if_pos hx]
    rfl
  · rw [if_neg hx]
    by_cases e : x = y
    · subst e
      rw [if_pos (List.mem_append_right _ (List.mem_singleton.mpr rfl)), List.idxOf_append, if_neg hx]
      simp
    · have e2 : f y ≠ f x := fun q => e (hf _ _ q).symm
      rw [if_neg (by simp [hx, e])]
      simp [e2]
theorem dg_put {f : α → κ} (hf : ∀ a b, f a = f b → a = b) (ks : List α) (x : α) (hx : x ∉ ks) : putK (dg f ks) (f x) (V.int ((ks.length : Nat) : Int)) = dg f (ks ++ [x]) := by
  unfold putK
  rw [if_neg (by rw [dg_any hf]; simp [hx]), dg_snoc]
end
def kI (x : Int) : L2.Key := Sum.inl x
theorem kI_inj : ∀ a b, kI a = kI b → a = b := fun _ _ e => Sum.inl.inj e
def kP (x : Int × Int) : List L2.Key := [Sum.inl x.1, Sum.inl x.2]
theorem kP_inj : ∀ a b, kP a = kP b → a = b := fun a b e => by
  unfold kP at e
  simp only [List.cons.injEq, Sum.inl.injEq, and_true] at e
  exact Prod.ext e.1 e.2
theorem take_snoc {α : Type} {xs : List α} {i : Nat} {x : α} (h : xs[i]? = some x) : xs.take (i + 1) = xs.take i ++ [x] := by
  rw [List.take_add_one, h]
  rfl
theorem small_of {n : Nat} (h : n ≤ 100000) : n < sizeLine := Nat.lt_of_le_of_lt h (by decide)
/-- one more: what comes, where the key is there, where it isn't -/
theorem num_old {α : Type} [DecidableEq α] {xs : List α} {x : α} (h : x ∈ firsts xs) : num (xs ++ [x]) = num xs ++ [(((firsts xs).idxOf x : Nat) : Int)] ∧ firsts (xs ++ [x]) = firsts xs := by
  rw [num_snoc, firsts_snoc, if_pos h]
  exact ⟨rfl, if_pos h⟩
theorem num_new {α : Type} [DecidableEq α] {xs : List α} {x : α} (h : x ∉ firsts xs) : num (xs ++ [x]) = num xs ++ [((firsts xs).length : Int)] ∧ firsts (xs ++ [x]) = firsts xs ++ [x] := by
  rw [num_snoc, firsts_snoc, if_neg h]
  exact ⟨rfl, if_neg h⟩
theorem firsts_le {α : Type} [DecidableEq α] (xs : List α) : (firsts xs).length ≤ xs.length := by
  refine firsts_rec (P := fun xs => (firsts xs).length ≤ xs.length) (Nat.le_refl _) (fun xs x h => ?_) xs
  rw [firsts_snoc]
  unfold ins
  split
  · rw [List.length_append]
    omega
  · rw [List.length_append, List.length_append]
    show _ + 1 ≤ _ + 1
    omega
section
variable {P : Program} {w : World} {K : PySem.W.Frag} {mg : Str → Option Value} {base : Heap}
abbrev s_numbered : Stmt := topS 22
theorem sc_numbered : FnScope ["blocks", "numbers", "block"] ["blocks"] (defScope s_numbered) := ⟨rfl, rfl, rfl, by decide +kernel, rfl, by decide +kernel, by decide +kernel⟩
/-- numbered of whole numbers: a tuple (b = true), a list -/
def spNumT : Sp := fun vs H Q _ => ∃ a xs, vs = [.ref a] ∧ TI H a xs ∧ xs.length ≤ 1000 ∧ ∀ H' p, Same H H' → TI H' p (num xs) → Q (.ref p) H'
def spNumL : Sp := fun vs H Q _ => ∃ (a : Addr) (xs : List Int), vs = [.ref a] ∧ H a = some (.lst (xs.map V.int)) ∧ xs.length ≤ 1000 ∧ ∀ H' p, Same H H' → TI H' p (num xs) → Q (.ref p) H'
/-- of pairs -/
def PairsAt (H : Hp) (ts : List Addr) (xs : List (Int × Int)) : Prop := ts.length = xs.length ∧ ∀ (i : Nat) (t : Addr), ts[i]? = some t → ∃ x, xs[i]? = some x ∧ H t = some (.tup [.int x.1, .int x.2])
def spNumP : Sp := fun vs H Q _ => ∃ (a : Addr) (ts : List Addr) (xs : List (Int × Int)), vs = [.ref a] ∧ H a = some (.lst (ts.map V.ref)) ∧ PairsAt H ts xs ∧ xs.length ≤ 1000 ∧ ∀ H' p, Same H H' → TI H' p (num xs) → Q (.ref p) H'
theorem ok_numberedT (D : DefAt K mg "numbered" s_numbered) (T : Bt mg) : Use P w K mg base "numbered" 1 ["blocks"] spNumT := by
  refine use_of D (fun f fd F => F.ok sc_numbered (fun vs H Q E h => ?_) (fun cdv A outer s H vs Q E hr h => ?_)) (fun _ _ _ _ _ _ us hl => match us, hl with | [_], _ => rfl)
  · obtain ⟨a, p, rfl, _⟩ := h
    rfl
  · obtain ⟨a, xs, rfl, hp, hl, q⟩ := h
    refine ⟨_, (pss_cons (ps_set (i := 1) sc_numbered.nd rfl (Or.inr rfl) pe_dnewK)
      (pss_one (ps_ret (pe_callTy (k_tupOf (K := K) rfl) (by rfl) T.tuple (by decide +kernel) (pa_cons (pe_lc (own := [("block", 2)]) rfl sc_numbered.nd (k_tup (K := K) rfl (pv 0)) (blkOk_by (N := ["blocks", "numbers", "block"]) (sc := defScope s_numbered) (by decide +kernel)) (fun _ _ _ _ _ => (pg_name (i := 2) sc_numbered.nd rfl (Or.inl rfl))) (fun _ _ _ _ _ => pts_nil) (fun _ _ _ _ _ => (pe_dsetd (pv 1) (pv 2) (pe_callB call_lenD (by rfl) T.len PySem.boot_len (pa_cons (pv 1) pa_nil)) ⟨by rfl, by rfl, by rfl, by rfl⟩))) pa_nil))))), ?_⟩
    refine fun d nd => ?_
    have s0 : Same H (upd H d (.dK [])) := same_new nd
    refine ⟨_, rfl, a, rfl, ⟨_, (hp.mono s0).seq⟩, fun L nL => ?_⟩
    have s1 : Same H (upd (upd H d (.dK [])) L (.lst [])) := s0.trans (same_new nL)
    have ndL : d ≠ L := fun e => by rw [e, upd_same] at nL; cases nL
    refine lc_tup (K := K) (a := a) (xs := xs.map V.int) (fun i H1 => Same H H1 ∧ H1 d = some (.dK (dg kI (firsts (xs.take i)))) ∧ H1 L = some (.lst ((num (xs.take i)).map V.int)))
      ⟨s1, ?_, ?_⟩ (fun i H1 _ ⟨sm, _, _⟩ => (hp.mono sm).seq) ?_ ?_
    · rw [upd_ne ndL, upd_same]
      rfl
    · rw [upd_same]
      rfl
    · rintro i v H1 hi ⟨sm, ed, eL⟩
      obtain ⟨x, hx, rfl⟩ := map_at hi
      refine ⟨rfl, ?_⟩
      refine ⟨_, rfl, d, rfl, .inl ⟨_, .inl ed⟩, _, rfl, _, rfl, d, _, rfl, ed, _, kI x, ed, rfl, ?_, fun v hv => ?_, fun hn => ?_⟩
      · rw [dg_len]
        have := firsts_le (xs.take i)
        rw [List.length_take] at this
        exact small_of (by omega)
      · rw [dg_val kI_inj _ _ (firsts_nodup _)] at hv
        by_cases hm : x ∈ firsts (xs.take i)
        · rw [if_pos hm] at hv
          cases hv
          obtain ⟨e1, e2⟩ := num_old hm
          refine ⟨_, eL, ?_, ?_⟩
          · rw [List.length_map, num_len, List.length_take]
            exact small_of (by omega)
          · rw [take_snoc hx, e1, e2]
            refine ⟨same_mut sm (s0.free nL), ?_, ?_⟩
            · rw [upd_ne ndL]
              exact ed
            · rw [upd_same, List.map_append]
              rfl
        · rw [if_neg hm] at hv
          cases hv
      · rw [dg_val kI_inj _ _ (firsts_nodup _)] at hn
        by_cases hm : x ∈ firsts (xs.take i)
        · rw [if_pos hm] at hn
          cases hn
        · obtain ⟨e1, e2⟩ := num_new hm
          rw [dg_len]
          refine ⟨_, by rw [upd_ne ndL.symm]; exact eL, ?_, ?_⟩
          · rw [List.length_map, num_len, List.length_take]
            exact small_of (by omega)
          · rw [take_snoc hx, e1, e2]
            refine ⟨same_mut (same_mut sm nd) (s0.free nL), ?_, ?_⟩
            · rw [upd_ne ndL, upd_same, dg_put kI_inj _ _ hm]
            · rw [upd_same, List.map_append]
              rfl
    · rintro H1 ⟨sm, ed, eL⟩
      refine ⟨L, _, rfl, .inl ⟨.inl (.inl eL), fun l hl => ?_⟩⟩
      refine q _ l (sm.trans (same_new hl)) ?_
      show upd H1 l _ l = _
      rw [upd_same, List.length_map, List.take_length]
end
end KQ
namespace KQ
open PySem PySem.Spec PyProof.Rows L2 KR KM
section
variable {P : Program} {w : World} {K : PySem.W.Frag} {mg : Str → Option Value} {base : Heap}
theorem ok_numberedL (D : DefAt K mg "numbered" s_numbered) (T : Bt mg) : Use P w K mg base "numbered" 1 ["blocks"] spNumL := by
  refine use_of D (fun f fd F => F.ok sc_numbered (fun vs H Q E h => ?_) (fun cdv A outer s H vs Q E hr h => ?_)) (fun _ _ _ _ _ _ us hl => match us, hl with | [_], _ => rfl)
  · obtain ⟨a, p, rfl, _⟩ := h
    rfl
  · obtain ⟨a, xs, rfl, hp, hl, q⟩ := h
    refine ⟨_, (pss_cons (ps_set (i := 1) sc_numbered.nd rfl (Or.inr rfl) pe_dnewK)
      (pss_one (ps_ret (pe_callTy (k_tupOf (K := K) rfl) (by rfl) T.tuple (by decide +kernel) (pa_cons (pe_lc (own := [("block", 2)]) rfl sc_numbered.nd (k_list (K := K) rfl (pv 0)) (blkOk_by (N := ["blocks", "numbers", "block"]) (sc := defScope s_numbered) (by decide +kernel)) (fun _ _ _ _ _ => (pg_name (i := 2) sc_numbered.nd rfl (Or.inl rfl))) (fun _ _ _ _ _ => pts_nil) (fun _ _ _ _ _ => (pe_dsetd (pv 1) (pv 2) (pe_callB call_lenD (by rfl) T.len PySem.boot_len (pa_cons (pv 1) pa_nil)) ⟨by rfl, by rfl, by rfl, by rfl⟩))) pa_nil))))), ?_⟩
    refine fun d nd => ?_
    have s0 : Same H (upd H d (.dK [])) := same_new nd
    refine ⟨_, rfl, a, rfl, ⟨_, .inl (.inl (s0 _ _ hp))⟩, fun L nL => ?_⟩
    have s1 : Same H (upd (upd H d (.dK [])) L (.lst [])) := s0.trans (same_new nL)
    have ndL : d ≠ L := fun e => by rw [e, upd_same] at nL; cases nL
    refine lc_list (K := K) (a := a) (xs := xs.map V.int) (fun i H1 => Same H H1 ∧ H1 d = some (.dK (dg kI (firsts (xs.take i)))) ∧ H1 L = some (.lst ((num (xs.take i)).map V.int)))
      ⟨s1, ?_, ?_⟩ (fun i H1 _ ⟨sm, _, _⟩ => .inl (.inl (sm _ _ hp))) ?_ ?_
    · rw [upd_ne ndL, upd_same]
      rfl
    · rw [upd_same]
      rfl
    · rintro i v H1 hi ⟨sm, ed, eL⟩
      obtain ⟨x, hx, rfl⟩ := map_at hi
      refine ⟨rfl, ?_⟩
      refine ⟨_, rfl, d, rfl, .inl ⟨_, .inl ed⟩, _, rfl, _, rfl, d, _, rfl, ed, _, kI x, ed, rfl, ?_, fun v hv => ?_, fun hn => ?_⟩
      · rw [dg_len]
        have := firsts_le (xs.take i)
        rw [List.length_take] at this
        exact small_of (by omega)
      · rw [dg_val kI_inj _ _ (firsts_nodup _)] at hv
        by_cases hm : x ∈ firsts (xs.take i)
        · rw [if_pos hm] at hv
          cases hv
          obtain ⟨e1, e2⟩ := num_old hm
          refine ⟨_, eL, ?_, ?_⟩
          · rw [List.length_map, num_len, List.length_take]
            exact small_of (by omega)
          · rw [take_snoc hx, e1, e2]
            refine ⟨same_mut sm (s0.free nL), ?_, ?_⟩
            · rw [upd_ne ndL]
              exact ed
            · rw [upd_same, List.map_append]
              rfl
        · rw [if_neg hm] at hv
          cases hv
      · rw [dg_val kI_inj _ _ (firsts_nodup _)] at hn
        by_cases hm : x ∈ firsts (xs.take i)
        · rw [if_pos hm] at hn
          cases hn
        · obtain ⟨e1, e2⟩ := num_new hm
          rw [dg_len]
          refine ⟨_, by rw [upd_ne ndL.symm]; exact eL, ?_, ?_⟩
          · rw [List.length_map, num_len, List.length_take]
            exact small_of (by omega)
          · rw [take_snoc hx, e1, e2]
            refine ⟨same_mut (same_mut sm nd) (s0.free nL), ?_, ?_⟩
            · rw [upd_ne ndL, upd_same, dg_put kI_inj _ _ hm]
            · rw [upd_same, List.map_append]
              rfl
    · rintro H1 ⟨sm, ed, eL⟩
      refine ⟨L, _, rfl, .inl ⟨.inl (.inl eL), fun l hl => ?_⟩⟩
      refine q _ l (sm.trans (same_new hl)) ?_
      show upd H1 l _ l = _
      rw [upd_same, List.length_map, List.take_length]
theorem ok_numberedP (D : DefAt K mg "numbered" s_numbered) (T : Bt mg) : Use P w K mg base "numbered" 1 ["blocks"] spNumP := by
  refine use_of D (fun f fd F => F.ok sc_numbered (fun vs H Q E h => ?_) (fun cdv A outer s H vs Q E hr h => ?_)) (fun _ _ _ _ _ _ us hl => match us, hl with | [_], _ => rfl)
  · obtain ⟨a, ts, p, rfl, _⟩ := h
    rfl
  · obtain ⟨a, ts, xs, rfl, hp, ⟨pl, pt⟩, hl, q⟩ := h
    refine ⟨_, (pss_cons (ps_set (i := 1) sc_numbered.nd rfl (Or.inr rfl) pe_dnewT)
      (pss_one (ps_ret (pe_callTy (k_tupOf (K := K) rfl) (by rfl) T.tuple (by decide +kernel) (pa_cons (pe_lc (own := [("block", 2)]) rfl sc_numbered.nd (k_list (K := K) rfl (pv 0)) (blkOk_by (N := ["blocks", "numbers", "block"]) (sc := defScope s_numbered) (by decide +kernel)) (fun _ _ _ _ _ => (pg_name (i := 2) sc_numbered.nd rfl (Or.inl rfl))) (fun _ _ _ _ _ => pts_nil) (fun _ _ _ _ _ => (pe_dsetdT (hu_of hr) (pv 1) (pv 2) (pe_callB call_len_dT (by rfl) T.len PySem.boot_len (pa_cons (pv 1) pa_nil)) ⟨by rfl, by rfl, by rfl, by rfl⟩))) pa_nil))))), ?_⟩
    refine fun d nd => ?_
    have s0 : Same H (upd H d (.dT [])) := same_new nd
    refine ⟨_, rfl, a, rfl, ⟨_, .inl (.inl (s0 _ _ hp))⟩, fun L nL => ?_⟩
    have s1 : Same H (upd (upd H d (.dT [])) L (.lst [])) := s0.trans (same_new nL)
    have ndL : d ≠ L := fun e => by rw [e, upd_same] at nL; cases nL
    refine lc_list (K := K) (a := a) (xs := ts.map V.ref) (fun i H1 => Same H H1 ∧ H1 d = some (.dT (dg kP (firsts (xs.take i)))) ∧ H1 L = some (.lst ((num (xs.take i)).map V.int)))
      ⟨s1, ?_, ?_⟩ (fun i H1 _ ⟨sm, _, _⟩ => .inl (.inl (sm _ _ hp))) ?_ ?_
    · rw [upd_ne ndL, upd_same]
      rfl
    · rw [upd_same]
      rfl
    · rintro i v H1 hi ⟨sm, ed, eL⟩
      obtain ⟨t, ht, rfl⟩ := map_at hi
      obtain ⟨x, hx, et⟩ := pt i t ht
      have et1 : H1 t = some (.tup ((kP x).map kV)) := sm _ _ et
      refine ⟨rfl, ?_⟩
      refine ⟨_, rfl, d, rfl, .inr ⟨_, .inl ed⟩, _, rfl, _, rfl, d, _, rfl, ed, _, kP x, t, ed, rfl, et1, ?_, fun v hv => ?_, fun hn => ?_⟩
      · rw [dg_len]
        have := firsts_le (xs.take i)
        rw [List.length_take] at this
        exact small_of (by omega)
      · rw [dg_val kP_inj _ _ (firsts_nodup _)] at hv
        by_cases hm : x ∈ firsts (xs.take i)
        · rw [if_pos hm] at hv
          cases hv
          obtain ⟨e1, e2⟩ := num_old hm
          refine ⟨_, eL, ?_, ?_⟩
          · rw [List.length_map, num_len, List.length_take]
            exact small_of (by omega)
          · rw [take_snoc hx, e1, e2]
            refine ⟨same_mut sm (s0.free nL), ?_, ?_⟩
            · rw [upd_ne ndL]
              exact ed
            · rw [upd_same, List.map_append]
              rfl
        · rw [if_neg hm] at hv
          cases hv
      · rw [dg_val kP_inj _ _ (firsts_nodup _)] at hn
        by_cases hm : x ∈ firsts (xs.take i)
        · rw [if_pos hm] at hn
          cases hn
        · obtain ⟨e1, e2⟩ := num_new hm
          rw [dg_len]
          refine ⟨_, by rw [upd_ne ndL.symm]; exact eL, ?_, ?_⟩
          · rw [List.length_map, num_len, List.length_take]
            exact small_of (by omega)
          · rw [take_snoc hx, e1, e2]
            refine ⟨same_mut (same_mut sm nd) (s0.free nL), ?_, ?_⟩
            · rw [upd_ne ndL, upd_same, dg_put kP_inj _ _ hm]
            · rw [upd_same, List.map_append]
              rfl
    · rintro H1 ⟨sm, ed, eL⟩
      refine ⟨L, _, rfl, .inl ⟨.inl (.inl eL), fun l hl => ?_⟩⟩
      refine q _ l (sm.trans (same_new hl)) ?_
      show upd H1 l _ l = _
      rw [upd_same, List.length_map, pl, List.take_length]
abbrev s_parting_of : Stmt := topS 23
theorem sc_parting_of : FnScope ["blocks", "place", "block"] ["blocks"] (defScope s_parting_of) := ⟨rfl, rfl, rfl, by decide +kernel, rfl, by decide +kernel, by decide +kernel⟩
def spPof : Sp := fun vs H Q _ => ∃ a xs, vs = [.ref a] ∧ TI H a xs ∧ xs ≠ [] ∧ xs.length ≤ 60 ∧ ∀ H' p, Same H H' → TI H' p (num xs) → Q (.ref p) H'
theorem ok_parting_of (D : DefAt K mg "parting_of" s_parting_of) (T : Bt mg) (c_MOST_DOORS : Cst mg "MOST_DOORS" 60) (u_is_tuple_within : Use P w K mg base "is_tuple_within" 1 ["value", "least", "most"] (spTupW K))
    (u_is_integer : Use P w K mg base "is_integer" 1 ["value"] spIsInteger) (u_numbered : Use P w K mg base "numbered" 1 ["blocks"] spNumT) : Use P w K mg base "parting_of" 2 ["blocks"] spPof := by
  refine use_of D (fun f fd F => F.ok sc_parting_of (fun vs H Q E h => ?_) (fun cdv A outer s H vs Q E hr h => ?_)) (fun _ _ _ _ _ _ us hl => match us, hl with | [_], _ => rfl)
  · obtain ⟨a, p, rfl, _⟩ := h
    rfl
  · obtain ⟨a, xs, rfl, hp, hne, hle, q⟩ := h
    refine ⟨_, (pss_cons (ps_if (pt_not (pt_val (pe_use u_is_tuple_within (by decide) hr (by rfl) (pa_cons (pv 0) (pa_cons pe_int (pa_cons (pe_cst (by rfl) c_MOST_DOORS) pa_nil)))))) (pss_one ps_never) pss_nil)
      (pss_cons (ps_for PassesOwn.never rfl (k_enumT (K := K) rfl (by rfl) T.enumerate (pa_cons (pv 0) pa_nil)) (pg_tup rfl (pgs_cons (pg_name (i := 1) sc_parting_of.nd rfl (Or.inl rfl)) (pgs_cons (pg_name (i := 2) sc_parting_of.nd rfl (Or.inl rfl)) pgs_nil)))
      (pss_one (ps_if (pt_not (pt_val (pe_use u_is_integer (by decide) hr (by rfl) (pa_cons (pv 2) pa_nil)))) (pss_one ps_never) pss_nil)))
      (pss_one (ps_ret (pe_use u_numbered (by decide) hr (by rfl) (pa_cons (pv 0) pa_nil)))))), ?_⟩
    refine ⟨_, rfl, a, _, _, _, rfl, hp.seq, hp.ty, true, ?_, iteF ?_⟩
    · have h2 : xs.length ≠ 0 := fun e => hne (List.eq_nil_of_length_eq_zero e)
      rw [decide_eq_true (by rw [List.length_map]; omega)]
    refine ⟨_, rfl, a, _, rfl, hp.seq, for_enumT (K := K) (a := a) (xs := xs.map V.int)
      (fun i σ H1 => ∃ y2 y3, σ = [some (.ref a), y2, y3] ∧ Same H H1)
      ⟨none, none, rfl, Same.refl H⟩ (fun i σ H1 ⟨_, _, _, sm⟩ => (hp.mono sm).seq) ?_ ?_⟩
    · rintro i v T1 σ H1 hi ⟨y2, y3, rfl, sm⟩ hT
      obtain ⟨x, hx, rfl⟩ := map_at hi
      refine ⟨T1, _, rfl, .inl (.inl upd_same), rfl, _, _, rfl, _, [], rfl, rfl, ?_⟩
      refine ⟨_, rfl, x, rfl, true, rfl, iteF ?_⟩
      exact ⟨some (.int (i : Nat)), some (.int x), rfl, sm.trans (same_new hT)⟩
    · rintro σ H1 ⟨y2, y3, rfl, sm⟩
      exact ⟨_, rfl, a, xs, rfl, hp.mono sm, by omega, fun H2 p sm2 hp2 => q H2 p (sm.trans sm2) hp2⟩
abbrev s_need_some_doors : Stmt := topS 36
theorem sc_need_some_doors : FnScope ["doors", "many", "seen", "door"] ["doors", "many"] (defScope s_need_some_doors) := ⟨rfl, rfl, rfl, by decide +kernel, rfl, by decide +kernel, by decide +kernel⟩
/-- unlike doors below many -/
structure Drs (ds : List Int) (many : Int) : Prop where
  ne : ds ≠ []
  le : ds.length ≤ 60
  nd : ds.Nodup
  at_ : ∀ d ∈ ds, 0 ≤ d ∧ d < many
def spDrs : Sp := fun vs H Q _ => ∃ a ds many, vs = [.ref a, .int many] ∧ TI H a ds ∧ Drs ds many ∧ ∀ H', Same H H' → Q .non H'
theorem ok_need_some_doors (D : DefAt K mg "need_some_doors" s_need_some_doors) (T : Bt mg) (c_MOST_DOORS : Cst mg "MOST_DOORS" 60) (u_is_tuple_within : Use P w K mg base "is_tuple_within" 1 ["value", "least", "most"] (spTupW K))
    (u_is_integer_within : Use P w K mg base "is_integer_within" 2 ["value", "least", "most"] spIntW) : Use P w K mg base "need_some_doors" 3 ["doors", "many"] spDrs := by
  refine use_of D (fun f fd F => F.ok sc_need_some_doors (fun vs H Q E h => ?_) (fun cdv A outer s H vs Q E hr h => ?_)) (fun _ _ _ _ _ _ us hl => match us, hl with | [_, _], _ => rfl)
  · obtain ⟨a, ds, m, rfl, _⟩ := h
    rfl
  · obtain ⟨a, ds, many, rfl, hp, dd, q⟩ := h
    refine ⟨_, (pss_cons (ps_if (pt_not (pt_val (pe_use u_is_tuple_within (by decide) hr (by rfl) (pa_cons (pv 0) (pa_cons pe_int (pa_cons (pe_cst (by rfl) c_MOST_DOORS) pa_nil)))))) (pss_one ps_never) pss_nil)
      (pss_cons (ps_set (i := 2) sc_need_some_doors.nd rfl (Or.inl rfl) (pe_callTy0 cr_set0 (by rfl) T.set (by decide +kernel)))
      (pss_one (ps_for PassesOwn.never rfl (k_tup (K := K) rfl (pv 0)) (pg_name (i := 3) sc_need_some_doors.nd rfl (Or.inl rfl))
      (pss_cons (ps_if (PW.pt (pw_or (pt_not (pt_val (pe_use u_is_integer_within (by decide) hr (by rfl) (pa_cons (pv 3) (pa_cons pe_int (pa_cons (pe_op op_sub (pv 1) pe_int) pa_nil)))))) (pw_or1 (pt_cmpR or_sin (pv 3) (pv 2) (by rfl))))) (pss_one ps_never) pss_nil)
      (pss_one (ps_expr (pe_sadd (pv 2) (pa_cons (pv 3) pa_nil))))))))), ?_⟩
    have h2 : ds.length ≠ 0 := fun e => dd.ne (List.eq_nil_of_length_eq_zero e)
    have h3 := dd.le
    refine ⟨_, rfl, a, _, _, _, rfl, hp.seq, hp.ty, true, ?_, iteF ?_⟩
    · rw [decide_eq_true (by rw [List.length_map]; omega)]
    refine ⟨rfl, fun e ne => ?_⟩
    refine ⟨_, rfl, a, rfl, ⟨_, (hp.mono (same_new ne)).seq⟩, for_tup (K := K) (a := a) (xs := ds.map V.int)
      (fun i σ H1 => ∃ y3, σ = [some (.ref a), some (.int many), some (.ref e), y3] ∧ Same H H1 ∧ ∃ S n, H1 e = some (SetO w e S n) ∧ n ≤ i ∧ ∀ k, S k = decide (k ∈ ds.take i))
      ⟨none, rfl, same_new ne, _, 0, upd_same, Nat.le_refl _, fun k => by simp⟩ (fun i σ H1 _ ⟨_, _, sm, _⟩ => (hp.mono sm).seq) ?_ ?_⟩
    · rintro i v σ H1 hi ⟨y3, rfl, sm, S, n, eS, hn, hS⟩
      obtain ⟨x, hx, rfl⟩ := map_at hi
      obtain ⟨x0, x1⟩ := dd.at_ x (List.mem_of_getElem? hx)
      have hil := (List.getElem?_eq_some_iff.mp hx).1
      have hnew : x ∉ ds.take i := by
        intro hm
        obtain ⟨j, hj, ej⟩ := List.getElem_of_mem hm
        rw [List.length_take] at hj
        rw [List.getElem_take] at ej
        have e1 : ds[j]? = some x := by rw [List.getElem?_eq_getElem (by omega), ej]
        have := nd_ix dd.nd e1 hx
        omega
      refine ⟨_, rfl, _, rfl, _, _, rfl, rfl, x, 0, many - 1, rfl, true, ?_, ?_⟩
      · rw [decide_eq_true (by omega)]
      refine ⟨_, rfl, _, rfl, x, e, S, n, rfl, rfl, eS, false, ?_, ?_⟩
      · rw [hS, decide_eq_false hnew]
      refine ⟨_, rfl, ⟨e, S, n, rfl, eS⟩, _, rfl, e, x, S, n, rfl, rfl, eS, ?_, ?_⟩
      · exact Nat.lt_of_le_of_lt (show n + 1 ≤ 61 by omega) (by decide)
      · refine ⟨some (.int x), rfl, same_mut sm ne, _, _, upd_same, ?_, fun k => ?_⟩
        · split <;> omega
        · rw [hS, take_snoc hx]
          simp only [List.mem_append, List.mem_singleton]
          by_cases h1 : k ∈ ds.take i <;> by_cases h2 : k = x <;> simp [h1, h2]
    · rintro σ H1 ⟨y3, rfl, sm, _⟩
      exact q H1 sm
end
end KQ
namespace KQ
open PySem PySem.Spec PyProof.Rows L2 KR KM StX
section
variable {P : Program} {w : World} {K : PySem.W.Frag} {mg : Str → Option Value} {base : Heap}
/-- a list of tuples of whole numbers; a tuple of such -/
def LT (H : Hp) (a : Addr) (xss : List (List Int)) : Prop := ∃ ts : List Addr, H a = some (.lst (ts.map V.ref)) ∧ ts.length = xss.length ∧ ∀ (i : Nat) (t : Addr), ts[i]? = some t → ∃ xs, xss[i]? = some xs ∧ TI H t xs
def TT (H : Hp) (a : Addr) (xss : List (List Int)) : Prop := ∃ ts : List Addr, H a = some (.tup (ts.map V.ref)) ∧ ts.length = xss.length ∧ ∀ (i : Nat) (t : Addr), ts[i]? = some t → ∃ xs, xss[i]? = some xs ∧ TI H t xs
theorem TT.mono {H H' : Hp} {a : Addr} {xss : List (List Int)} (h : TT H a xss) (e : Same H H') : TT H' a xss := by
  obtain ⟨ts, h1, h2, h3⟩ := h
  exact ⟨ts, e _ _ h1, h2, fun i t ht => let ⟨xs, q1, q2⟩ := h3 i t ht; ⟨xs, q1, q2.mono e⟩⟩
theorem LT.mono {H H' : Hp} {a : Addr} {xss : List (List Int)} (h : LT H a xss) (e : Same H H') : LT H' a xss := by
  obtain ⟨ts, h1, h2, h3⟩ := h
  exact ⟨ts, e _ _ h1, h2, fun i t ht => let ⟨xs, q1, q2⟩ := h3 i t ht; ⟨xs, q1, q2.mono e⟩⟩
abbrev s_parting_of_some : Stmt := topS 37
theorem sc_parting_of_some : FnScope ["parting", "doors", "door"] ["parting", "doors"] (defScope s_parting_of_some) := ⟨rfl, rfl, rfl, by decide +kernel, rfl, by decide +kernel, by decide +kernel⟩
def pick (p ds : List Int) : List Int := ds.map fun d => p.getD d.toNat 0
theorem get_of {p : List Int} {d : Int} (h0 : 0 ≤ d) (h1 : d < p.length) : p[d.toNat]? = some (p.getD d.toNat 0) := by
  have h : d.toNat < p.length := by omega
  rw [List.getElem?_eq_getElem h, List.getD_eq_getElem?_getD, List.getElem?_eq_getElem h]
  rfl
def spSome : Sp := fun vs H Q _ => ∃ a b p ds, vs = [.ref a, .ref b] ∧ TI H a p ∧ TI H b ds ∧ Par p ∧ Drs ds p.length ∧ ∀ H' r, Same H H' → TI H' r (num (pick p ds)) → Q (.ref r) H'
theorem ok_parting_of_some (D : DefAt K mg "parting_of_some" s_parting_of_some) (T : Bt mg) (u_need_parting : Use P w K mg base "need_parting" 4 ["parting"] spNeed)
    (u_need_some_doors : Use P w K mg base "need_some_doors" 3 ["doors", "many"] spDrs) (u_numbered : Use P w K mg base "numbered" 1 ["blocks"] spNumL) :
    Use P w K mg base "parting_of_some" 5 ["parting", "doors"] spSome := by
  refine use_of D (fun f fd F => F.ok sc_parting_of_some (fun vs H Q E h => ?_) (fun cdv A outer s H vs Q E hr h => ?_)) (fun _ _ _ _ _ _ us hl => match us, hl with | [_, _], _ => rfl)
  · obtain ⟨a, b, p, ds, rfl, _⟩ := h
    rfl
  · obtain ⟨a, b, p, ds, rfl, hp, hb, par, dd, q⟩ := h
    refine ⟨_, (pss_cons (ps_expr (pe_use u_need_parting (by decide) hr (by rfl) (pa_cons (pv 0) pa_nil)))
      (pss_cons (ps_expr (pe_use u_need_some_doors (by decide) hr (by rfl) (pa_cons (pv 1) (pa_cons (pe_callB (k_len (K := K) rfl) (by rfl) T.len PySem.boot_len (pa_cons (pv 0) pa_nil)) pa_nil))))
      (pss_one (ps_ret (pe_use u_numbered (by decide) hr (by rfl) (pa_cons (pe_lc (own := [("door", 2)]) rfl sc_parting_of_some.nd (k_tup (K := K) rfl (pv 1)) (blkOk_by (N := ["parting", "doors", "door"]) (sc := defScope s_parting_of_some) (by decide +kernel)) (fun _ _ _ _ _ => (pg_name (i := 2) sc_parting_of_some.nd rfl (Or.inl rfl))) (fun _ _ _ _ _ => pts_nil) (fun _ _ _ _ _ => (pe_ix (k_ixt (K := K) rfl) (pv 0) (pv 2) (fun _ _ => rfl)))) pa_nil)))))), ?_⟩
    refine ⟨_, rfl, a, p, rfl, hp, par, fun H1 s1 => ?_⟩
    refine ⟨_, rfl, _, rfl, a, _, rfl, .inr (hp.mono s1).seq, b, ds, p.length, ?_, hb.mono s1, dd, fun H2 s2 => ?_⟩
    · rw [List.length_map]
      rfl
    have s12 := s1.trans s2
    refine ⟨_, rfl, b, rfl, ⟨_, (hb.mono s12).seq⟩, fun L nL => ?_⟩
    refine lc_tup (K := K) (a := b) (xs := ds.map V.int) (fun i H3 => Same H H3 ∧ H3 L = some (.lst ((pick p (ds.take i)).map V.int)))
      ⟨s12.trans (same_new nL), ?_⟩ (fun i H3 _ ⟨sm, _⟩ => (hb.mono sm).seq) ?_ ?_
    · rw [upd_same]
      rfl
    · rintro i v H3 hi ⟨sm, eL⟩
      obtain ⟨d, hd, rfl⟩ := map_at hi
      obtain ⟨d0, d1⟩ := dd.at_ d (List.mem_of_getElem? hd)
      refine ⟨rfl, _, rfl, _, rfl, a, _, d, _, rfl, rfl, (hp.mono sm).seq, atI_of (j := d.toNat) (by omega) (at_map (get_of d0 d1)), ?_⟩
      refine ⟨_, eL, ?_, same_mut sm (s12.free nL), ?_⟩
      · have := dd.le
        unfold pick
        rw [List.length_map, List.length_map, List.length_take]
        exact small_of (by omega)
      · rw [upd_same, take_snoc hd]
        unfold pick
        rw [List.map_append, List.map_append]
        rfl
    · rintro H3 ⟨sm, eL⟩
      rw [List.length_map, List.take_length] at eL
      refine ⟨L, _, rfl, eL, ?_, fun H4 r s4 hr => q H4 r (sm.trans s4) hr⟩
      have := dd.le
      unfold pick
      rw [List.length_map]
      omega
abbrev s_doors_by_block : Stmt := topS 26
theorem sc_doors_by_block : FnScope ["parting", "rows", "door", "block", "_"] ["parting"] (defScope s_doors_by_block) := ⟨rfl, rfl, rfl, by decide +kernel, rfl, by decide +kernel, by decide +kernel⟩
/-- the rows: a list of lists -/
def Rows (H : Hp) (a : Addr) (p : List Int) (many : Nat) : Prop := ∃ rs : List Addr, H a = some (.lst (rs.map V.ref)) ∧ rs.length = many ∧ rs.Nodup ∧ ∀ (b : Nat) (t : Addr), rs[b]? = some t → H t = some (.lst ((doorsOf p b).map V.int))
def spRows : Sp := fun vs H Q _ => ∃ a p, vs = [.ref a] ∧ TI H a p ∧ Par p ∧ ∀ H' l, Same H H' → Rows H' l p (bc 0 p).toNat → Q (.ref l) H'
theorem ok_doors_by_block (D : DefAt K mg "doors_by_block" s_doors_by_block) (T : Bt mg) (u_block_count : Use P w K mg base "block_count" 1 ["parting"] spCount) :
    Use P w K mg base "doors_by_block" 2 ["parting"] spRows := by
  refine use_of D (fun f fd F => F.ok sc_doors_by_block (fun vs H Q E h => ?_) (fun cdv A outer s H vs Q E hr h => ?_)) (fun _ _ _ _ _ _ us hl => match us, hl with | [_], _ => rfl)
  · obtain ⟨a, p, rfl, _⟩ := h
    rfl
  · obtain ⟨a, p, rfl, hp, par, q⟩ := h
    refine ⟨_, (pss_cons (ps_setLc (i := 1) (own := [("_", 4)]) rfl sc_doors_by_block.nd rfl rfl (sw_true rfl rfl rfl (by decide +kernel)) (pi_range1 (by rfl) T.range (pa_cons (pe_use u_block_count (by decide) hr (by rfl) (pa_cons (pv 0) pa_nil)) pa_nil)) (blkOk_by (N := ["parting", "rows", "door", "block", "_"]) (sc := defScope s_doors_by_block) (by decide +kernel)) (fun _ _ _ _ _ => (pg_name (i := 4) sc_doors_by_block.nd rfl (Or.inl rfl))) (fun _ _ _ _ _ => pts_nil) (fun _ _ _ _ _ => (pe_lst pa_nil)))
      (pss_cons (ps_for PassesOwn.never rfl (k_enumT (K := K) rfl (by rfl) T.enumerate (pa_cons (pv 0) pa_nil)) (pg_tup rfl (pgs_cons (pg_name (i := 2) sc_doors_by_block.nd rfl (Or.inl rfl)) (pgs_cons (pg_name (i := 3) sc_doors_by_block.nd rfl (Or.inl rfl)) pgs_nil)))
      (pss_one (ps_expr (k_bm (K := K) rfl PySem.F.plainAttrs_list PySem.F.slot_list_append PySem.F.type_list_append mt_append (pe_ix (k_ixl (K := K) rfl) (pv 1) (pv 3) (fun _ _ => rfl)) (pa_cons (pv 2) pa_nil)))))
      (pss_one (ps_ret (pv 1))))), ?_⟩
    have g0 := bc_ge 0 p
    have g1 := bc_le 0 p
    have g2 := par.le
    refine ⟨_, rfl, a, p, rfl, hp, par, _, rfl, by omega, by omega, fun L nL => ?_⟩
    refine lc_range (fun i H1 => Same H H1 ∧ ∃ rs : List Addr, H1 L = some (.lst (rs.map V.ref)) ∧ rs.length = i ∧ rs.Nodup ∧ ∀ t ∈ rs, H t = none ∧ t ≠ L ∧ H1 t = some (.lst []))
      ⟨same_new nL, [], upd_same, rfl, List.nodup_nil, fun t ht => (nomatch ht)⟩ ?_ ?_
    · rintro i H1 hi ⟨sm, rs, eL, hlen, nd, ht⟩
      refine ⟨rfl, Nat.zero_le _, fun t nt => ?_⟩
      have ntL : t ≠ L := fun e => by rw [e, eL] at nt; cases nt
      refine ⟨_, by rw [upd_ne ntL.symm]; exact eL, ?_, ?_, rs ++ [t], ?_, ?_, ?_, ?_⟩
      · rw [List.length_map]
        exact small_of (by omega)
      · exact same_mut (sm.trans (same_new nt)) nL
      · rw [upd_same, List.map_append]
        rfl
      · rw [List.length_append, hlen]
        rfl
      · rw [List.nodup_append]
        refine ⟨nd, by simp, fun x hx y hy e => ?_⟩
        rw [List.mem_singleton.mp hy] at e
        have := (ht x hx).2.2
        rw [e, nt] at this
        cases this
      · intro x hx
        rcases List.mem_append.mp hx with hx | hx
        · obtain ⟨h1, h2, h3⟩ := ht x hx
          refine ⟨h1, h2, ?_⟩
          rw [upd_ne h2, upd_ne (ne_of_none h3 nt)]
          exact h3
        · rw [List.mem_singleton.mp hx]
          refine ⟨sm.free nt, ntL, ?_⟩
          rw [upd_ne ntL, upd_same]
    · rintro H1 ⟨sm, rs, eL, hlen, nd, ht⟩
      refine ⟨_, rfl, a, _, rfl, (hp.mono sm).seq, for_enumT (K := K) (a := a) (xs := p.map V.int)
        (fun i σ H2 => ∃ y2 y3, σ = [some (.ref a), some (.ref L), y2, y3, none] ∧ Same H H2 ∧ H2 L = some (.lst (rs.map V.ref)) ∧ ∀ (b : Nat) (t : Addr), rs[b]? = some t → H2 t = some (.lst ((doorsOf (p.take i) b).map V.int)))
        ⟨none, none, rfl, sm, eL, fun b t hb => (ht t (List.mem_of_getElem? hb)).2.2⟩ (fun i σ H2 ⟨_, _, _, sm, _⟩ => (hp.mono sm).seq) ?_ ?_⟩
      · rintro i v T1 σ H2 hi ⟨y2, y3, rfl, sm2, eL2, hrows⟩ hT
        obtain ⟨x, hx, rfl⟩ := map_at hi
        obtain ⟨x0, x1⟩ := (rg_mem 0 p (Int.le_refl _) par.rg).1 x (List.mem_of_getElem? hx)
        have hxr : x.toNat < rs.length := by omega
        obtain ⟨t, htx⟩ : ∃ t, rs[x.toNat]? = some t := ⟨rs[x.toNat], List.getElem?_eq_getElem hxr⟩
        have et := hrows _ t htx
        refine ⟨T1, _, rfl, .inl (.inl upd_same), rfl, _, _, rfl, _, [], rfl, rfl, ?_⟩
        have ntT : t ≠ T1 := ne_of_none et hT
        have nLT : L ≠ T1 := ne_of_none eL2 hT
        have tL := (ht t (List.mem_of_getElem? htx)).2.1
        have etT : upd H2 T1 (.tup [.int (i : Nat), .int x]) t = some (.lst ((doorsOf (p.take i) x.toNat).map V.int)) := by rw [upd_ne ntT]; exact et
        have eLT : upd H2 T1 (.tup [.int (i : Nat), .int x]) L = some (.lst (rs.map V.ref)) := by rw [upd_ne nLT]; exact eL2
        refine ⟨_, rfl, _, rfl, L, _, x, _, rfl, rfl, .inl (.inl eLT), atI_of (j := x.toNat) (by omega) (at_map htx), .inl ⟨rfl, _, .inl (.inl etT)⟩, _, rfl, t, _, _, rfl, rfl, etT, ?_, ?_⟩
        · rw [List.length_map]
          have := doorsOf_len (p.take i) x.toNat
          rw [List.length_take] at this
          exact small_of (by omega)
        · refine ⟨some (.int (i : Nat)), some (.int x), rfl, same_mut (sm2.trans (same_new hT)) (ht t (List.mem_of_getElem? htx)).1, ?_, fun b u hu => ?_⟩
          · rw [upd_ne tL.symm]
            exact eLT
          · rw [take_snoc hx, doorsOf_snoc]
            have li : (p.take i).length = i := by
              have := (List.getElem?_eq_some_iff.mp hx).1
              rw [List.length_take]
              omega
            by_cases hbx : b = x.toNat
            · subst hbx
              rw [htx] at hu
              cases hu
              rw [upd_same, if_pos (by omega), li, List.map_append]
              rfl
            · have hut : u ≠ t := fun e => hbx (nd_ix nd hu (by rw [e]; exact htx))
              have eu := hrows b u hu
              rw [upd_ne hut, upd_ne (ne_of_none eu hT), if_neg (by omega), List.append_nil]
              exact eu
      · rintro σ H2 ⟨y2, y3, rfl, sm2, eL2, hrows⟩
        refine ⟨_, rfl, q H2 L sm2 ⟨rs, eL2, by omega, nd, fun b t hb => ?_⟩⟩
        have := hrows b t hb
        rw [List.length_map, List.take_length] at this
        exact this
end
end KQ
namespace KQ
open PySem PySem.Spec PyProof.Rows L2 KR KM StX
section
variable {P : Program} {w : World} {K : PySem.W.Frag} {mg : Str → Option Value} {base : Heap}
abbrev s_blocks_of : Stmt := topS 27
theorem sc_blocks_of : FnScope ["parting", "row"] ["parting"] (defScope s_blocks_of) := ⟨rfl, rfl, rfl, by decide +kernel, rfl, by decide +kernel, by decide +kernel⟩
def blockList (p : List Int) : List (List Int) := (List.range (bc 0 p).toNat).map fun b => doorsOf p ((b : Nat) : Int)
theorem blockList_at {p : List Int} {b : Nat} (h : b < (bc 0 p).toNat) : (blockList p)[b]? = some (doorsOf p b) := by
  unfold blockList
  rw [List.getElem?_map, List.getElem?_range h]
  rfl
def spBlocks : Sp := fun vs H Q _ => ∃ a p, vs = [.ref a] ∧ TI H a p ∧ Par p ∧ ∀ H' r, Same H H' → TT H' r (blockList p) → Q (.ref r) H'
theorem ok_blocks_of (D : DefAt K mg "blocks_of" s_blocks_of) (T : Bt mg) (u_need_parting : Use P w K mg base "need_parting" 4 ["parting"] spNeed) (u_doors_by_block : Use P w K mg base "doors_by_block" 2 ["parting"] spRows) :
    Use P w K mg base "blocks_of" 5 ["parting"] spBlocks := by
  refine use_of D (fun f fd F => F.ok sc_blocks_of (fun vs H Q E h => ?_) (fun cdv A outer s H vs Q E hr h => ?_)) (fun _ _ _ _ _ _ us hl => match us, hl with | [_], _ => rfl)
  · obtain ⟨a, p, rfl, _⟩ := h
    rfl
  · obtain ⟨a, p, rfl, hp, par, q⟩ := h
    refine ⟨_, (pss_cons (ps_expr (pe_use u_need_parting (by decide) hr (by rfl) (pa_cons (pv 0) pa_nil)))
      (pss_one (ps_ret (pe_callTy (k_tupOf (K := K) rfl) (by rfl) T.tuple (by decide +kernel) (pa_cons (pe_lc (own := [("row", 1)]) rfl sc_blocks_of.nd (k_list (K := K) rfl (pe_use u_doors_by_block (by decide) hr (by rfl) (pa_cons (pv 0) pa_nil))) (blkOk_by (N := ["parting", "row"]) (sc := defScope s_blocks_of) (by decide +kernel)) (fun _ _ _ _ _ => (pg_name (i := 1) sc_blocks_of.nd rfl (Or.inl rfl))) (fun _ _ _ _ _ => pts_nil) (fun _ _ _ _ _ => (pe_callTy (k_tupOf (K := K) rfl) (by rfl) T.tuple (by decide +kernel) (pa_cons (pv 1) pa_nil)))) pa_nil))))), ?_⟩
    have g1 := bc_le 0 p
    have g2 := par.le
    refine ⟨_, rfl, a, p, rfl, hp, par, fun H1 s1 => ?_⟩
    refine ⟨_, rfl, a, p, rfl, hp.mono s1, par, fun H2 l s2 ⟨rs, el, hlen, nd, hrow⟩ => ?_⟩
    refine ⟨l, rfl, ⟨_, .inl (.inl el)⟩, fun L nL => ?_⟩
    refine lc_list (K := K) (a := l) (xs := rs.map V.ref) (fun i H3 => Same H2 H3 ∧ ∃ ts : List Addr, H3 L = some (.lst (ts.map V.ref)) ∧ ts.length = i ∧ ∀ (b : Nat) (t : Addr), ts[b]? = some t → TI H3 t (doorsOf p b))
      ⟨same_new nL, [], upd_same, rfl, fun b t h => by simp at h⟩ (fun i H3 _ ⟨sm, _⟩ => .inl (.inl (sm _ _ el))) ?_ ?_
    · rintro i v H3 hi ⟨sm, ts, eL, tl, tt⟩
      obtain ⟨t, ht, rfl⟩ := map_at hi
      have hil := (List.getElem?_eq_some_iff.mp ht).1
      have et := sm _ _ (hrow i t ht)
      refine ⟨rfl, _, rfl, t, _, rfl, .inl ⟨.inl (.inl et), fun u nu => ?_⟩⟩
      have nuL : u ≠ L := fun e => by rw [e, eL] at nu; cases nu
      refine ⟨_, by rw [upd_ne nuL.symm]; exact eL, ?_, same_mut (sm.trans (same_new nu)) nL, ts ++ [u], ?_, ?_, fun b t' hb => ?_⟩
      · rw [List.length_map]
        exact small_of (by omega)
      · rw [upd_same, List.map_append]
        rfl
      · rw [List.length_append, tl]
        rfl
      · by_cases hbl : b < ts.length
        · rw [List.getElem?_append_left hbl] at hb
          have q1 : H3 t' = some (.tup ((doorsOf p b).map V.int)) := tt b t' hb
          show upd (upd H3 u _) L _ t' = some (.tup ((doorsOf p b).map V.int))
          rw [upd_ne (fun e => by rw [e, eL] at q1; cases q1), upd_ne (ne_of_none q1 nu)]
          exact q1
        · rw [List.getElem?_append_right (by omega)] at hb
          have hb0 : b - ts.length = 0 := by
            apply Classical.byContradiction
            intro q
            rw [List.getElem?_eq_none (by show 1 ≤ _; omega)] at hb
            cases hb
          rw [hb0] at hb
          cases hb
          have eb : b = i := by omega
          subst eb
          show upd (upd H3 u _) L _ u = some (.tup ((doorsOf p b).map V.int))
          rw [upd_ne nuL, upd_same]
    · rintro H3 ⟨sm, ts, eL, tl, tt⟩
      rw [List.length_map] at tl
      refine ⟨L, _, rfl, .inl ⟨.inl (.inl eL), fun r nr => ?_⟩⟩
      refine q _ r ((s1.trans s2).trans (sm.trans (same_new nr))) ⟨ts, upd_same, ?_, fun b t hb => ?_⟩
      · unfold blockList
        rw [List.length_map, List.length_range, tl, hlen]
      · have hbl := (List.getElem?_eq_some_iff.mp hb).1
        exact ⟨_, blockList_at (by omega), (tt b t hb).mono (same_new nr)⟩
abbrev s_beside : Stmt := topS 38
theorem sc_beside : FnScope ["parting", "other", "many", "block"] ["parting", "other"] (defScope s_beside) := ⟨rfl, rfl, rfl, by decide +kernel, rfl, by decide +kernel, by decide +kernel⟩
def besideP (p r : List Int) : List Int := p ++ r.map fun b => bc 0 p + b
def spBeside : Sp := fun vs H Q _ => ∃ a b p r, vs = [.ref a, .ref b] ∧ TI H a p ∧ TI H b r ∧ Par p ∧ Par r ∧ p.length + r.length ≤ 60 ∧ ∀ H' t, Same H H' → TI H' t (besideP p r) → Q (.ref t) H'
theorem ok_beside (D : DefAt K mg "beside" s_beside) (T : Bt mg) (c_MOST_DOORS : Cst mg "MOST_DOORS" 60) (u_need_parting : Use P w K mg base "need_parting" 4 ["parting"] spNeed) (u_block_count : Use P w K mg base "block_count" 1 ["parting"] spCount) :
    Use P w K mg base "beside" 5 ["parting", "other"] spBeside := by
  refine use_of D (fun f fd F => F.ok sc_beside (fun vs H Q E h => ?_) (fun cdv A outer s H vs Q E hr h => ?_)) (fun _ _ _ _ _ _ us hl => match us, hl with | [_, _], _ => rfl)
  · obtain ⟨a, b, p, r, rfl, _⟩ := h
    rfl
  · obtain ⟨a, b, p, r, rfl, hp, hb, par, parb, hle, q⟩ := h
    refine ⟨_, (pss_cons (ps_expr (pe_use u_need_parting (by decide) hr (by rfl) (pa_cons (pv 0) pa_nil)))
      (pss_cons (ps_expr (pe_use u_need_parting (by decide) hr (by rfl) (pa_cons (pv 1) pa_nil)))
      (pss_cons (ps_if (pt_cmpR op_gt (pe_op op_add (pe_callB (k_len (K := K) rfl) (by rfl) T.len PySem.boot_len (pa_cons (pv 0) pa_nil)) (pe_callB (k_len (K := K) rfl) (by rfl) T.len PySem.boot_len (pa_cons (pv 1) pa_nil))) (pe_cst (by rfl) c_MOST_DOORS) (nomark _)) (pss_one ps_never) pss_nil)
      (pss_cons (ps_set (i := 2) sc_beside.nd rfl (Or.inr rfl) (pe_use u_block_count (by decide) hr (by rfl) (pa_cons (pv 0) pa_nil)))
      (pss_one (ps_ret (pe_callTy (k_tupOf (K := K) rfl) (by rfl) T.tuple (by decide +kernel) (pa_cons (pe_lst (k_star (K := K) rfl (pv 0) (k_star (K := K) rfl (pe_lc (own := [("block", 3)]) rfl sc_beside.nd (k_tup (K := K) rfl (pv 1)) (blkOk_by (N := ["parting", "other", "many", "block"]) (sc := defScope s_beside) (by decide +kernel)) (fun _ _ _ _ _ => (pg_name (i := 3) sc_beside.nd rfl (Or.inl rfl))) (fun _ _ _ _ _ => pts_nil) (fun _ _ _ _ _ => (pe_op op_add (pv 2) (pv 3)))) pa_nil))) pa_nil)))))))), ?_⟩
    refine ⟨_, rfl, a, p, rfl, hp, par, fun H1 s1 => ?_⟩
    refine ⟨_, rfl, b, r, rfl, hb.mono s1, parb, fun H2 s2 => ?_⟩
    have s12 := s1.trans s2
    refine ⟨_, rfl, a, _, rfl, .inr (hp.mono s12).seq, _, rfl, b, _, rfl, .inr (hb.mono s12).seq, _, _, rfl, rfl, _, _, rfl, rfl, _, rfl, ?_⟩
    rw [List.length_map, List.length_map, decide_eq_false (by omega)]
    refine iteF ?_
    refine ⟨_, rfl, a, p, rfl, hp.mono s12, par, ?_⟩
    refine ⟨_, rfl, a, _, rfl, .inl (hp.mono s12).seq, _, rfl, b, rfl, ⟨_, (hb.mono s12).seq⟩, fun L nL => ?_⟩
    refine lc_tup (K := K) (a := b) (xs := r.map V.int) (fun i H3 => Same H2 H3 ∧ H3 L = some (.lst (((r.take i).map fun b => bc 0 p + b).map V.int)))
      ⟨same_new nL, upd_same⟩ (fun i H3 _ ⟨sm, _⟩ => (hb.mono (s12.trans sm)).seq) ?_ ?_
    · rintro i v H3 hi ⟨sm, eL⟩
      obtain ⟨x, hx, rfl⟩ := map_at hi
      refine ⟨rfl, _, rfl, _, rfl, _, _, rfl, rfl, _, eL, ?_, same_mut sm nL, ?_⟩
      · rw [List.length_map, List.length_map, List.length_take]
        have := parb.le
        exact small_of (by omega)
      · rw [upd_same, take_snoc hx, List.map_append, List.map_append]
        rfl
    · rintro H3 ⟨sm, eL⟩
      rw [List.length_map, List.take_length] at eL
      refine ⟨L, _, rfl, .inr (.inl (.inl eL)), ?_⟩
      have hz : (p.map V.int ++ ((r.map fun b => bc 0 p + b).map V.int ++ [])).length ≤ sizeLine := by
        rw [List.length_append, List.length_append, List.length_map, List.length_map, List.length_map]
        exact Nat.le_of_lt (small_of (by show p.length + (r.length + 0) ≤ _; omega))
      refine ⟨hz, fun M nM => ?_⟩
      refine ⟨M, _, rfl, .inl ⟨.inl (.inl upd_same), fun t nt => ?_⟩⟩
      refine q _ t ((s12.trans sm).trans ((same_new nM).trans (same_new nt))) ?_
      show upd _ t _ t = some (.tup ((besideP p r).map V.int))
      rw [upd_same]
      unfold besideP
      rw [List.map_append, List.append_nil]
abbrev s_lies_within : Stmt := topS 31
theorem sc_lies_within : FnScope ["parting", "other", "above", "low", "high"] ["parting", "other"] (defScope s_lies_within) := ⟨rfl, rfl, rfl, by decide +kernel, rfl, by decide +kernel, by decide +kernel⟩
/-- two doors in one block of the one are in one block of the other -/
def Finer (p r : List Int) : Prop := ∀ (i j : Nat) (x y z : Int), p[i]? = some x → p[j]? = some x → r[i]? = some y → r[j]? = some z → y = z
def spLies : Sp := fun vs H Q _ => ∃ a b p r, vs = [.ref a, .ref b] ∧ TI H a p ∧ TI H b r ∧ p.length = r.length ∧ p.length ≤ 60 ∧ ∀ H' c, Same H H' → (c = true ↔ Finer p r) → Q (.bl c) H'
/-- what the dict knows: each block of the one so far with that of the other at its first door -/
def Known (p r : List Int) (i : Nat) (kvs : List (L2.Key × V)) : Prop := kvs.length ≤ i ∧ ∀ x : Int, (∀ v, valV kvs (kI x) = some v → ∃ (j : Nat) (y : Int), j < i ∧ p[j]? = some x ∧ r[j]? = some y ∧ v = .int y) ∧
  (valV kvs (kI x) = none → ∀ j, j < i → p[j]? ≠ some x)
theorem valV_put {κ : Type} [DecidableEq κ] (kvs : List (κ × V)) (k k' : κ) (v : V) (h : valV kvs k = none) : valV (putK kvs k v) k' = if k' = k then some v else valV kvs k' := by
  have hn : (kvs.any fun kv => decide (kv.1 = k)) = false := by
    unfold valV at h
    rw [Option.map_eq_none_iff, List.find?_eq_none] at h
    rw [List.any_eq_false]
    exact h
  unfold putK
  rw [if_neg (by rw [hn]; exact Bool.false_ne_true)]
  unfold valV
  rw [List.find?_append, Option.map_or]
  by_cases e : k' = k
  · subst e
    rw [if_pos rfl]
    unfold valV at h
    rw [h]
    simp
  · rw [if_neg e]
    have e2 : ¬ k = k' := fun q => e q.symm
    simp [e2]
theorem putK_len {κ : Type} [DecidableEq κ] (kvs : List (κ × V)) (k : κ) (v : V) : (putK kvs k v).length ≤ kvs.length + 1 := length_putK kvs k v
theorem ok_lies_within (D : DefAt K mg "lies_within" s_lies_within) (T : Bt mg) : Use P w K mg base "lies_within" 1 ["parting", "other"] spLies := by
  refine use_of D (fun f fd F => F.ok sc_lies_within (fun vs H Q E h => ?_) (fun cdv A outer s H vs Q E hr h => ?_)) (fun _ _ _ _ _ _ us hl => match us, hl with | [_, _], _ => rfl)
  · obtain ⟨a, b, p, r, rfl, _⟩ := h
    rfl
  · obtain ⟨a, b, p, r, rfl, hp, hb, hl, hle, q⟩ := h
    refine ⟨_, (pss_cons (ps_set (i := 2) sc_lies_within.nd rfl (Or.inl rfl) pe_dnewK)
      (pss_cons (ps_for PassesOwn.never rfl (k_zip (K := K) rfl (by rfl) T.zip (pa_cons (pv 0) (pa_cons (pv 1) pa_nil))) (pg_tup rfl (pgs_cons (pg_name (i := 3) sc_lies_within.nd rfl (Or.inl rfl)) (pgs_cons (pg_name (i := 4) sc_lies_within.nd rfl (Or.inl rfl)) pgs_nil)))
      (pss_one (ps_if (pt_cmpR op_ne (pe_dsetd (pv 2) (pv 3) (pv 4) ⟨by rfl, by rfl, by rfl, by rfl⟩) (pv 4) (nomark _)) (pss_one (ps_ret pe_bl)) pss_nil)))
      (pss_one (ps_ret pe_bl)))), ?_⟩
    refine fun d nd => ?_
    have s0 : Same H (upd H d (.dK [])) := same_new nd
    refine ⟨_, rfl, _, rfl, a, b, _, _, rfl, .inr ⟨(hp.mono s0).seq, (hb.mono s0).seq, ?_⟩⟩
    refine RZ.for_zipT (K := K) (a := a) (b := b) (xs := p.map V.int) (ys := r.map V.int) (by rw [List.length_map, List.length_map, hl])
      (fun i σ H1 => ∃ y3 y4, σ = [some (.ref a), some (.ref b), some (.ref d), y3, y4] ∧ Same H H1 ∧ ∃ kvs, H1 d = some (.dK kvs) ∧ Known p r i kvs ∧
        ∀ (j k : Nat) (x y z : Int), j < i → k < i → p[j]? = some x → p[k]? = some x → r[j]? = some y → r[k]? = some z → y = z)
      ⟨none, none, rfl, s0, [], upd_same, ⟨Nat.le_refl _, fun x => ⟨fun v h => (by cases h), fun _ j hj => absurd hj (Nat.not_lt_zero _)⟩⟩, fun j k x y z hj => absurd hj (Nat.not_lt_zero _)⟩
      (fun i σ H1 ⟨_, _, _, sm, _⟩ => ⟨(hp.mono sm).seq, (hb.mono sm).seq⟩) ?_ ?_
    · rintro i v1 v2 T1 σ H1 hi1 hi2 ⟨y3, y4, rfl, sm, kvs, ed, ⟨kl, kn⟩, hfin⟩ hT
      obtain ⟨x, hx, rfl⟩ := map_at hi1
      obtain ⟨y, hy, rfl⟩ := map_at hi2
      have hil := (List.getElem?_eq_some_iff.mp hx).1
      refine ⟨T1, _, rfl, .inl (.inl upd_same), rfl, _, _, rfl, _, [], rfl, rfl, ?_⟩
      have edT : upd H1 T1 (.tup [.int x, .int y]) d = some (.dK kvs) := by rw [upd_ne (ne_of_none ed hT)]; exact ed
      have smT := sm.trans (same_new (o := .tup [.int x, .int y]) hT)
      refine ⟨_, rfl, d, rfl, .inl ⟨_, .inl edT⟩, _, rfl, _, rfl, kvs, kI x, edT, rfl, small_of (by omega), fun v hv => ?_, fun hn => ?_⟩
      · obtain ⟨j, z, hj, pj, rj, rfl⟩ := (kn x).1 v hv
        refine ⟨_, rfl, rfl, _, rfl, ?_⟩
        by_cases e : z = y
        · subst e
          rw [decide_eq_true rfl]
          refine iteF ?_
          refine ⟨some (.int x), some (.int z), rfl, smT, kvs, edT, ⟨by omega, fun x' => ⟨fun v' hv' => ?_, fun hn' j' hj' => ?_⟩⟩, fun j1 j2 x' y' z' l1 l2 p1 p2 r1 r2 => ?_⟩
          · obtain ⟨j', y', a1, a2⟩ := (kn x').1 v' hv'
            exact ⟨j', y', by omega, a2⟩
          · by_cases hj2 : j' < i
            · exact (kn x').2 hn' j' hj2
            · have : j' = i := by omega
              subst this
              intro e'
              rw [hx] at e'
              cases e'
              rw [hn'] at hv
              cases hv
          · by_cases h1 : j1 < i <;> by_cases h2 : j2 < i
            · exact hfin j1 j2 x' y' z' h1 h2 p1 p2 r1 r2
            · have : j2 = i := by omega
              subst this
              rw [hx] at p2
              cases p2
              rw [hy] at r2
              cases r2
              exact hfin j1 j x y' z h1 hj p1 pj r1 rj
            · have : j1 = i := by omega
              subst this
              rw [hx] at p1
              cases p1
              rw [hy] at r1
              cases r1
              exact (hfin j2 j x z' z h2 hj p2 pj r2 rj).symm
            · have e1 : j1 = i := by omega
              have e2 : j2 = i := by omega
              subst e1
              subst e2
              rw [r1] at r2
              cases r2
              rfl
        · rw [decide_eq_false (fun e' => e (V.int.inj e'))]
          refine iteT ?_
          refine q _ false smT ⟨fun h => (by cases h), fun h => ?_⟩
          exact (e (h j i x z y pj hx rj hy)).elim
      · refine ⟨_, rfl, rfl, _, rfl, ?_⟩
        rw [decide_eq_true rfl]
        refine iteF ?_
        refine ⟨some (.int x), some (.int y), rfl, same_mut smT nd, _, upd_same, ⟨?_, fun x' => ⟨fun v' hv' => ?_, fun hn' j' hj' => ?_⟩⟩, fun j1 j2 x' y' z' l1 l2 p1 p2 r1 r2 => ?_⟩
        · have := putK_len kvs (kI x) (V.int y)
          omega
        · rw [valV_put _ _ _ _ hn] at hv'
          by_cases e : kI x' = kI x
          · rw [if_pos e] at hv'
            cases hv'
            have := kI_inj _ _ e
            subst this
            exact ⟨i, y, by omega, hx, hy, rfl⟩
          · rw [if_neg e] at hv'
            obtain ⟨j', y', a1, a2⟩ := (kn x').1 v' hv'
            exact ⟨j', y', by omega, a2⟩
        · rw [valV_put _ _ _ _ hn] at hn'
          by_cases e : kI x' = kI x
          · rw [if_pos e] at hn'
            cases hn'
          · rw [if_neg e] at hn'
            by_cases hj2 : j' < i
            · exact (kn x').2 hn' j' hj2
            · have : j' = i := by omega
              subst this
              intro e'
              rw [hx] at e'
              cases e'
              exact e rfl
        · by_cases h1 : j1 < i <;> by_cases h2 : j2 < i
          · exact hfin j1 j2 x' y' z' h1 h2 p1 p2 r1 r2
          · have : j2 = i := by omega
            subst this
            rw [hx] at p2
            cases p2
            exact ((kn x).2 hn j1 h1 p1).elim
          · have : j1 = i := by omega
            subst this
            rw [hx] at p1
            cases p1
            exact ((kn x).2 hn j2 h2 p2).elim
          · have e1 : j1 = i := by omega
            have e2 : j2 = i := by omega
            subst e1
            subst e2
            rw [r1] at r2
            cases r2
            rfl
    · rintro σ H1 ⟨y3, y4, rfl, sm, kvs, ed, kn, hfin⟩
      refine q H1 true sm ⟨fun _ i j x y z p1 p2 r1 r2 => ?_, fun _ => rfl⟩
      have l1 := (List.getElem?_eq_some_iff.mp p1).1
      have l2 := (List.getElem?_eq_some_iff.mp p2).1
      rw [List.length_map] at hfin
      exact hfin i j x y z l1 l2 p1 p2 r1 r2
end
end KQ
namespace KQ
open PySem PySem.Spec PyProof.Rows L2 KR KM StX
section
variable {P : Program} {w : World} {K : PySem.W.Frag} {mg : Str → Option Value} {base : Heap}
abbrev s_is_finer : Stmt := topS 32
theorem sc_is_finer : FnScope ["parting", "other"] ["parting", "other"] (defScope s_is_finer) := ⟨rfl, rfl, rfl, by decide +kernel, rfl, by decide +kernel, by decide +kernel⟩
def spFiner : Sp := fun vs H Q _ => ∃ a b p r, vs = [.ref a, .ref b] ∧ TI H a p ∧ TI H b r ∧ Par p ∧ Par r ∧ p.length = r.length ∧ ∀ H' c, Same H H' → (c = true ↔ Finer p r) → Q (.bl c) H'
theorem ok_is_finer (D : DefAt K mg "is_finer" s_is_finer) (T : Bt mg) (u_need_two_partings : Use P w K mg base "need_two_partings" 6 ["parting", "other"] spTwo) (u_lies_within : Use P w K mg base "lies_within" 1 ["parting", "other"] spLies) :
    Use P w K mg base "is_finer" 7 ["parting", "other"] spFiner := by
  refine use_of D (fun f fd F => F.ok sc_is_finer (fun vs H Q E h => ?_) (fun cdv A outer s H vs Q E hr h => ?_)) (fun _ _ _ _ _ _ us hl => match us, hl with | [_, _], _ => rfl)
  · obtain ⟨a, b, p, r, rfl, _⟩ := h
    rfl
  · obtain ⟨a, b, p, r, rfl, hp, hb, par, parb, hl, q⟩ := h
    refine ⟨_, (pss_cons (ps_expr (pe_use u_need_two_partings (by decide) hr (by rfl) (pa_cons (pv 0) (pa_cons (pv 1) pa_nil))))
      (pss_one (ps_ret (pe_use u_lies_within (by decide) hr (by rfl) (pa_cons (pv 0) (pa_cons (pv 1) pa_nil)))))), ?_⟩
    refine ⟨_, rfl, _, rfl, a, b, p, r, rfl, hp, hb, par, parb, hl, fun H1 s1 => ?_⟩
    exact ⟨_, rfl, _, rfl, a, b, p, r, rfl, hp.mono s1, hb.mono s1, hl, par.le, fun H2 c s2 hc => q H2 c (s1.trans s2) hc⟩
abbrev s_coarsest_below : Stmt := topS 34
theorem sc_coarsest_below : FnScope ["parting", "other"] ["parting", "other"] (defScope s_coarsest_below) := ⟨rfl, rfl, rfl, by decide +kernel, rfl, by decide +kernel, by decide +kernel⟩
def spBelow : Sp := fun vs H Q _ => ∃ a b p r, vs = [.ref a, .ref b] ∧ TI H a p ∧ TI H b r ∧ Par p ∧ Par r ∧ p.length = r.length ∧ ∀ H' t, Same H H' → TI H' t (num (p.zip r)) → Q (.ref t) H'
theorem zipped_pairs {p r : List Int} {H H' : Hp} {ts : List Addr} (hl : p.length = r.length) (tl : ts.length = (p.map V.int).length)
    (tt : ∀ (i : Nat) (t : Addr), ts[i]? = some t → H t = none ∧ ∃ x y, (p.map V.int)[i]? = some x ∧ (r.map V.int)[i]? = some y ∧ H' t = some (.tup [x, y])) : PairsAt H' ts (p.zip r) := by
  refine ⟨?_, fun i t ht => ?_⟩
  · rw [tl, List.length_map, List.length_zip]
    omega
  · obtain ⟨_, x, y, h1, h2, h3⟩ := tt i t ht
    obtain ⟨x', hx, rfl⟩ := map_at h1
    obtain ⟨y', hy, rfl⟩ := map_at h2
    refine ⟨(x', y'), ?_, h3⟩
    rw [List.getElem?_zip_eq_some]
    exact ⟨hx, hy⟩
theorem ok_coarsest_below (D : DefAt K mg "coarsest_below" s_coarsest_below) (T : Bt mg) (u_need_two_partings : Use P w K mg base "need_two_partings" 6 ["parting", "other"] spTwo) (u_numbered : Use P w K mg base "numbered" 1 ["blocks"] spNumP) :
    Use P w K mg base "coarsest_below" 7 ["parting", "other"] spBelow := by
  refine use_of D (fun f fd F => F.ok sc_coarsest_below (fun vs H Q E h => ?_) (fun cdv A outer s H vs Q E hr h => ?_)) (fun _ _ _ _ _ _ us hl => match us, hl with | [_, _], _ => rfl)
  · obtain ⟨a, b, p, r, rfl, _⟩ := h
    rfl
  · obtain ⟨a, b, p, r, rfl, hp, hb, par, parb, hl, q⟩ := h
    refine ⟨_, (pss_cons (ps_expr (pe_use u_need_two_partings (by decide) hr (by rfl) (pa_cons (pv 0) (pa_cons (pv 1) pa_nil))))
      (pss_one (ps_ret (pe_use u_numbered (by decide) hr (by rfl) (pa_cons (k_lzip (K := K) rfl rfl (by rfl) T.list (by rfl) T.zip (pa_cons (pv 0) (pa_cons (pv 1) pa_nil))) pa_nil))))), ?_⟩
    refine ⟨_, rfl, _, rfl, a, b, p, r, rfl, hp, hb, par, parb, hl, fun H1 s1 => ?_⟩
    refine ⟨_, rfl, _, rfl, a, b, _, _, rfl, (hp.mono s1).seq, (hb.mono s1).seq, by rw [List.length_map, List.length_map, hl], ?_, fun l ts H2 nl s2 el tl tt => ?_⟩
    · rw [List.length_map]
      have := par.le
      exact small_of (by omega)
    refine ⟨l, ts, p.zip r, rfl, el, zipped_pairs hl tl tt, ?_, fun H3 t s3 ht => q H3 t ((s1.trans s2).trans s3) ht⟩
    have := par.le
    rw [List.length_zip]
    omega
abbrev s_partings_of_doors : Stmt := topS 28
theorem sc_partings_of_doors : FnScope ["doors", "rows", "_", "row", "block"] ["doors"] (defScope s_partings_of_doors) := ⟨rfl, rfl, rfl, by decide +kernel, rfl, by decide +kernel, by decide +kernel⟩
def spPofD : Sp := fun vs H Q _ => ∃ n : Nat, vs = [.int ((n + 1 : Nat) : Int)] ∧ n < 8 ∧ ∀ H' t, Same H H' → TT H' t (allP n) → Q (.ref t) H'
theorem ok_partings_of_doors (D : DefAt K mg "partings_of_doors" s_partings_of_doors) (T : Bt mg) : Use P w K mg base "partings_of_doors" 1 ["doors"] spPofD := by
  refine use_of D (fun f fd F => F.ok sc_partings_of_doors (fun vs H Q E h => ?_) (fun cdv A outer s H vs Q E hr h => ?_)) (fun _ _ _ _ _ _ us hl => match us, hl with | [_], _ => rfl)
  · obtain ⟨n, rfl, _⟩ := h
    rfl
  · obtain ⟨n, rfl, hn, q⟩ := h
    refine ⟨_, (pss_cons (ps_set (i := 1) sc_partings_of_doors.nd rfl (Or.inl rfl) (pe_lst (pa_cons (pe_tup (pa_cons pe_int pa_nil)) pa_nil)))
      (pss_cons (ps_for PassesOwn.never rfl (pi_range1 (by rfl) T.range (pa_cons (pe_op op_sub (pv 0) pe_int) pa_nil)) (pg_name (i := 2) sc_partings_of_doors.nd rfl (Or.inl rfl))
      (pss_one (ps_setLc2 (i := 1) (own := [("row", 3), ("block", 4)]) (vs1 := [4]) rfl sc_partings_of_doors.nd rfl rfl (sw_true rfl rfl rfl (by decide +kernel)) (k_list (K := K) rfl (pv 1)) (blkOk_by (N := ["doors", "rows", "_", "row", "block"]) (sc := defScope s_partings_of_doors) (by decide +kernel)) (by decide) (fun _ _ _ _ _ => (pg_name (i := 3) sc_partings_of_doors.nd rfl (Or.inl rfl))) (fun _ _ _ _ _ => pts_nil) (fun _ _ _ _ _ => (pi_range1 (by rfl) T.range (pa_cons (pe_op op_add (pe_callB (k_maxT (K := K) rfl rfl hr.units) (by rfl) T.max (by decide +kernel) (pa_cons (pv 3) pa_nil)) pe_int) pa_nil))) (fun _ _ _ _ _ => (pg_name (i := 4) sc_partings_of_doors.nd rfl (Or.inl rfl))) (fun _ _ _ _ _ => pts_nil) (fun _ _ _ _ _ => (pe_op (k_catT (K := K) rfl) (pv 3) (pe_tup (pa_cons (pv 4) pa_nil)))))))
      (pss_one (ps_ret (pe_callTy (k_tupOf (K := K) rfl) (by rfl) T.tuple (by decide +kernel) (pa_cons (pv 1) pa_nil)))))), ?_⟩
    refine ⟨by show 1 ≤ sizeLine; decide, fun t0 n0 => ⟨by show 1 ≤ sizeLine; decide, fun l0 nl0 => ?_⟩⟩
    have nt0 : t0 ≠ l0 := fun e => by rw [← e, upd_same] at nl0; cases nl0
    have s0 : Same H (upd (upd H t0 (.tup [.int 0])) l0 (.lst [.ref t0])) := (same_new n0).trans (same_new nl0)
    refine ⟨_, rfl, _, _, rfl, rfl, _, rfl, by omega, by omega, for_range (lo := 0) (n := (((n + 1 : Nat) : Int) - 1).toNat)
      (fun i σ H1 => ∃ l y2, σ = [some (.int ((n + 1 : Nat) : Int)), some (.ref l), y2, none, none] ∧ Same H H1 ∧ LT H1 l (allP i))
      ⟨l0, none, rfl, s0, [t0], upd_same, rfl, fun i t ht => ?_⟩ ?_ ?_⟩
    · match i, ht with
      | 0, ht =>
        have e : t0 = t := Option.some.inj ht
        subst e
        refine ⟨[0], rfl, ?_⟩
        show upd _ l0 _ t0 = _
        rw [upd_ne nt0, upd_same]
        rfl
      | i + 1, ht => simp at ht
    · rintro i σ H1 hi ⟨l, y2, rfl, sm, ts, el, tl, tt⟩
      have hi8 : i + 1 < 8 := by omega
      have cnt := allP_count ⟨i + 1, hi8⟩
      refine ⟨_, rfl, l, rfl, ⟨_, .inl (.inl el)⟩, fun L nL => ?_⟩
      refine lc2_list (K := K) (a := l) (xs := ts.map V.ref) (fun k H2 => Same H1 H2 ∧ LT H2 L (((allP i).take k).flatMap ext))
        ⟨same_new nL, [], upd_same, rfl, fun k t h => by simp at h⟩ (fun k H2 _ ⟨s2, _⟩ => .inl (.inl (s2 _ _ el))) ?_ ?_
      · rintro k v H2 hk ⟨s2, us, eL, ul, ut⟩
        obtain ⟨t, ht, rfl⟩ := map_at hk
        obtain ⟨row, hrow, et⟩ := tt k t ht
        obtain ⟨rg, rl⟩ := allP_ok i row (List.mem_of_getElem? hrow)
        have et2 : TI H2 t row := et.mono s2
        have rne : row ≠ [] := fun e => by rw [e] at rl; cases rl
        have rpar : Par row := ⟨rne, by omega, rg⟩
        have b0 := bc_ge 0 row
        have b1 := bc_le 0 row
        refine ⟨rfl, ?_⟩
        refine ⟨_, rfl, t, row, rfl, et2.seq, rne, fun m hm hle => ?_⟩
        have em := par_max rpar hm hle
        refine ⟨_, _, rfl, rfl, (m + 2 : Int), rfl, by omega, by omega, ?_⟩
        have en : (m + 2).toNat = (bc 0 row + 1).toNat := by omega
        have fl := flat_le ext hrow
        have e9 : ((allP i).flatMap ext).length ≤ 4140 := cnt
        rw [ext_len] at fl
        refine in_range (fun j H3 => Same H1 H3 ∧ LT H3 L (((allP i).take k).flatMap ext ++ (ext row).take j)) ⟨s2, us, eL, by rw [List.take_zero, List.append_nil]; exact ul, fun x u hu => by rw [List.take_zero, List.append_nil]; exact ut x u hu⟩ ?_ ?_
        · rintro j H3 hj ⟨s3, us3, eL3, ul3, ut3⟩
          have et3 : TI H3 t row := et.mono s3
          have hj2 : j < (bc 0 row + 1).toNat := by omega
          refine ⟨rfl, _, rfl, _, rfl, by show 1 ≤ sizeLine; decide, fun c nc => ?_⟩
          have et4 : TI (upd H3 c (.tup [.int (0 + (j : Nat))])) t row := et3.mono (same_new nc)
          refine ⟨t, c, _, _, rfl, rfl, et4.seq, .inl (.inl upd_same), ?_, ?_, fun e => (by cases e), fun _ d nd => ?_⟩
          · intro e
            exact rne (List.map_eq_nil_iff.mp e)
          · rw [List.length_map]
            exact Nat.le_of_lt (small_of (by show row.length + 1 ≤ _; omega))
          · have ncL : c ≠ L := fun e => by rw [e, eL3] at nc; cases nc
            have eL4 : upd H3 c (.tup [.int (0 + (j : Nat))]) L = some (.lst (us3.map V.ref)) := by rw [upd_ne ncL.symm]; exact eL3
            have ndL : d ≠ L := fun e => by rw [e, eL4] at nd; cases nd
            rw [List.length_append, List.length_take, ext_len] at ul3
            refine ⟨_, by rw [upd_ne ndL.symm]; exact eL4, ?_, same_mut (s3.trans ((same_new nc).trans (same_new nd))) nL, us3 ++ [d], ?_, ?_, fun x u hu => ?_⟩
            · rw [List.length_map]
              exact small_of (by omega)
            · rw [upd_same, List.map_append]
              rfl
            · rw [ext_take hj2, List.length_append, ul3, List.length_append, List.length_append, List.length_take, ext_len]
              show _ + 1 = _ + (_ + 1)
              omega
            · rw [ext_take hj2, ← List.append_assoc]
              by_cases hx : x < us3.length
              · rw [List.getElem?_append_left hx] at hu
                obtain ⟨q', q1, q2⟩ := ut3 x u hu
                have lq := (List.getElem?_eq_some_iff.mp q1).1
                refine ⟨q', by rw [List.getElem?_append_left lq]; exact q1, ?_⟩
                have q2' : H3 u = some (.tup (q'.map V.int)) := q2
                show upd _ L _ u = some (.tup (q'.map V.int))
                rw [upd_ne (fun e => by rw [e, eL3] at q2'; cases q2')]
                exact same_new nd _ _ (same_new nc _ _ q2')
              · have hx2 := (List.getElem?_eq_some_iff.mp hu).1
                rw [List.length_append] at hx2
                have hx3 : x = us3.length := by
                  have : x < us3.length + 1 := hx2
                  omega
                subst hx3
                rw [List.getElem?_append_right (Nat.le_refl _), Nat.sub_self] at hu
                cases hu
                refine ⟨row ++ [((j : Nat) : Int)], ?_, ?_⟩
                · rw [List.getElem?_append_right (by rw [List.length_append, List.length_take, ext_len]; omega)]
                  rw [show us3.length - (((allP i).take k).flatMap ext ++ (ext row).take j).length = 0 by rw [List.length_append, List.length_take, ext_len]; omega]
                  rfl
                · show upd _ L _ d = _
                  rw [upd_ne ndL, upd_same, List.map_append]
                  rw [show (0 : Int) + (j : Nat) = (j : Nat) by omega]
                  rfl
        · rintro H3 ⟨s3, h3⟩
          refine ⟨s3, ?_⟩
          rw [flat_take ext hrow]
          rw [show (ext row).take (m + 2).toNat = ext row from List.take_of_length_le (by rw [ext_len]; omega)] at h3
          exact h3
      · rintro H2 ⟨s2, h2⟩
        refine ⟨L, some (.int (0 + (i : Nat))), rfl, sm.trans s2, ?_⟩
        rw [List.length_map, tl, List.take_length] at h2
        exact h2
    · rintro σ H1 ⟨l, y2, rfl, sm, ts, el, tl, tt⟩
      refine ⟨_, rfl, l, _, rfl, .inl ⟨.inl (.inl el), fun r nr => ?_⟩⟩
      have e : (((n + 1 : Nat) : Int) - 1).toNat = n := by omega
      rw [e] at tl tt
      exact q _ r (sm.trans (same_new nr)) ⟨ts, upd_same, tl, fun i t ht => let ⟨xs, q1, q2⟩ := tt i t ht; ⟨xs, q1, q2.mono (same_new nr)⟩⟩
abbrev s_all_partings : Stmt := topS 29
theorem sc_all_partings : FnScope ["number"] ["number"] (defScope s_all_partings) := ⟨rfl, rfl, rfl, by decide +kernel, rfl, by decide +kernel, by decide +kernel⟩
theorem ok_all_partings (D : DefAt K mg "all_partings" s_all_partings) (T : Bt mg) (c_MOST_DOORS : Cst mg "MOST_DOORS" 60) (c_MOST_LISTED_DOORS : Cst mg "MOST_LISTED_DOORS" 8)
    (u_is_integer_within : Use P w K mg base "is_integer_within" 2 ["value", "least", "most"] spIntW) (u_partings_of_doors : Use P w K mg base "partings_of_doors" 1 ["doors"] spPofD) :
    Use P w K mg base "all_partings" 3 ["number"] spPofD := by
  refine use_of D (fun f fd F => F.ok sc_all_partings (fun vs H Q E h => ?_) (fun cdv A outer s H vs Q E hr h => ?_)) (fun _ _ _ _ _ _ us hl => match us, hl with | [_], _ => rfl)
  · obtain ⟨n, rfl, _⟩ := h
    rfl
  · obtain ⟨n, rfl, hn, q⟩ := h
    refine ⟨_, (pss_cons (ps_if (pt_not (pt_val (pe_use u_is_integer_within (by decide) hr (by rfl) (pa_cons (pv 0) (pa_cons pe_int (pa_cons (pe_cst (by rfl) c_MOST_DOORS) pa_nil)))))) (pss_one ps_never) pss_nil)
      (pss_cons (ps_if (pt_cmpR op_gt (pv 0) (pe_cst (by rfl) c_MOST_LISTED_DOORS) (nomark _)) (pss_one ps_never) pss_nil)
      (pss_one (ps_ret (pe_use u_partings_of_doors (by decide) hr (by rfl) (pa_cons (pv 0) pa_nil)))))), ?_⟩
    refine ⟨_, rfl, _, 1, 60, rfl, true, ?_, iteF ?_⟩
    · rw [decide_eq_true (by omega)]
    refine ⟨_, rfl, _, _, rfl, rfl, _, rfl, ?_⟩
    rw [decide_eq_false (by omega)]
    exact iteF ⟨_, rfl, n, rfl, hn, q⟩
end
end KQ
namespace KQ
open PySem PySem.Spec PyProof.Rows L2 KR KM StX
section
variable {P : Program} {w : World} {K : PySem.W.Frag} {mg : Str → Option Value} {base : Heap}
/-! ### clumps -/
def cf (l : Addr) (m : Int) : List (Str × V) := putF "many" (.int m) (putF "heads" (.ref l) [])
theorem hm_ne : ¬ (("heads" : Str) = "many") := by decide +kernel
theorem cf_heads (l : Addr) (m : Int) : (cf l m).lookup ("heads" : Str) = some (.ref l) := by
  unfold cf
  rw [lookup_putF, if_neg hm_ne, lookup_putF, if_pos rfl]
theorem cf_many (l : Addr) (m : Int) : (cf l m).lookup ("many" : Str) = some (.int m) := by
  unfold cf
  rw [lookup_putF, if_pos rfl]
theorem cf_no (l : Addr) (m : Int) {x : Str} (h1 : ¬ x = "many") (h2 : ¬ x = "heads") : (cf l m).lookup x = none := by
  unfold cf
  rw [lookup_putF, if_neg h1, lookup_putF, if_neg h2]
  rfl
theorem cf_eq (l : Addr) (m : Int) : cf l m = ([("heads", V.ref l), ("many", V.int m)] : List (Str × V)) := by
  show (if ("heads" : Str) = "many" then [(("heads" : Str), V.int m)] else (("heads" : Str), V.ref l) :: putF "many" (V.int m) []) = _
  rw [if_neg hm_ne]
  rfl
theorem cf_put (l : Addr) (m m' : Int) : putF "many" (.int m') (cf l m) = cf l m' := by
  rw [cf_eq, cf_eq]
  show (if ("heads" : Str) = "many" then _ else (("heads" : Str), V.ref l) :: (if ("many" : Str) = "many" then [(("many" : Str), V.int m')] else _)) = _
  rw [if_neg hm_ne, if_pos rfl]
def hv (hs : List Nat) : List V := hs.map fun n => V.int ((n : Nat) : Int)
/-- clumps stand at o, their heads in the list at l -/
def CAt (C : Addr) (H : Hp) (o l : Addr) (hs : List Nat) (m : Int) : Prop := (∃ dx, H o = some (.ins C dx (cf l m))) ∧ H l = some (.lst (hv hs))
def But (l : Addr) (H H' : Hp) : Prop := ∀ b u, H b = some u → b ≠ l → H' b = some u
theorem hv_at {hs : List Nat} {x : Nat} (h : x < hs.length) : (hv hs)[x]? = some (.int ((up hs x : Nat) : Int)) := by
  unfold hv up
  rw [List.getElem?_map, List.getElem?_eq_getElem h, List.getD_eq_getElem?_getD, List.getElem?_eq_getElem h]
  rfl
theorem hv_set (hs : List Nat) (x v : Nat) : (hv hs).set x (.int ((v : Nat) : Int)) = hv (hs.set x v) := by
  unfold hv
  rw [List.map_set]
theorem hv_len (hs : List Nat) : (hv hs).length = hs.length := List.length_map ..
theorem rgV_hv (n : Nat) : rgV 0 ((n : Nat) : Int) = hv (List.range n) := by
  unfold rgV hv
  rw [show (((n : Nat) : Int) - 0).toNat = n by omega]
  refine List.map_congr_left fun x _ => ?_
  show V.int (0 + _) = _
  rw [Int.zero_add]
abbrev s_Clumps___init__ : Stmt := inClass (topS 2) 0
theorem sc_Clumps___init__ : FnScope ["self", "number"] ["self", "number"] (defScope s_Clumps___init__) := ⟨rfl, rfl, rfl, by decide +kernel, rfl, by decide +kernel, by decide +kernel⟩
def spInit (C : Addr) : Sp := fun vs H Q _ => ∃ (o dx : Addr) (n : Nat), vs = [.ref o, .int ((n : Nat) : Int)] ∧ H o = some (.ins C dx []) ∧ n ≤ 1000 ∧
  ∀ H' l, CAt C H' o l (List.range n) n → H l = none → But o H H' → Q .non H'
theorem ok_init {C : Addr} (D : IAt K C "Clumps.__init__" s_Clumps___init__) (T : Bt mg) (cC : Cls K C) (nH : NoAttr K C "heads") (nM : NoAttr K C "many") (hm : mg "Clumps" = some (.ref C)) :
    KUse P w K mg base C "Clumps" 1 ["self", "number"] (spInit C) := by
  refine kuse_of D hm (fun f fd F => F.ok sc_Clumps___init__ (fun vs H Q E h => ?_) (fun cdv A outer s H vs Q E hr h => ?_)) (fun _ _ _ _ _ _ us hl => match us, hl with | [_, _], _ => rfl)
  · obtain ⟨o, dx, n, rfl, _⟩ := h
    rfl
  · obtain ⟨o, dx, n, rfl, ho, hn, q⟩ := h
    refine ⟨_, (pss_cons (ps_fld (pv 0) (pe_listRg rfl (by rfl) T.list (prg_1 (by rfl) T.range (pv 1))) rfl)
      (pss_one (ps_fld (pv 0) (pv 1) rfl))), ?_⟩
    refine ⟨_, rfl, _, rfl, RgOk.of_le (by omega) (by omega) (by omega) (by omega), fun l nl => ?_⟩
    have nol : o ≠ l := ne_of_none ho nl
    refine ⟨_, rfl, o, C, dx, [], rfl, by rw [upd_ne nol]; exact ho, cC, nH, by show 0 < 1000; decide, ?_⟩
    refine ⟨_, rfl, _, rfl, o, C, dx, _, rfl, upd_same, cC, nM, by show 1 < 1000; decide, ?_⟩
    refine q _ l ⟨⟨dx, upd_same⟩, ?_⟩ nl (fun b u hb hne => ?_)
    · rw [upd_ne nol.symm, upd_ne nol.symm, upd_same]
      exact congrArg (fun z => some (HO.lst z)) (rgV_hv n)
    · rw [upd_ne hne, upd_ne hne, upd_ne (ne_of_none hb nl)]
      exact hb
abbrev s_Clumps_head : Stmt := inClass (topS 2) 1
theorem sc_Clumps_head : FnScope ["self", "thing"] ["self", "thing"] (defScope s_Clumps_head) := ⟨rfl, rfl, rfl, by decide +kernel, rfl, by decide +kernel, by decide +kernel⟩
def spHead (C : Addr) : Sp := fun vs H Q _ => ∃ (o l : Addr) (hs : List Nat) (m : Int) (x : Nat), vs = [.ref o, .int ((x : Nat) : Int)] ∧ CAt C H o l hs m ∧ Dn hs ∧ x < hs.length ∧
  ∀ H' hs', CAt C H' o l hs' m → Dn hs' → hs'.length = hs.length → (∀ y, root hs' y = root hs y) → But l H H' → Q (.int ((root hs x : Nat) : Int)) H'
theorem ok_head {C : Addr} (D : MAt K C "head" "Clumps.head" s_Clumps_head) (T : Bt mg) (cC : Cls K C) (nH : NoAttr K C "heads") : MUse P w K mg base C "head" 1 ["self", "thing"] (spHead C) := by
  refine muse_of D (fun f fd F => F.ok sc_Clumps_head (fun vs H Q E h => ?_) (fun cdv A outer s H vs Q E hr h => ?_)) (fun _ _ _ _ _ _ us hl => match us, hl with | [_, _], _ => rfl)
  · obtain ⟨o, l, hs, m, x, rfl, _⟩ := h
    rfl
  · obtain ⟨o, l, hs, m, x, rfl, ⟨⟨dx, ho⟩, el⟩, dn, hx, q⟩ := h
    have nol : o ≠ l := ne_of ho el (by intro z; cases z)
    refine ⟨_, (pss_cons (ps_while PassesOwn.never (pt_cmpR op_ne (pe_ix (k_ixl (K := K) rfl) (k_fld (K := K) rfl (pv 0) rfl) (pv 1) (fun _ _ => rfl)) (pv 1) (nomark _)) (pss_cons (ps_asg (pe_ix (k_ixl (K := K) rfl) (k_fld (K := K) rfl (pv 0) rfl) (pe_ix (k_ixl (K := K) rfl) (k_fld (K := K) rfl (pv 0) rfl) (pv 1) (fun _ _ => rfl)) (fun _ _ => rfl)) (pg_sub (k_fld (K := K) rfl (pv 0) rfl) (pv 1) set_list))
      (pss_one (ps_set (i := 1) sc_Clumps_head.nd rfl (Or.inl rfl) (pe_ix (k_ixl (K := K) rfl) (k_fld (K := K) rfl (pv 0) rfl) (pv 1) (fun _ _ => rfl))))))
      (pss_one (ps_ret (pv 1)))), ?_⟩
    refine ⟨fun g σ H1 => ∃ (hs1 : List Nat) (y : Nat), σ = [some (.ref o), some (.int ((y : Nat) : Int))] ∧ g = y ∧ H1 o = some (.ins C dx (cf l m)) ∧ H1 l = some (.lst (hv hs1)) ∧ Dn hs1 ∧ hs1.length = hs.length ∧
      (∀ z, root hs1 z = root hs z) ∧ root hs y = root hs x ∧ y < hs.length ∧ But l H H1, ⟨x, hs, x, rfl, rfl, ho, el, dn, rfl, fun _ => rfl, rfl, hx, fun _ _ e _ => e⟩, ?_⟩
    rintro g σ H1 ⟨hs1, y, rfl, rfl, ho1, el1, dn1, hl1, hr1, hry, hy, but⟩
    have hy1 : g < hs1.length := by omega
    have a1 := hv_at hy1
    refine ⟨_, rfl, o, C, dx, _, _, rfl, ho1, cC, nH, cf_heads _ _, _, rfl, l, hv hs1, ((g : Nat) : Int), .int ((up hs1 g : Nat) : Int), rfl, rfl, .inl (.inl el1), atI_of rfl a1, _, rfl, rfl, _, rfl, ite2 (fun e => ?_) (fun e => ?_)⟩
    · have ne : up hs1 g ≠ g := by
        intro e2
        rw [e2, decide_eq_true rfl] at e
        cases e
      have lt : up hs1 g < g := by
        have := dn1 g
        omega
      have a2 := hv_at (show up hs1 g < hs1.length by omega)
      refine ⟨_, fun σ' H' n => n, ?_⟩
      refine ⟨_, rfl, o, C, dx, _, _, rfl, ho1, cC, nH, cf_heads _ _, _, rfl, o, C, dx, _, _, rfl, ho1, cC, nH, cf_heads _ _, _, rfl, l, _, _, _, rfl, rfl, .inl (.inl el1), atI_of rfl a1, l, _, _, _, rfl, rfl, .inl (.inl el1), atI_of rfl a2, ?_⟩
      refine ⟨_, rfl, o, C, dx, _, _, rfl, ho1, cC, nH, cf_heads _ _, _, rfl, l, _, _, _, rfl, rfl, el1, ixN_nat rfl (by rw [hv_len]; exact hy1), ?_⟩
      rw [hv_set]
      have ho2 : (upd H1 l (.lst (hv (hs1.set g (up hs1 (up hs1 g)))))) o = some (.ins C dx (cf l m)) := by rw [upd_ne nol]; exact ho1
      have hd2 := dn_set dn1 hy1 (Nat.le_trans (dn1 (up hs1 g)) (dn1 g))
      have a3 := hv_at (hs := hs1.set g (up hs1 (up hs1 g))) (x := g) (by rw [List.length_set]; exact hy1)
      rw [up_set hy1, if_pos rfl] at a3
      refine ⟨_, rfl, o, C, dx, _, _, rfl, ho2, cC, nH, cf_heads _ _, _, rfl, l, _, _, _, rfl, rfl, .inl (.inl upd_same), atI_of rfl a3, ?_⟩
      have lt2 : up hs1 (up hs1 g) < g := by
        have := dn1 (up hs1 g)
        omega
      refine ⟨up hs1 (up hs1 g), lt2, hs1.set g (up hs1 (up hs1 g)), up hs1 (up hs1 g), rfl, rfl, ho2, upd_same, hd2, by rw [List.length_set]; exact hl1, fun z => ?_, ?_, by omega, fun b u hb hne => ?_⟩
      · rw [root_halve dn1 hy1 z z (Nat.le_refl _)]
        exact hr1 z
      · rw [← hry, ← hr1, ← hr1 g, root_up dn1, root_up dn1]
      · rw [upd_ne hne]
        exact but b u hb hne
    · have e2 : up hs1 g = g := by
        apply Classical.byContradiction
        intro ne
        refine e ?_
        rw [decide_eq_false (fun z => ne (by have := V.int.inj z; omega))]
        rfl
      have e3 : root hs x = g := by
        rw [← hry, ← hr1, root_self dn1 e2]
      refine ⟨_, rfl, ?_⟩
      have := q H1 hs1 ⟨⟨dx, ho1⟩, el1⟩ dn1 hl1 hr1 but
      rw [e3] at this
      exact this
abbrev s_Clumps_unite : Stmt := inClass (topS 2) 2
theorem sc_Clumps_unite : FnScope ["self", "thing", "other", "here", "there"] ["self", "thing", "other"] (defScope s_Clumps_unite) := ⟨rfl, rfl, rfl, by decide +kernel, rfl, by decide +kernel, by decide +kernel⟩
def spUnite (C : Addr) : Sp := fun vs H Q _ => ∃ (o l : Addr) (hs : List Nat) (m : Int) (a b : Nat), vs = [.ref o, .int ((a : Nat) : Int), .int ((b : Nat) : Int)] ∧ CAt C H o l hs m ∧ Dn hs ∧ a < hs.length ∧ b < hs.length ∧
  ∀ H' hs', CAt C H' o l hs' (if root hs a = root hs b then m else m - 1) → Dn hs' → hs'.length = hs.length →
    (∀ y, root hs' y = if root hs y = max (root hs a) (root hs b) then min (root hs a) (root hs b) else root hs y) → (∀ c u, H c = some u → c ≠ l → c ≠ o → H' c = some u) → Q (.bl (!decide (root hs a = root hs b))) H'
theorem ok_unite {C : Addr} (D : MAt K C "unite" "Clumps.unite" s_Clumps_unite) (T : Bt mg) (cC : Cls K C) (nH : NoAttr K C "heads") (nM : NoAttr K C "many") (u_m_head : MUse P w K mg base C "head" 1 ["self", "thing"] (spHead C)) :
    MUse P w K mg base C "unite" 2 ["self", "thing", "other"] (spUnite C) := by
  refine muse_of D (fun f fd F => F.ok sc_Clumps_unite (fun vs H Q E h => ?_) (fun cdv A outer s H vs Q E hr h => ?_)) (fun _ _ _ _ _ _ us hl => match us, hl with | [_, _, _], _ => rfl)
  · obtain ⟨o, l, hs, m, a, b, rfl, _⟩ := h
    rfl
  · obtain ⟨o, l, hs, m, a, b, rfl, ⟨⟨dx, ho⟩, el⟩, dn, ha, hb, q⟩ := h
    refine ⟨_, (pss_cons (ps_set (i := 3) sc_Clumps_unite.nd rfl (Or.inl rfl) (pe_mUse (pv 0) cC u_m_head (by decide) hr (pa_cons (pv 1) pa_nil)))
      (pss_cons (ps_set (i := 4) sc_Clumps_unite.nd rfl (Or.inl rfl) (pe_mUse (pv 0) cC u_m_head (by decide) hr (pa_cons (pv 2) pa_nil)))
      (pss_cons (ps_if (pt_cmpR op_eq (pv 3) (pv 4) (nomark _)) (pss_one (ps_ret pe_bl)) pss_nil)
      (pss_cons (ps_asg (pe_callB (call_min2 rfl) (by rfl) T.min (by decide +kernel) (pa_cons (pv 3) (pa_cons (pv 4) pa_nil))) (pg_sub (k_fld (K := K) rfl (pv 0) rfl) (pe_callB (call_max2 rfl) (by rfl) T.max (by decide +kernel) (pa_cons (pv 3) (pa_cons (pv 4) pa_nil))) set_list))
      (pss_cons (ps_fldaug (pv 0) pe_int in_sub)
      (pss_one (ps_ret pe_bl))))))), ?_⟩
    refine ⟨_, rfl, o, dx, _, rfl, ho, cf_no _ _ (by decide +kernel) (by decide +kernel), _, rfl, o, l, hs, m, a, rfl, ⟨⟨dx, ho⟩, el⟩, dn, ha, fun H1 hs1 ⟨⟨dx1, ho1⟩, el1⟩ dn1 hl1 hr1 but1 => ?_⟩
    refine ⟨_, rfl, o, dx1, _, rfl, ho1, cf_no _ _ (by decide +kernel) (by decide +kernel), _, rfl, o, l, hs1, m, b, rfl, ⟨⟨dx1, ho1⟩, el1⟩, dn1, by omega, fun H2 hs2 ⟨⟨dx2, ho2⟩, el2⟩ dn2 hl2 hr2 but2 => ?_⟩
    have nol : o ≠ l := ne_of ho el (by intro z; cases z)
    have r2 : ∀ y, root hs2 y = root hs y := fun y => by rw [hr2, hr1]
    rw [hr1 b]
    refine ⟨_, rfl, _, rfl, rfl, _, rfl, ite2 (fun e => ?_) (fun e => ?_)⟩
    · have e1 : root hs a = root hs b := by
        have := V.int.inj (of_decide_eq_true e)
        omega
      have q1 := q H2 hs2
      rw [if_pos e1] at q1
      have q2 := q1 ⟨⟨dx2, ho2⟩, el2⟩ dn2 (by omega) (fun y => ?_) (fun c u hc h1 _ => but2 c u (but1 c u hc h1) h1)
      · rw [decide_eq_true e1] at q2
        exact q2
      · rw [r2, e1, Nat.max_self, Nat.min_self]
        split <;> omega
    · have e1 : ¬ root hs a = root hs b := fun z => e (decide_eq_true (by rw [z]))
      have la := root_le' dn a
      have lb := root_le' dn b
      have emax : (if ((root hs b : Nat) : Int) > ((root hs a : Nat) : Int) then ((root hs b : Nat) : Int) else ((root hs a : Nat) : Int)) = ((max (root hs a) (root hs b) : Nat) : Int) := by
        rcases Nat.lt_or_gt_of_ne e1 with g | g
        · rw [if_pos (by omega), Nat.max_eq_right (by omega)]
        · rw [if_neg (by omega), Nat.max_eq_left (by omega)]
      have emin : (if ((root hs b : Nat) : Int) < ((root hs a : Nat) : Int) then ((root hs b : Nat) : Int) else ((root hs a : Nat) : Int)) = ((min (root hs a) (root hs b) : Nat) : Int) := by
        rcases Nat.lt_or_gt_of_ne e1 with g | g
        · rw [if_neg (by omega), Nat.min_eq_left (by omega)]
        · rw [if_pos (by omega), Nat.min_eq_right (by omega)]
      have hmx : max (root hs a) (root hs b) < hs2.length := by omega
      refine ⟨_, rfl, _, rfl, _, _, rfl, ?_⟩
      refine ⟨_, rfl, o, C, dx2, _, _, rfl, ho2, cC, nH, cf_heads _ _, _, rfl, _, rfl, _, _, rfl, ?_⟩
      refine ⟨l, hv hs2, _, max (root hs a) (root hs b), rfl, rfl, el2, ixN_nat emax (by rw [hv_len]; exact hmx), ?_⟩
      rw [emin, hv_set]
      have ho3 : (upd H2 l (.lst (hv (hs2.set (max (root hs a) (root hs b)) (min (root hs a) (root hs b)))))) o = some (.ins C dx2 (cf l m)) := by
        rw [upd_ne nol]
        exact ho2
      refine ⟨_, rfl, o, C, dx2, _, _, rfl, ho3, cC, nM, cf_many _ _, m, 1, rfl, rfl, dx2, _, ho3, by rw [cf_eq]; show 2 < 1000; decide, ?_⟩
      have q1 := q (upd (upd H2 l (.lst (hv (hs2.set (max (root hs a) (root hs b)) (min (root hs a) (root hs b)))))) o (.ins C dx2 (cf l (m - 1)))) (hs2.set (max (root hs a) (root hs b)) (min (root hs a) (root hs b)))
      rw [if_neg e1] at q1
      have upa : up hs2 (root hs a) = root hs a := by
        rw [← r2 a]
        exact up_root dn2 a
      have upb : up hs2 (root hs b) = root hs b := by
        rw [← r2 b]
        exact up_root dn2 b
      have q2 := q1 ⟨⟨dx2, upd_same⟩, by rw [upd_ne nol.symm]; exact upd_same⟩ (dn_set dn2 hmx (by omega)) (by rw [List.length_set]; omega) (fun y => ?_) (fun c u hc h1 h2 => ?_)
      · rw [decide_eq_false e1] at q2
        have e9 : putF "many" (V.int (m - 1)) (cf l m) = cf l (m - 1) := cf_put l m (m - 1)
        show Q (.bl true) (upd _ o (.ins C dx2 (putF "many" (V.int (m - 1)) (cf l m))))
        rw [e9]
        exact q2
      · rw [← r2 y]
        rcases Nat.lt_or_gt_of_ne e1 with g | g
        · rw [Nat.max_eq_right (by omega), Nat.min_eq_left (by omega)]
          exact root_unite dn2 (by omega) upa upb g y y (Nat.le_refl _)
        · rw [Nat.max_eq_left (by omega), Nat.min_eq_right (by omega)]
          exact root_unite dn2 (by omega) upb upa g y y (Nat.le_refl _)
      · rw [upd_ne h2, upd_ne h1]
        exact but2 c u (but1 c u hc h1) h1
end
end KQ
namespace KQ
open PySem PySem.Spec PyProof.Rows L2 KR KM StX
section
variable {P : Program} {w : World} {K : PySem.W.Frag} {mg : Str → Option Value} {base : Heap}
abbrev s_finest_above : Stmt := topS 33
theorem sc_finest_above : FnScope ["parting", "other", "many", "clumps", "low", "high", "block"] ["parting", "other"] (defScope s_finest_above) := ⟨rfl, rfl, rfl, by decide +kernel, rfl, by decide +kernel, by decide +kernel⟩
def tiesOf (p r : List Int) : List (Nat × Nat) := (p.zip r).map fun q => (q.1.toNat, (bc 0 p + q.2).toNat)
theorem ties_at {p r : List Int} {i : Nat} {x y : Int} (hx : p[i]? = some x) (hy : r[i]? = some y) : (tiesOf p r)[i]? = some (x.toNat, (bc 0 p + y).toNat) := by
  unfold tiesOf
  refine at_map (x := (x, y)) ?_
  rw [List.getElem?_zip_eq_some]
  exact ⟨hx, hy⟩
theorem ties_len {p r : List Int} (h : p.length = r.length) : (tiesOf p r).length = p.length := by
  unfold tiesOf
  rw [List.length_map, List.length_zip]
  omega
def spAbove : Sp := fun vs H Q _ => ∃ a b p r, vs = [.ref a, .ref b] ∧ TI H a p ∧ TI H b r ∧ Par p ∧ Par r ∧ p.length = r.length ∧
  ∀ H' t (L : Nat → Int), Same H H' → (∀ x y, L x = L y ↔ glue (tiesOf p r) x y) → TI H' t (num (p.map fun b => L b.toNat)) → Q (.ref t) H'
theorem ok_finest_above {C : Addr} (D : DefAt K mg "finest_above" s_finest_above) (T : Bt mg) (cC : Cls K C) (u_need_two_partings : Use P w K mg base "need_two_partings" 6 ["parting", "other"] spTwo) (u_block_count : Use P w K mg base "block_count" 1 ["parting"] spCount)
    (u_Clumps : KUse P w K mg base C "Clumps" 1 ["self", "number"] (spInit C)) (u_m_unite : MUse P w K mg base C "unite" 2 ["self", "thing", "other"] (spUnite C)) (u_m_head : MUse P w K mg base C "head" 1 ["self", "thing"] (spHead C))
    (u_numbered : Use P w K mg base "numbered" 1 ["blocks"] spNumL) : Use P w K mg base "finest_above" 7 ["parting", "other"] spAbove := by
  refine use_of D (fun f fd F => F.ok sc_finest_above (fun vs H Q E h => ?_) (fun cdv A outer s H vs Q E hr h => ?_)) (fun _ _ _ _ _ _ us hl => match us, hl with | [_, _], _ => rfl)
  · obtain ⟨a, b, p, r, rfl, _⟩ := h
    rfl
  · obtain ⟨a, b, p, r, rfl, hp, hb, par, parb, hl, q⟩ := h
    refine ⟨_, (pss_cons (ps_expr (pe_use u_need_two_partings (by decide) hr (by rfl) (pa_cons (pv 0) (pa_cons (pv 1) pa_nil))))
      (pss_cons (ps_set (i := 2) sc_finest_above.nd rfl (Or.inl rfl) (pe_use u_block_count (by decide) hr (by rfl) (pa_cons (pv 0) pa_nil)))
      (pss_cons (ps_set (i := 3) sc_finest_above.nd rfl (Or.inr rfl) (pe_kUse u_Clumps (by decide) hr (by rfl) (pa_cons (pe_op op_add (pv 2) (pe_use u_block_count (by decide) hr (by rfl) (pa_cons (pv 1) pa_nil))) pa_nil)))
      (pss_cons (ps_for PassesOwn.never rfl (k_zip (K := K) rfl (by rfl) T.zip (pa_cons (pv 0) (pa_cons (pv 1) pa_nil))) (pg_tup rfl (pgs_cons (pg_name (i := 4) sc_finest_above.nd rfl (Or.inl rfl)) (pgs_cons (pg_name (i := 5) sc_finest_above.nd rfl (Or.inl rfl)) pgs_nil)))
      (pss_one (ps_expr (pe_mUse (pv 3) cC u_m_unite (by decide) hr (pa_cons (pv 4) (pa_cons (pe_op op_add (pv 2) (pv 5)) pa_nil))))))
      (pss_one (ps_ret (pe_use u_numbered (by decide) hr (by rfl) (pa_cons (pe_lc (own := [("block", 6)]) rfl sc_finest_above.nd (k_tup (K := K) rfl (pv 0)) (blkOk_by (N := ["parting", "other", "many", "clumps", "low", "high", "block"]) (sc := defScope s_finest_above) (by decide +kernel)) (fun _ _ _ _ _ => (pg_name (i := 6) sc_finest_above.nd rfl (Or.inl rfl))) (fun _ _ _ _ _ => pts_nil) (fun _ _ _ _ _ => (pe_mUse (pv 3) cC u_m_head (by decide) hr (pa_cons (pv 6) pa_nil)))) pa_nil)))))))), ?_⟩
    have g0 := bc_ge 0 p
    have g1 := bc_le 0 p
    have g2 := par.le
    have g3 := bc_ge 0 r
    have g4 := bc_le 0 r
    have g5 := parb.le
    refine ⟨_, rfl, _, rfl, a, b, p, r, rfl, hp, hb, par, parb, hl, fun H1 s1 => ?_⟩
    refine ⟨_, rfl, a, p, rfl, hp.mono s1, par, ?_⟩
    refine ⟨_, rfl, _, rfl, b, r, rfl, hb.mono s1, parb, bc 0 p, bc 0 r, rfl, rfl, ?_⟩
    intro o dx no ndx nox
    refine ⟨o, dx, (bc 0 p + bc 0 r).toNat, ?_, upd_same, by omega, fun H2 l ⟨⟨dx2, ho2⟩, el2⟩ nl2 but2 => ⟨rfl, ?_⟩⟩
    · rw [show (((bc 0 p + bc 0 r).toNat : Nat) : Int) = bc 0 p + bc 0 r by omega]
      rfl
    have s2 : Same H1 H2 := Same.made no ndx but2
    have s12 := s1.trans s2
    have no1 : H o = none := s1.free no
    have nl1 : H l = none := by
      have e0 : Same H1 (upd (upd H1 dx (.own o)) o (.ins C dx [])) := fun c u e => by
        rw [upd_ne (ne_of_none e no), upd_ne (ne_of_none e ndx)]
        exact e
      exact s1.free (e0.free nl2)
    refine ⟨_, rfl, _, rfl, a, b, _, _, rfl, .inr ⟨(hp.mono s12).seq, (hb.mono s12).seq, ?_⟩⟩
    refine RZ.for_zipT (K := K) (a := a) (b := b) (xs := p.map V.int) (ys := r.map V.int) (by rw [List.length_map, List.length_map, hl])
      (fun i σ H3 => ∃ y4 y5, σ = [some (.ref a), some (.ref b), some (.int (bc 0 p)), some (.ref o), y4, y5, none] ∧ Same H H3 ∧ ∃ hs m, CAt C H3 o l hs m ∧ Dn hs ∧ hs.length = (bc 0 p + bc 0 r).toNat ∧
        ∀ x y, root hs x = root hs y ↔ glue ((tiesOf p r).take i) x y)
      ⟨none, none, rfl, s12, List.range (bc 0 p + bc 0 r).toNat, _, ⟨⟨dx2, ho2⟩, el2⟩, ?_, List.length_range, ?_⟩
      (fun i σ H3 ⟨_, _, _, sm, _⟩ => ⟨(hp.mono sm).seq, (hb.mono sm).seq⟩) ?_ ?_
    · exact dn_range _
    · intro x y
      rw [root_range, root_range]
      exact Iff.rfl
    · rintro i v1 v2 T1 σ H3 hi1 hi2 ⟨y4, y5, rfl, sm, hs, m, ⟨⟨dx3, ho3⟩, el3⟩, dn, hlen, hgl⟩ hT
      obtain ⟨x, hx, rfl⟩ := map_at hi1
      obtain ⟨y, hy, rfl⟩ := map_at hi2
      obtain ⟨x0, x1⟩ := (rg_mem 0 p (Int.le_refl _) par.rg).1 x (List.mem_of_getElem? hx)
      obtain ⟨y0, y1⟩ := (rg_mem 0 r (Int.le_refl _) parb.rg).1 y (List.mem_of_getElem? hy)
      refine ⟨T1, _, rfl, .inl (.inl upd_same), rfl, _, _, rfl, _, [], rfl, rfl, ?_⟩
      have ho4 : (upd H3 T1 (.tup [.int x, .int y])) o = some (.ins C dx3 (cf l m)) := by rw [upd_ne (ne_of_none ho3 hT)]; exact ho3
      have el4 : (upd H3 T1 (.tup [.int x, .int y])) l = some (.lst (hv hs)) := by rw [upd_ne (ne_of_none el3 hT)]; exact el3
      refine ⟨_, rfl, o, dx3, _, rfl, ho4, cf_no _ _ (by decide +kernel) (by decide +kernel), _, rfl, _, rfl, _, rfl, bc 0 p, y, rfl, rfl, ?_⟩
      refine ⟨o, l, hs, m, x.toNat, (bc 0 p + y).toNat, ?_, ⟨⟨dx3, ho4⟩, el4⟩, dn, by omega, by omega, fun H4 hs4 hC4 dn4 hl4 hr4 but4 => ?_⟩
      · rw [show ((x.toNat : Nat) : Int) = x by omega, show (((bc 0 p + y).toNat : Nat) : Int) = bc 0 p + y by omega]
        rfl
      · refine ⟨some (.int x), some (.int y), rfl, fun c u hc => ?_, hs4, _, hC4, dn4, by omega, fun u v => ?_⟩
        · refine but4 c u (same_new hT c u (sm c u hc)) ?_ ?_
          · intro e
            rw [e, nl1] at hc
            cases hc
          · intro e
            rw [e, no1] at hc
            cases hc
        · rw [take_snoc (ties_at hx hy), glue_snoc]
          exact tie_roots (glue_eqv _) hgl hr4 u v
    · rintro σ H3 ⟨y4, y5, rfl, sm, hs, m, ⟨⟨dx3, ho3⟩, el3⟩, dn, hlen, hgl⟩
      rw [List.length_map, ← ties_len hl, List.take_length] at hgl
      refine ⟨_, rfl, a, rfl, ⟨_, (hp.mono sm).seq⟩, fun R nR => ?_⟩
      have nRo : o ≠ R := ne_of_none ho3 nR
      have nRl : l ≠ R := ne_of_none el3 nR
      refine lc_tup (K := K) (a := a) (xs := p.map V.int) (fun i H4 => Same H H4 ∧ H4 R = some (.lst (((p.take i).map fun b => (((root hs b.toNat : Nat)) : Int)).map V.int)) ∧
          ∃ hs4, CAt C H4 o l hs4 m ∧ Dn hs4 ∧ hs4.length = hs.length ∧ ∀ y, root hs4 y = root hs y)
        ⟨sm.trans (same_new nR), upd_same, hs, ⟨⟨dx3, by rw [upd_ne nRo]; exact ho3⟩, by rw [upd_ne nRl]; exact el3⟩, dn, rfl, fun _ => rfl⟩ (fun i H4 _ ⟨sm4, _⟩ => (hp.mono sm4).seq) ?_ ?_
      · rintro i v H4 hi ⟨sm4, eR, hs4, ⟨⟨dx4, ho4⟩, el4⟩, dn4, hl4, hr4⟩
        obtain ⟨x, hx, rfl⟩ := map_at hi
        obtain ⟨x0, x1⟩ := (rg_mem 0 p (Int.le_refl _) par.rg).1 x (List.mem_of_getElem? hx)
        refine ⟨rfl, _, rfl, o, dx4, _, rfl, ho4, cf_no _ _ (by decide +kernel) (by decide +kernel), _, rfl, o, l, hs4, m, x.toNat, ?_, ⟨⟨dx4, ho4⟩, el4⟩, dn4, by omega, fun H5 hs5 ⟨⟨dx5, ho5⟩, el5⟩ dn5 hl5 hr5 but5 => ?_⟩
        · rw [show ((x.toNat : Nat) : Int) = x by omega]
          rfl
        · have eR5 := but5 R _ eR nRl.symm
          refine ⟨_, eR5, ?_, fun c u hc => ?_, ?_, hs5, ⟨⟨dx5, by rw [upd_ne nRo]; exact ho5⟩, by rw [upd_ne nRl]; exact el5⟩, dn5, by omega, fun y => by rw [hr5, hr4]⟩
          · rw [List.length_map, List.length_map, List.length_take]
            exact small_of (by omega)
          · have h1 := but5 c u (sm4 c u hc) (fun e => by rw [e, nl1] at hc; cases hc)
            rw [upd_ne (fun e => by rw [e, sm.free nR] at hc; cases hc)]
            exact h1
          · rw [upd_same, take_snoc hx, List.map_append, List.map_append, hr4]
            rfl
      · rintro H4 ⟨sm4, eR, _⟩
        rw [List.length_map, List.take_length] at eR
        refine ⟨R, _, rfl, eR, ?_, fun H5 t s5 ht => q H5 t (fun x => ((root hs x : Nat) : Int)) (sm4.trans s5) (fun x y => ?_) ht⟩
        · rw [List.length_map]
          omega
        · rw [← hgl x y]
          omega
end
end KQ
namespace KQ
open PySem PySem.Spec PyProof.Rows L2 KR KM StX
section
variable {P : Program} {w : World} {K : PySem.W.Frag} {mg : Str → Option Value} {base : Heap}
theorem nb {i : Int} {b : Nat} (h0 : 0 ≤ i) (h : i < 2 ^ b) : i.natAbs < 2 ^ b := by
  have : ((i.natAbs : Nat) : Int) < ((2 ^ b : Nat) : Int) := by
    rw [Int.natAbs_of_nonneg h0]
    push_cast
    exact h
  omega
theorem fm {i j : Int} (h : 0 < j) : 0 ≤ i.fmod j ∧ i.fmod j < j := ⟨Int.fmod_nonneg_of_pos _ h, Int.fmod_lt_of_pos _ h⟩
abbrev s__law_mixed : Stmt := topS 40
theorem sc__law_mixed : FnScope ["cell", "n", "blend"] ["cell", "n"] (defScope s__law_mixed) := ⟨rfl, rfl, rfl, by decide +kernel, rfl, by decide +kernel, by decide +kernel⟩
def spMixed : Sp := fun vs H Q _ => ∃ c n, vs = [.int c, .int n] ∧ 0 ≤ c ∧ c < 2 ^ 40 ∧ 0 ≤ n ∧ n < 2 ^ 24 ∧ ∀ r, 0 ≤ r → r < 2 ^ 31 → Q (.int r) H
theorem ok_mixed (D : DefAt K mg "_law_mixed" s__law_mixed) (T : Bt mg) : Use P w K mg base "_law_mixed" 1 ["cell", "n"] spMixed := by
  refine use_of D (fun f fd F => F.ok sc__law_mixed (fun vs H Q E h => ?_) (fun cdv A outer s H vs Q E hr h => ?_)) (fun _ _ _ _ _ _ us hl => match us, hl with | [_, _], _ => rfl)
  · obtain ⟨c, n, rfl, _⟩ := h
    rfl
  · obtain ⟨c, n, rfl, c0, c1, n0, n1, q⟩ := h
    refine ⟨_, (pss_cons (ps_set (i := 2) sc__law_mixed.nd rfl (Or.inl rfl) (pe_op op_add (pe_op op_add (pe_op op_modN (pe_callTy call_int1 (by rfl) T.int (by decide +kernel) (pa_cons (pe_op op_mulW (pe_op op_mulW (pv 0) (pe_op op_add pe_int (pe_op op_mulW pe_int (pv 1)))) pe_int) pa_nil)) pe_int) (pe_op op_mulW (pe_op op_mulW pe_int (pv 1)) (pv 1))) (pe_op op_mulW pe_int (pv 1))))
      (pss_one (ps_ret (pe_op op_fdivW (pe_op op_modN (pe_callTy call_int1 (by rfl) T.int (by decide +kernel) (pa_cons (pe_op op_mulW (pv 2) pe_int) pa_nil)) pe_int) pe_int)))), ?_⟩
    have e2 : (2 : Int) ^ 24 = 16777216 := by decide
    have hn : n.natAbs < 2 ^ 24 := nb n0 n1
    have hc : c.natAbs < 2 ^ 40 := nb c0 c1
    have h1 : (2 * n).natAbs < 2 ^ (2 + 24) := wide_lt (by decide) hn
    have h2 : (1 + 2 * n).natAbs < 2 ^ 27 := nb (by omega) (by omega)
    have h3 : (c * (1 + 2 * n)).natAbs < 2 ^ (40 + 27) := wide_lt hc h2
    have h4 : (7919 * n).natAbs < 2 ^ (13 + 24) := wide_lt (by decide) hn
    have h5 : (7919 * n * n).natAbs < 2 ^ (37 + 24) := wide_lt h4 hn
    have h6 : (104729 * n).natAbs < 2 ^ (17 + 24) := wide_lt (by decide) hn
    have f1 := fm (i := c * (1 + 2 * n) * 48271) (j := 2147483647) (by decide)
    generalize hX : (c * (1 + 2 * n) * 48271).fmod 2147483647 = X at f1
    have e3 : (2 : Nat) ^ (37 + 24) = 2305843009213693952 := by decide
    have e4 : (2 : Nat) ^ (17 + 24) = 2199023255552 := by decide
    have e5 : (2 : Nat) ^ 70 = 1180591620717411303424 := by decide
    have h7 : (X + 7919 * n * n + 104729 * n).natAbs < 2 ^ 70 := by
      generalize 7919 * n * n = u at *
      generalize 104729 * n = v at *
      omega
    generalize hY : X + 7919 * n * n + 104729 * n = Y at h7
    have f2 := fm (i := Y * 69621) (j := 2147483629) (by decide)
    generalize hZ : (Y * 69621).fmod 2147483629 = Z at f2
    subst hZ hY hX
    refine ⟨_, rfl, _, rfl, 2, n, rfl, rfl, wide_mul (by decide : (2 : Int).natAbs < 2 ^ 2) hn (by decide) (by decide) (by decide), 1, 2 * n, rfl, rfl, c, 1 + 2 * n, rfl, rfl, wide_mul hc h2 (by decide) (by decide) (by decide), ?_⟩
    refine ⟨c * (1 + 2 * n), 48271, rfl, rfl, wide_mul h3 (by decide : (48271 : Int).natAbs < 2 ^ 16) (by decide) (by decide) (by decide), .inl ⟨_, rfl, ?_⟩⟩
    refine ⟨_, 2147483647, rfl, rfl, (show (2147483647 : Int) ≠ 0 by decide), ?_⟩
    refine ⟨_, rfl, 7919, n, rfl, rfl, wide_mul (by decide : (7919 : Int).natAbs < 2 ^ 13) hn (by decide) (by decide) (by decide), _, rfl, 7919 * n, n, rfl, rfl, wide_mul h4 hn (by decide) (by decide) (by decide), ?_⟩
    refine ⟨_, _, rfl, rfl, _, rfl, 104729, n, rfl, rfl, wide_mul (by decide : (104729 : Int).natAbs < 2 ^ 17) hn (by decide) (by decide) (by decide), _, _, rfl, rfl, ?_⟩
    refine ⟨_, rfl, _, 69621, rfl, rfl, wide_mul h7 (by decide : (69621 : Int).natAbs < 2 ^ 17) (by decide) (by decide) (by decide), .inl ⟨_, rfl, ?_⟩⟩
    refine ⟨_, 2147483629, rfl, rfl, (show (2147483629 : Int) ≠ 0 by decide), _, 7, rfl, rfl, wide_div (by decide) (by decide : (7 : Int).natAbs < 2 ^ 3) (by decide) (by decide), ?_⟩
    exact q _ (by omega) (by omega)
theorem depth0 : ∀ (ns : List Int), PyData.depthAll (ns.map .int) = 0
  | [] => rfl
  | n :: r => by simp only [List.map, PyData.depthAll, PyData.depth, depth0 r]; rfl
theorem lay0 : ∀ (ns : List Int), PyData.canLayAll0 (ns.map .int) = true
  | [] => rfl
  | n :: r => by simp only [List.map, PyData.canLayAll0, PyData.canLay0, lay0 r, Bool.and_self]
theorem shaped_ints (ns : List Int) : SeqAt.shaped (.list (ns.map .int)) = true := by
  unfold SeqAt.shaped
  simp only [PyData.canLay0, lay0, PyData.depth, depth0]
  rfl
theorem eqv_nil (ns : List Int) : (!PyData.eqv (.list (ns.map .int)) (.list [])) = !ns.isEmpty := by
  cases ns <;> rfl
abbrev s__law_draw : Stmt := topS 42
theorem sc__law_draw : FnScope ["m", "limit", "n", "lot", "here", "cell"] ["m", "limit"] (defScope s__law_draw) := ⟨rfl, rfl, rfl, by decide +kernel, rfl, by decide +kernel, by decide +kernel⟩
/-- the state of the draws: the dict, its lists, at most b draws so far -/
structure MS (H : Hp) (m c g : Addr) (b : Int) : Prop where
  ex : ∃ (cs gs : List Int) (n : Int), H m = some (.dK [(.inr "cells", .ref c), (.inr "great", .ref g), (.inr "spot", .int n)]) ∧ H c = some (.lst (cs.map V.int)) ∧ H g = some (.lst (gs.map V.int)) ∧
    cs.length = 64 ∧ (∀ x ∈ cs, 0 ≤ x ∧ x < 2147483647) ∧ c ≠ g ∧ gs.length ≤ 63 ∧ 0 ≤ n ∧ n ≤ b
/-- all but m and g stays -/
def Kept (H H' : Hp) (m g : Addr) : Prop := ∀ a u, H a = some u → a ≠ m → a ≠ g → H' a = some u
def spDraw : Sp := fun vs H Q _ => ∃ m c g b limit, vs = [.ref m, .int limit] ∧ MS H m c g b ∧ b ≤ 1000000 ∧ 1 ≤ limit ∧ limit ≤ 2 ^ 30 ∧ ∀ H' d, Kept H H' m g → MS H' m c g (b + 1) → 0 ≤ d → d < limit → Q (.int d) H'
theorem ok_draw (D : DefAt K mg "_law_draw" s__law_draw) (T : Bt mg) (u__law_mixed : Use P w K mg base "_law_mixed" 1 ["cell", "n"] spMixed) : Use P w K mg base "_law_draw" 2 ["m", "limit"] spDraw := by
  refine use_of D (fun f fd F => F.ok sc__law_draw (fun vs H Q E h => ?_) (fun cdv A outer s H vs Q E hr h => ?_)) (fun _ _ _ _ _ _ us hl => match us, hl with | [_, _], _ => rfl)
  · obtain ⟨m, c, g, b, limit, rfl, _⟩ := h
    rfl
  · obtain ⟨m, c, g, b, limit, rfl, ⟨cs, gs, n, hm, hc, hg, lc, rc, cg, lg, n0, n1⟩, b1, l1, l2, q⟩ := h
    refine ⟨_, (pss_cons (ps_set (i := 2) sc__law_draw.nd rfl (Or.inl rfl) (pe_dget (hu_of hr) (pv 0) pe_str (fun _ _ => rfl)))
      (pss_cons (ps_dput (hu_of hr) (pv 0) pe_str (pe_op op_add (pv 2) pe_int) rfl)
      (pss_cons (ps_if (pt_cmpR (k_neD (K := K) rfl hr.units) (pe_dget (hu_of hr) (pv 0) pe_str (fun _ _ => rfl)) (pe_lst pa_nil) (nomark _)) (pss_cons (ps_set (i := 3) sc__law_draw.nd rfl (Or.inl rfl) (pe_dget (hu_of hr) (pv 0) pe_str (fun _ _ => rfl)))
      (pss_cons (ps_set (i := 4) sc__law_draw.nd rfl (Or.inl rfl) (pe_op op_modN (pe_callTy call_int1 (by rfl) T.int (by decide +kernel) (pa_cons (pv 2) pa_nil)) (pe_callB (k_len (K := K) rfl) (by rfl) T.len PySem.boot_len (pa_cons (pv 3) pa_nil))))
      (pss_cons (ps_set (i := 5) sc__law_draw.nd rfl (Or.inl rfl) (pe_ix (k_ixl (K := K) rfl) (pv 3) (pv 4) (fun _ _ => rfl)))
      (pss_one (ps_if (pt_cmpR op_gt (pv 5) pe_int (nomark _)) (pss_cons (ps_asg (pe_op op_fdivW (pv 5) (pv 1)) (pg_sub (pv 3) (pv 4) set_list))
      (pss_one (ps_ret (pe_op op_modN (pe_callTy call_int1 (by rfl) T.int (by decide +kernel) (pa_cons (pv 5) pa_nil)) (pv 1))))) pss_nil))))) pss_nil)
      (pss_cons (ps_set (i := 3) sc__law_draw.nd rfl (Or.inl rfl) (pe_dget (hu_of hr) (pv 0) pe_str (fun _ _ => rfl)))
      (pss_one (ps_ret (pe_op op_modN (pe_callTy call_int1 (by rfl) T.int (by decide +kernel) (pa_cons (pe_use u__law_mixed (by decide) hr (by rfl) (pa_cons (pe_use u__law_mixed (by decide) hr (by rfl) (pa_cons (pe_op op_add (pe_ix (k_ixl (K := K) rfl) (pv 3) (pe_op op_modN (pe_callTy call_int1 (by rfl) T.int (by decide +kernel) (pa_cons (pv 2) pa_nil)) pe_int) (fun _ _ => rfl)) (pe_op op_mulW pe_int (pe_op op_fdivW (pv 2) pe_int))) (pa_cons (pv 2) pa_nil))) (pa_cons (pe_op op_add (pv 2) pe_int) pa_nil))) pa_nil)) (pv 1)))))))), ?_⟩
    have mc : m ≠ c := fun e => by rw [e, hc] at hm; cases hm
    have mg' : m ≠ g := fun e => by rw [e, hg] at hm; cases hm
    have e2 : (2 : Int) ^ 30 = 1073741824 := by decide
    refine ⟨_, rfl, m, _, rfl, .k (k := .inr "spot") hm, ?_⟩
    refine ⟨_, rfl, _, _, rfl, rfl, _, rfl, m, _, rfl, .k (k := .inr "spot") hm (small_of (Nat.le_of_ble_eq_true rfl)), ?_⟩
    rw [show putK [((.inr "cells" : L2.Key), V.ref c), (.inr "great", .ref g), (.inr "spot", .int n)] (.inr "spot") (V.int (n + 1)) = [(.inr "cells", .ref c), (.inr "great", .ref g), (.inr "spot", .int (n + 1))] from rfl]
    generalize hH1 : upd H m (.dK [((.inr "cells" : L2.Key), V.ref c), (.inr "great", .ref g), (.inr "spot", .int (n + 1))]) = H1
    have hm1 : H1 m = some (.dK [((.inr "cells" : L2.Key), V.ref c), (.inr "great", .ref g), (.inr "spot", .int (n + 1))]) := by rw [← hH1, upd_same]
    have hc1 : H1 c = some (.lst (cs.map V.int)) := by rw [← hH1, upd_ne mc.symm]; exact hc
    have hg1 : H1 g = some (.lst (gs.map V.int)) := by rw [← hH1, upd_ne mg'.symm]; exact hg
    have k1 : Kept H H1 m g := fun a u ha na _ => by rw [← hH1, upd_ne na]; exact ha
    refine ⟨_, rfl, m, _, rfl, .k (k := .inr "great") hm1, Nat.zero_le _, fun p np => ?_⟩
    have npg : p ≠ g := fun e => by rw [e, hg1] at np; cases np
    have npm : p ≠ m := fun e => by rw [e, hm1] at np; cases np
    have npc : p ≠ c := fun e => by rw [e, hc1] at np; cases np
    have hm2 : (upd H1 p (.lst [])) m = some (.dK [((.inr "cells" : L2.Key), V.ref c), (.inr "great", .ref g), (.inr "spot", .int (n + 1))]) := by rw [upd_ne npm.symm]; exact hm1
    have hc2 : (upd H1 p (.lst [])) c = some (.lst (cs.map V.int)) := by rw [upd_ne npc.symm]; exact hc1
    have hg2 : (upd H1 p (.lst [])) g = some (.lst (gs.map V.int)) := by rw [upd_ne npg.symm]; exact hg1
    have k2 : Kept H (upd H1 p (.lst [])) m g := fun a u ha na nb => by rw [upd_ne (ne_of_none (k1 a u ha na nb) np)]; exact k1 a u ha na nb
    refine ⟨.list (gs.map PyData.int), .list [], .lst (sqL hg2) (dpAll_ints gs), .lst (sqL (xs := []) upd_same) .nil, shaped_ints gs, rfl, _, rfl, ?_⟩
    rw [eqv_nil]
    generalize hH2 : upd H1 p (.lst []) = H2 at *
    have fin : ∀ H3, (∀ a u, H2 a = some u → a ≠ g → H3 a = some u) → (∃ gs' : List Int, H3 g = some (.lst (gs'.map V.int)) ∧ gs'.length = gs.length) → Kept H H3 m g ∧ MS H3 m c g (b + 1) := by
      intro H3 h3 ⟨gs', hg3, lg3⟩
      exact ⟨fun a u ha na nb => h3 a u (k2 a u ha na nb) nb, ⟨cs, gs', n + 1, h3 _ _ hm2 mg', h3 _ _ hc2 cg, hg3, lc, rc, cg, by omega, by omega, by omega⟩⟩
    have fin2 := fin H2 (fun a u ha _ => ha) ⟨gs, hg2, rfl⟩
    have f64 := fm (i := n) (j := 64) (by decide)
    have hat : ∃ x, cs[(n.fmod 64).toNat]? = some x ∧ 0 ≤ x ∧ x < 2147483647 := by
      have hl : (n.fmod 64).toNat < cs.length := by omega
      exact ⟨_, List.getElem?_eq_getElem hl, rc _ (List.getElem_mem hl)⟩
    obtain ⟨x, hx, x0, x1⟩ := hat
    have hd : 0 ≤ n / 64 ∧ n / 64 ≤ n := ⟨by omega, by omega⟩
    have e24 : (2 : Int) ^ 24 = 16777216 := by decide
    have e40 : (2 : Int) ^ 40 = 1099511627776 := by decide
    have e31 : (2 : Int) ^ 31 = 2147483648 := by decide
    cases gs with
    | nil =>
      refine ⟨_, rfl, m, _, rfl, .k (k := .inr "cells") hm2, ?_⟩
      refine ⟨_, rfl, _, rfl, .inl ⟨n, rfl, n, 64, rfl, rfl, (show (64 : Int) ≠ 0 by decide), c, _, n.fmod 64, V.int x, rfl, rfl, sqL hc2, atI_of (j := (n.fmod 64).toNat) (by omega) (at_map hx), ?_⟩⟩
      refine ⟨_, rfl, n, 64, rfl, rfl, wide_div (by decide) (by decide : (64 : Int).natAbs < 2 ^ 7) (by decide) (by decide), 31, n / 64, rfl, rfl, wide_mul (by decide : (31 : Int).natAbs < 2 ^ 5) (nb (b := 24) (by omega) (by omega)) (by decide) (by decide) (by decide), x, 31 * (n / 64), rfl, rfl, _, rfl, ?_⟩
      refine ⟨x + 31 * (n / 64), n, rfl, by omega, by omega, by omega, by omega, fun r r0 r1 => ⟨_, rfl, n, 7, rfl, rfl, r, n + 7, rfl, r0, by omega, by omega, by omega, fun r2 r3 r4 => .inl ⟨r2, rfl, _, rfl, r2, limit, rfl, rfl, (show limit ≠ 0 by omega), ?_⟩⟩⟩
      exact q _ _ fin2.1 fin2.2 (fm (by omega)).1 (fm (by omega)).2
    | cons g0 gr =>
      have fG := fm (i := n) (j := (((g0 :: gr).length : Nat) : Int)) (by rw [List.length_cons]; omega)
      have hat2 : ∃ y, (g0 :: gr)[(n.fmod ((g0 :: gr).length : Nat)).toNat]? = some y := ⟨_, List.getElem?_eq_getElem (by omega)⟩
      obtain ⟨y, hy⟩ := hat2
      refine ⟨_, rfl, m, _, rfl, .k (k := .inr "great") hm2, ?_⟩
      refine ⟨_, rfl, .inl ⟨n, rfl, _, rfl, g, _, rfl, .inl (sqL hg2), n, _, rfl, rfl, ?_, ?_⟩⟩
      · rw [List.length_map, List.length_cons]
        omega
      rw [List.length_map]
      refine ⟨_, rfl, _, rfl, g, _, _, V.int y, rfl, rfl, sqL hg2, atI_of (j := (n.fmod ((g0 :: gr).length : Nat)).toNat) (by omega) (at_map hy), ?_⟩
      refine ⟨_, rfl, y, 0, rfl, rfl, _, rfl, ?_⟩
      by_cases hpos : 0 < y
      · rw [decide_eq_true hpos]
        refine ⟨_, rfl, _, rfl, y, limit, rfl, rfl, wide_div (by omega) (nb (b := 31) (by omega) (by omega)) (by decide) (by decide), _, rfl, _, rfl, g, _, _, (n.fmod ((g0 :: gr).length : Nat)).toNat, rfl, rfl, hg2, ?_, ?_⟩
        · unfold ixN
          rw [List.length_map, if_pos fG.1, if_pos fG.2]
        refine ⟨_, rfl, .inl ⟨y, rfl, _, rfl, y, limit, rfl, rfl, (show limit ≠ 0 by omega), ?_⟩⟩
        have fin3 := fin (upd H2 g (.lst (((g0 :: gr).map V.int).set (n.fmod ((g0 :: gr).length : Nat)).toNat (V.int (y / limit))))) (fun a u ha na => by rw [upd_ne na]; exact ha)
          ⟨(g0 :: gr).set (n.fmod ((g0 :: gr).length : Nat)).toNat (y / limit), by rw [upd_same, List.map_set], by rw [List.length_set]⟩
        exact q _ _ fin3.1 fin3.2 (fm (by omega)).1 (fm (by omega)).2
      · rw [decide_eq_false hpos]
        refine ⟨_, rfl, m, _, rfl, .k (k := .inr "cells") hm2, ?_⟩
        refine ⟨_, rfl, _, rfl, .inl ⟨n, rfl, n, 64, rfl, rfl, (show (64 : Int) ≠ 0 by decide), c, _, n.fmod 64, V.int x, rfl, rfl, sqL hc2, atI_of (j := (n.fmod 64).toNat) (by omega) (at_map hx), ?_⟩⟩
        refine ⟨_, rfl, n, 64, rfl, rfl, wide_div (by decide) (by decide : (64 : Int).natAbs < 2 ^ 7) (by decide) (by decide), 31, n / 64, rfl, rfl, wide_mul (by decide : (31 : Int).natAbs < 2 ^ 5) (nb (b := 24) (by omega) (by omega)) (by decide) (by decide) (by decide), x, 31 * (n / 64), rfl, rfl, _, rfl, ?_⟩
        refine ⟨x + 31 * (n / 64), n, rfl, by omega, by omega, by omega, by omega, fun r r0 r1 => ⟨_, rfl, n, 7, rfl, rfl, r, n + 7, rfl, r0, by omega, by omega, by omega, fun r2 r3 r4 => .inl ⟨r2, rfl, _, rfl, r2, limit, rfl, rfl, (show limit ≠ 0 by omega), ?_⟩⟩⟩
        exact q _ _ fin2.1 fin2.2 (fm (by omega)).1 (fm (by omega)).2
end
end KQ
namespace KQ
open PySem PySem.Spec PyProof.Rows L2 KR KM StX
section
variable {P : Program} {w : World} {K : PySem.W.Frag} {mg : Str → Option Value} {base : Heap}
theorem sameSL {K : PySem.W.Frag} {H H' : Hp} {a : Addr} {xs : List V} (e : Same H H') (h : SqL K H a xs) : SqL K H' a xs := by
  rcases h with (h | ⟨o, h⟩) | h
  · exact .inl (.inl (e _ _ h))
  · exact .inl (.inr ⟨o, e _ _ h⟩)
  · exact .inr h
def Cells (cs : List Int) : Prop := cs.length = 64 ∧ ∀ x ∈ cs, 0 ≤ x ∧ x < 2147483647
theorem Cells.set {cs : List Int} (h : Cells cs) (j : Nat) {v : Int} (h0 : 0 ≤ v) (h1 : v < 2147483647) : Cells (cs.set j v) := by
  refine ⟨by rw [List.length_set]; exact h.1, fun x hx => ?_⟩
  rcases List.mem_or_eq_of_mem_set hx with hx | rfl
  · exact h.2 x hx
  · exact ⟨h0, h1⟩
theorem Cells.at_ {cs : List Int} (h : Cells cs) {j : Nat} (hj : j < 64) : ∃ x, cs[j]? = some x ∧ 0 ≤ x ∧ x < 2147483647 :=
  ⟨_, List.getElem?_eq_getElem (by rw [h.1]; exact hj), h.2 _ (List.getElem_mem _)⟩
theorem ixN_of {n : Nat} {i : Int} (h0 : 0 ≤ i) (h1 : i < (n : Int)) : ixN n i = some i.toNat := by
  unfold ixN
  rw [if_pos h0, if_pos h1]
abbrev s__law_folded : Stmt := topS 41
theorem sc__law_folded : FnScope ["script", "found", "n", "cell"] ["script"] (defScope s__law_folded) := ⟨rfl, rfl, rfl, by decide +kernel, rfl, by decide +kernel, by decide +kernel⟩
def spFolded (K : PySem.W.Frag) : Sp := fun vs H Q _ => ∃ (a : Addr) (ns : List Int), vs = [.ref a] ∧ SqL K H a (ns.map V.int) ∧ ns.length ≤ 63 ∧
  ∀ H' l cs, Same H H' → H l = none → H' l = some (.lst (List.map V.int cs)) → Cells cs → Q (.ref l) H'
theorem ok_folded (D : DefAt K mg "_law_folded" s__law_folded) (T : Bt mg) : Use P w K mg base "_law_folded" 1 ["script"] (spFolded K) := by
  refine use_of D (fun f fd F => F.ok sc__law_folded (fun vs H Q E h => ?_) (fun cdv A outer s H vs Q E hr h => ?_)) (fun _ _ _ _ _ _ us hl => match us, hl with | [_], _ => rfl)
  · obtain ⟨a, ns, rfl, _⟩ := h
    rfl
  · obtain ⟨a, ns, rfl, hs, hl, q⟩ := h
    refine ⟨_, (pss_cons (ps_setLc (i := 1) (own := [("n", 2)]) rfl sc__law_folded.nd rfl rfl (sw_true rfl rfl rfl (by decide +kernel)) (pi_range1 (by rfl) T.range (pa_cons pe_int pa_nil)) (blkOk_by (N := ["script", "found", "n", "cell"]) (sc := defScope s__law_folded) (by decide +kernel)) (fun _ _ _ _ _ => (pg_name (i := 2) sc__law_folded.nd rfl (Or.inl rfl))) (fun _ _ _ _ _ => pts_nil) (fun _ _ _ _ _ => (pe_op op_add pe_int (pv 2))))
      (pss_cons (ps_for PassesOwn.never rfl (k_enum (K := K) rfl (by rfl) T.enumerate (pa_cons (pv 0) pa_nil)) (pg_tup rfl (pgs_cons (pg_name (i := 2) sc__law_folded.nd rfl (Or.inl rfl)) (pgs_cons (pg_name (i := 3) sc__law_folded.nd rfl (Or.inl rfl)) pgs_nil)))
      (pss_one (ps_asg (pe_op op_modN (pe_callTy call_int1 (by rfl) T.int (by decide +kernel) (pa_cons (pe_op op_add (pe_op op_mulW (pe_ix (k_ixl (K := K) rfl) (pv 1) (pe_op op_modN (pe_callTy call_int1 (by rfl) T.int (by decide +kernel) (pa_cons (pv 2) pa_nil)) pe_int) (fun _ _ => rfl)) pe_int) (pv 3)) pa_nil)) pe_int) (pg_sub (pv 1) (pe_op op_modN (pe_callTy call_int1 (by rfl) T.int (by decide +kernel) (pa_cons (pv 2) pa_nil)) pe_int) set_list))))
      (pss_cons (ps_for PassesOwn.never rfl (pi_range2 (by rfl) T.range (pa_cons pe_int (pa_cons pe_int pa_nil))) (pg_name (i := 2) sc__law_folded.nd rfl (Or.inl rfl))
      (pss_one (ps_asg (pe_op op_modN (pe_callTy call_int1 (by rfl) T.int (by decide +kernel) (pa_cons (pe_op op_add (pe_ix (k_ixl (K := K) rfl) (pv 1) (pv 2) (fun _ _ => rfl)) (pe_op op_mulW (pe_ix (k_ixl (K := K) rfl) (pv 1) (pe_op op_sub (pv 2) pe_int) (fun _ _ => rfl)) pe_int)) pa_nil)) pe_int) (pg_sub (pv 1) (pv 2) set_list))))
      (pss_one (ps_ret (pv 1)))))), ?_⟩
    refine ⟨_, rfl, by decide, by decide, fun L nL => ?_⟩
    refine lc_range (fun i H1 => Same H H1 ∧ H1 L = some (.lst (((List.range i).map fun k => (17 + (k : Nat) : Int)).map V.int))) ⟨same_new nL, upd_same⟩ ?_ ?_
    · rintro i H1 hi ⟨sm, eL⟩
      refine ⟨rfl, _, rfl, _, _, rfl, rfl, _, eL, ?_, same_mut sm nL, ?_⟩
      · rw [List.length_map, List.length_map, List.length_range]
        exact small_of (by omega)
      · rw [upd_same, List.range_succ, List.map_append, List.map_append, Int.zero_add]
        rfl
    · rintro H1 ⟨sm, eL⟩
      refine ⟨_, rfl, a, _, rfl, sameSL sm hs, for_enumL (K := K) (a := a) (xs := ns.map V.int)
        (fun i σ H2 => ∃ y2 y3, σ = [some (.ref a), some (.ref L), y2, y3] ∧ Same H H2 ∧ ∃ cs, H2 L = some (.lst (List.map V.int cs)) ∧ Cells cs)
        ⟨none, none, rfl, sm, _, eL, ?_⟩ (fun i σ H2 ⟨_, _, _, sm, _⟩ => sameSL sm hs) ?_ ?_⟩
      · refine ⟨by rw [List.length_map, List.length_range]; rfl, fun x hx => ?_⟩
        obtain ⟨k, hk, rfl⟩ := List.mem_map.mp hx
        have := List.mem_range.mp hk
        have e : ((64 : Int)).toNat = 64 := rfl
        omega
      · rintro i v T1 σ H2 hi ⟨y2, y3, rfl, sm, cs, eL, ok⟩ hT
        obtain ⟨x, hx, rfl⟩ := map_at hi
        have nTL : T1 ≠ L := fun e => by rw [e, eL] at hT; cases hT
        have eL2 : (upd H2 T1 (.tup [.int (i : Nat), .int x])) L = some (.lst (cs.map V.int)) := by rw [upd_ne nTL.symm]; exact eL
        have f64 := fm (i := ((i : Nat) : Int)) (j := 64) (by decide)
        obtain ⟨y, hy, y0, y1⟩ := ok.at_ (j := (((i : Nat) : Int).fmod 64).toNat) (by omega)
        refine ⟨T1, _, rfl, .inl (.inl upd_same), rfl, _, _, rfl, _, [], rfl, rfl, ?_⟩
        refine ⟨_, rfl, _, rfl, .inl ⟨_, rfl, _, 64, rfl, rfl, (show (64 : Int) ≠ 0 by decide), L, _, _, V.int y, rfl, rfl, sqL eL2, atI_of (j := (((i : Nat) : Int).fmod 64).toNat) (by omega) (at_map hy), ?_⟩⟩
        refine ⟨y, 48271, rfl, rfl, wide_mul (nb (b := 31) y0 (by omega)) (by decide : (48271 : Int).natAbs < 2 ^ 16) (by decide) (by decide) (by decide), _, rfl, y * 48271, x, rfl, rfl, .inl ⟨_, rfl, ?_⟩⟩
        refine ⟨_, 2147483647, rfl, rfl, (show (2147483647 : Int) ≠ 0 by decide), _, rfl, _, rfl, .inl ⟨_, rfl, _, 64, rfl, rfl, (show (64 : Int) ≠ 0 by decide), L, _, _, (((i : Nat) : Int).fmod 64).toNat, rfl, rfl, eL2, ?_, ?_⟩⟩
        · rw [List.length_map, ok.1]
          exact ixN_of f64.1 f64.2
        have fz := fm (i := y * 48271 + x) (j := 2147483647) (by decide)
        refine ⟨some (.int (i : Nat)), some (.int x), rfl, same_mut (same_new hT |> sm.trans) nL, cs.set (((i : Nat) : Int).fmod 64).toNat _, ?_, ok.set _ fz.1 fz.2⟩
        rw [upd_same, List.map_set]
      · rintro σ H2 ⟨y2, y3, rfl, sm, cs, eL, ok⟩
        refine ⟨1, 64, rfl, by decide, for_range (lo := 1) (n := ((64 : Int) - 1).toNat)
          (fun i σ H3 => ∃ y2, σ = [some (.ref a), some (.ref L), y2, y3] ∧ Same H H3 ∧ ∃ cs, H3 L = some (.lst (List.map V.int cs)) ∧ Cells cs)
          ⟨y2, rfl, sm, cs, eL, ok⟩ ?_ ?_⟩
        · rintro i σ H3 hi ⟨y2, rfl, sm, cs, eL, ok⟩
          have hi63 : i < 63 := hi
          obtain ⟨x, hx, x0, x1⟩ := ok.at_ (j := i + 1) (by omega)
          obtain ⟨y, hy, y0, y1⟩ := ok.at_ (j := i) (by omega)
          refine ⟨_, rfl, _, rfl, L, _, 1 + (i : Nat), V.int x, rfl, rfl, sqL eL, atI_of (j := i + 1) (by omega) (at_map hx), ?_⟩
          refine ⟨_, rfl, _, rfl, _, _, rfl, rfl, L, _, 1 + (i : Nat) - 1, V.int y, rfl, rfl, sqL eL, atI_of (j := i) (by omega) (at_map hy), ?_⟩
          refine ⟨y, 16807, rfl, rfl, wide_mul (nb (b := 31) y0 (by omega)) (by decide : (16807 : Int).natAbs < 2 ^ 15) (by decide) (by decide) (by decide), x, y * 16807, rfl, rfl, .inl ⟨_, rfl, ?_⟩⟩
          refine ⟨_, 2147483647, rfl, rfl, (show (2147483647 : Int) ≠ 0 by decide), _, rfl, _, rfl, L, _, 1 + (i : Nat), i + 1, rfl, rfl, eL, ?_, ?_⟩
          · rw [List.length_map, ok.1]
            exact ixN_nat (by omega) (by omega)
          have fz := fm (i := x + y * 16807) (j := 2147483647) (by decide)
          refine ⟨_, rfl, same_mut sm nL, cs.set (i + 1) _, ?_, ok.set _ fz.1 fz.2⟩
          rw [upd_same, List.map_set]
        · rintro σ H3 ⟨y2, rfl, sm, cs, eL, ok⟩
          exact ⟨_, rfl, q _ _ _ sm nL eL ok⟩
abbrev s__law_begun : Stmt := topS 43
theorem sc__law_begun : FnScope ["script", "m", "cell"] ["script"] (defScope s__law_begun) := ⟨rfl, rfl, rfl, by decide +kernel, rfl, by decide +kernel, by decide +kernel⟩
def spBegun (K : PySem.W.Frag) : Sp := fun vs H Q _ => ∃ (a : Addr) (ns : List Int), vs = [.ref a] ∧ SqL K H a (ns.map V.int) ∧ ns.length ≤ 63 ∧
  ∀ H' m c g, MS H' m c g 0 → Q (.ref m) H'
theorem ok_begun (D : DefAt K mg "_law_begun" s__law_begun) (T : Bt mg) (u__law_folded : Use P w K mg base "_law_folded" 1 ["script"] (spFolded K)) : Use P w K mg base "_law_begun" 2 ["script"] (spBegun K) := by
  refine use_of D (fun f fd F => F.ok sc__law_begun (fun vs H Q E h => ?_) (fun cdv A outer s H vs Q E hr h => ?_)) (fun _ _ _ _ _ _ us hl => match us, hl with | [_], _ => rfl)
  · obtain ⟨a, ns, rfl, _⟩ := h
    rfl
  · obtain ⟨a, ns, rfl, hs, hl, q⟩ := h
    refine ⟨_, (pss_cons (ps_set (i := 1) sc__law_begun.nd rfl (Or.inl rfl) (pe_disp (pps_cons pe_str (pe_use u__law_folded (by decide) hr (by rfl) (pa_cons (pv 0) pa_nil)) (pps_cons pe_str (pe_lst pa_nil) (pps_cons pe_str pe_int pps_nil))) (by rfl) (by rfl) (fun z => by cases z) (by decide)))
      (pss_cons (ps_dput (hu_of hr) (pv 1) pe_str (pe_lc (own := [("cell", 2)]) rfl sc__law_begun.nd (k_list (K := K) rfl (pv 0)) (blkOk_by (N := ["script", "m", "cell"]) (sc := defScope s__law_begun) (by decide +kernel)) (fun _ _ _ _ _ => (pg_name (i := 2) sc__law_begun.nd rfl (Or.inl rfl))) (fun _ _ _ _ _ => pts_nil) (fun _ _ _ _ _ => (pe_ifExp (pt_cmpR op_ge (pv 2) (pe_op op_pow pe_int pe_int) (nomark _)) (pv 2) pe_int))) rfl)
      (pss_one (ps_ret (pv 1))))), ?_⟩
    refine fun m nm => ⟨_, rfl, a, ns, rfl, sameSL (same_new nm) hs, hl, fun H1 c cs s1 nc hc ok => ⟨Nat.zero_le _, fun g ng => ?_⟩⟩
    have mc : m ≠ c := fun e => by rw [← e, upd_same] at nc; cases nc
    have hm1 : H1 m = some (.dK []) := s1 _ _ upd_same
    have mg1 : m ≠ g := fun e => by rw [e, ng] at hm1; cases hm1
    have cg : c ≠ g := fun e => by rw [e, ng] at hc; cases hc
    refine ⟨by rw [upd_ne mg1]; exact hm1, [(.inr "cells", .ref c), (.inr "great", .ref g), (.inr "spot", .int 0)], rfl, Nat.le_of_ble_eq_true rfl, ?_⟩
    rw [show mergeK [] [((.inr "cells" : L2.Key), V.ref c), (.inr "great", .ref g), (.inr "spot", .int 0)] = [(.inr "cells", .ref c), (.inr "great", .ref g), (.inr "spot", .int 0)] from rfl]
    generalize hH2 : upd (upd H1 g (.lst [])) m (.dK [((.inr "cells" : L2.Key), V.ref c), (.inr "great", .ref g), (.inr "spot", .int 0)]) = H2
    have hm2 : H2 m = some (.dK [((.inr "cells" : L2.Key), V.ref c), (.inr "great", .ref g), (.inr "spot", .int 0)]) := by rw [← hH2, upd_same]
    have hc2 : H2 c = some (.lst (cs.map V.int)) := by rw [← hH2, upd_ne mc.symm, upd_ne cg]; exact hc
    have hs2 : SqL K H2 a (ns.map V.int) := by
      refine sameSL (fun b u hb => ?_) hs
      have h1 : H1 b = some u := (Same.trans (same_new nm) s1) b u hb
      rw [← hH2, upd_ne (ne_of_none hb nm), upd_ne (ne_of_none h1 ng)]
      exact h1
    refine ⟨_, rfl, a, rfl, ⟨_, hs2⟩, fun L nL => ?_⟩
    have Lm : L ≠ m := fun e => by rw [e, hm2] at nL; cases nL
    have Lc : L ≠ c := fun e => by rw [e, hc2] at nL; cases nL
    refine lc_list (K := K) (a := a) (xs := ns.map V.int) (fun i H3 => Same H2 H3 ∧ ∃ gs : List Int, H3 L = some (.lst (gs.map V.int)) ∧ gs.length = i) ⟨same_new nL, [], upd_same, rfl⟩
      (fun i H3 _ ⟨sm, _⟩ => sameSL sm hs2) ?_ ?_
    · rintro i v H3 hi ⟨sm, gs, eL, lg⟩
      obtain ⟨x, hx, rfl⟩ := map_at hi
      have hi63 : i < ns.length := (List.getElem?_eq_some_iff.mp hx).1
      have put : ∀ y : Int, ∃ acc, H3 L = some (.lst acc) ∧ acc.length < sizeLine ∧ (Same H2 (upd H3 L (.lst (acc ++ [V.int y]))) ∧ ∃ gs : List Int, upd H3 L (.lst (acc ++ [V.int y])) L = some (.lst (gs.map V.int)) ∧ gs.length = i + 1) := fun y =>
        ⟨_, eL, by rw [List.length_map]; exact small_of (by omega), same_mut sm nL, gs ++ [y], by rw [upd_same, List.map_append]; rfl, by rw [List.length_append, lg]; rfl⟩
      refine ⟨rfl, _, rfl, 10, 18, rfl, rfl, ⟨by decide, by decide, by decide⟩, x, _, rfl, rfl, _, rfl, ?_⟩
      by_cases hx2 : (10 : Int) ^ (18 : Int).toNat ≤ x
      · rw [decide_eq_true hx2]
        exact ⟨_, rfl, put x⟩
      · rw [decide_eq_false hx2]
        exact put 0
    · rintro H3 ⟨sm, gs, eL, lg⟩
      rw [List.length_map] at lg
      have hm3 := sm _ _ hm2
      refine ⟨_, rfl, m, _, rfl, .k (k := .inr "great") hm3 (small_of (Nat.le_of_ble_eq_true rfl)), ?_⟩
      rw [show putK [((.inr "cells" : L2.Key), V.ref c), (.inr "great", .ref g), (.inr "spot", .int 0)] (.inr "great") (V.ref L) = [(.inr "cells", .ref c), (.inr "great", .ref L), (.inr "spot", .int 0)] from rfl]
      refine ⟨_, rfl, q _ m c L ⟨cs, gs, 0, upd_same, ?_, ?_, ok.1, ok.2, Lc.symm, by omega, Int.le_refl _, Int.le_refl _⟩⟩
      · rw [upd_ne mc.symm]
        exact sm _ _ hc2
      · rw [upd_ne Lm]
        exact eL
end
end KQ
namespace KQ
open PySem PySem.Spec PyProof.Rows L2 KR KM StX
/-! ### data that repr shows in short -/
structure Nc (k W : Nat) (d : PyData) : Prop where
  sh : d.showable = true
  nd : d.hasDict = false
  dp : d.depth ≤ k
  lf : d.leavesShort 13 = true
  wt : d.weight ≤ W
structure NcA (k W : Nat) (ds : List PyData) : Prop where
  sh : PyData.showableAll ds = true
  nd : PyData.hasDictAll ds = false
  dp : PyData.depthAll ds ≤ k
  lf : PyData.leavesShortAll 13 ds = true
  wt : PyData.weightAll ds ≤ W
theorem Nc.le {k W k' W' : Nat} {d : PyData} (h : Nc k W d) (h1 : k ≤ k') (h2 : W ≤ W') : Nc k' W' d := ⟨h.sh, h.nd, Nat.le_trans h.dp h1, h.lf, Nat.le_trans h.wt h2⟩
theorem NcA.le {k W k' W' : Nat} {d : List PyData} (h : NcA k W d) (h1 : k ≤ k') (h2 : W ≤ W') : NcA k' W' d := ⟨h.sh, h.nd, Nat.le_trans h.dp h1, h.lf, Nat.le_trans h.wt h2⟩
theorem nc_nat : ∀ i : Fin 1024, Nc 0 10 (.int ((i.val : Nat) : Int)) := fun i => by
  have e : ((i.val : Int)).natAbs = i.val := rfl
  have hlog : i.val.log2 < 10 := by
    by_cases h0 : i.val = 0
    · rw [h0]
      decide
    · exact (Nat.log2_lt h0).2 (by have := i.isLt; omega)
  refine ⟨?_, rfl, Nat.le_refl _, ?_, ?_⟩
  · simp only [PyData.showable, e]
    exact decide_eq_true (by omega)
  · simp only [PyData.leavesShort]
    exact decide_eq_true (PyData.shown_int_le (by have := i.isLt; rw [e]; omega))
  · simp only [PyData.weight, e]
    split <;> omega
theorem nc_int {i : Int} (h0 : 0 ≤ i) (h1 : i < 1024) : Nc 0 10 (.int i) := by
  have h := nc_nat ⟨i.toNat, by omega⟩
  have e : ((i.toNat : Nat) : Int) = i := by omega
  rw [show (((⟨i.toNat, by omega⟩ : Fin 1024).val : Nat) : Int) = i from e] at h
  exact h
theorem nc_bool (b : Bool) : Nc 0 0 (.bool b) := ⟨rfl, rfl, Nat.le_refl _, rfl, Nat.le_refl _⟩
theorem nc_nil (k : Nat) : NcA k 0 [] := ⟨rfl, rfl, Nat.zero_le _, rfl, Nat.le_refl _⟩
theorem nc_cons {k W1 W2 : Nat} {d : PyData} {ds : List PyData} (h : Nc k W1 d) (hs : NcA k W2 ds) : NcA k (W1 + 1 + W2) (d :: ds) := by
  refine ⟨?_, ?_, ?_, ?_, ?_⟩
  · simp only [PyData.showableAll, h.sh, hs.sh]; rfl
  · simp only [PyData.hasDictAll, h.nd, hs.nd]; rfl
  · have a := h.dp
    have b := hs.dp
    simp only [PyData.depthAll]
    exact Nat.max_le.mpr ⟨a, b⟩
  · simp only [PyData.leavesShortAll, h.lf, hs.lf]; rfl
  · have a := h.wt
    have b := hs.wt
    simp only [PyData.weightAll]
    omega
theorem nc_all {k W : Nat} : ∀ {ds : List PyData}, (∀ d ∈ ds, Nc k W d) → NcA k ((W + 1) * ds.length) ds
  | [], _ => (nc_nil k).le (Nat.le_refl _) (Nat.zero_le _)
  | d :: ds, h => by
    refine (nc_cons (h d List.mem_cons_self) (nc_all fun x hx => h x (List.mem_cons_of_mem _ hx))).le (Nat.le_refl _) ?_
    rw [List.length_cons, Nat.mul_add]
    omega
theorem nc_tup {k W : Nat} {ds : List PyData} (h : NcA k W ds) : Nc (k + 1) W (.tuple ds) := by
  refine ⟨by simp only [PyData.showable, h.sh], by simp only [PyData.hasDict, h.nd], ?_, by simp only [PyData.leavesShort, h.lf], by simp only [PyData.weight]; exact h.wt⟩
  have := h.dp
  simp only [PyData.depth]
  omega
theorem nc_lst {k W : Nat} {ds : List PyData} (h : NcA k W ds) : Nc (k + 1) W (.list ds) := by
  refine ⟨by simp only [PyData.showable, h.sh], by simp only [PyData.hasDict, h.nd], ?_, by simp only [PyData.leavesShort, h.lf], by simp only [PyData.weight]; exact h.wt⟩
  have := h.dp
  simp only [PyData.depth]
  omega
theorem nc_ints {p : List Int} (h : ∀ x ∈ p, 0 ≤ x ∧ x < 1024) : NcA 0 (11 * p.length) (p.map PyData.int) := by
  have := nc_all (k := 0) (W := 10) (ds := p.map PyData.int) (fun d hd => by
    obtain ⟨x, hx, rfl⟩ := List.mem_map.mp hd
    exact nc_int (h x hx).1 (h x hx).2)
  rw [List.length_map] at this
  exact this
section
variable {P : Program} {w : World} {K : PySem.W.Frag} {mg : Str → Option Value} {base : Heap}
theorem dp_ti {H : Hp} {a : Addr} {p : List Int} (h : TI H a p) : Dp K H (.ref a) (.tuple (p.map PyData.int)) := .tup (h.seq) (dpAll_ints p)
abbrev s__law_like : Stmt := topS 44
theorem sc__law_like : FnScope ["got", "due"] ["got", "due"] (defScope s__law_like) := ⟨rfl, rfl, rfl, by decide +kernel, rfl, by decide +kernel, by decide +kernel⟩
def spLike (K : PySem.W.Frag) : Sp := fun vs H Q _ => ∃ x y d, vs = [x, y] ∧ Dp K H x d ∧ Dp K H y d ∧ isDisplay d = true ∧ Nc 20 (2 ^ 20) d ∧ Q (.bl true) H
theorem ok_like (D : DefAt K mg "_law_like" s__law_like) (T : Bt mg) : UseG P w K mg base "_law_like" 1 ["got", "due"] (spLike K) := by
  refine use_ofG D (fun f fd F => Fun.okG F sc__law_like (fun vs H Q E h => ?_) (fun cdv A outer s H vs Q E gd hr h => ?_)) (fun _ _ _ _ _ _ us hl => match us, hl with | [_, _], _ => rfl)
  · obtain ⟨x, y, d, rfl, _⟩ := h
    rfl
  · obtain ⟨x, y, d, rfl, hx, hy, dis, nc, q⟩ := h
    refine ⟨_, (pss_one (ps_ret (pe_cmpR op_eq (pe_callB (k_repr (K := K) rfl gd hr.units) (by rfl) T.repr (by decide +kernel) (pa_cons (pv 0) pa_nil)) (pe_callB (k_repr (K := K) rfl gd hr.units) (by rfl) T.repr (by decide +kernel) (pa_cons (pv 1) pa_nil)) (nomark _)))), ?_⟩
    have hl := PyData.shown_fits (B := 13) (by decide) (by decide) nc.lf nc.wt
    have dp : d.depth ≤ 30 := Nat.le_trans nc.dp (by decide)
    refine ⟨_, rfl, x, d, rfl, hx, dis, nc.sh, nc.nd, dp, hl, _, rfl, y, d, rfl, hy, dis, nc.sh, nc.nd, dp, hl, ?_⟩
    refine ⟨rfl, ?_⟩
    rw [decide_eq_true rfl]
    exact q
theorem Kept.trans {H H1 H2 : Hp} {m g : Addr} (h : Kept H H1 m g) (h2 : Kept H1 H2 m g) : Kept H H2 m g := fun a u ha na nb => h2 a u (h a u ha na nb) na nb
theorem Kept.of {H H' : Hp} {m g : Addr} (h : Same H H') : Kept H H' m g := fun a u ha _ _ => h a u ha
theorem MS.mono {H H' : Hp} {m c g : Addr} {b : Int} (h : MS H m c g b) (s : Same H H') : MS H' m c g b := by
  obtain ⟨cs, gs, n, h1, h2, h3, r⟩ := h
  exact ⟨cs, gs, n, s _ _ h1, s _ _ h2, s _ _ h3, r⟩
theorem MS.le {H : Hp} {m c g : Addr} {b b' : Int} (h : MS H m c g b) (l : b ≤ b') : MS H m c g b' := by
  obtain ⟨cs, gs, n, h1, h2, h3, h4, h5, h6, h7, h8, h9⟩ := h
  exact ⟨cs, gs, n, h1, h2, h3, h4, h5, h6, h7, h8, by omega⟩
/-- the state stays where another object is changed -/
theorem MS.put {H : Hp} {m c g : Addr} {b : Int} (h : MS H m c g b) {a : Addr} {o : HO} (n1 : a ≠ m) (n2 : a ≠ c) (n3 : a ≠ g) : MS (L2.upd H a o) m c g b := by
  obtain ⟨cs, gs, n, h1, h2, h3, r⟩ := h
  exact ⟨cs, gs, n, by rw [upd_ne n1.symm]; exact h1, by rw [upd_ne n2.symm]; exact h2, by rw [upd_ne n3.symm]; exact h3, r⟩
theorem MS.ne {H : Hp} {m c g : Addr} {b : Int} (h : MS H m c g b) {a : Addr} (n : H a = none) : a ≠ m ∧ a ≠ c ∧ a ≠ g := by
  obtain ⟨cs, gs, k, h1, h2, h3, r⟩ := h
  exact ⟨ne_of_none h1 n |>.symm, ne_of_none h2 n |>.symm, ne_of_none h3 n |>.symm⟩
theorem kept_mut {H H' : Hp} {m g p : Addr} {o : HO} (e : Kept H H' m g) (h : H p = none) : Kept H (L2.upd H' p o) m g := fun a u ha na nb => by
  rw [upd_ne (ne_of_none ha h)]
  exact e a u ha na nb
theorem Kept.ti {H H' : Hp} {m c g a : Addr} {b : Int} {p : List Int} (h : Kept H H' m g) (s : MS H m c g b) (t : TI H a p) : TI H' a p := by
  obtain ⟨cs, gs, k, h1, h2, h3, r⟩ := s
  refine h a _ t (fun e => ?_) (fun e => ?_)
  · have t' : H a = _ := t
    rw [e, h1] at t'
    cases t'
  · have t' : H a = _ := t
    rw [e, h3] at t'
    cases t'
theorem erase_perm {α : Type} : ∀ {ls : List α} {k : Nat} {x : α}, ls[k]? = some x → ([x] ++ ls.eraseIdx k).Perm ls
  | [], k, x, h => by simp at h
  | a :: r, 0, x, h => by
    obtain rfl : a = x := Option.some.inj h
    exact List.Perm.refl _
  | a :: r, k + 1, x, h => by
    have h' : r[k]? = some x := h
    exact (List.Perm.swap a x _).trans (List.Perm.cons a (erase_perm h'))
theorem erase_map {α β : Type} (f : α → β) : ∀ (ls : List α) (k : Nat), (ls.map f).eraseIdx k = (ls.eraseIdx k).map f
  | [], k => by simp
  | a :: r, 0 => rfl
  | a :: r, k + 1 => by
    show f a :: (r.map f).eraseIdx k = f a :: (r.eraseIdx k).map f
    rw [erase_map f r k]
abbrev s__law_order : Stmt := topS 45
theorem sc__law_order : FnScope ["m", "many", "left", "turn"] ["m", "many"] (defScope s__law_order) := ⟨rfl, rfl, rfl, by decide +kernel, rfl, by decide +kernel, by decide +kernel⟩
def spOrder : Sp := fun vs H Q _ => ∃ m c g b many, vs = [.ref m, .int many] ∧ MS H m c g b ∧ b ≤ 100000 ∧ 1 ≤ many ∧ many ≤ 64 ∧
  ∀ H' l (ds : List Int), Kept H H' m g → MS H' m c g (b + many) → H' l = some (.lst (ds.map V.int)) → H l = none → ds.length = many.toNat → ds.Nodup → (∀ d ∈ ds, 0 ≤ d ∧ d < many) → Q (.ref l) H'
theorem ok_order (D : DefAt K mg "_law_order" s__law_order) (T : Bt mg) (u__law_draw : Use P w K mg base "_law_draw" 2 ["m", "limit"] spDraw) : Use P w K mg base "_law_order" 3 ["m", "many"] spOrder := by
  refine use_of D (fun f fd F => F.ok sc__law_order (fun vs H Q E h => ?_) (fun cdv A outer s H vs Q E hr h => ?_)) (fun _ _ _ _ _ _ us hl => match us, hl with | [_, _], _ => rfl)
  · obtain ⟨m, c, g, b, many, rfl, _⟩ := h
    rfl
  · obtain ⟨m, c, g, b, many, rfl, ms, hb, m1, m2, q⟩ := h
    refine ⟨_, (pss_cons (ps_set (i := 2) sc__law_order.nd rfl (Or.inr rfl) (pe_listRg rfl (by rfl) T.list (prg_1 (by rfl) T.range (pv 1))))
      (pss_one (ps_ret (pe_lc (own := [("turn", 3)]) rfl sc__law_order.nd (pi_range1 (by rfl) T.range (pa_cons (pv 1) pa_nil)) (blkOk_by (N := ["m", "many", "left", "turn"]) (sc := defScope s__law_order) (by decide +kernel)) (fun _ _ _ _ _ => (pg_name (i := 3) sc__law_order.nd rfl (Or.inl rfl))) (fun _ _ _ _ _ => pts_nil) (fun _ _ _ _ _ => (k_bm (K := K) rfl PySem.F.plainAttrs_list PySem.F.slot_list_pop PySem.F.type_list_pop mt_popAt (pv 2) (pa_cons (pe_use u__law_draw (by decide) hr (by rfl) (pa_cons (pv 0) (pa_cons (pe_callB (k_len (K := K) rfl) (by rfl) T.len PySem.boot_len (pa_cons (pv 2) pa_nil)) pa_nil))) pa_nil))))))), ?_⟩
    obtain ⟨mn, rfl⟩ : ∃ n : Nat, many = (n : Int) := ⟨many.toNat, by omega⟩
    refine ⟨_, rfl, _, rfl, RgOk.of_le (by omega) (by omega) (by omega) (by omega), fun l nl => ?_⟩
    rw [rgV_hv]
    refine ⟨_, rfl, _, rfl, by omega, by omega, fun L nL => ?_⟩
    have lL : l ≠ L := fun e => by rw [← e, upd_same] at nL; cases nL
    have nL0 : H L = none := (same_new nl).free nL
    have ms1 : MS (upd (upd H l (.lst (hv (List.range mn)))) L (.lst [])) m c g b := (ms.mono (same_new nl)).mono (same_new nL)
    refine lc_range (fun i H1 => Kept H H1 m g ∧ MS H1 m c g (b + (i : Nat)) ∧ ∃ os ls : List Nat, H1 l = some (.lst (hv ls)) ∧ H1 L = some (.lst (hv os)) ∧ os.length = i ∧ (os ++ ls).Perm (List.range mn))
      ⟨kept_mut (Kept.of (same_new nl)) nL0, by simpa using ms1, [], List.range mn, by rw [upd_ne lL, upd_same], by rw [upd_same]; rfl, rfl, List.Perm.refl _⟩ ?_ ?_
    · rintro i H1 hi ⟨kp, ms2, os, ls, el, eL, ol, pm⟩
      have hlen : ls.length = mn - i := by
        have := pm.length_eq
        rw [List.length_append, ol, List.length_range] at this
        omega
      have himn : i < mn := by omega
      refine ⟨rfl, _, rfl, .inl ⟨rfl, _, .inl (.inl el)⟩, _, rfl, _, rfl, l, _, rfl, .inl (sqL el), m, c, g, _, _, rfl, ms2, by omega, ?_, ?_, fun H2 d k2 ms3 d0 d1 => ?_⟩
      · unfold hv
        rw [List.length_map]
        omega
      · unfold hv
        rw [List.length_map]
        omega
      have hvl : (hv ls).length = ls.length := by unfold hv; rw [List.length_map]
      rw [hvl] at d1
      obtain ⟨x, hx⟩ : ∃ x, ls[d.toNat]? = some x := ⟨_, List.getElem?_eq_getElem (by omega)⟩
      have lm : l ≠ m ∧ l ≠ g := by
        have := ms.ne nl
        exact ⟨this.1, this.2.2⟩
      have Lm : L ≠ m ∧ L ≠ g := by
        have := ms.ne nL0
        exact ⟨this.1, this.2.2⟩
      have el2 := k2 l _ el lm.1 lm.2
      have eL2 := k2 L _ eL Lm.1 Lm.2
      refine ⟨l, hv ls, d, d.toNat, .int ((x : Nat) : Int), rfl, rfl, el2, by omega, by omega, ?_, at_map hx, ?_⟩
      · have := (ixN_seq (ixN_of (n := ls.length) d0 d1)).1
        rw [hvl]
        exact this
      refine ⟨_, by rw [upd_ne lL.symm]; exact eL2, ?_, ?_⟩
      · unfold hv
        rw [List.length_map]
        exact small_of (by omega)
      refine ⟨kept_mut (kept_mut (kp.trans k2) nl) nL0, ?_, os ++ [x], ls.eraseIdx d.toNat, ?_, ?_, ?_, ?_⟩
      · have := ms3
        have n1 := ms.ne nl
        have n2 := ms.ne nL0
        rw [show b + ((i + 1 : Nat) : Int) = b + (i : Nat) + 1 by omega]
        exact (ms3.put n1.1 n1.2.1 n1.2.2).put n2.1 n2.2.1 n2.2.2
      · rw [upd_ne lL, upd_same]
        unfold hv
        rw [erase_map]
      · rw [upd_same]
        unfold hv
        rw [List.map_append]
        rfl
      · rw [List.length_append, ol]
        rfl
      · rw [List.append_assoc]
        exact (List.Perm.append_left os (erase_perm hx)).trans pm
    · rintro H1 ⟨kp, ms2, os, ls, el, eL, ol, pm⟩
      have l0 : ls = [] := by
        have := pm.length_eq
        rw [List.length_append, ol, List.length_range] at this
        exact List.length_eq_zero_iff.mp (by omega)
      subst l0
      rw [List.append_nil] at pm
      rw [show ((((mn : Nat) : Int)).toNat : Nat) = mn by omega] at ms2
      refine q H1 L (os.map fun x => ((x : Nat) : Int)) kp ms2 ?_ nL0 ?_ ?_ ?_
      · rw [eL, List.map_map]
        rfl
      · rw [List.length_map, ol]
      · exact List.pairwise_map.mpr ((pm.nodup_iff.mpr List.nodup_range).imp fun h e => h (by omega))
      · intro d hd
        obtain ⟨x, hx, rfl⟩ := List.mem_map.mp hd
        have := List.mem_range.mp (pm.mem_iff.mp hx)
        omega
end
end KQ
namespace KQ
open PySem PySem.Spec PyProof.Rows L2 KR KM StX
theorem dg_new {α κ : Type} [DecidableEq α] [DecidableEq κ] {f : α → κ} (hf : ∀ a b, f a = f b → a = b) {ks : List α} {x : α} (h : ks.Nodup) (hx : x ∉ ks) : valV (dg f (ks ++ [x])) (f x) = some (V.int ((ks.length : Nat) : Int)) := by
  have hn : (ks ++ [x]).Nodup := by
    rw [List.nodup_append]
    refine ⟨h, by simp, fun a ha b hb e => ?_⟩
    rw [List.mem_singleton.mp hb] at e
    exact hx (e ▸ ha)
  rw [dg_val hf _ _ hn, if_pos (by simp), List.idxOf_append, if_neg hx]
  simp
section
variable {P : Program} {w : World} {K : PySem.W.Frag} {mg : Str → Option Value} {base : Heap}
abbrev s__law_numbered : Stmt := topS 46
theorem sc__law_numbered : FnScope ["labels", "spots", "found", "label"] ["labels"] (defScope s__law_numbered) := ⟨rfl, rfl, rfl, by decide +kernel, rfl, by decide +kernel, by decide +kernel⟩
theorem ok_lnumL (D : DefAt K mg "_law_numbered" s__law_numbered) (T : Bt mg) : Use P w K mg base "_law_numbered" 1 ["labels"] spNumL := by
  refine use_of D (fun f fd F => F.ok sc__law_numbered (fun vs H Q E h => ?_) (fun cdv A outer s H vs Q E hr h => ?_)) (fun _ _ _ _ _ _ us hl => match us, hl with | [_], _ => rfl)
  · obtain ⟨a, p, rfl, _⟩ := h
    rfl
  · obtain ⟨a, xs, rfl, hp, hl, q⟩ := h
    refine ⟨_, (pss_cons (ps_par (i := 1) (j := 2) rfl sc__law_numbered.nd rfl rfl (by decide) rfl rfl (pa_cons pe_dnewK (pa_cons (pe_lst pa_nil) pa_nil)) (by rfl))
      (pss_cons (ps_for PassesOwn.never rfl (k_list (K := K) rfl (pv 0)) (pg_name (i := 3) sc__law_numbered.nd rfl (Or.inl rfl))
      (pss_cons (ps_if (pt_cmp (pc_dnotin (hu_of hr) (pv 3) (pv 1))) (pss_one (ps_dput (hu_of hr) (pv 1) (pv 3) (pe_callB call_lenD (by rfl) T.len PySem.boot_len (pa_cons (pv 1) pa_nil)) rfl)) pss_nil)
      (pss_one (ps_expr (k_bm (K := K) rfl PySem.F.plainAttrs_list PySem.F.slot_list_append PySem.F.type_list_append mt_append (pv 2) (pa_cons (pe_dget (hu_of hr) (pv 1) (pv 3) (fun _ _ => rfl)) pa_nil))))))
      (pss_one (ps_ret (pe_callTy (k_tupOf (K := K) rfl) (by rfl) T.tuple (by decide +kernel) (pa_cons (pv 2) pa_nil)))))), ?_⟩
    refine fun d nd => ⟨Nat.zero_le _, fun L nL => ?_⟩
    have s0 : Same H (upd H d (.dK [])) := same_new nd
    have s1 : Same H (upd (upd H d (.dK [])) L (.lst [])) := s0.trans (same_new nL)
    have nL0 : H L = none := s0.free nL
    have ndL : d ≠ L := fun e => by rw [e, upd_same] at nL; cases nL
    refine ⟨_, _, rfl, ?_⟩
    refine ⟨_, rfl, a, rfl, ⟨_, sqL (s1 _ _ hp)⟩, for_list (K := K) (a := a) (xs := xs.map V.int)
      (fun i σ H1 => ∃ y3, σ = [some (.ref a), some (.ref d), some (.ref L), y3] ∧ Same H H1 ∧ H1 d = some (.dK (dg kI (firsts (xs.take i)))) ∧ H1 L = some (.lst ((num (xs.take i)).map V.int)))
      ⟨none, rfl, s1, ?_, ?_⟩ (fun i σ H1 _ ⟨_, _, sm, _⟩ => sqL (sm _ _ hp)) ?_ ?_⟩
    · rw [upd_ne ndL, upd_same]
      rfl
    · rw [upd_same]
      rfl
    · rintro i v σ H1 hi ⟨y3, rfl, sm, ed, eL⟩
      obtain ⟨x, hx, rfl⟩ := map_at hi
      have small : ((num (xs.take i)).map V.int).length < sizeLine := by
        rw [List.length_map, num_len, List.length_take]
        exact small_of (by omega)
      have small2 : (dg kI (firsts (xs.take i))).length < sizeLine := by
        rw [dg_len]
        have := firsts_le (xs.take i)
        rw [List.length_take] at this
        exact small_of (by omega)
      by_cases hm : x ∈ firsts (xs.take i)
      · obtain ⟨e1, e2⟩ := num_old hm
        have gv : DGet H1 d (V.int x) (some (V.int (((firsts (xs.take i)).idxOf x : Nat) : Int))) := by
          have := DGet.k (k := kI x) ed
          rw [dg_val kI_inj _ _ (firsts_nodup _), if_pos hm] at this
          exact this
        refine ⟨_, rfl, _, rfl, d, _, rfl, gv, _, rfl, _, rfl, .inl ⟨rfl, _, .inl (.inl eL)⟩, _, rfl, _, rfl, d, _, rfl, gv, L, _, _, rfl, rfl, eL, small, some (.int x), rfl, same_mut sm nL0, ?_, ?_⟩
        · rw [upd_ne ndL, take_snoc hx, e2]
          exact ed
        · rw [upd_same, take_snoc hx, e1, List.map_append]
          rfl
      · obtain ⟨e1, e2⟩ := num_new hm
        have gv : DGet H1 d (V.int x) none := by
          have := DGet.k (k := kI x) ed
          rw [dg_val kI_inj _ _ (firsts_nodup _), if_neg hm] at this
          exact this
        have ed2 : (upd H1 d (.dK (putK (dg kI (firsts (xs.take i))) (kI x) (.int (((firsts (xs.take i)).length : Nat) : Int))))) d = some (.dK (dg kI (firsts (xs.take i) ++ [x]))) := by
          rw [upd_same, dg_put kI_inj _ _ hm]
        have gv2 : DGet (upd H1 d (.dK (putK (dg kI (firsts (xs.take i))) (kI x) (.int (((firsts (xs.take i)).length : Nat) : Int))))) d (V.int x) (some (V.int (((firsts (xs.take i)).length : Nat) : Int))) := by
          have := DGet.k (k := kI x) ed2
          rw [dg_new kI_inj (firsts_nodup _) hm] at this
          exact this
        have eL2 : (upd H1 d (.dK (putK (dg kI (firsts (xs.take i))) (kI x) (.int (((firsts (xs.take i)).length : Nat) : Int))))) L = some (.lst ((num (xs.take i)).map V.int)) := by
          rw [upd_ne ndL.symm]
          exact eL
        refine ⟨_, rfl, _, rfl, d, _, rfl, gv, _, rfl, _, rfl, d, _, rfl, ed, ?_⟩
        rw [dg_len]
        refine ⟨_, rfl, _, rfl, d, _, rfl, DPut.k (k := kI x) ed small2, ?_⟩
        refine ⟨_, rfl, .inl ⟨rfl, _, .inl (.inl eL2)⟩, _, rfl, _, rfl, d, _, rfl, gv2, L, _, _, rfl, rfl, eL2, small, some (.int x), rfl, same_mut (same_mut sm nd) nL0, ?_, ?_⟩
        · rw [upd_ne ndL, ed2, take_snoc hx, e2]
        · rw [upd_same, take_snoc hx, e1, List.map_append]
          rfl
    · rintro σ H1 ⟨y3, rfl, sm, ed, eL⟩
      refine ⟨_, rfl, L, _, rfl, .inl ⟨.inl (.inl eL), fun l hl => ?_⟩⟩
      refine q _ l (sm.trans (same_new hl)) ?_
      show upd H1 l _ l = _
      rw [upd_same, List.length_map, List.take_length]
theorem ok_lnumP (D : DefAt K mg "_law_numbered" s__law_numbered) (T : Bt mg) : Use P w K mg base "_law_numbered" 1 ["labels"] spNumP := by
  refine use_of D (fun f fd F => F.ok sc__law_numbered (fun vs H Q E h => ?_) (fun cdv A outer s H vs Q E hr h => ?_)) (fun _ _ _ _ _ _ us hl => match us, hl with | [_], _ => rfl)
  · obtain ⟨a, ts, xs, rfl, _⟩ := h
    rfl
  · obtain ⟨a, ts, xs, rfl, hp, pa, hl, q⟩ := h
    refine ⟨_, (pss_cons (ps_par (i := 1) (j := 2) rfl sc__law_numbered.nd rfl rfl (by decide) rfl rfl (pa_cons pe_dnewT (pa_cons (pe_lst pa_nil) pa_nil)) (by rfl))
      (pss_cons (ps_for PassesOwn.never rfl (k_list (K := K) rfl (pv 0)) (pg_name (i := 3) sc__law_numbered.nd rfl (Or.inl rfl))
      (pss_cons (ps_if (pt_cmp (pc_dnotin (hu_of hr) (pv 3) (pv 1))) (pss_one (ps_dput (hu_of hr) (pv 1) (pv 3) (pe_callB call_len_dT (by rfl) T.len PySem.boot_len (pa_cons (pv 1) pa_nil)) rfl)) pss_nil)
      (pss_one (ps_expr (k_bm (K := K) rfl PySem.F.plainAttrs_list PySem.F.slot_list_append PySem.F.type_list_append mt_append (pv 2) (pa_cons (pe_dget (hu_of hr) (pv 1) (pv 3) (fun _ _ => rfl)) pa_nil))))))
      (pss_one (ps_ret (pe_callTy (k_tupOf (K := K) rfl) (by rfl) T.tuple (by decide +kernel) (pa_cons (pv 2) pa_nil)))))), ?_⟩
    refine fun d nd => ⟨Nat.zero_le _, fun L nL => ?_⟩
    have s0 : Same H (upd H d (.dT [])) := same_new nd
    have s1 : Same H (upd (upd H d (.dT [])) L (.lst [])) := s0.trans (same_new nL)
    have nL0 : H L = none := s0.free nL
    have ndL : d ≠ L := fun e => by rw [e, upd_same] at nL; cases nL
    refine ⟨_, _, rfl, ?_⟩
    refine ⟨_, rfl, a, rfl, ⟨_, sqL (s1 _ _ hp)⟩, for_list (K := K) (a := a) (xs := ts.map V.ref)
      (fun i σ H1 => ∃ y3, σ = [some (.ref a), some (.ref d), some (.ref L), y3] ∧ Same H H1 ∧ H1 d = some (.dT (dg kP (firsts (xs.take i)))) ∧ H1 L = some (.lst ((num (xs.take i)).map V.int)))
      ⟨none, rfl, s1, ?_, ?_⟩ (fun i σ H1 _ ⟨_, _, sm, _⟩ => sqL (sm _ _ hp)) ?_ ?_⟩
    · rw [upd_ne ndL, upd_same]
      rfl
    · rw [upd_same]
      rfl
    · rintro i v σ H1 hi ⟨y3, rfl, sm, ed, eL⟩
      obtain ⟨t, ht, rfl⟩ := map_at hi
      obtain ⟨x, hx, et0⟩ := pa.2 i t ht
      have et : H1 t = some (.tup ((kP x).map kV)) := sm _ _ et0
      have etd : ∀ o : HO, (upd H1 d o) t = some (.tup ((kP x).map kV)) := fun o => by rw [upd_ne (fun e => by rw [e, nd] at et0; cases et0)]; exact et
      have small : ((num (xs.take i)).map V.int).length < sizeLine := by
        rw [List.length_map, num_len, List.length_take]
        exact small_of (by omega)
      have small2 : (dg kP (firsts (xs.take i))).length < sizeLine := by
        rw [dg_len]
        have := firsts_le (xs.take i)
        rw [List.length_take] at this
        exact small_of (by omega)
      by_cases hm : x ∈ firsts (xs.take i)
      · obtain ⟨e1, e2⟩ := num_old hm
        have gv : DGet H1 d (V.ref t) (some (V.int ((@List.idxOf (Int × Int) instBEqOfDecidableEq x (firsts (xs.take i)) : Nat) : Int))) := by
          have := DGet.t (k := kP x) ed et
          rw [dg_val kP_inj _ _ (firsts_nodup _), if_pos hm] at this
          exact this
        refine ⟨_, rfl, _, rfl, d, _, rfl, gv, _, rfl, _, rfl, .inl ⟨rfl, _, .inl (.inl eL)⟩, _, rfl, _, rfl, d, _, rfl, gv, L, _, _, rfl, rfl, eL, small, some (.ref t), rfl, same_mut sm nL0, ?_, ?_⟩
        · rw [upd_ne ndL, take_snoc hx, e2]
          exact ed
        · rw [upd_same, take_snoc hx, e1, List.map_append]
          rfl
      · obtain ⟨e1, e2⟩ := num_new hm
        have gv : DGet H1 d (V.ref t) none := by
          have := DGet.t (k := kP x) ed et
          rw [dg_val kP_inj _ _ (firsts_nodup _), if_neg hm] at this
          exact this
        have ed2 : (upd H1 d (.dT (putK (dg kP (firsts (xs.take i))) (kP x) (.int (((firsts (xs.take i)).length : Nat) : Int))))) d = some (.dT (dg kP (firsts (xs.take i) ++ [x]))) := by
          rw [upd_same, dg_put kP_inj _ _ hm]
        have gv2 : DGet (upd H1 d (.dT (putK (dg kP (firsts (xs.take i))) (kP x) (.int (((firsts (xs.take i)).length : Nat) : Int))))) d (V.ref t) (some (V.int (((firsts (xs.take i)).length : Nat) : Int))) := by
          have := DGet.t (k := kP x) ed2 (etd _)
          rw [dg_new kP_inj (firsts_nodup _) hm] at this
          exact this
        have eL2 : (upd H1 d (.dT (putK (dg kP (firsts (xs.take i))) (kP x) (.int (((firsts (xs.take i)).length : Nat) : Int))))) L = some (.lst ((num (xs.take i)).map V.int)) := by
          rw [upd_ne ndL.symm]
          exact eL
        refine ⟨_, rfl, _, rfl, d, _, rfl, gv, _, rfl, _, rfl, d, _, rfl, ed, ?_⟩
        rw [dg_len]
        refine ⟨_, rfl, _, rfl, d, _, rfl, DPut.t (k := kP x) ed et small2, ?_⟩
        refine ⟨_, rfl, .inl ⟨rfl, _, .inl (.inl eL2)⟩, _, rfl, _, rfl, d, _, rfl, gv2, L, _, _, rfl, rfl, eL2, small, some (.ref t), rfl, same_mut (same_mut sm nd) nL0, ?_, ?_⟩
        · rw [upd_ne ndL, ed2, take_snoc hx, e2]
        · rw [upd_same, take_snoc hx, e1, List.map_append]
          rfl
    · rintro σ H1 ⟨y3, rfl, sm, ed, eL⟩
      refine ⟨_, rfl, L, _, rfl, .inl ⟨.inl (.inl eL), fun l hl => ?_⟩⟩
      refine q _ l (sm.trans (same_new hl)) ?_
      show upd H1 l _ l = _
      rw [upd_same, List.length_map, pa.1, List.take_length]
end
end KQ
namespace KQ
open PySem PySem.Spec PyProof.Rows L2 KR KM StX
section
variable {P : Program} {w : World} {K : PySem.W.Frag} {mg : Str → Option Value} {base : Heap}
theorem Kept.free {H H1 : Hp} {m g L : Addr} (h : Kept H H1 m g) (n : H1 L = none) (n1 : L ≠ m) (n2 : L ≠ g) : H L = none := by
  cases e : H L with
  | none => rfl
  | some u =>
    rw [h L u e n1 n2] at n
    cases n
abbrev s__law_any_parting : Stmt := topS 48
theorem sc__law_any_parting : FnScope ["m", "many", "cap", "turn"] ["m", "many"] (defScope s__law_any_parting) := ⟨rfl, rfl, rfl, by decide +kernel, rfl, by decide +kernel, by decide +kernel⟩
def spAny : Sp := fun vs H Q _ => ∃ m c g b many, vs = [.ref m, .int many] ∧ MS H m c g b ∧ b ≤ 100000 ∧ 1 ≤ many ∧ many ≤ 60 ∧
  ∀ H' t p, Kept H H' m g → MS H' m c g (b + 1 + many) → TI H' t p → Par p → p.length = many.toNat → Q (.ref t) H'
theorem ok_any (D : DefAt K mg "_law_any_parting" s__law_any_parting) (T : Bt mg) (u__law_draw : Use P w K mg base "_law_draw" 2 ["m", "limit"] spDraw)
    (u__law_numbered : Use P w K mg base "_law_numbered" 1 ["labels"] spNumL) : Use P w K mg base "_law_any_parting" 3 ["m", "many"] spAny := by
  refine use_of D (fun f fd F => F.ok sc__law_any_parting (fun vs H Q E h => ?_) (fun cdv A outer s H vs Q E hr h => ?_)) (fun _ _ _ _ _ _ us hl => match us, hl with | [_, _], _ => rfl)
  · obtain ⟨m, c, g, b, many, rfl, _⟩ := h
    rfl
  · obtain ⟨m, c, g, b, many, rfl, ms, hb, m1, m2, q⟩ := h
    refine ⟨_, (pss_cons (ps_set (i := 2) sc__law_any_parting.nd rfl (Or.inr rfl) (pe_op op_add pe_int (pe_use u__law_draw (by decide) hr (by rfl) (pa_cons (pv 0) (pa_cons (pv 1) pa_nil)))))
      (pss_one (ps_ret (pe_use u__law_numbered (by decide) hr (by rfl) (pa_cons (pe_lc (own := [("turn", 3)]) rfl sc__law_any_parting.nd (pi_range1 (by rfl) T.range (pa_cons (pv 1) pa_nil)) (blkOk_by (N := ["m", "many", "cap", "turn"]) (sc := defScope s__law_any_parting) (by decide +kernel)) (fun _ _ _ _ _ => (pg_name (i := 3) sc__law_any_parting.nd rfl (Or.inl rfl))) (fun _ _ _ _ _ => pts_nil) (fun _ _ _ _ _ => (pe_use u__law_draw (by decide) hr (by rfl) (pa_cons (pv 0) (pa_cons (pv 2) pa_nil))))) pa_nil))))), ?_⟩
    refine ⟨_, rfl, _, rfl, m, c, g, b, many, rfl, ms, by omega, by omega, by omega, fun H1 d k1 ms1 d0 d1 => ⟨1, d, rfl, rfl, ?_⟩⟩
    refine ⟨_, rfl, _, rfl, by omega, by omega, fun L nL => ?_⟩
    have Ln := ms1.ne nL
    have nLH := k1.free nL Ln.1 Ln.2.2
    refine lc_range (fun i H2 => (∃ xs : List Int, H2 L = some (.lst (xs.map V.int)) ∧ xs.length = i) ∧ Kept H H2 m g ∧ MS H2 m c g (b + 1 + (i : Nat)))
      ⟨⟨[], upd_same, rfl⟩, kept_mut k1 nLH, by simpa using ms1.put Ln.1 Ln.2.1 Ln.2.2⟩ ?_ ?_
    · rintro i H2 hi ⟨⟨xs, eL, lx⟩, k2, ms2⟩
      refine ⟨rfl, _, rfl, _, rfl, m, c, g, _, _, rfl, ms2, by omega, by omega, by omega, fun H3 e k3 ms3 e0 e1 => ?_⟩
      have eL3 := k3 L _ eL Ln.1 Ln.2.2
      refine ⟨_, eL3, ?_, ⟨xs ++ [e], ?_, ?_⟩, ?_, ?_⟩
      · rw [List.length_map, lx]
        exact small_of (by omega)
      · rw [upd_same, List.map_append]
        rfl
      · rw [List.length_append, lx]
        rfl
      · exact kept_mut (k2.trans k3) nLH
      · rw [show b + 1 + ((i + 1 : Nat) : Int) = b + 1 + (i : Nat) + 1 by omega]
        exact ms3.put Ln.1 Ln.2.1 Ln.2.2
    · rintro H2 ⟨⟨xs, eL, lx⟩, k2, ms2⟩
      refine ⟨L, xs, rfl, eL, by omega, fun H3 t s3 ht => ?_⟩
      refine q H3 t (num xs) (k2.trans (Kept.of s3)) ?_ ht (num_par ?_ (by omega)) (by rw [num_len, lx])
      · have := ms2.mono s3
        rw [show (((many.toNat : Nat)) : Int) = many by omega] at this
        exact this
      · intro e
        rw [e] at lx
        simp at lx
        omega
abbrev s__law_coarser : Stmt := topS 50
theorem sc__law_coarser : FnScope ["m", "parting", "cap", "into", "block"] ["m", "parting"] (defScope s__law_coarser) := ⟨rfl, rfl, rfl, by decide +kernel, rfl, by decide +kernel, by decide +kernel⟩
def spCoarser : Sp := fun vs H Q _ => ∃ m c g b a p, vs = [.ref m, .ref a] ∧ MS H m c g b ∧ b ≤ 100000 ∧ TI H a p ∧ Par p ∧
  ∀ H' t r, Kept H H' m g → MS H' m c g (b + 61) → TI H' t r → Par r → r.length = p.length → Q (.ref t) H'
theorem ok_coarser (D : DefAt K mg "_law_coarser" s__law_coarser) (T : Bt mg) (u__law_draw : Use P w K mg base "_law_draw" 2 ["m", "limit"] spDraw)
    (u__law_numbered : Use P w K mg base "_law_numbered" 1 ["labels"] spNumL) : Use P w K mg base "_law_coarser" 3 ["m", "parting"] spCoarser := by
  refine use_of D (fun f fd F => F.ok sc__law_coarser (fun vs H Q E h => ?_) (fun cdv A outer s H vs Q E hr h => ?_)) (fun _ _ _ _ _ _ us hl => match us, hl with | [_, _], _ => rfl)
  · obtain ⟨m, c, g, b, a, p, rfl, _⟩ := h
    rfl
  · obtain ⟨m, c, g, b, a, p, rfl, ms, hb, hp, par, q⟩ := h
    refine ⟨_, (pss_cons (ps_set (i := 2) sc__law_coarser.nd rfl (Or.inr rfl) (pe_op op_add pe_int (pe_use u__law_draw (by decide) hr (by rfl) (pa_cons (pv 0) (pa_cons (pe_op op_add (pe_callB (k_maxT (K := K) rfl rfl hr.units) (by rfl) T.max (by decide +kernel) (pa_cons (pv 1) pa_nil)) pe_int) pa_nil)))))
      (pss_cons (ps_set (i := 3) sc__law_coarser.nd rfl (Or.inr rfl) (pe_lc (own := [("block", 4)]) rfl sc__law_coarser.nd (pi_range1 (by rfl) T.range (pa_cons (pe_op op_add (pe_callB (k_maxT (K := K) rfl rfl hr.units) (by rfl) T.max (by decide +kernel) (pa_cons (pv 1) pa_nil)) pe_int) pa_nil)) (blkOk_by (N := ["m", "parting", "cap", "into", "block"]) (sc := defScope s__law_coarser) (by decide +kernel)) (fun _ _ _ _ _ => (pg_name (i := 4) sc__law_coarser.nd rfl (Or.inl rfl))) (fun _ _ _ _ _ => pts_nil) (fun _ _ _ _ _ => (pe_use u__law_draw (by decide) hr (by rfl) (pa_cons (pv 0) (pa_cons (pv 2) pa_nil))))))
      (pss_one (ps_ret (pe_use u__law_numbered (by decide) hr (by rfl) (pa_cons (pe_lc (own := [("block", 4)]) rfl sc__law_coarser.nd (k_tup (K := K) rfl (pv 1)) (blkOk_by (N := ["m", "parting", "cap", "into", "block"]) (sc := defScope s__law_coarser) (by decide +kernel)) (fun _ _ _ _ _ => (pg_name (i := 4) sc__law_coarser.nd rfl (Or.inl rfl))) (fun _ _ _ _ _ => pts_nil) (fun _ _ _ _ _ => (pe_ix (k_ixl (K := K) rfl) (pv 3) (pv 4) (fun _ _ => rfl)))) pa_nil)))))), ?_⟩
    have g0 := bc_ge 0 p
    have g1 := bc_le 0 p
    have g2 := par.le
    have mem := (rg_mem 0 p (Int.le_refl _) par.rg).1
    refine ⟨_, rfl, _, rfl, a, p, rfl, hp.seq, par.ne, fun mx hm hle => ⟨mx, 1, rfl, rfl, m, c, g, b, mx + 1, rfl, ms, by omega, ?_, ?_, fun H1 d k1 ms1 d0 d1 => ⟨1, d, rfl, rfl, ?_⟩⟩⟩
    · have := mem mx hm
      omega
    · have := mem mx hm
      omega
    have em := par_max par hm hle
    have mem1 := mem mx hm
    have hp1 := k1.ti ms hp
    refine ⟨_, rfl, a, p, rfl, hp1.seq, par.ne, fun mx2 hm2 hle2 => ⟨mx2, 1, rfl, rfl, _, rfl, ?_, ?_, fun L nL => ?_⟩⟩
    · have := mem mx2 hm2
      omega
    · have := mem mx2 hm2
      omega
    have em2 := par_max par hm2 hle2
    have Ln := ms1.ne nL
    have nLH := k1.free nL Ln.1 Ln.2.2
    refine lc_range (fun i H2 => (∃ xs : List Int, H2 L = some (.lst (xs.map V.int)) ∧ xs.length = i) ∧ Kept H H2 m g ∧ MS H2 m c g (b + 1 + (i : Nat)))
      ⟨⟨[], upd_same, rfl⟩, kept_mut k1 nLH, by simpa using ms1.put Ln.1 Ln.2.1 Ln.2.2⟩ ?_ ?_
    · rintro i H2 hi ⟨⟨xs, eL, lx⟩, k2, ms2⟩
      refine ⟨rfl, _, rfl, _, rfl, m, c, g, _, _, rfl, ms2, by omega, by omega, by omega, fun H3 e k3 ms3 e0 e1 => ?_⟩
      have eL3 := k3 L _ eL Ln.1 Ln.2.2
      refine ⟨_, eL3, ?_, ⟨xs ++ [e], ?_, ?_⟩, ?_, ?_⟩
      · rw [List.length_map, lx]
        exact small_of (by omega)
      · rw [upd_same, List.map_append]
        rfl
      · rw [List.length_append, lx]
        rfl
      · exact kept_mut (k2.trans k3) nLH
      · rw [show b + 1 + ((i + 1 : Nat) : Int) = b + 1 + (i : Nat) + 1 by omega]
        exact ms3.put Ln.1 Ln.2.1 Ln.2.2
    · rintro H2 ⟨⟨xs, eL, lx⟩, k2, ms2⟩
      have hp2 := k2.ti ms hp
      refine ⟨_, rfl, a, rfl, ⟨_, hp2.seq⟩, fun M nM => ?_⟩
      have nML : M ≠ L := fun e => by rw [e, eL] at nM; cases nM
      refine lc_tup (K := K) (a := a) (xs := p.map V.int) (fun i H3 => Same H2 H3 ∧ ∃ ys : List Int, H3 M = some (.lst (ys.map V.int)) ∧ ys.length = i)
        ⟨same_new nM, [], upd_same, rfl⟩ (fun i H3 _ ⟨sm, _⟩ => (hp2.mono sm).seq) ?_ ?_
      · rintro i v H3 hi ⟨sm, ys, eM, ly⟩
        obtain ⟨x, hx, rfl⟩ := map_at hi
        have hxm := mem x (List.mem_of_getElem? hx)
        have hip := (List.getElem?_eq_some_iff.mp hx).1
        obtain ⟨y, hy⟩ : ∃ y, xs[x.toNat]? = some y := ⟨_, List.getElem?_eq_getElem (by omega)⟩
        refine ⟨rfl, _, rfl, _, rfl, L, _, x, .int y, rfl, rfl, sqL (sm _ _ eL), atI_of (j := x.toNat) (by omega) (at_map hy), _, eM, ?_, same_mut sm nM, ys ++ [y], ?_, ?_⟩
        · rw [List.length_map, ly]
          exact small_of (by omega)
        · rw [upd_same, List.map_append]
          rfl
        · rw [List.length_append, ly]
          rfl
      · rintro H3 ⟨sm, ys, eM, ly⟩
        rw [List.length_map] at ly
        refine ⟨M, ys, rfl, eM, by omega, fun H4 t s4 ht => ?_⟩
        refine q H4 t (num ys) ((k2.trans (Kept.of sm)).trans (Kept.of s4)) (((ms2.mono sm).mono s4).le (by omega)) ht (num_par ?_ (by omega)) (by rw [num_len, ly])
        intro e
        rw [e] at ly
        exact par.ne (List.length_eq_zero_iff.mp ly.symm)
def Gd (p r : List Int) (s t : Nat) : Prop := p[s]? = p[t]? → r[s]? = r[t]?
theorem finer_gd {p r : List Int} (hl : p.length = r.length) : Finer p r ↔ ∀ t, t < p.length → ∀ s, s < t → Gd p r s t := by
  constructor
  · intro h t ht s hs e
    have hp := List.getElem?_eq_getElem ht
    have hr : r[t]? = some _ := List.getElem?_eq_getElem (by omega)
    have hr2 : r[s]? = some _ := List.getElem?_eq_getElem (by omega)
    rw [hp] at e
    rw [hr, hr2, h s t _ _ _ e hp hr2 hr]
  · intro h i j x y z hi hj yi zj
    have li := (List.getElem?_eq_some_iff.mp hi).1
    have lj := (List.getElem?_eq_some_iff.mp hj).1
    rcases Nat.lt_trichotomy i j with c | c | c
    · have := h j lj i c (by rw [hi, hj])
      rw [yi, zj] at this
      exact Option.some.inj this
    · subst c
      rw [yi] at zj
      exact Option.some.inj zj
    · have := h i li j c (by rw [hi, hj])
      rw [yi, zj] at this
      exact (Option.some.inj this).symm
abbrev s__law_is_finer : Stmt := topS 51
theorem sc__law_is_finer : FnScope ["one", "two", "at", "spot"] ["one", "two"] (defScope s__law_is_finer) := ⟨rfl, rfl, rfl, by decide +kernel, rfl, by decide +kernel, by decide +kernel⟩
def spLFiner : Sp := fun vs H Q _ => ∃ a b p r, vs = [.ref a, .ref b] ∧ TI H a p ∧ TI H b r ∧ p.length ≤ 60 ∧ p.length = r.length ∧ ∀ H' c, Same H H' → (c = true ↔ Finer p r) → Q (.bl c) H'
theorem ok_lfiner (D : DefAt K mg "_law_is_finer" s__law_is_finer) (T : Bt mg) : Use P w K mg base "_law_is_finer" 1 ["one", "two"] spLFiner := by
  refine use_of D (fun f fd F => F.ok sc__law_is_finer (fun vs H Q E h => ?_) (fun cdv A outer s H vs Q E hr h => ?_)) (fun _ _ _ _ _ _ us hl => match us, hl with | [_, _], _ => rfl)
  · obtain ⟨a, b, p, r, rfl, _⟩ := h
    rfl
  · obtain ⟨a, b, p, r, rfl, hp, hb, p60, hl, q⟩ := h
    refine ⟨_, (pss_cons (ps_for PassesOwn.never rfl (pi_range1 (by rfl) T.range (pa_cons (pe_callB (k_len (K := K) rfl) (by rfl) T.len PySem.boot_len (pa_cons (pv 0) pa_nil)) pa_nil)) (pg_name (i := 2) sc__law_is_finer.nd rfl (Or.inr rfl))
      (pss_one (ps_if (pt_cmpR (k_neD (K := K) rfl hr.units) (pe_lc (own := [("spot", 3)]) rfl sc__law_is_finer.nd (pi_range1 (by rfl) T.range (pa_cons (pv 2) pa_nil)) (blkOk_by (N := ["one", "two", "at", "spot"]) (sc := defScope s__law_is_finer) (by decide +kernel)) (fun _ _ _ _ _ => (pg_name (i := 3) sc__law_is_finer.nd rfl (Or.inl rfl))) (fun _ _ _ _ _ => (pts_one (PW.pt (pw_and (pt_cmpR op_eq (pe_ix (k_ixt (K := K) rfl) (pv 0) (pv 3) (fun _ _ => rfl)) (pe_ix (k_ixt (K := K) rfl) (pv 0) (pv 2) (fun _ _ => rfl)) (nomark _)) (pw_and1 (pt_cmpR op_ne (pe_ix (k_ixt (K := K) rfl) (pv 1) (pv 3) (fun _ _ => rfl)) (pe_ix (k_ixt (K := K) rfl) (pv 1) (pv 2) (fun _ _ => rfl)) (nomark _))))))) (fun _ _ _ _ _ => pe_int)) (pe_lst pa_nil) (nomark _)) (pss_one (ps_ret pe_bl)) pss_nil)))
      (pss_one (ps_ret pe_bl))), ?_⟩
    refine ⟨_, rfl, a, _, rfl, .inr hp.seq, _, rfl, ?_⟩
    rw [List.length_map]
    refine ⟨by omega, by omega, for_range (lo := 0) (n := (((p.length : Nat) : Int)).toNat)
      (fun i σ H1 => ∃ y2, σ = [some (.ref a), some (.ref b), y2, none] ∧ Same H H1 ∧ ∀ t, t < i → ∀ s, s < t → Gd p r s t) ⟨none, rfl, fun _ _ e => e, fun t ht => absurd ht (Nat.not_lt_zero _)⟩ ?_ ?_⟩
    · rintro i σ H1 hi ⟨y2, rfl, sm, hG⟩
      have hip : i < p.length := by omega
      obtain ⟨x, hx⟩ : ∃ x, p[i]? = some x := ⟨_, List.getElem?_eq_getElem hip⟩
      obtain ⟨y, hy⟩ : ∃ y, r[i]? = some y := ⟨_, List.getElem?_eq_getElem (by omega)⟩
      refine ⟨_, rfl, _, rfl, by omega, by omega, fun L nL => ?_⟩
      refine lc_range (fun j H2 => Same H1 H2 ∧ ∃ k, H2 L = some (.lst ((List.replicate k (1 : Int)).map V.int)) ∧ k ≤ j ∧ (k = 0 ↔ ∀ s, s < j → Gd p r s i)) ⟨same_new nL, 0, upd_same, Nat.le_refl _, ?_⟩ ?_ ?_
      · exact ⟨fun _ s hs => absurd hs (Nat.not_lt_zero _), fun _ => rfl⟩
      · rintro j H2 hj ⟨s2, k, eL, kj, hk⟩
        have hji : j < i := by omega
        obtain ⟨u, hu⟩ : ∃ u, p[j]? = some u := ⟨_, List.getElem?_eq_getElem (by omega)⟩
        obtain ⟨v, hv⟩ : ∃ v, r[j]? = some v := ⟨_, List.getElem?_eq_getElem (by omega)⟩
        refine ⟨rfl, _, rfl, _, rfl, a, _, _, .int u, rfl, rfl, (hp.mono (sm.trans s2)).seq, atI_of (j := j) (by omega) (at_map hu), ?_⟩
        refine ⟨_, rfl, _, rfl, a, _, _, .int x, rfl, rfl, (hp.mono (sm.trans s2)).seq, atI_of (j := i) (by omega) (at_map hx), rfl, ?_⟩
        refine ⟨_, rfl, ?_⟩
        have keep : (Gd p r j i) → ∃ k, H2 L = some (.lst ((List.replicate k (1 : Int)).map V.int)) ∧ k ≤ j + 1 ∧ (k = 0 ↔ ∀ s, s < j + 1 → Gd p r s i) := by
          intro hg
          refine ⟨k, eL, by omega, hk.trans ⟨fun q s hs => ?_, fun q s hs => q s (by omega)⟩⟩
          by_cases e : s = j
          · rw [e]
            exact hg
          · exact q s (by omega)
        by_cases e : u = x
        · subst e
          rw [decide_eq_true rfl]
          refine ⟨_, rfl, _, rfl, b, _, _, .int v, rfl, rfl, (hb.mono (sm.trans s2)).seq, atI_of (j := j) (by omega) (at_map hv), _, rfl, _, rfl, b, _, _, .int y, rfl, rfl, (hb.mono (sm.trans s2)).seq, atI_of (j := i) (by omega) (at_map hy), rfl, _, rfl, ?_⟩
          by_cases e2 : v = y
          · subst e2
            rw [decide_eq_true rfl]
            exact ⟨s2, keep fun _ => by rw [hv, hy]⟩
          · rw [decide_eq_false (fun q => e2 (V.int.inj q))]
            refine ⟨_, eL, ?_, same_mut s2 nL, k + 1, ?_, by omega, fun q => by omega, fun q => ?_⟩
            · rw [List.length_map, List.length_replicate]
              exact small_of (by omega)
            · rw [upd_same, List.replicate_succ', List.map_append]
              rfl
            · have := q j (by omega) (by rw [hu, hx])
              rw [hv, hy] at this
              exact absurd (Option.some.inj this) e2
        · rw [decide_eq_false (fun q => e (V.int.inj q))]
          refine ⟨s2, keep fun q => ?_⟩
          rw [hu, hx] at q
          exact absurd (Option.some.inj q) e
      · rintro H2 ⟨s2, k, eL, kj, hk⟩
        refine ⟨Nat.zero_le _, fun M nM => ?_⟩
        have nML : M ≠ L := fun e => by rw [e, eL] at nM; cases nM
        refine ⟨.list ((List.replicate k (1 : Int)).map PyData.int), .list [], .lst (sqL (by rw [upd_ne nML.symm]; exact eL)) (dpAll_ints _), .lst (sqL (xs := []) upd_same) .nil, shaped_ints _, rfl, _, rfl, ?_⟩
        rw [eqv_nil]
        have s5 : Same H (upd H2 M (.lst [])) := (sm.trans s2).trans (same_new nM)
        cases k with
        | zero =>
          refine ⟨some (.int (0 + (i : Nat))), rfl, s5, fun t ht s hs => ?_⟩
          by_cases e : t = i
          · rw [e]
            exact (hk.mp rfl) s (by omega)
          · exact hG t (by omega) s hs
        | succ k =>
          refine q _ false s5 ⟨fun e => absurd e (by decide), fun hf => ?_⟩
          have h2 := (finer_gd hl).mp hf
          have := hk.mpr fun s hs => h2 i hip s (by omega)
          omega
    · rintro σ H1 ⟨y2, rfl, sm, hG⟩
      refine q _ true sm ⟨fun _ => (finer_gd hl).mpr hG, fun _ => rfl⟩
end
end KQ
namespace KQ
open PySem PySem.Spec PyProof.Rows L2 KR KM StX
section
variable {P : Program} {w : World} {K : PySem.W.Frag} {mg : Str → Option Value} {base : Heap}
/-- tuples of whole numbers, in their order -/
def Its (H : Hp) (ts : List Addr) (xss : List (List Int)) : Prop := ts.length = xss.length ∧ ∀ (i : Nat) (t : Addr), ts[i]? = some t → ∃ xs, xss[i]? = some xs ∧ TI H t xs
theorem Its.mono {H H' : Hp} {ts : List Addr} {xss : List (List Int)} (h : Its H ts xss) (s : Same H H') : Its H' ts xss := ⟨h.1, fun i t ht => let ⟨xs, a, b⟩ := h.2 i t ht; ⟨xs, a, b.mono s⟩⟩
theorem Its.put {H : Hp} {ts : List Addr} {xss : List (List Int)} {L : Addr} {xs : List V} {o : HO} (h : Its H ts xss) (e : H L = some (.lst xs)) : Its (upd H L o) ts xss := ⟨h.1, fun i t ht => by
  obtain ⟨ys, a, b⟩ := h.2 i t ht
  refine ⟨ys, a, ?_⟩
  have b' : H t = some (.tup (ys.map V.int)) := b
  show upd H L o t = _
  rw [upd_ne (fun q => by rw [q, e] at b'; cases b')]
  exact b'⟩
theorem Its.app {H : Hp} {ts us : List Addr} {xss yss : List (List Int)} (h : Its H ts xss) (g : Its H us yss) : Its H (ts ++ us) (xss ++ yss) := by
  refine ⟨by rw [List.length_append, List.length_append, h.1, g.1], fun i t ht => ?_⟩
  by_cases hi : i < ts.length
  · rw [List.getElem?_append_left hi] at ht
    obtain ⟨xs, a, b⟩ := h.2 i t ht
    exact ⟨xs, by rw [List.getElem?_append_left (by rw [← h.1]; exact hi)]; exact a, b⟩
  · rw [List.getElem?_append_right (by omega)] at ht
    obtain ⟨xs, a, b⟩ := g.2 _ t ht
    refine ⟨xs, ?_, b⟩
    rw [List.getElem?_append_right (by rw [← h.1]; omega), ← h.1]
    exact a
theorem Its.nil {H : Hp} : Its H [] [] := ⟨rfl, fun i t ht => by simp at ht⟩
theorem Its.one {H : Hp} {t : Addr} {xs : List Int} (h : TI H t xs) : Its H [t] [xs] := ⟨rfl, fun i u hu => by
  match i, hu with
  | 0, hu =>
    obtain rfl : t = u := Option.some.inj hu
    exact ⟨xs, rfl, h⟩
  | i + 1, hu => simp at hu⟩
theorem Its.lt {H : Hp} {l : Addr} {ts : List Addr} {xss : List (List Int)} (h : Its H ts xss) (e : H l = some (.lst (ts.map V.ref))) : LT H l xss := ⟨ts, e, h.1, h.2⟩
abbrev s__law_partings : Stmt := topS 47
theorem sc__law_partings : FnScope ["many", "rows", "turn", "longer", "row", "block"] ["many"] (defScope s__law_partings) := ⟨rfl, rfl, rfl, by decide +kernel, rfl, by decide +kernel, by decide +kernel⟩
def spLParts : Sp := fun vs H Q _ => ∃ n : Nat, vs = [.int ((n + 1 : Nat) : Int)] ∧ n < 8 ∧ ∀ H' l, Same H H' → LT H' l (allP n) → Q (.ref l) H'
theorem ok_lparts (D : DefAt K mg "_law_partings" s__law_partings) (T : Bt mg) : Use P w K mg base "_law_partings" 1 ["many"] spLParts := by
  refine use_of D (fun f fd F => F.ok sc__law_partings (fun vs H Q E h => ?_) (fun cdv A outer s H vs Q E hr h => ?_)) (fun _ _ _ _ _ _ us hl => match us, hl with | [_], _ => rfl)
  · obtain ⟨n, rfl, _⟩ := h
    rfl
  · obtain ⟨n, rfl, hn, q⟩ := h
    refine ⟨_, (pss_cons (ps_set (i := 1) sc__law_partings.nd rfl (Or.inl rfl) (pe_lst (pa_cons (pe_tup (pa_cons pe_int pa_nil)) pa_nil)))
      (pss_cons (ps_for PassesOwn.never rfl (pi_range1 (by rfl) T.range (pa_cons (pe_op op_sub (pv 0) pe_int) pa_nil)) (pg_name (i := 2) sc__law_partings.nd rfl (Or.inl rfl))
      (pss_cons (ps_set (i := 3) sc__law_partings.nd rfl (Or.inl rfl) (pe_lst pa_nil))
      (pss_cons (ps_for PassesOwn.never rfl (k_list (K := K) rfl (pv 1)) (pg_name (i := 4) sc__law_partings.nd rfl (Or.inr rfl))
      (pss_one (ps_expr (k_bm (K := K) rfl PySem.F.plainAttrs_list PySem.F.slot_list_extend PySem.F.type_list_extend mt_extend (pv 3) (pa_cons (pe_lc (own := [("block", 5)]) rfl sc__law_partings.nd (pi_range1 (by rfl) T.range (pa_cons (pe_op op_add (pe_callB (k_maxT (K := K) rfl rfl hr.units) (by rfl) T.max (by decide +kernel) (pa_cons (pv 4) pa_nil)) pe_int) pa_nil)) (blkOk_by (N := ["many", "rows", "turn", "longer", "row", "block"]) (sc := defScope s__law_partings) (by decide +kernel)) (fun _ _ _ _ _ => (pg_name (i := 5) sc__law_partings.nd rfl (Or.inl rfl))) (fun _ _ _ _ _ => pts_nil) (fun _ _ _ _ _ => (pe_op (k_catT (K := K) rfl) (pv 4) (pe_tup (pa_cons (pv 5) pa_nil))))) pa_nil)))))
      (pss_one (ps_set (i := 1) sc__law_partings.nd rfl (Or.inl rfl) (pv 3))))))
      (pss_one (ps_ret (pv 1))))), ?_⟩
    refine ⟨by show 1 ≤ sizeLine; decide, fun t0 n0 => ⟨by show 1 ≤ sizeLine; decide, fun l0 nl0 => ?_⟩⟩
    have nt0 : t0 ≠ l0 := fun e => by rw [← e, upd_same] at nl0; cases nl0
    have s0 : Same H (upd (upd H t0 (.tup [.int 0])) l0 (.lst [.ref t0])) := (same_new n0).trans (same_new nl0)
    refine ⟨_, rfl, _, _, rfl, rfl, _, rfl, by omega, by omega, for_range (lo := 0) (n := (((n + 1 : Nat) : Int) - 1).toNat)
      (fun i σ H1 => ∃ l y2 y3 y4, σ = [some (.int ((n + 1 : Nat) : Int)), some (.ref l), y2, y3, y4, none] ∧ Same H H1 ∧ ∃ ts, H1 l = some (.lst (ts.map V.ref)) ∧ Its H1 ts (allP i))
      ⟨l0, none, none, none, rfl, s0, [t0], upd_same, Its.one ?_⟩ ?_ ?_⟩
    · show upd _ l0 _ t0 = _
      rw [upd_ne nt0, upd_same]
      rfl
    · rintro i σ H1 hi ⟨l, y2, y3, y4, rfl, sm, ts, el, it⟩
      have hi8 : i + 1 < 8 := by omega
      have cnt := allP_count ⟨i + 1, hi8⟩
      have e9 : ((allP i).flatMap ext).length ≤ 4140 := cnt
      refine ⟨Nat.zero_le _, fun L nL => ⟨_, rfl, l, rfl, ⟨_, sqL (same_new nL _ _ el)⟩, for_list (K := K) (a := l) (xs := ts.map V.ref)
        (fun k σ H2 => ∃ y4, σ = [some (.int ((n + 1 : Nat) : Int)), some (.ref l), some (.int (0 + (i : Nat))), some (.ref L), y4, none] ∧ Same H1 H2 ∧ ∃ us, H2 L = some (.lst (us.map V.ref)) ∧ Its H2 us (((allP i).take k).flatMap ext))
        ⟨y4, rfl, same_new nL, [], upd_same, Its.nil⟩ (fun k σ H2 _ ⟨_, _, s2, _⟩ => sqL (s2 _ _ el)) ?_ ?_⟩⟩
      · rintro k v σ H2 hk ⟨y4, rfl, s2, us, eL, iu⟩
        obtain ⟨t, ht, rfl⟩ := map_at hk
        obtain ⟨row, hrow, et⟩ := it.2 k t ht
        obtain ⟨rg, rl⟩ := allP_ok i row (List.mem_of_getElem? hrow)
        have et2 : TI H2 t row := et.mono s2
        have rne : row ≠ [] := fun e => by rw [e] at rl; cases rl
        have rpar : Par row := ⟨rne, by omega, rg⟩
        have b0 := bc_ge 0 row
        have b1 := bc_le 0 row
        refine ⟨_, rfl, .inl ⟨rfl, _, .inl (.inl eL)⟩, ?_⟩
        refine ⟨_, rfl, t, row, rfl, et2.seq, rne, fun m hm hle => ?_⟩
        have em := par_max rpar hm hle
        refine ⟨_, _, rfl, rfl, (m + 2 : Int), rfl, by omega, by omega, fun C nC => ?_⟩
        have en : (m + 2).toNat = (bc 0 row + 1).toNat := by omega
        have fl := flat_le ext hrow
        rw [ext_len] at fl
        refine lc_range (fun j H3 => Same H2 H3 ∧ ∃ cs, H3 C = some (.lst (cs.map V.ref)) ∧ Its H3 cs ((ext row).take j)) ⟨same_new nC, [], upd_same, Its.nil⟩ ?_ ?_
        · rintro j H3 hj ⟨s3, cs, eC, ic⟩
          have hj2 : j < (bc 0 row + 1).toNat := by omega
          have et3 : TI H3 t row := et2.mono s3
          refine ⟨rfl, _, rfl, _, rfl, by show 1 ≤ sizeLine; decide, fun c nc => ?_⟩
          have et4 : TI (upd H3 c (.tup [.int (0 + (j : Nat))])) t row := et3.mono (same_new nc)
          refine ⟨t, c, _, _, rfl, rfl, et4.seq, .inl (.inl upd_same), ?_, ?_, fun e => (by cases e), fun _ d nd => ?_⟩
          · intro e
            exact rne (List.map_eq_nil_iff.mp e)
          · rw [List.length_map]
            exact Nat.le_of_lt (small_of (by show row.length + 1 ≤ _; omega))
          · have ncC : c ≠ C := fun e => by rw [e, eC] at nc; cases nc
            have eC4 : upd H3 c (.tup [.int (0 + (j : Nat))]) C = some (.lst (cs.map V.ref)) := by rw [upd_ne ncC.symm]; exact eC
            have ndC : d ≠ C := fun e => by rw [e, eC4] at nd; cases nd
            have s34 : Same H3 (upd (upd H3 c (.tup [.int (0 + (j : Nat))])) d (.tup (row.map V.int ++ [.int (0 + (j : Nat))]))) := (same_new nc).trans (same_new nd)
            have lc' := ic.1
            rw [List.length_take, ext_len] at lc'
            refine ⟨_, s34 _ _ eC, ?_, same_mut (s3.trans s34) nC, cs ++ [d], ?_, ?_⟩
            · rw [List.length_map]
              exact small_of (by omega)
            · rw [upd_same, List.map_append]
              rfl
            · rw [ext_take hj2]
              refine Its.app ((ic.mono s34).put (s34 _ _ eC)) (Its.one ?_)
              show upd _ C _ d = _
              rw [upd_ne ndC, upd_same, List.map_append, show (0 : Int) + (j : Nat) = (j : Nat) by omega]
              rfl
        · rintro H3 ⟨s3, cs, eC, ic⟩
          rw [show (ext row).take (m + 2).toNat = ext row from List.take_of_length_le (by rw [ext_len]; omega)] at ic
          have l1 := ic.1
          have l2 := iu.1
          rw [ext_len] at l1
          have eL3 := s3 _ _ eL
          have nCL : C ≠ L := fun e => by rw [e, eL] at nC; cases nC
          refine ⟨L, C, _, _, rfl, rfl, eL3, eC, ?_, some (.ref t), rfl, same_mut (s2.trans s3) nL, us ++ cs, ?_, ?_⟩
          · rw [List.length_map, List.length_map]
            exact Nat.le_of_lt (small_of (by omega))
          · rw [upd_same, List.map_append]
          · rw [flat_take ext hrow]
            exact ((iu.mono s3).put eL3).app (ic.put eL3)
      · rintro σ H2 ⟨y4, rfl, s2, us, eL, iu⟩
        refine ⟨_, rfl, L, some (.int (0 + (i : Nat))), some (.ref L), y4, rfl, sm.trans s2, us, eL, ?_⟩
        rw [List.length_map, it.1, List.take_length] at iu
        exact iu
    · rintro σ H1 ⟨l, y2, y3, y4, rfl, sm, ts, el, it⟩
      have e : (((n + 1 : Nat) : Int) - 1).toNat = n := by omega
      rw [e] at it
      exact ⟨_, rfl, q H1 l sm (it.lt el)⟩
end
end KQ
namespace KQ
open PySem PySem.Spec PyProof.Rows L2 KR KM StX
section
variable {P : Program} {w : World} {K : PySem.W.Frag} {mg : Str → Option Value} {base : Heap}
abbrev s__law_hung : Stmt := topS 49
theorem sc__law_hung : FnScope ["parting", "other", "shift", "closing", "labels", "at", "one", "two", "label"] ["parting", "other"] (defScope s__law_hung) := ⟨rfl, rfl, rfl, by decide +kernel, rfl, by decide +kernel, by decide +kernel⟩
def LabOf (L : List Int) (x : Nat) : Int := L.getD x 0
def spHung : Sp := fun vs H Q _ => ∃ a b p r, vs = [.ref a, .ref b] ∧ TI H a p ∧ TI H b r ∧ Par p ∧ Par r ∧ p.length = r.length ∧
  ∀ H' t l cl (ls : List Int), Same H H' → H' t = some (.tup [.ref l, cl]) → H' l = some (.lst (ls.map V.int)) → ls.length = (bc 0 p + bc 0 r).toNat →
    (∀ x y, x < ls.length → y < ls.length → (LabOf ls x = LabOf ls y ↔ glue (tiesOf p r) x y)) → Q (.ref t) H'
theorem ok_hung (D : DefAt K mg "_law_hung" s__law_hung) (T : Bt mg) : Use P w K mg base "_law_hung" 1 ["parting", "other"] spHung := by
  refine use_of D (fun f fd F => F.ok sc__law_hung (fun vs H Q E h => ?_) (fun cdv A outer s H vs Q E hr h => ?_)) (fun _ _ _ _ _ _ us hl => match us, hl with | [_, _], _ => rfl)
  · obtain ⟨a, b, p, r, rfl, _⟩ := h
    rfl
  · obtain ⟨a, b, p, r, rfl, hp, hb, par, parb, hl, q⟩ := h
    refine ⟨_, (pss_cons (ps_par (i := 2) (j := 3) rfl sc__law_hung.nd rfl rfl (by decide) rfl rfl (pa_cons (pe_op op_add (pe_callB (k_maxT (K := K) rfl rfl hr.units) (by rfl) T.max (by decide +kernel) (pa_cons (pv 0) pa_nil)) pe_int) (pa_cons pe_non pa_nil)) (by rfl))
      (pss_cons (ps_set (i := 4) sc__law_hung.nd rfl (Or.inl rfl) (pe_listRg rfl (by rfl) T.list (prg_1 (by rfl) T.range (pe_op op_add (pe_op op_add (pv 2) (pe_callB (k_maxT (K := K) rfl rfl hr.units) (by rfl) T.max (by decide +kernel) (pa_cons (pv 1) pa_nil))) pe_int))))
      (pss_cons (ps_for PassesOwn.never rfl (pi_range1 (by rfl) T.range (pa_cons (pe_callB (k_len (K := K) rfl) (by rfl) T.len PySem.boot_len (pa_cons (pv 0) pa_nil)) pa_nil)) (pg_name (i := 5) sc__law_hung.nd rfl (Or.inl rfl))
      (pss_cons (ps_asg (pe_tup (pa_cons (pe_ix (k_ixl (K := K) rfl) (pv 4) (pe_ix (k_ixt (K := K) rfl) (pv 0) (pv 5) (fun _ _ => rfl)) (fun _ _ => rfl)) (pa_cons (pe_ix (k_ixl (K := K) rfl) (pv 4) (pe_op op_add (pv 2) (pe_ix (k_ixt (K := K) rfl) (pv 1) (pv 5) (fun _ _ => rfl))) (fun _ _ => rfl)) pa_nil))) (pg_tup rfl (pgs_cons (pg_name (i := 6) sc__law_hung.nd rfl (Or.inr rfl)) (pgs_cons (pg_name (i := 7) sc__law_hung.nd rfl (Or.inr rfl)) pgs_nil))))
      (pss_cons (ps_if (PW.pt (pw_and (pt_cmpR op_eq (pv 6) (pv 7) (nomark _)) (pw_and1 (pt_cmpR op_isN (pv 3) pe_non (nomark _))))) (pss_one (ps_set (i := 3) sc__law_hung.nd rfl (Or.inl rfl) (pv 5))) pss_nil)
      (pss_one (ps_if (pt_cmpR op_ne (pv 6) (pv 7) (nomark _)) (pss_one (ps_setLc (i := 4) (own := [("label", 8)]) rfl sc__law_hung.nd rfl rfl (sw_true rfl rfl rfl (by decide +kernel)) (k_list (K := K) rfl (pv 4)) (blkOk_by (N := ["parting", "other", "shift", "closing", "labels", "at", "one", "two", "label"]) (sc := defScope s__law_hung) (by decide +kernel)) (fun _ _ _ _ _ => (pg_name (i := 8) sc__law_hung.nd rfl (Or.inl rfl))) (fun _ _ _ _ _ => pts_nil) (fun _ _ _ _ _ => (pe_ifExp (pt_cmpR op_eq (pv 8) (pv 7) (nomark _)) (pv 6) (pv 8))))) pss_nil)))))
      (pss_one (ps_ret (pe_tup (pa_cons (pv 4) (pa_cons (pv 3) pa_nil)))))))), ?_⟩
    have g0 := bc_ge 0 p
    have g1 := bc_le 0 p
    have g2 := par.le
    have g3 := bc_ge 0 r
    have g4 := bc_le 0 r
    have g5 := parb.le
    refine ⟨_, rfl, a, p, rfl, hp.seq, par.ne, fun mx hm hle => ⟨_, _, rfl, rfl, ?_⟩⟩
    have em := par_max par hm hle
    refine ⟨_, _, rfl, ?_⟩
    refine ⟨_, rfl, _, rfl, b, r, rfl, hb.seq, parb.ne, fun my hm2 hle2 => ⟨_, _, rfl, rfl, _, _, rfl, rfl, _, rfl, ?_⟩⟩
    have em2 := par_max parb hm2 hle2
    refine ⟨RgOk.of_le (by omega) (by omega) (by omega) (by omega), fun l0 nl0 => ?_⟩
    rw [show mx + 1 + my + 1 = (((bc 0 p + bc 0 r).toNat : Nat) : Int) by omega, rgV_hv]
    have s0 : Same H (upd H l0 (.lst (hv (List.range (bc 0 p + bc 0 r).toNat)))) := same_new nl0
    have N1 : (bc 0 p + bc 0 r).toNat ≤ 120 := by omega
    refine ⟨_, rfl, a, _, rfl, .inr (hp.mono s0).seq, _, rfl, ?_⟩
    rw [List.length_map]
    refine ⟨by omega, by omega, for_range (lo := 0) (n := (((p.length : Nat) : Int)).toNat)
      (fun i σ H1 => ∃ cl l y5 y6 y7, σ = [some (.ref a), some (.ref b), some (.int (mx + 1)), some cl, some (.ref l), y5, y6, y7, none] ∧ Same H H1 ∧ (cl = .non ∨ ∃ n, cl = .int n) ∧ ∃ ls : List Int, H1 l = some (.lst (ls.map V.int)) ∧ ls.length = (bc 0 p + bc 0 r).toNat ∧
        ∀ x y, x < ls.length → y < ls.length → (LabOf ls x = LabOf ls y ↔ glue ((tiesOf p r).take i) x y))
      ⟨.non, l0, none, none, none, rfl, s0, .inl rfl, (List.range (bc 0 p + bc 0 r).toNat).map fun n => ((n : Nat) : Int), ?_, ?_, ?_⟩ ?_ ?_⟩
    · rw [upd_same]
      unfold hv
      rw [List.map_map]
      rfl
    · rw [List.length_map, List.length_range]
    · intro x y hx hy
      rw [List.length_map, List.length_range] at hx hy
      unfold LabOf
      rw [List.getD_eq_getElem?_getD, List.getD_eq_getElem?_getD, at_map (List.getElem?_range hx), at_map (List.getElem?_range hy)]
      show ((x : Nat) : Int) = ((y : Nat) : Int) ↔ x = y
      omega
    · rintro i σ H1 hi ⟨cl, l, y5, y6, y7, rfl, sm, hcl, ls, el, lln, hgl⟩
      have hip : i < p.length := by omega
      obtain ⟨x, hx⟩ : ∃ x, p[i]? = some x := ⟨_, List.getElem?_eq_getElem hip⟩
      obtain ⟨y, hy⟩ : ∃ y, r[i]? = some y := ⟨_, List.getElem?_eq_getElem (by omega)⟩
      obtain ⟨x0, x1⟩ := (rg_mem 0 p (Int.le_refl _) par.rg).1 x (List.mem_of_getElem? hx)
      obtain ⟨y0, y1⟩ := (rg_mem 0 r (Int.le_refl _) parb.rg).1 y (List.mem_of_getElem? hy)
      obtain ⟨u, hu⟩ : ∃ u, ls[x.toNat]? = some u := ⟨_, List.getElem?_eq_getElem (by omega)⟩
      obtain ⟨v, hv'⟩ : ∃ v, ls[(bc 0 p + y).toNat]? = some v := ⟨_, List.getElem?_eq_getElem (by omega)⟩
      refine ⟨_, rfl, _, rfl, _, rfl, a, _, _, .int x, rfl, rfl, (hp.mono sm).seq, atI_of (j := i) (by omega) (at_map hx), l, _, _, .int u, rfl, rfl, sqL el, atI_of (j := x.toNat) (by omega) (at_map hu), ?_⟩
      refine ⟨_, rfl, _, rfl, _, rfl, _, rfl, b, _, _, .int y, rfl, rfl, (hb.mono sm).seq, atI_of (j := i) (by omega) (at_map hy), _, _, rfl, rfl, l, _, mx + 1 + y, .int v, rfl, rfl, sqL el, atI_of (j := (bc 0 p + y).toNat) (by omega) (at_map hv'), ?_⟩
      refine ⟨by show 2 ≤ sizeLine; decide, fun T1 nT => ?_⟩
      refine ⟨T1, _, rfl, .inl (.inl upd_same), rfl, _, _, rfl, _, [], rfl, rfl, ?_⟩
      have s1 : Same H (upd H1 T1 (.tup [.int u, .int v])) := sm.trans (same_new nT)
      have el1 : (upd H1 T1 (.tup [.int u, .int v])) l = some (.lst (ls.map V.int)) := by rw [upd_ne (ne_of_none el nT)]; exact el
      have tie : ∀ ls' : List Int, ls'.length = ls.length → (∀ z, z < ls.length → LabOf ls' z = if LabOf ls z = v then u else LabOf ls z) →
          ∀ x y, x < ls'.length → y < ls'.length → (LabOf ls' x = LabOf ls' y ↔ glue ((tiesOf p r).take (i + 1)) x y) := by
        intro ls' hlen h' x2 y2 hx2 hy2
        rw [take_snoc (ties_at hx hy), glue_snoc]
        refine tie_labels (S := fun z => z < ls.length) (L := LabOf ls) (L' := LabOf ls') hgl ?_ ?_ (fun z hz => ?_) x2 y2 (by omega) (by omega)
        · show x.toNat < ls.length
          omega
        · show (bc 0 p + y).toNat < ls.length
          omega
        · rw [h' z hz]
          have e1 : LabOf ls (bc 0 p + y).toNat = v := by unfold LabOf; rw [List.getD_eq_getElem?_getD, hv']; rfl
          have e2 : LabOf ls x.toNat = u := by unfold LabOf; rw [List.getD_eq_getElem?_getD, hu]; rfl
          show (if LabOf ls z = v then u else LabOf ls z) = if LabOf ls z = LabOf ls (bc 0 p + y).toNat then LabOf ls x.toNat else LabOf ls z
          rw [e1, e2]
      refine ⟨_, rfl, _, rfl, rfl, _, rfl, ?_⟩
      by_cases e : u = v
      · subst e
        rw [decide_eq_true rfl]
        have same : ∀ x y, x < ls.length → y < ls.length → (LabOf ls x = LabOf ls y ↔ glue ((tiesOf p r).take (i + 1)) x y) := tie ls rfl fun z _ => by
          by_cases q' : LabOf ls z = u
          · rw [if_pos q', q']
          · rw [if_neg q']
        refine ⟨_, rfl, rfl, _, rfl, ?_⟩
        rcases hcl with rfl | ⟨n, rfl⟩
        · refine ⟨_, rfl, _, rfl, _, rfl, rfl, _, rfl, ?_⟩
          rw [decide_eq_true rfl]
          exact ⟨_, l, _, _, _, rfl, s1, .inr ⟨_, rfl⟩, ls, el1, lln, same⟩
        · refine ⟨_, rfl, _, rfl, rfl, _, rfl, ?_⟩
          rw [decide_eq_true rfl]
          exact ⟨_, l, _, _, _, rfl, s1, .inr ⟨_, rfl⟩, ls, el1, lln, same⟩
      · rw [decide_eq_false (fun q => e (V.int.inj q))]
        refine ⟨_, rfl, _, rfl, rfl, _, rfl, ?_⟩
        rw [decide_eq_false (fun q => e (V.int.inj q))]
        refine ⟨_, rfl, l, rfl, ⟨_, sqL el1⟩, fun M nM => ?_⟩
        refine lc_list (K := K) (a := l) (xs := ls.map V.int) (fun k H2 => Same (upd H1 T1 (.tup [.int u, .int v])) H2 ∧ H2 M = some (.lst (((ls.take k).map fun z => if z = v then u else z).map V.int)))
          ⟨same_new nM, upd_same⟩ (fun k H2 _ ⟨s2, _⟩ => sqL (s2 _ _ el1)) ?_ ?_
        · rintro k w2 H2 hk ⟨s2, eM⟩
          obtain ⟨z, hz, rfl⟩ := map_at hk
          have kl := (List.getElem?_eq_some_iff.mp hz).1
          have small : (((ls.take k).map fun z => if z = v then u else z).map V.int).length < sizeLine := by
            rw [List.length_map, List.length_map, List.length_take]
            exact small_of (by omega)
          refine ⟨rfl, _, rfl, _, rfl, rfl, _, rfl, ?_⟩
          by_cases e2 : z = v
          · rw [decide_eq_true (congrArg V.int e2)]
            refine ⟨_, rfl, _, eM, small, same_mut s2 nM, ?_⟩
            rw [upd_same, take_snoc hz, List.map_append, List.map_append]
            show _ = some (HO.lst (_ ++ [V.int (if z = v then u else z)]))
            rw [if_pos e2]
          · rw [decide_eq_false (fun q => e2 (V.int.inj q))]
            refine ⟨_, rfl, _, eM, small, same_mut s2 nM, ?_⟩
            rw [upd_same, take_snoc hz, List.map_append, List.map_append]
            show _ = some (HO.lst (_ ++ [V.int (if z = v then u else z)]))
            rw [if_neg e2]
        · rintro H2 ⟨s2, eM⟩
          rw [List.length_map, List.take_length] at eM
          refine ⟨_, M, _, _, _, rfl, s1.trans s2, hcl, _, eM, by rw [List.length_map]; exact lln, tie _ (by rw [List.length_map]) fun z hz => ?_⟩
          unfold LabOf
          rw [List.getD_eq_getElem?_getD, List.getD_eq_getElem?_getD, at_map (List.getElem?_eq_getElem hz), List.getElem?_eq_getElem hz]
          rfl
    · rintro σ H1 ⟨cl, l, y5, y6, y7, rfl, sm, hcl, ls, el, lln, hgl⟩
      rw [Int.toNat_natCast, ← ties_len hl, List.take_length] at hgl
      refine ⟨_, rfl, _, rfl, by show 2 ≤ sizeLine; decide, fun t nt => q _ t l cl ls (sm.trans (same_new nt)) upd_same ?_ lln hgl⟩
      rw [upd_ne (ne_of_none el nt)]
      exact el
end
end KQ
namespace KQ
open PySem PySem.Spec PyProof.Rows L2 KR KM
/-- lists of one kernel number alike -/
theorem num_congr {α β : Type} [DecidableEq α] [DecidableEq β] {xs : List α} {ys : List β} (hl : ys.length = xs.length)
    (h : ∀ (i j : Nat) (x y : α) (u v : β), xs[i]? = some x → xs[j]? = some y → ys[i]? = some u → ys[j]? = some v → (x = y ↔ u = v)) : num xs = num ys := by
  refine num_is (by rw [num_len, hl]) (num_rg ys) fun i j x y u v hi hj ui vj => ?_
  have li := (List.getElem?_eq_some_iff.mp hi).1
  have lj := (List.getElem?_eq_some_iff.mp hj).1
  have yi : ys[i]? = some _ := List.getElem?_eq_getElem (by omega)
  have yj : ys[j]? = some _ := List.getElem?_eq_getElem (by omega)
  rw [num_ker yi yj ui vj]
  exact h i j x y _ _ hi hj yi yj
/-- ties and glue -/
theorem glue_mem {t : Nat × Nat} : ∀ {ts : List (Nat × Nat)}, t ∈ ts → glue ts t.1 t.2 := by
  intro ts
  have : ∀ n (ts : List (Nat × Nat)), ts.length = n → t ∈ ts → glue ts t.1 t.2 := by
    intro n
    induction n with
    | zero => intro ts hl ht; rw [List.eq_nil_of_length_eq_zero hl] at ht; cases ht
    | succ n ih =>
      intro ts hl ht
      have hne : ts ≠ [] := fun e => by rw [e] at hl; cases hl
      rw [← List.dropLast_concat_getLast hne] at ht ⊢
      rw [glue_snoc]
      rcases List.mem_append.mp ht with ht | ht
      · exact .inl (ih _ (by rw [List.length_dropLast, hl]; rfl) ht)
      · rw [List.mem_singleton.mp ht]
        exact .inr (.inl ⟨(glue_eqv _).refl _, (glue_eqv _).refl _⟩)
  exact this _ ts rfl
theorem glue_map {φ : Nat → Nat} : ∀ (ts : List (Nat × Nat)) (R R' : Nat → Nat → Prop), (∀ x y, R' (φ x) (φ y) ↔ R x y) →
    ∀ x y, (ts.map fun t => (φ t.2, φ t.1)).foldl (fun R t => J R t.1 t.2) R' (φ x) (φ y) ↔ ts.foldl (fun R t => J R t.1 t.2) R x y
  | [], R, R', h, x, y => h x y
  | t :: ts, R, R', h, x, y => by
    refine glue_map ts (J R t.1 t.2) (J R' (φ t.2) (φ t.1)) (fun a b => ?_) x y
    unfold J
    rw [h, h, h, h, h]
    constructor
    · rintro (q | q | q)
      · exact .inl q
      · exact .inr (.inr q)
      · exact .inr (.inl q)
    · rintro (q | q | q)
      · exact .inl q
      · exact .inr (.inr q)
      · exact .inr (.inl q)
theorem zip_swap : ∀ (p r : List Int), r.zip p = (p.zip r).map fun q => (q.2, q.1)
  | [], [] => rfl
  | [], _ :: _ => rfl
  | _ :: _, [] => rfl
  | a :: p, b :: r => by
    rw [List.zip_cons_cons, List.zip_cons_cons, List.map_cons, zip_swap p r]
section
variable {p r : List Int}
theorem zip_at {i : Nat} {x y : Int} (hx : p[i]? = some x) (hy : r[i]? = some y) : (p.zip r)[i]? = some (x, y) := by
  rw [List.getElem?_zip_eq_some]
  exact ⟨hx, hy⟩
theorem tie_at {i : Nat} {x y : Int} (hx : p[i]? = some x) (hy : r[i]? = some y) : glue (tiesOf p r) x.toNat (bc 0 p + y).toNat :=
  glue_mem (t := (x.toNat, (bc 0 p + y).toNat)) (List.mem_of_getElem? (ties_at hx hy))
/-- the blocks of the one and of the other, named the other way about -/
def flip (P R x : Nat) : Nat := if x < P then R + x else if x < P + R then x - P else x
theorem flip_inj {P R x y : Nat} : flip P R x = flip P R y ↔ x = y := by
  unfold flip
  split <;> split <;> (try split) <;> (try split) <;> omega
theorem glue_flip (hp : Rg 0 p) (hr : Rg 0 r) (x y : Nat) :
    glue (tiesOf r p) (flip (bc 0 p).toNat (bc 0 r).toNat x) (flip (bc 0 p).toNat (bc 0 r).toNat y) ↔ glue (tiesOf p r) x y := by
  have e : tiesOf r p = (tiesOf p r).map fun t => (flip (bc 0 p).toNat (bc 0 r).toNat t.2, flip (bc 0 p).toNat (bc 0 r).toNat t.1) := by
    unfold tiesOf
    rw [List.map_map, zip_swap p r, List.map_map]
    refine List.map_congr_left fun q hq => ?_
    have h1 := (rg_mem 0 p (Int.le_refl _) hp).1 q.1 (List.of_mem_zip hq).1
    have h2 := (rg_mem 0 r (Int.le_refl _) hr).1 q.2 (List.of_mem_zip hq).2
    have e1 : flip (bc 0 p).toNat (bc 0 r).toNat (bc 0 p + q.2).toNat = q.2.toNat := by
      unfold flip
      rw [if_neg (by omega), if_pos (by omega)]
      omega
    have e2 : flip (bc 0 p).toNat (bc 0 r).toNat q.1.toNat = (bc 0 r + q.1).toNat := by
      unfold flip
      rw [if_pos (by omega)]
      omega
    show (q.2.toNat, (bc 0 r + q.1).toNat) = (_, _)
    rw [e1, e2]
  rw [e]
  exact glue_map (tiesOf p r) Eq Eq (fun _ _ => flip_inj) x y
/-- above of the one and the other, either way -/
theorem above_flip (hp : Rg 0 p) (hr : Rg 0 r) (hl : p.length = r.length) {L L' : Nat → Int} (h : ∀ x y, L x = L y ↔ glue (tiesOf p r) x y) (h' : ∀ x y, L' x = L' y ↔ glue (tiesOf r p) x y) :
    num (r.map fun b => L' b.toNat) = num (p.map fun b => L b.toNat) := by
  refine num_congr (by rw [List.length_map, List.length_map, hl]) fun i j x y u v hx hy hu hv => ?_
  obtain ⟨x, hx', rfl⟩ := map_at hx
  obtain ⟨y, hy', rfl⟩ := map_at hy
  obtain ⟨u, hu', rfl⟩ := map_at hu
  obtain ⟨v, hv', rfl⟩ := map_at hv
  rw [h, h']
  have a1 := (rg_mem 0 r (Int.le_refl _) hr).1 x (List.mem_of_getElem? hx')
  have a2 := (rg_mem 0 r (Int.le_refl _) hr).1 y (List.mem_of_getElem? hy')
  have f : ∀ z : Int, 0 ≤ z → z < bc 0 r → flip (bc 0 p).toNat (bc 0 r).toNat (bc 0 p + z).toNat = z.toNat := by
    intro z z0 z1
    have := bc_ge 0 p
    unfold flip
    rw [if_neg (by omega), if_pos (by omega)]
    omega
  rw [← f x a1.1 a1.2, ← f y a2.1 a2.2, glue_flip hp hr]
  have E := glue_eqv (tiesOf p r)
  have t1 := tie_at hu' hx'
  have t2 := tie_at hv' hy'
  constructor
  · intro q
    exact E.trans _ _ _ t1 (E.trans _ _ _ q (E.symm _ _ t2))
  · intro q
    exact E.trans _ _ _ (E.symm _ _ t1) (E.trans _ _ _ q t2)
/-- above by labels -/
theorem above_labels (hp : Rg 0 p) {L : Nat → Int} {ls : List Int} (hlen : bc 0 p ≤ ls.length) (h : ∀ x y, L x = L y ↔ glue (tiesOf p r) x y)
    (hg : ∀ x y, x < ls.length → y < ls.length → (LabOf ls x = LabOf ls y ↔ glue (tiesOf p r) x y)) : num (p.map fun b => LabOf ls b.toNat) = num (p.map fun b => L b.toNat) := by
  refine num_congr (by rw [List.length_map, List.length_map]) fun i j x y u v hx hy hu hv => ?_
  obtain ⟨x, hx', rfl⟩ := map_at hx
  obtain ⟨y, hy', rfl⟩ := map_at hy
  obtain ⟨u, hu', rfl⟩ := map_at hu
  obtain ⟨v, hv', rfl⟩ := map_at hv
  rw [hx'] at hu'
  rw [hy'] at hv'
  obtain rfl := Option.some.inj hu'
  obtain rfl := Option.some.inj hv'
  have a1 := (rg_mem 0 p (Int.le_refl _) hp).1 x (List.mem_of_getElem? hx')
  have a2 := (rg_mem 0 p (Int.le_refl _) hp).1 y (List.mem_of_getElem? hy')
  rw [hg x.toNat y.toNat (by omega) (by omega), h]
theorem num_at {α : Type} [DecidableEq α] {xs : List α} {i j : Nat} {x y : α} {u v : Int} (hi : xs[i]? = some x) (hj : xs[j]? = some y) (ui : (num xs)[i]? = some u) (vj : (num xs)[j]? = some v) (e : x = y) : u = v :=
  (num_ker hi hj ui vj).mpr e
theorem at_some {α : Type} {xs : List α} {i : Nat} (h : i < xs.length) : ∃ x, xs[i]? = some x := ⟨_, List.getElem?_eq_getElem h⟩
theorem finer_above1 {L : Nat → Int} : Finer p (num (p.map fun b => L b.toNat)) := by
  intro i j x y z hi hj yi zj
  exact num_at (at_map (f := fun b : Int => L b.toNat) hi) (at_map hj) yi zj rfl
theorem finer_above2 (hl : p.length = r.length) {L : Nat → Int} (h : ∀ x y, L x = L y ↔ glue (tiesOf p r) x y) : Finer r (num (p.map fun b => L b.toNat)) := by
  intro i j x y z hi hj yi zj
  have li := (List.getElem?_eq_some_iff.mp hi).1
  have lj := (List.getElem?_eq_some_iff.mp hj).1
  obtain ⟨u, hu⟩ := at_some (xs := p) (i := i) (by omega)
  obtain ⟨v, hv⟩ := at_some (xs := p) (i := j) (by omega)
  refine num_at (at_map (f := fun b : Int => L b.toNat) hu) (at_map hv) yi zj ((h _ _).mpr ?_)
  have E := glue_eqv (tiesOf p r)
  exact E.trans _ _ _ (tie_at hu hi) (E.symm _ _ (tie_at hv hj))
theorem finer_below1 (hl : p.length = r.length) : Finer (num (p.zip r)) p := by
  intro i j x y z hi hj yi zj
  have li := (List.getElem?_eq_some_iff.mp yi).1
  have lj := (List.getElem?_eq_some_iff.mp zj).1
  obtain ⟨u, hu⟩ := at_some (xs := r) (i := i) (by omega)
  obtain ⟨v, hv⟩ := at_some (xs := r) (i := j) (by omega)
  have := (num_ker (zip_at yi hu) (zip_at zj hv) hi hj).mp rfl
  exact (Prod.mk.inj this).1
theorem finer_below2 (hl : p.length = r.length) : Finer (num (p.zip r)) r := by
  intro i j x y z hi hj yi zj
  have li := (List.getElem?_eq_some_iff.mp yi).1
  have lj := (List.getElem?_eq_some_iff.mp zj).1
  obtain ⟨u, hu⟩ := at_some (xs := p) (i := i) (by omega)
  obtain ⟨v, hv⟩ := at_some (xs := p) (i := j) (by omega)
  have := (num_ker (zip_at hu yi) (zip_at hv zj) hi hj).mp rfl
  exact (Prod.mk.inj this).2
end
/-- codes of blocks -/
def Code (b v : Int) : Prop := ∃ d s : Int, 0 ≤ d ∧ (s = 1 ∨ s = -1) ∧ v = (d * 61 + b) * s
theorem code_inj {b b' v : Int} (h : Code b v) (h' : Code b' v) (b0 : 0 ≤ b) (b1 : b < 61) (c0 : 0 ≤ b') (c1 : b' < 61) : b = b' := by
  obtain ⟨d, s, d0, hs, e⟩ := h
  obtain ⟨d', s', d0', hs', e'⟩ := h'
  rcases hs with rfl | rfl <;> rcases hs' with rfl | rfl <;> omega
theorem num_codes {p xs : List Int} (hp : Rg 0 p) (p60 : p.length ≤ 60) (hl : xs.length = p.length) (h : ∀ (i : Nat) (x v : Int), p[i]? = some x → xs[i]? = some v → Code x v)
    (hf : ∀ (i j : Nat) (x u v : Int), p[i]? = some x → p[j]? = some x → xs[i]? = some u → xs[j]? = some v → u = v) : num xs = p := by
  refine num_is hl.symm hp fun i j x y u v hx hy hu hv => ⟨fun e => ?_, fun e => ?_⟩
  · have a1 := (rg_mem 0 p (Int.le_refl _) hp).1 u (List.mem_of_getElem? hu)
    have a2 := (rg_mem 0 p (Int.le_refl _) hp).1 v (List.mem_of_getElem? hv)
    have g := bc_le 0 p
    subst e
    exact code_inj (h i u x hu hx) (h j v x hv hy) a1.1 (by omega) a2.1 (by omega)
  · subst e
    exact hf i j u x y hu hv hx hy
end KQ
namespace KQ
open PySem PySem.Spec PyProof.Rows L2 KR KM StX
section
variable {P : Program} {w : World} {K : PySem.W.Frag} {mg : Str → Option Value} {base : Heap}
abbrev s_law : Stmt := topS 52
theorem sc_law : FnScope ["script", "m", "many", "first", "second", "size", "codes", "blocks", "told", "labels", "closing", "above", "below", "due", "doors", "third", "few", "block", "at"] ["script"] (defScope s_law) := ⟨rfl, rfl, rfl, by decide +kernel, rfl, by decide +kernel, by decide +kernel⟩
def scIn (k : Nat) : Scope := match (defBody s_law)[k]? with
  | some (.Assign _ (.Call _ [.ListComp _ _ sc _] _ _) _) => sc
  | _ => defScope s_law
/-- what law calls -/
structure Calls (P : Program) (w : World) (K : PySem.W.Frag) (mg : Str → Option Value) (base : Heap) : Prop where
  begun : Use P w K mg base "_law_begun" 2 ["script"] (spBegun K)
  draw : Use P w K mg base "_law_draw" 2 ["m", "limit"] spDraw
  any : Use P w K mg base "_law_any_parting" 3 ["m", "many"] spAny
  coarser : Use P w K mg base "_law_coarser" 3 ["m", "parting"] spCoarser
  parting_of : Use P w K mg base "parting_of" 2 ["blocks"] spPof
  blocks_of : Use P w K mg base "blocks_of" 5 ["parting"] spBlocks
  size_of : Use P w K mg base "size_of" 5 ["parting"] spSize
  need_parting : Use P w K mg base "need_parting" 4 ["parting"] spNeed
  like : UseG P w K mg base "_law_like" 1 ["got", "due"] (spLike K)
  is_parting : Use P w K mg base "is_parting" 4 ["value"] spIsPar
  hung : Use P w K mg base "_law_hung" 1 ["parting", "other"] spHung
  lnumL : Use P w K mg base "_law_numbered" 1 ["labels"] spNumL
  lnumP : Use P w K mg base "_law_numbered" 1 ["labels"] spNumP
  above : Use P w K mg base "finest_above" 7 ["parting", "other"] spAbove
  below : Use P w K mg base "coarsest_below" 7 ["parting", "other"] spBelow
  finer : Use P w K mg base "is_finer" 7 ["parting", "other"] spFiner
  lfiner : Use P w K mg base "_law_is_finer" 1 ["one", "two"] spLFiner
  order : Use P w K mg base "_law_order" 3 ["m", "many"] spOrder
  some_ : Use P w K mg base "parting_of_some" 5 ["parting", "doors"] spSome
  beside : Use P w K mg base "beside" 5 ["parting", "other"] spBeside
  allp : Use P w K mg base "all_partings" 3 ["number"] spPofD
  lparts : Use P w K mg base "_law_partings" 1 ["many"] spLParts
theorem dp_its {K : PySem.W.Frag} {H : Hp} : ∀ {ts : List Addr} {xss : List (List Int)}, Its H ts xss → DpAll K H (ts.map V.ref) (xss.map fun xs => PyData.tuple (xs.map PyData.int))
  | [], [], _ => .nil
  | [], _ :: _, h => by cases h.1
  | _ :: _, [], h => by cases h.1
  | t :: ts, xs :: xss, h => by
    obtain ⟨ys, e, ht⟩ := h.2 0 t rfl
    obtain rfl : xs = ys := Option.some.inj e
    exact .cons (dp_ti ht) (dp_its ⟨Nat.succ.inj h.1, fun i u hu => h.2 (i + 1) u hu⟩)
theorem ti_new {H : Hp} {a : Addr} {p : List Int} : TI (upd H a (.tup (p.map V.int))) a p := upd_same
theorem dp_tt {K : PySem.W.Frag} {H : Hp} {a : Addr} {xss : List (List Int)} (h : KQ.TT H a xss) : Dp K H (.ref a) (.tuple (xss.map fun xs => PyData.tuple (xs.map PyData.int))) := by
  obtain ⟨ts, e, h1, h2⟩ := h
  exact .tup (sqT e) (dp_its ⟨h1, h2⟩)
theorem nc_ti {p : List Int} (h : ∀ x ∈ p, 0 ≤ x ∧ x < 1024) (hl : p.length ≤ 60) : Nc 1 660 (.tuple (p.map PyData.int)) := (nc_tup (nc_ints h)).le (Nat.le_refl _) (by omega)
theorem nc_tt {xss : List (List Int)} (n : Nat) (h : ∀ xs ∈ xss, (∀ x ∈ xs, 0 ≤ x ∧ x < 1024) ∧ xs.length ≤ n) : Nc 2 ((11 * n + 1) * xss.length) (.tuple (xss.map fun xs => PyData.tuple (xs.map PyData.int))) := by
  have := nc_all (k := 1) (W := 11 * n) (ds := xss.map fun xs => PyData.tuple (xs.map PyData.int)) (fun d hd => by
    obtain ⟨xs, hx, rfl⟩ := List.mem_map.mp hd
    exact (nc_tup (nc_ints (h xs hx).1)).le (Nat.le_refl _) (Nat.mul_le_mul (Nat.le_refl _) (h xs hx).2))
  rw [List.length_map] at this
  exact nc_tup this
theorem par_small {p : List Int} (h : Rg 0 p) (hl : p.length ≤ 60) : ∀ x ∈ p, 0 ≤ x ∧ x < 1024 := fun x hx => by
  have := (rg_mem 0 p (Int.le_refl _) h).1 x hx
  have := bc_le 0 p
  omega
theorem if_test {b : Bool} {t : L2.TT} {σ : L2.St} {H : Hp} {Q : Bool → Hp → Prop} (Fact : Hp → Prop) (h1 : b = true → ∀ Q : Bool → Hp → Prop, (∀ H', Fact H' → Q false H') → t σ H Q) (h2 : Fact H)
    (k : ∀ H', Fact H' → Q false H') : if b = true then t σ H Q else Q false H := by
  split
  · exact h1 (by assumption) Q k
  · exact k H h2
theorem bool_iff {a b : Bool} {X : Prop} (h : a = true ↔ X) (g : b = true ↔ X) : a = b := Bool.eq_iff_iff.mpr (h.trans g.symm)
theorem par_zero : Par [0] := by
  have e : num [(0 : Int)] = [0] := by decide
  rw [← e]
  exact num_par (by decide) (by decide)
theorem cut_take {xs : List V} {d : Int} (h0 : 0 ≤ d) (h1 : d < xs.length) : cutV xs none (some (1 + d)) = xs.take (d.toNat + 1) := by
  unfold cutV
  show (xs.drop 0).take (HT.sIx xs.length xs.length (some (1 + d)) - 0) = _
  rw [List.drop_zero, Nat.sub_zero]
  rw [show (1 : Int) + d = ((d.toNat + 1 : Nat) : Int) by omega, HT.sIx_nat, Nat.min_eq_left (by omega)]
theorem if_fact {b : Bool} {t1 t2 : TE} {σ : L2.St} {H : Hp} {Qv : VK} (Fact : V → Hp → Prop) (h1 : ∀ Qv : VK, (∀ v H', Fact v H' → Qv v H') → t1 σ H Qv) (h2 : ∀ Qv : VK, (∀ v H', Fact v H' → Qv v H') → t2 σ H Qv)
    (k : ∀ v H', Fact v H' → Qv v H') : if b = true then t1 σ H Qv else t2 σ H Qv := by
  split
  · exact h1 _ k
  · exact h2 _ k
def spLaw (K : PySem.W.Frag) : Sp := fun vs H Q _ => ∃ (a : Addr) (ns : List Int), vs = [.ref a] ∧ SqL K H a (ns.map V.int) ∧ ns.length ≤ 63 ∧ ∀ H', Q (.bl true) H'
/-- the context of law's own lines -/
abbrev LX (P : Program) (w : World) (K : PySem.W.Frag) (mg : Str → Option Value) (base : Heap) (f : Addr) (cdv : Value) (A : Around) (outer : List Env) (s : Shared) (H : Hp) (E : XK) : Cx :=
  (cxOf CX0 P w K mg base ["script", "m", "many", "first", "second", "size", "codes", "blocks", "told", "labels", "closing", "above", "below", "due", "doors", "third", "few", "block", "at"] "law" (defScope s_law) f cdv A outer s H E).nox
end
end KQ
namespace KQ
open PySem PySem.Spec PyProof.Rows L2 KR KM StX
section
variable {P : Program} {w : World} {K : PySem.W.Frag} {mg : Str → Option Value} {base : Heap} {f : Addr} {cdv : Value} {A : Around} {outer : List Env} {s : Shared} {H0 : Hp} {E : XK}
theorem law4 (T : Bt mg) (C : Calls P w K mg base) (gd : (A.deeper (envOfC "law" (defScope s_law) s.heap.objs.size f cdv)).guards = some []) (hr : Room 7 (A.deeper (envOfC "law" (defScope s_law) s.heap.objs.size f cdv))) :
    ∃ t, PSs (LX P w K mg base f cdv A outer s H0 E) ((defBody s_law).drop 20) t ∧ ∀ (D : Ends) (σ : L2.St) (H : Hp), (∃ (m c g fa : Addr) (many size : Int) (p : List Int) (y0 y4 y6 y7 y8 y9 y10 y11 y12 y13 y14 y15 y16 y17 y18 : Option V), σ = [y0, some (.ref m), some (.int many), some (.ref fa), y4, some (.int size), y6, y7, y8, y9, y10, y11, y12, y13, y14, y15, y16, y17, y18] ∧ MS H m c g 800 ∧ TI H fa p ∧ Par p ∧ (p.length : Int) = many ∧ size = bc 0 p ∧ ∀ H', D.rt (.bl true) H') → t D σ H := by
  have u__law_begun := C.begun
  have u__law_draw := C.draw
  have u__law_any_parting := C.any
  have u__law_coarser := C.coarser
  have u_parting_of := C.parting_of
  have u_blocks_of := C.blocks_of
  have u_size_of := C.size_of
  have u_need_parting := C.need_parting
  have u__law_like := C.like
  have u_is_parting := C.is_parting
  have u__law_hung := C.hung
  have u__law_numbered := C.lnumL
  have u_lnumP := C.lnumP
  have u_finest_above := C.above
  have u_coarsest_below := C.below
  have u_is_finer := C.finer
  have u__law_is_finer := C.lfiner
  have u__law_order := C.order
  have u_parting_of_some := C.some_
  have u_beside := C.beside
  have u_all_partings := C.allp
  have u__law_partings := C.lparts
  refine ⟨_, (pss_cons (ps_set (i := 15) sc_law.nd rfl (Or.inl rfl) (pe_ifExp (pt_cmpR op_lt (pv 2) pe_int (nomark _)) (pe_use u__law_any_parting (by decide) hr (by rfl) (pa_cons (pv 1) (pa_cons (pe_op op_add pe_int (pe_use u__law_draw (by decide) hr (by rfl) (pa_cons (pv 1) (pa_cons (pe_op op_sub pe_int (pv 2)) pa_nil)))) pa_nil))) (pe_tup (pa_cons pe_int pa_nil))))
      (pss_cons (ps_set (i := 13) sc_law.nd rfl (Or.inl rfl) (pe_op (k_catT (K := K) rfl) (pv 3) (pe_callTy (k_tupOf (K := K) rfl) (by rfl) T.tuple (by decide +kernel) (pa_cons (pe_lc (own := [("block", 17)]) rfl sc_law.nd (k_tup (K := K) rfl (pv 15)) (blkOk_by (N := ["script", "m", "many", "first", "second", "size", "codes", "blocks", "told", "labels", "closing", "above", "below", "due", "doors", "third", "few", "block", "at"]) (sc := defScope s_law) (by decide +kernel)) (fun _ _ _ _ _ => (pg_name (i := 17) sc_law.nd rfl (Or.inl rfl))) (fun _ _ _ _ _ => pts_nil) (fun _ _ _ _ _ => (pe_op op_add (pv 5) (pv 17)))) pa_nil))))
      (pss_cons (ps_if (PW.pt (pw_and (pt_cmpR op_le (pe_callB (k_len (K := K) rfl) (by rfl) T.len PySem.boot_len (pa_cons (pv 13) pa_nil)) pe_int (nomark _)) (pw_and1 (pt_not (pt_val (pe_useG u__law_like gd (by decide) hr (by rfl) (pa_cons (pe_use u_beside (by decide) hr (by rfl) (pa_cons (pv 3) (pa_cons (pv 15) pa_nil))) (pa_cons (pv 13) pa_nil)))))))) (pss_one (ps_ret pe_bl)) pss_nil)
      (pss_cons (ps_set (i := 16) sc_law.nd rfl (Or.inl rfl) (pe_op op_add pe_int (pe_use u__law_draw (by decide) hr (by rfl) (pa_cons (pv 1) (pa_cons pe_int pa_nil)))))
      (pss_one (ps_ret (pe_useG u__law_like gd (by decide) hr (by rfl) (pa_cons (pe_use u_all_partings (by decide) hr (by rfl) (pa_cons (pv 16) pa_nil)) (pa_cons (pe_callTy (k_tupOf (K := K) rfl) (by rfl) T.tuple (by decide +kernel) (pa_cons (pe_use u__law_partings (by decide) hr (by rfl) (pa_cons (pv 16) pa_nil)) pa_nil)) pa_nil))))))))), ?_⟩
  rintro D σ H ⟨m, c, g, fa, many, size, p, y0, y4, y6, y7, y8, y9, y10, y11, y12, y13, y14, y15, y16, y17, y18, rfl, ms, hp, par, lp, es, q⟩
  have g0 := bc_ge 0 p
  have g1 := bc_le 0 p
  have g2 := par.le
  have many2 : many ≤ 60 := by omega
  have many1 : 1 ≤ many := by
    have := List.length_pos_iff.mpr par.ne
    omega
  refine ⟨_, rfl, _, _, rfl, rfl, _, rfl, ?_⟩
  refine if_fact (fun v H' => ∃ t r, v = .ref t ∧ Kept H H' m g ∧ MS H' m c g 900 ∧ TI H' t r ∧ Par r) ?_ ?_ ?_
  · intro Qv h
    refine ⟨_, rfl, _, rfl, _, rfl, _, _, rfl, rfl, m, c, g, _, _, rfl, ms, by decide, by omega, by omega, fun H1 d k1 ms1 d0 d1 => ⟨_, _, rfl, rfl, ?_⟩⟩
    exact ⟨m, c, g, _, _, rfl, ms1, by decide, by omega, by omega, fun H2 t r k2 ms2 ht parr lr => h _ _ ⟨t, r, rfl, k1.trans k2, ms2.le (by omega), ht, parr⟩⟩
  · intro Qv h
    exact ⟨by show 1 ≤ sizeLine; decide, fun t nt => h _ _ ⟨t, [0], rfl, Kept.of (same_new nt), (ms.mono (same_new nt)).le (by decide), ti_new (p := [0]), par_zero⟩⟩
  rintro v H1 ⟨ta, r, rfl, k1, ms1, ht, parr⟩
  have hp1 := k1.ti ms hp
  have g3 := parr.le
  refine ⟨_, rfl, _, rfl, ta, rfl, ⟨_, ht.seq⟩, fun N nN => ?_⟩
  refine lc_tup (K := K) (a := ta) (xs := r.map V.int) (fun k H2 => Same H1 H2 ∧ H2 N = some (.lst (((r.take k).map fun b : Int => size + b).map V.int)))
    ⟨same_new nN, upd_same⟩ (fun k H2 _ ⟨s2, _⟩ => (ht.mono s2).seq) ?_ ?_
  · rintro k v H2 hk ⟨s2, eN⟩
    obtain ⟨x, hx, rfl⟩ := map_at hk
    refine ⟨rfl, _, rfl, _, rfl, _, _, rfl, rfl, _, eN, ?_, same_mut s2 nN, ?_⟩
    · rw [List.length_map, List.length_map, List.length_take]
      exact small_of (by omega)
    · rw [upd_same, take_snoc hx, List.map_append, List.map_append]
      rfl
  rintro H2 ⟨s2, eN⟩
  rw [List.length_map, List.take_length] at eN
  refine ⟨N, _, rfl, .inl ⟨.inl (.inl eN), fun ct nct => ?_⟩⟩
  have sct := same_new (o := .tup ((r.map fun b : Int => size + b).map V.int)) nct
  have hp3 := (hp1.mono s2).mono sct
  refine ⟨fa, ct, _, _, rfl, rfl, hp3.seq, .inl (.inl upd_same), ?_, ?_, ?_, fun _ dt ndt => ?_⟩
  · intro e
    exact par.ne (List.map_eq_nil_iff.mp e)
  · rw [List.length_map, List.length_map, List.length_map]
    exact Nat.le_of_lt (small_of (by omega))
  · intro e
    exact absurd (List.map_eq_nil_iff.mp (List.map_eq_nil_iff.mp e)) parr.ne
  have edt : TI (upd (upd H2 ct (.tup ((r.map fun b : Int => size + b).map V.int))) dt (.tup (p.map V.int ++ (r.map fun b : Int => size + b).map V.int))) dt (besideP p r) := by
    show upd _ dt _ dt = _
    rw [upd_same]
    unfold besideP
    rw [List.map_append, es]
  have s14 : Same H1 (upd (upd H2 ct (.tup ((r.map fun b : Int => size + b).map V.int))) dt (.tup (p.map V.int ++ (r.map fun b : Int => size + b).map V.int))) := (s2.trans sct).trans (same_new ndt)
  generalize upd (upd H2 ct (.tup ((r.map fun b : Int => size + b).map V.int))) dt (.tup (p.map V.int ++ (r.map fun b : Int => size + b).map V.int)) = H4 at edt s14
  have hp4 := hp1.mono s14
  have ht4 := ht.mono s14
  have ms4 := ms1.mono s14
  clear hp3 sct eN s2 s14 hp1 ht ms1
  have lb : (besideP p r).length = p.length + r.length := by
    unfold besideP
    rw [List.length_append, List.length_map]
  refine ⟨_, rfl, dt, _, rfl, .inr edt.seq, _, _, rfl, rfl, _, rfl, ?_⟩
  refine if_test (fun H' => MS H' m c g 900) ?_ ms4 ?_
  · intro hle Q k
    have hle2 : p.length + r.length ≤ 60 := by
      have := of_decide_eq_true hle
      rw [List.length_map, lb] at this
      omega
    refine ⟨_, rfl, _, rfl, fa, ta, p, r, rfl, hp4, ht4, par, parr, hle2, fun H5 bt s5 hbt => ?_⟩
    have nc : Nc 1 660 (.tuple ((besideP p r).map PyData.int)) := by
      refine nc_ti (fun x hx => ?_) (by omega)
      unfold besideP at hx
      rcases List.mem_append.mp hx with hx | hx
      · exact par_small par.rg par.le x hx
      · obtain ⟨y, hy, rfl⟩ := List.mem_map.mp hx
        have a1 := (rg_mem 0 r (Int.le_refl _) parr.rg).1 y hy
        have a2 := bc_le 0 r
        omega
    exact ⟨_, rfl, .ref bt, .ref dt, _, rfl, dp_ti hbt, dp_ti (edt.mono s5), rfl, nc.le (by decide) (by decide), true, rfl, k _ (ms4.mono s5)⟩
  intro H5 ms5
  clear hp4 ht4 ms4 edt k1
  refine ⟨_, rfl, m, c, g, _, 8, rfl, ms5, by decide, by decide, by decide, fun H6 d k6 ms6 d0 d1 => ⟨_, _, rfl, rfl, ?_⟩⟩
  have hn : d.toNat < 8 := by omega
  have en : (1 : Int) + d = ((d.toNat + 1 : Nat) : Int) := by omega
  refine ⟨_, rfl, d.toNat, congrArg (fun z => [V.int z]) en, hn, fun H7 t1 s7 ht1 => ?_⟩
  refine ⟨_, rfl, d.toNat, congrArg (fun z => [V.int z]) en, hn, fun H8 l s8 hl => ?_⟩
  obtain ⟨ts, el, l1, l2⟩ := hl
  refine ⟨l, _, rfl, .inl ⟨.inl (.inl el), fun t2 nt2 => ?_⟩⟩
  have ht2 : KQ.TT (upd H8 t2 (.tup (ts.map V.ref))) t2 (allP d.toNat) := ⟨ts, upd_same, l1, (Its.mono (show Its H8 ts (allP d.toNat) from ⟨l1, l2⟩) (same_new nt2)).2⟩
  have cnt := allP_count ⟨d.toNat, hn⟩
  have nc := (nc_tt (xss := allP d.toNat) 8 fun xs hx => by
    obtain ⟨a1, a2⟩ := allP_ok d.toNat xs hx
    exact ⟨par_small a1 (by omega), by omega⟩).le (k' := 20) (W' := 2 ^ 20) (by decide) (by
      have : (11 * 8 + 1) * (allP d.toNat).length ≤ (11 * 8 + 1) * 4140 := Nat.mul_le_mul (Nat.le_refl _) cnt
      omega)
  exact ⟨.ref t1, .ref t2, _, rfl, dp_tt ((ht1.mono s8).mono (same_new nt2)), dp_tt ht2, rfl, nc, q _⟩
end
end KQ
namespace KQ
open PySem PySem.Spec PyProof.Rows L2 KR KM StX
section
variable {P : Program} {w : World} {K : PySem.W.Frag} {mg : Str → Option Value} {base : Heap} {f : Addr} {cdv : Value} {A : Around} {outer : List Env} {s : Shared} {H0 : Hp} {E : XK}
theorem law3 (T : Bt mg) (C : Calls P w K mg base) (gd : (A.deeper (envOfC "law" (defScope s_law) s.heap.objs.size f cdv)).guards = some []) (hr : Room 7 (A.deeper (envOfC "law" (defScope s_law) s.heap.objs.size f cdv))) :
    ∃ t, PSs (LX P w K mg base f cdv A outer s H0 E) ((defBody s_law).drop 15) t ∧ ∀ (D : Ends) (σ : L2.St) (H : Hp), (∃ (m c g fa sa ab be : Addr) (many size : Int) (p r : List Int) (LL : Nat → Int) (y0 y6 y7 y8 y9 y10 y13 y14 y15 y16 y17 y18 : Option V), σ = [y0, some (.ref m), some (.int many), some (.ref fa), some (.ref sa), some (.int size), y6, y7, y8, y9, y10, some (.ref ab), some (.ref be), y13, y14, y15, y16, y17, y18] ∧ MS H m c g 600 ∧ TI H fa p ∧ TI H sa r ∧ Par p ∧ Par r ∧ r.length = p.length ∧ (p.length : Int) = many ∧ size = bc 0 p ∧ (∀ x y, LL x = LL y ↔ glue (tiesOf p r) x y) ∧ TI H ab (num (p.map fun b : Int => LL b.toNat)) ∧ TI H be (num (p.zip r)) ∧ ∀ H', D.rt (.bl true) H') → t D σ H := by
  have u__law_begun := C.begun
  have u__law_draw := C.draw
  have u__law_any_parting := C.any
  have u__law_coarser := C.coarser
  have u_parting_of := C.parting_of
  have u_blocks_of := C.blocks_of
  have u_size_of := C.size_of
  have u_need_parting := C.need_parting
  have u__law_like := C.like
  have u_is_parting := C.is_parting
  have u__law_hung := C.hung
  have u__law_numbered := C.lnumL
  have u_lnumP := C.lnumP
  have u_finest_above := C.above
  have u_coarsest_below := C.below
  have u_is_finer := C.finer
  have u__law_is_finer := C.lfiner
  have u__law_order := C.order
  have u_parting_of_some := C.some_
  have u_beside := C.beside
  have u_all_partings := C.allp
  have u__law_partings := C.lparts
  obtain ⟨t4, h4, k4⟩ := law4 (P := P) (w := w) (K := K) (mg := mg) (base := base) (f := f) (cdv := cdv) (A := A) (outer := outer) (s := s) (H0 := H0) (E := E) T C gd hr
  refine ⟨_, (pss_cons (ps_set (i := 8) sc_law.nd rfl (Or.inl rfl) (pe_lst (pa_cons (pe_use u_is_finer (by decide) hr (by rfl) (pa_cons (pv 3) (pa_cons (pv 11) pa_nil))) (pa_cons (pe_use u_is_finer (by decide) hr (by rfl) (pa_cons (pv 4) (pa_cons (pv 11) pa_nil))) (pa_cons (pe_use u_is_finer (by decide) hr (by rfl) (pa_cons (pv 12) (pa_cons (pv 3) pa_nil))) (pa_cons (pe_use u_is_finer (by decide) hr (by rfl) (pa_cons (pv 12) (pa_cons (pv 4) pa_nil))) pa_nil))))))
      (pss_cons (ps_if (pt_not (pt_val (pe_useG u__law_like gd (by decide) hr (by rfl) (pa_cons (pv 8) (pa_cons (pe_lst (pa_cons pe_bl (pa_cons pe_bl (pa_cons pe_bl (pa_cons pe_bl pa_nil))))) pa_nil))))) (pss_one (ps_ret pe_bl)) pss_nil)
      (pss_cons (ps_set (i := 14) sc_law.nd rfl (Or.inl rfl) (pe_slice (k_sll (K := K) rfl) (pe_use u__law_order (by decide) hr (by rfl) (pa_cons (pv 1) (pa_cons (pv 2) pa_nil))) po_none (po_some (pe_op op_add pe_int (pe_use u__law_draw (by decide) hr (by rfl) (pa_cons (pv 1) (pa_cons (pv 2) pa_nil)))))))
      (pss_cons (ps_set (i := 13) sc_law.nd rfl (Or.inl rfl) (pe_use u__law_numbered (by decide) hr (by rfl) (pa_cons (pe_lc (own := [("at", 18)]) rfl sc_law.nd (k_list (K := K) rfl (pv 14)) (blkOk_by (N := ["script", "m", "many", "first", "second", "size", "codes", "blocks", "told", "labels", "closing", "above", "below", "due", "doors", "third", "few", "block", "at"]) (sc := defScope s_law) (by decide +kernel)) (fun _ _ _ _ _ => (pg_name (i := 18) sc_law.nd rfl (Or.inl rfl))) (fun _ _ _ _ _ => pts_nil) (fun _ _ _ _ _ => (pe_ix (k_ixt (K := K) rfl) (pv 3) (pv 18) (fun _ _ => rfl)))) pa_nil)))
      (pss_cons (ps_if (pt_not (pt_val (pe_useG u__law_like gd (by decide) hr (by rfl) (pa_cons (pe_use u_parting_of_some (by decide) hr (by rfl) (pa_cons (pv 3) (pa_cons (pe_callTy (k_tupOf (K := K) rfl) (by rfl) T.tuple (by decide +kernel) (pa_cons (pv 14) pa_nil)) pa_nil))) (pa_cons (pv 13) pa_nil))))) (pss_one (ps_ret pe_bl)) pss_nil)
      h4))))), ?_⟩
  rintro D σ H ⟨m, c, g, fa, sa, ab, be, many, size, p, r, LL, y0, y6, y7, y8, y9, y10, y13, y14, y15, y16, y17, y18, rfl, ms29, hp29, hr29, par, parr, lr, lp, es, hLL, hab29, hbe29, q⟩
  have g0 := bc_ge 0 p
  have g1 := bc_le 0 p
  have g2 := par.le
  have many2 : many ≤ 60 := by omega
  have many1 : 1 ≤ many := by
    have := List.length_pos_iff.mpr par.ne
    omega
  have pl : p.map (fun b : Int => LL b.toNat) ≠ [] := fun e => par.ne (List.map_eq_nil_iff.mp e)
  have parA : Par (num (p.map fun b : Int => LL b.toNat)) := num_par pl (by rw [List.length_map]; exact g2)
  have lA : (num (p.map fun b : Int => LL b.toNat)).length = p.length := by rw [num_len, List.length_map]
  have lz : (p.zip r).length = p.length := by rw [List.length_zip]; omega
  have parB : Par (num (p.zip r)) := num_par (fun e => by rw [e] at lz; exact par.ne (List.length_eq_zero_iff.mp lz.symm)) (by omega)
  have lB : (num (p.zip r)).length = p.length := by rw [num_len, lz]
  refine ⟨_, rfl, _, rfl, fa, ab, p, _, rfl, hp29, hab29, par, parA, lA.symm, fun H30 b1 s30 hb1 => ?_⟩
  refine ⟨_, rfl, _, rfl, sa, ab, r, _, rfl, hr29.mono s30, hab29.mono s30, parr, parA, by rw [lA, lr], fun H31 b2 s31 hb2 => ?_⟩
  have s2931 := s30.trans s31
  refine ⟨_, rfl, _, rfl, be, fa, _, p, rfl, hbe29.mono s2931, hp29.mono s2931, parB, par, lB, fun H32 b3 s32 hb3 => ?_⟩
  have s2932 := s2931.trans s32
  refine ⟨_, rfl, _, rfl, be, sa, _, r, rfl, hbe29.mono s2932, hr29.mono s2932, parB, parr, by rw [lB, lr], fun H33 b4 s33 hb4 => ?_⟩
  obtain rfl : b1 = true := hb1.mpr finer_above1
  obtain rfl : b2 = true := hb2.mpr (finer_above2 lr.symm hLL)
  obtain rfl : b3 = true := hb3.mpr (finer_below1 lr.symm)
  obtain rfl : b4 = true := hb4.mpr (finer_below2 lr.symm)
  have s2933 := s2932.trans s33
  have hp33 := hp29.mono s2933
  have ms33 := ms29.mono s2933
  refine ⟨by show 4 ≤ sizeLine; decide, fun tl3 ntl3 => ?_⟩
  refine ⟨_, rfl, by show 4 ≤ sizeLine; decide, fun dl3 ndl3 => ?_⟩
  refine ⟨.ref tl3, .ref dl3, .list [.bool true, .bool true, .bool true, .bool true], rfl, .lst (sqL (same_new ndl3 _ _ upd_same)) (.cons (.bl _) (.cons (.bl _) (.cons (.bl _) (.cons (.bl _) .nil)))),
    .lst (sqL upd_same) (.cons (.bl _) (.cons (.bl _) (.cons (.bl _) (.cons (.bl _) .nil)))), rfl, ⟨rfl, rfl, by decide, rfl, by decide⟩, true, rfl, ?_⟩
  have s35 := (same_new (o := .lst [.bl true, .bl true, .bl true, .bl true]) ntl3).trans (same_new (o := .lst [.bl true, .bl true, .bl true, .bl true]) ndl3)
  have hp35 := hp33.mono s35
  have ms35 := ms33.mono s35
  clear hp33 ms33 s35 hp29 hr29 hab29 hbe29 ms29
  refine ⟨_, rfl, _, rfl, m, c, g, _, many, rfl, ms35, by decide, many1, by omega, fun H36 dl ds k36 ms36 edl ndl lds nds rds => ?_⟩
  have hp36 := k36.ti ms35 hp35
  have Ln := ms35.ne ndl
  refine ⟨_, rfl, _, rfl, m, c, g, _, many, rfl, ms36, by omega, by omega, by omega, fun H37 d k37 ms37 d0 d1 => ⟨_, _, rfl, rfl, _, rfl, ?_⟩⟩
  have hp37 := k37.ti ms36 hp36
  have edl37 := k37 _ _ edl Ln.1 Ln.2.2
  refine ⟨dl, _, rfl, sqL edl37, fun sl nsl => ?_⟩
  rw [cut_take d0 (by rw [List.length_map]; omega), ← List.map_take]
  generalize hds : ds.take (d.toNat + 1) = es'
  have les : es'.length = d.toNat + 1 := by rw [← hds, List.length_take]; omega
  have drs : Drs es' p.length := by
    refine ⟨fun e => (by rw [e] at les; cases les), by omega, (by rw [← hds]; exact nds.sublist (List.take_sublist _ _)), fun x hx => ?_⟩
    rw [← hds] at hx
    have := rds x (List.mem_of_mem_take hx)
    omega
  have esl : (upd H37 sl (.lst (es'.map V.int))) sl = some (.lst (es'.map V.int)) := upd_same
  have hp38 := hp37.mono (same_new (o := .lst (es'.map V.int)) nsl)
  have ms38 := ms37.mono (same_new (o := .lst (es'.map V.int)) nsl)
  generalize upd H37 sl (.lst (es'.map V.int)) = H38 at esl hp38 ms38
  clear hp35 ms35 hp36 ms36 hp37 ms37 edl37 edl
  refine ⟨_, rfl, sl, rfl, ⟨_, sqL esl⟩, fun N nN => ?_⟩
  refine lc_list (K := K) (a := sl) (xs := es'.map V.int) (fun k H39 => Same H38 H39 ∧ H39 N = some (.lst ((pick p (es'.take k)).map V.int))) ⟨same_new nN, upd_same⟩ (fun k H39 _ ⟨s9, _⟩ => sqL (s9 _ _ esl)) ?_ ?_
  · rintro k v H39 hk ⟨s9, eN⟩
    obtain ⟨x, hx, rfl⟩ := map_at hk
    obtain ⟨x0, x1⟩ := drs.at_ x (List.mem_of_getElem? hx)
    refine ⟨rfl, _, rfl, _, rfl, fa, _, x, _, rfl, rfl, (hp38.mono s9).seq, atI_of (j := x.toNat) (by omega) (at_map (get_of x0 x1)), _, eN, ?_, same_mut s9 nN, ?_⟩
    · unfold pick
      rw [List.length_map, List.length_map, List.length_take]
      exact small_of (by omega)
    · rw [upd_same, take_snoc hx]
      unfold pick
      rw [List.map_append, List.map_append]
      rfl
  rintro H39 ⟨s39, eN⟩
  rw [List.length_map, List.take_length] at eN
  have lpk : (pick p es').length = es'.length := by unfold pick; rw [List.length_map]
  refine ⟨N, _, rfl, eN, by omega, fun H40 du s40 hdu => ?_⟩
  have s3840 := s39.trans s40
  have hp40 := hp38.mono s3840
  have ms40 := ms38.mono s3840
  have esl40 := s3840 _ _ esl
  refine ⟨_, rfl, _, rfl, sl, _, rfl, .inl ⟨sqL esl40, fun dt ndt => ?_⟩⟩
  have sdt := same_new (o := .tup (es'.map V.int)) ndt
  refine ⟨fa, dt, p, es', rfl, hp40.mono sdt, ti_new, par, drs, fun H41 rt s41 hrt => ?_⟩
  have nc : Nc 1 660 (.tuple ((num (pick p es')).map PyData.int)) := nc_ti (par_small (num_rg _) (by rw [num_len]; omega)) (by rw [num_len]; omega)
  refine ⟨_, rfl, .ref rt, .ref du, _, rfl, dp_ti hrt, dp_ti ((hdu.mono sdt).mono s41), rfl, nc.le (by decide) (by decide), true, rfl, ?_⟩
  exact k4 D _ H41 ⟨m, c, g, fa, many, size, p, _, _, _, _, _, _, _, _, _, _, _, _, _, _, _, rfl, ((ms40.mono sdt).mono s41).le (by omega), (hp40.mono sdt).mono s41, par, lp, es, q⟩
end
end KQ
namespace KQ
open PySem PySem.Spec PyProof.Rows L2 KR KM StX
section
variable {P : Program} {w : World} {K : PySem.W.Frag} {mg : Str → Option Value} {base : Heap} {f : Addr} {cdv : Value} {A : Around} {outer : List Env} {s : Shared} {H0 : Hp} {E : XK}
theorem law2 (T : Bt mg) (C : Calls P w K mg base) (gd : (A.deeper (envOfC "law" (defScope s_law) s.heap.objs.size f cdv)).guards = some []) (hr : Room 7 (A.deeper (envOfC "law" (defScope s_law) s.heap.objs.size f cdv))) :
    ∃ t, PSs (LX P w K mg base f cdv A outer s H0 E) ((defBody s_law).drop 9) t ∧ ∀ (D : Ends) (σ : L2.St) (H : Hp), (∃ (m c g fa sa : Addr) (many size : Int) (p r : List Int) (y0 y6 y7 y8 y9 y10 y11 y12 y13 y14 y15 y16 y17 y18 : Option V), σ = [y0, some (.ref m), some (.int many), some (.ref fa), some (.ref sa), some (.int size), y6, y7, y8, y9, y10, y11, y12, y13, y14, y15, y16, y17, y18] ∧ MS H m c g 600 ∧ TI H fa p ∧ TI H sa r ∧ Par p ∧ Par r ∧ r.length = p.length ∧ (p.length : Int) = many ∧ size = bc 0 p ∧ ∀ H', D.rt (.bl true) H') → t D σ H := by
  have u__law_begun := C.begun
  have u__law_draw := C.draw
  have u__law_any_parting := C.any
  have u__law_coarser := C.coarser
  have u_parting_of := C.parting_of
  have u_blocks_of := C.blocks_of
  have u_size_of := C.size_of
  have u_need_parting := C.need_parting
  have u__law_like := C.like
  have u_is_parting := C.is_parting
  have u__law_hung := C.hung
  have u__law_numbered := C.lnumL
  have u_lnumP := C.lnumP
  have u_finest_above := C.above
  have u_coarsest_below := C.below
  have u_is_finer := C.finer
  have u__law_is_finer := C.lfiner
  have u__law_order := C.order
  have u_parting_of_some := C.some_
  have u_beside := C.beside
  have u_all_partings := C.allp
  have u__law_partings := C.lparts
  obtain ⟨t3, h3, k3⟩ := law3 (P := P) (w := w) (K := K) (mg := mg) (base := base) (f := f) (cdv := cdv) (A := A) (outer := outer) (s := s) (H0 := H0) (E := E) T C gd hr
  refine ⟨_, (pss_cons (ps_asg (pe_use u__law_hung (by decide) hr (by rfl) (pa_cons (pv 3) (pa_cons (pv 4) pa_nil))) (pg_tup rfl (pgs_cons (pg_name (i := 9) sc_law.nd rfl (Or.inr rfl)) (pgs_cons (pg_name (i := 10) sc_law.nd rfl (Or.inl rfl)) pgs_nil))))
      (pss_cons (ps_set (i := 11) sc_law.nd rfl (Or.inl rfl) (pe_use u__law_numbered (by decide) hr (by rfl) (pa_cons (pe_lc (own := [("block", 17)]) rfl sc_law.nd (k_tup (K := K) rfl (pv 3)) (blkOk_by (N := ["script", "m", "many", "first", "second", "size", "codes", "blocks", "told", "labels", "closing", "above", "below", "due", "doors", "third", "few", "block", "at"]) (sc := defScope s_law) (by decide +kernel)) (fun _ _ _ _ _ => (pg_name (i := 17) sc_law.nd rfl (Or.inl rfl))) (fun _ _ _ _ _ => pts_nil) (fun _ _ _ _ _ => (pe_ix (k_ixl (K := K) rfl) (pv 9) (pv 17) (fun _ _ => rfl)))) pa_nil)))
      (pss_cons (ps_set (i := 12) sc_law.nd rfl (Or.inl rfl) (pe_use u_lnumP (by decide) hr (by rfl) (pa_cons (k_lzip (K := K) rfl rfl (by rfl) T.list (by rfl) T.zip (pa_cons (pv 3) (pa_cons (pv 4) pa_nil))) pa_nil)))
      (pss_cons (ps_set (i := 8) sc_law.nd rfl (Or.inl rfl) (pe_lst (pa_cons (pe_use u_finest_above (by decide) hr (by rfl) (pa_cons (pv 3) (pa_cons (pv 4) pa_nil))) (pa_cons (pe_use u_coarsest_below (by decide) hr (by rfl) (pa_cons (pv 3) (pa_cons (pv 4) pa_nil))) (pa_cons (pe_use u_is_finer (by decide) hr (by rfl) (pa_cons (pv 3) (pa_cons (pv 4) pa_nil))) (pa_cons (pe_use u_is_finer (by decide) hr (by rfl) (pa_cons (pv 4) (pa_cons (pv 3) pa_nil))) pa_nil))))))
      (pss_cons (ps_set (i := 13) sc_law.nd rfl (Or.inl rfl) (pe_lst (pa_cons (pv 11) (pa_cons (pv 12) (pa_cons (pe_use u__law_is_finer (by decide) hr (by rfl) (pa_cons (pv 3) (pa_cons (pv 4) pa_nil))) (pa_cons (pe_use u__law_is_finer (by decide) hr (by rfl) (pa_cons (pv 4) (pa_cons (pv 3) pa_nil))) pa_nil))))))
      (pss_cons (ps_if (PW.pt (pw_or (pt_not (pt_val (pe_useG u__law_like gd (by decide) hr (by rfl) (pa_cons (pv 8) (pa_cons (pv 13) pa_nil))))) (pw_or1 (pt_not (pt_val (pe_useG u__law_like gd (by decide) hr (by rfl) (pa_cons (pe_use u_finest_above (by decide) hr (by rfl) (pa_cons (pv 4) (pa_cons (pv 3) pa_nil))) (pa_cons (pv 11) pa_nil)))))))) (pss_one (ps_ret pe_bl)) pss_nil)
      h3)))))), ?_⟩
  rintro D σ H ⟨m, c, g, fa, sa, many, size, p, r, y0, y6, y7, y8, y9, y10, y11, y12, y13, y14, y15, y16, y17, y18, rfl, ms15, hp15, hr15, par, parr, lr, lp, es, q⟩
  have g0 := bc_ge 0 p
  have g1 := bc_le 0 p
  have g2 := par.le
  have mem := (rg_mem 0 p (Int.le_refl _) par.rg).1
  refine ⟨_, rfl, _, rfl, fa, sa, p, r, rfl, hp15, hr15, par, parr, lr.symm, fun H16 ht hl16 cl ls s16 eht els lls hgl => ?_⟩
  refine ⟨ht, _, rfl, .inl (.inl eht), rfl, _, _, rfl, _, [], rfl, rfl, ?_⟩
  have hp16 := hp15.mono s16
  have hr16 := hr15.mono s16
  have gr0 := bc_ge 0 r
  refine ⟨_, rfl, fa, rfl, ⟨_, hp16.seq⟩, fun N nN => ?_⟩
  refine lc_tup (K := K) (a := fa) (xs := p.map V.int) (fun k H17 => Same H16 H17 ∧ H17 N = some (.lst (((p.take k).map fun b : Int => LabOf ls b.toNat).map V.int)))
    ⟨same_new nN, upd_same⟩ (fun k H17 _ ⟨s9, _⟩ => (hp16.mono s9).seq) ?_ ?_
  · rintro k v H17 hk ⟨s9, eN⟩
    obtain ⟨x, hx, rfl⟩ := map_at hk
    have xm := mem x (List.mem_of_getElem? hx)
    obtain ⟨v, hv⟩ := at_some (xs := ls) (i := x.toNat) (by omega)
    refine ⟨rfl, _, rfl, _, rfl, hl16, _, x, .int v, rfl, rfl, sqL (s9 _ _ els), atI_of (j := x.toNat) (by omega) (at_map hv), _, eN, ?_, same_mut s9 nN, ?_⟩
    · rw [List.length_map, List.length_map, List.length_take]
      exact small_of (by omega)
    · rw [upd_same, take_snoc hx, List.map_append, List.map_append]
      show _ = some (HO.lst (_ ++ [V.int (LabOf ls x.toNat)]))
      unfold LabOf
      rw [List.getD_eq_getElem?_getD (i := x.toNat), hv]
      rfl
  rintro H17 ⟨s17, eN⟩
  rw [List.length_map, List.take_length] at eN
  refine ⟨N, _, rfl, eN, by rw [List.length_map]; omega, fun H18 ab s18 hab => ?_⟩
  have s1618 := s17.trans s18
  have hp18 := hp16.mono s1618
  have hr18 := hr16.mono s1618
  have ms18 := (ms15.mono s16).mono s1618
  clear eN s17 nN
  refine ⟨_, rfl, _, rfl, fa, sa, _, _, rfl, hp18.seq, hr18.seq, by rw [List.length_map, List.length_map, lr], ?_, fun l ts H19 nl s19 el tl tt => ?_⟩
  · rw [List.length_map]
    exact small_of (by omega)
  refine ⟨l, ts, p.zip r, rfl, el, zipped_pairs lr.symm tl tt, ?_, fun H20 be s20 hbe => ?_⟩
  · rw [List.length_zip]
    omega
  have hab20 := (hab.mono s19).mono s20
  have hp20 := (hp18.mono s19).mono s20
  have hr20 := (hr18.mono s19).mono s20
  have ms20 := (ms18.mono s19).mono s20
  clear s16 els eht hp15 hr15 ms15 hp16 hr16 s1618 hp18 hr18 ms18 hab el tl tt s19 s18 s20
  refine ⟨_, rfl, _, rfl, fa, sa, p, r, rfl, hp20, hr20, par, parr, lr.symm, fun H21 t1 LL s21 hLL ht1 => ?_⟩
  have hpa := hp20.mono s21
  have hra := hr20.mono s21
  refine ⟨_, rfl, _, rfl, fa, sa, p, r, rfl, hpa, hra, par, parr, lr.symm, fun H22 t2 s22 ht2 => ?_⟩
  refine ⟨_, rfl, _, rfl, fa, sa, p, r, rfl, hpa.mono s22, hra.mono s22, par, parr, lr.symm, fun H23 c1 s23 hc1 => ?_⟩
  refine ⟨_, rfl, _, rfl, sa, fa, r, p, rfl, (hra.mono s22).mono s23, (hpa.mono s22).mono s23, parr, par, lr, fun H24 c2 s24 hc2 => ?_⟩
  refine ⟨by show 4 ≤ sizeLine; decide, fun tl2 ntl2 => ?_⟩
  have s2224 := (s22.trans s23).trans s24
  have etl2 : (upd H24 tl2 (.lst [.ref t1, .ref t2, .bl c1, .bl c2])) tl2 = some (.lst [.ref t1, .ref t2, .bl c1, .bl c2]) := upd_same
  have s25 : Same H21 (upd H24 tl2 (.lst [.ref t1, .ref t2, .bl c1, .bl c2])) := s2224.trans (same_new ntl2)
  have ht1b := ht1.mono s25
  have ht2b := ht2.mono ((s23.trans s24).trans (same_new (o := .lst [.ref t1, .ref t2, .bl c1, .bl c2]) ntl2))
  generalize hH25 : upd H24 tl2 (.lst [.ref t1, .ref t2, .bl c1, .bl c2]) = H25 at s25 etl2 ht1b ht2b
  have hp25 := hpa.mono s25
  have hr25 := hra.mono s25
  have hab25 := (hab20.mono s21).mono s25
  have hbe25 := (hbe.mono s21).mono s25
  have ms25 := (ms20.mono s21).mono s25
  clear hpa hra ht1 ht2 s2224 s22 s23 s24 s21 hab20 hbe hp20 hr20 ms20
  have e1 : num (p.map fun b : Int => LabOf ls b.toNat) = num (p.map fun b : Int => LL b.toNat) := above_labels par.rg (by omega) hLL hgl
  rw [e1] at hab25
  refine ⟨_, rfl, _, rfl, _, rfl, _, rfl, fa, sa, p, r, rfl, hp25, hr25, par.le, lr.symm, fun H26 c3 s26 hc3 => ?_⟩
  refine ⟨_, rfl, _, rfl, sa, fa, r, p, rfl, hr25.mono s26, hp25.mono s26, parr.le, lr, fun H27 c4 s27 hc4 => ?_⟩
  refine ⟨by show 4 ≤ sizeLine; decide, fun dl2 ndl2 => ?_⟩
  obtain rfl := bool_iff hc1 hc3
  obtain rfl := bool_iff hc2 hc4
  have s28 : Same H25 (upd H27 dl2 (.lst [.ref ab, .ref be, .bl c1, .bl c2])) := (s26.trans s27).trans (same_new ndl2)
  have edl2 : (upd H27 dl2 (.lst [.ref ab, .ref be, .bl c1, .bl c2])) dl2 = some (.lst [.ref ab, .ref be, .bl c1, .bl c2]) := upd_same
  generalize hH28 : upd H27 dl2 (.lst [.ref ab, .ref be, .bl c1, .bl c2]) = H28 at s28 edl2
  have hp28 := hp25.mono s28
  have hr28 := hr25.mono s28
  have hab28 := hab25.mono s28
  have hbe28 := hbe25.mono s28
  have ms28 := ms25.mono s28
  have ht1c := ht1b.mono s28
  have ht2c := ht2b.mono s28
  have etl28 := s28 _ _ etl2
  have pl : p.map (fun b : Int => LL b.toNat) ≠ [] := fun e => par.ne (List.map_eq_nil_iff.mp e)
  have parA : Par (num (p.map fun b : Int => LL b.toNat)) := num_par pl (by rw [List.length_map]; exact g2)
  have lA : (num (p.map fun b : Int => LL b.toNat)).length = p.length := by rw [num_len, List.length_map]
  have lz : (p.zip r).length = p.length := by rw [List.length_zip]; omega
  have parB : Par (num (p.zip r)) := num_par (fun e => by rw [e] at lz; exact par.ne (List.length_eq_zero_iff.mp lz.symm)) (by omega)
  have lB : (num (p.zip r)).length = p.length := by rw [num_len, lz]
  have ncA : Nc 1 660 (.tuple ((num (p.map fun b : Int => LL b.toNat)).map PyData.int)) := nc_ti (par_small parA.rg parA.le) parA.le
  have ncB : Nc 1 660 (.tuple ((num (p.zip r)).map PyData.int)) := nc_ti (par_small parB.rg parB.le) parB.le
  clear hp25 hr25 hab25 hbe25 ms25 ht1b ht2b etl2 s26 s27 hH28 s28
  refine ⟨_, rfl, _, rfl, .ref tl2, .ref dl2, .list [.tuple ((num (p.map fun b : Int => LL b.toNat)).map PyData.int), .tuple ((num (p.zip r)).map PyData.int), .bool c1, .bool c2], rfl,
    .lst (sqL etl28) (.cons (dp_ti ht1c) (.cons (dp_ti ht2c) (.cons (.bl _) (.cons (.bl _) .nil)))),
    .lst (sqL edl2) (.cons (dp_ti hab28) (.cons (dp_ti hbe28) (.cons (.bl _) (.cons (.bl _) .nil)))), rfl,
    (nc_lst (nc_cons ncA (nc_cons ncB (nc_cons ((nc_bool c1).le (k' := 1) (by decide) (Nat.le_refl _)) (nc_cons ((nc_bool c2).le (k' := 1) (by decide) (Nat.le_refl _)) (nc_nil 1)))))).le (by decide) (by decide), true, rfl, ?_⟩
  refine ⟨_, rfl, _, rfl, sa, fa, r, p, rfl, hr28, hp28, parr, par, lr, fun H29 t3 L3 s29 hL3 ht3 => ?_⟩
  rw [above_flip par.rg parr.rg lr.symm hLL hL3] at ht3
  have hp29 := hp28.mono s29
  have hr29 := hr28.mono s29
  have hab29 := hab28.mono s29
  have hbe29 := hbe28.mono s29
  have ms29 := ms28.mono s29
  clear hp28 hr28 hab28 hbe28 ms28 ht1c ht2c etl28 edl2 s29
  refine ⟨_, rfl, .ref t3, .ref ab, _, rfl, dp_ti ht3, dp_ti hab29, rfl, ncA.le (by decide) (by decide), true, rfl, ?_⟩
  exact k3 D _ H29 ⟨m, c, g, fa, sa, ab, be, many, size, p, r, LL, _, _, _, _, _, _, _, _, _, _, _, _, rfl, ms29, hp29, hr29, par, parr, lr, lp, es, hLL, hab29, hbe29, q⟩
end
end KQ
namespace KQ
open PySem PySem.Spec PyProof.Rows L2 KR KM StX
section
variable {P : Program} {w : World} {K : PySem.W.Frag} {mg : Str → Option Value} {base : Heap}
theorem fn_law {f : Addr} {fd : FuncData} (F : Fun K "law" "law" s_law f fd) (T : Bt mg) (C : Calls P w K mg base) : FnG P w K mg base 8 f fd ["script"] (spLaw K) := by
  have u__law_begun := C.begun
  have u__law_draw := C.draw
  have u__law_any_parting := C.any
  have u__law_coarser := C.coarser
  have u_parting_of := C.parting_of
  have u_blocks_of := C.blocks_of
  have u_size_of := C.size_of
  have u_need_parting := C.need_parting
  have u__law_like := C.like
  have u_is_parting := C.is_parting
  have u__law_hung := C.hung
  have u__law_numbered := C.lnumL
  have u_lnumP := C.lnumP
  have u_finest_above := C.above
  have u_coarsest_below := C.below
  have u_is_finer := C.finer
  have u__law_is_finer := C.lfiner
  have u__law_order := C.order
  have u_parting_of_some := C.some_
  have u_beside := C.beside
  have u_all_partings := C.allp
  have u__law_partings := C.lparts
  refine Fun.okG F sc_law (fun vs H Q E h => ?_) (fun cdv A outer s H vs Q E gd hr h => ?_)
  · obtain ⟨a, ns, rfl, _⟩ := h
    rfl
  obtain ⟨a, ns, rfl, hs, hl, q⟩ := h
  obtain ⟨t2, h2, k2⟩ := law2 (P := P) (w := w) (K := K) (mg := mg) (base := base) (f := f) (cdv := cdv) (A := A) (outer := outer) (s := s) (H0 := H) (E := E) T C gd hr
  refine ⟨_, (pss_cons (ps_set (i := 1) sc_law.nd rfl (Or.inr rfl) (pe_use u__law_begun (by decide) hr (by rfl) (pa_cons (pv 0) pa_nil)))
      (pss_cons (ps_set (i := 2) sc_law.nd rfl (Or.inr rfl) (pe_op op_add pe_int (pe_use u__law_draw (by decide) hr (by rfl) (pa_cons (pv 1) (pa_cons (pe_ifExp (pt_cmpR op_gt (pe_use u__law_draw (by decide) hr (by rfl) (pa_cons (pv 1) (pa_cons pe_int pa_nil))) pe_int (nomark _)) pe_int pe_int) pa_nil)))))
      (pss_cons (ps_set (i := 3) sc_law.nd rfl (Or.inr rfl) (pe_use u__law_any_parting (by decide) hr (by rfl) (pa_cons (pv 1) (pa_cons (pv 2) pa_nil))))
      (pss_cons (ps_set (i := 4) sc_law.nd rfl (Or.inl rfl) (pe_ifExp (pt_cmpR op_eq (pe_use u__law_draw (by decide) hr (by rfl) (pa_cons (pv 1) (pa_cons pe_int pa_nil))) pe_int (nomark _)) (pe_use u__law_any_parting (by decide) hr (by rfl) (pa_cons (pv 1) (pa_cons (pv 2) pa_nil))) (pe_use u__law_coarser (by decide) hr (by rfl) (pa_cons (pv 1) (pa_cons (pv 3) pa_nil)))))
      (pss_cons (ps_set (i := 5) sc_law.nd rfl (Or.inr rfl) (pe_op op_add (pe_callB (k_maxT (K := K) rfl rfl hr.units) (by rfl) T.max (by decide +kernel) (pa_cons (pv 3) pa_nil)) pe_int))
      (pss_cons (ps_set (i := 6) sc_law.nd rfl (Or.inr rfl) (pe_lc (own := [("block", 17)]) rfl sc_law.nd (pi_range1 (by rfl) T.range (pa_cons (pv 5) pa_nil)) (blkOk_by (N := ["script", "m", "many", "first", "second", "size", "codes", "blocks", "told", "labels", "closing", "above", "below", "due", "doors", "third", "few", "block", "at"]) (sc := defScope s_law) (by decide +kernel)) (fun _ _ _ _ _ => (pg_name (i := 17) sc_law.nd rfl (Or.inl rfl))) (fun _ _ _ _ _ => pts_nil) (fun _ _ _ _ _ => (pe_op op_mulW (pe_op op_add (pe_op op_mulW (pe_use u__law_draw (by decide) hr (by rfl) (pa_cons (pv 1) (pa_cons pe_int pa_nil))) pe_int) (pv 17)) (pe_op op_sub pe_int (pe_op op_mulW pe_int (pe_use u__law_draw (by decide) hr (by rfl) (pa_cons (pv 1) (pa_cons pe_int pa_nil)))))))))
      (pss_cons (ps_set (i := 7) sc_law.nd rfl (Or.inl rfl) (pe_callTy (k_tupOf (K := K) rfl) (by rfl) T.tuple (by decide +kernel) (pa_cons (pe_lc (own := [("block", 17)]) rfl sc_law.nd (pi_range1 (by rfl) T.range (pa_cons (pv 5) pa_nil)) (blkOk_by (N := ["script", "m", "many", "first", "second", "size", "codes", "blocks", "told", "labels", "closing", "above", "below", "due", "doors", "third", "few", "block", "at"]) (sc := defScope s_law) (by decide +kernel)) (fun _ _ _ _ _ => (pg_name (i := 17) sc_law.nd rfl (Or.inr rfl))) (fun _ _ _ _ _ => pts_nil) (fun _ _ _ _ _ => (pe_callTy (k_tupOf (K := K) rfl) (by rfl) T.tuple (by decide +kernel) (pa_cons (pe_lc (own := [("at", 18)]) rfl sc_law.nd (pi_range1 (by rfl) T.range (pa_cons (pv 2) pa_nil)) (blkOk_by (N := ["script", "m", "many", "first", "second", "size", "codes", "blocks", "told", "labels", "closing", "above", "below", "due", "doors", "third", "few", "block", "at"]) (sc := relS (scIn 6) (defScope s_law)) (by decide +kernel)) (fun _ _ _ _ _ => (pg_name (i := 18) sc_law.nd rfl (Or.inl rfl))) (fun _ _ _ _ _ => (pts_one (pt_cmpR op_eq (pe_ix (k_ixt (K := K) rfl) (pv 3) (pv 18) (fun _ _ => rfl)) (pv 17) (nomark _)))) (fun _ _ _ _ _ => (pv 18))) pa_nil)))) pa_nil)))
      (pss_cons (ps_set (i := 8) sc_law.nd rfl (Or.inl rfl) (pe_lst (pa_cons (pe_use u_parting_of (by decide) hr (by rfl) (pa_cons (pe_callTy (k_tupOf (K := K) rfl) (by rfl) T.tuple (by decide +kernel) (pa_cons (pe_lc (own := [("block", 17)]) rfl sc_law.nd (k_tup (K := K) rfl (pv 3)) (blkOk_by (N := ["script", "m", "many", "first", "second", "size", "codes", "blocks", "told", "labels", "closing", "above", "below", "due", "doors", "third", "few", "block", "at"]) (sc := defScope s_law) (by decide +kernel)) (fun _ _ _ _ _ => (pg_name (i := 17) sc_law.nd rfl (Or.inl rfl))) (fun _ _ _ _ _ => pts_nil) (fun _ _ _ _ _ => (pe_ix (k_ixl (K := K) rfl) (pv 6) (pv 17) (fun _ _ => rfl)))) pa_nil)) pa_nil)) (pa_cons (pe_use u_blocks_of (by decide) hr (by rfl) (pa_cons (pv 3) pa_nil)) (pa_cons (pe_use u_size_of (by decide) hr (by rfl) (pa_cons (pv 3) pa_nil)) (pa_cons (pe_use u_need_parting (by decide) hr (by rfl) (pa_cons (pv 3) pa_nil)) pa_nil))))))
      (pss_cons (ps_if (PW.pt (pw_or (pt_not (pt_val (pe_useG u__law_like gd (by decide) hr (by rfl) (pa_cons (pv 8) (pa_cons (pe_lst (pa_cons (pv 3) (pa_cons (pv 7) (pa_cons (pv 5) (pa_cons (pv 3) pa_nil))))) pa_nil))))) (pw_or1 (pt_cmpR op_notBl (pe_use u_is_parting (by decide) hr (by rfl) (pa_cons (pv 3) pa_nil)) pe_bl (nomark _))))) (pss_one (ps_ret pe_bl)) pss_nil)
      h2))))))))), ?_⟩
  refine ⟨_, rfl, a, ns, rfl, hs, hl, fun H0 m c g ms0 => ?_⟩
  refine ⟨_, rfl, _, rfl, m, c, g, 0, 3, rfl, ms0, by decide, by decide, by decide, fun H1 d1 k1 ms1 d10 d11 => ⟨_, _, rfl, rfl, _, rfl, ?_⟩⟩
  refine if_fact (fun v H' => ∃ lim : Int, v = .int lim ∧ (lim = 60 ∨ lim = 7) ∧ H' = H1) (fun Qv h => h _ _ ⟨60, rfl, .inl rfl, rfl⟩) (fun Qv h => h _ _ ⟨7, rfl, .inr rfl, rfl⟩) ?_
  rintro v H' ⟨lim, rfl, hlim, rfl⟩
  clear k1
  refine ⟨m, c, g, 1, lim, rfl, ms1, by decide, by omega, by omega, fun H2 d2 k2' ms2 d20 d21 => ⟨1, d2, rfl, rfl, ?_⟩⟩
  clear k2' ms0 ms1
  obtain ⟨many, hmany⟩ : ∃ many : Int, many = 1 + d2 := ⟨_, rfl⟩
  have many1 : 1 ≤ many := by omega
  have many2 : many ≤ 60 := by omega
  refine ⟨_, rfl, _, rfl, m, c, g, 2, 1 + d2, rfl, ms2, by decide, by omega, by omega, fun H3 fa p k3 ms3 hp3 par lp => ?_⟩
  rw [← hmany] at ms3 lp
  refine ⟨_, rfl, m, c, g, _, 2, rfl, ms3, by omega, by decide, by decide, fun H4 d4 k4 ms4 d40 d41 => ⟨rfl, _, rfl, ?_⟩⟩
  have hp4 := k4.ti ms3 hp3
  refine if_fact (fun v H' => ∃ t r, v = .ref t ∧ Kept H4 H' m g ∧ MS H' m c g 400 ∧ TI H' t r ∧ Par r ∧ r.length = p.length) ?_ ?_ ?_
  · intro Qv h
    refine ⟨_, rfl, _, rfl, m, c, g, _, 1 + d2, rfl, ms4, by omega, by omega, by omega, fun H5 sa r k5 ms5 hr5 parr lr => h _ _ ⟨sa, r, rfl, k5, ms5.le (by omega), hr5, parr, by omega⟩⟩
  · intro Qv h
    refine ⟨_, rfl, _, rfl, m, c, g, _, fa, p, rfl, ms4, by omega, hp4, par, fun H5 sa r k5 ms5 hr5 parr lr => h _ _ ⟨sa, r, rfl, k5, ms5.le (by omega), hr5, parr, by omega⟩⟩
  rintro v H5 ⟨sa, r, rfl, k5, ms5, hr5, parr, lr⟩
  have hp5 := k5.ti ms4 hp4
  clear hp3 hp4 k4 k5 k3 ms2 ms3 ms4
  have g0 := bc_ge 0 p
  have g1 := bc_le 0 p
  have g2 := par.le
  refine ⟨_, rfl, fa, p, rfl, hp5.seq, par.ne, fun mx hm hle => ⟨mx, 1, rfl, rfl, ?_⟩⟩
  have em := par_max par hm hle
  refine ⟨_, rfl, _, rfl, by omega, by omega, fun L nL => ?_⟩
  have Ln := ms5.ne nL
  have mem := (rg_mem 0 p (Int.le_refl _) par.rg).1
  refine lc_range (fun i H6 => (∃ cs : List Int, H6 L = some (.lst (cs.map V.int)) ∧ cs.length = i ∧ ∀ (k : Nat) (v : Int), cs[k]? = some v → Code k v) ∧ Kept H5 H6 m g ∧ MS H6 m c g (400 + 2 * (i : Nat)))
    ⟨⟨[], upd_same, rfl, fun k v hv => by simp at hv⟩, kept_mut (Kept.of fun _ _ e => e) nL, by simpa using ms5.put Ln.1 Ln.2.1 Ln.2.2⟩ ?_ ?_
  · rintro i H6 hi ⟨⟨cs, eL, lc, hc⟩, k6, ms6⟩
    have e30 : (2 : Int) ^ 30 = 1073741824 := by decide
    refine ⟨rfl, _, rfl, m, c, g, _, 1000000000, rfl, ms6, by omega, by decide, by decide, fun H7 e k7 ms7 e0 e1 => ?_⟩
    have we : e.natAbs < 2 ^ 30 := nb e0 (by omega)
    refine ⟨e, 61, rfl, rfl, wide_mul we (by decide : (61 : Int).natAbs < 2 ^ 6) (by decide) (by decide) (by decide), _, rfl, _, _, rfl, rfl, ?_⟩
    refine ⟨_, rfl, m, c, g, _, 2, rfl, ms7, by omega, by decide, by decide, fun H8 f k8 ms8 f0 f1 => ?_⟩
    refine ⟨2, f, rfl, rfl, wide_mul (by decide : (2 : Int).natAbs < 2 ^ 2) (nb (b := 2) f0 (by omega)) (by decide) (by decide) (by decide), 1, 2 * f, rfl, rfl, _, _, rfl, rfl, ?_, ?_⟩
    · refine wide_mul (a := 40) (b := 2) (nb (by omega) ?_) ?_ (by decide) (by decide) (by decide)
      · have e40 : (2 : Int) ^ 40 = 1099511627776 := by decide
        omega
      · omega
    have eL8 := k8 L _ (k7 L _ eL Ln.1 Ln.2.2) Ln.1 Ln.2.2
    refine ⟨_, eL8, ?_, ⟨cs ++ [(e * 61 + (0 + (i : Nat))) * (1 - 2 * f)], ?_, ?_, ?_⟩, ?_, ?_⟩
    · rw [List.length_map, lc]
      exact small_of (by omega)
    · rw [upd_same, List.map_append]
      rfl
    · rw [List.length_append, lc]
      rfl
    · intro k v hk
      by_cases hlt : k < cs.length
      · rw [List.getElem?_append_left hlt] at hk
        exact hc k v hk
      · have hk2 := (List.getElem?_eq_some_iff.mp hk).1
        rw [List.length_append] at hk2
        have hk3 : k = cs.length := by
          have : k < cs.length + 1 := hk2
          omega
        subst hk3
        rw [List.getElem?_append_right (Nat.le_refl _), Nat.sub_self] at hk
        obtain rfl := Option.some.inj hk
        refine ⟨e, 1 - 2 * f, e0, by omega, ?_⟩
        rw [lc, Int.zero_add]
    · exact kept_mut ((k6.trans k7).trans k8) nL
    · rw [show (400 : Int) + 2 * ((i + 1 : Nat) : Int) = 400 + 2 * (i : Nat) + 1 + 1 by omega]
      exact ms8.put Ln.1 Ln.2.1 Ln.2.2
  rintro H6 ⟨⟨cs, eL, lcs, hcs⟩, k6, ms6⟩
  have hp6 := k6.ti ms5 hp5
  have hr6 := k6.ti ms5 hr5
  clear hp5 hr5 ms5 k6
  refine ⟨_, rfl, _, rfl, by omega, by omega, fun M nM => ?_⟩
  refine lc_range (fun k H7 => Same H6 H7 ∧ ∃ ts, H7 M = some (.lst (ts.map V.ref)) ∧ Its H7 ts ((List.range k).map fun b => doorsOf p ((b : Nat) : Int)))
    ⟨same_new nM, [], upd_same, Its.nil⟩ ?_ ?_
  · rintro k H7 hk ⟨s7, ts, eM, its⟩
    refine ⟨rfl, _, rfl, _, rfl, by omega, by omega, fun N nN => ?_⟩
    have nMN : M ≠ N := ne_of_none eM nN
    refine lc_range (fun j H8 => Same H7 H8 ∧ H8 N = some (.lst ((doorsOf (p.take j) ((k : Nat) : Int)).map V.int))) ⟨same_new nN, upd_same⟩ ?_ ?_
    · rintro j H8 hj ⟨s8, eN⟩
      obtain ⟨x, hx⟩ := at_some (xs := p) (i := j) (by omega)
      have lt : (p.take j).length = j := by rw [List.length_take]; omega
      refine ⟨rfl, _, rfl, _, rfl, fa, _, _, .int x, rfl, rfl, (hp6.mono (s7.trans s8)).seq, atI_of (j := j) (by omega) (at_map hx), _, rfl, rfl, _, rfl, ?_⟩
      by_cases e : x = ((k : Nat) : Int)
      · rw [decide_eq_true (by rw [e, Int.zero_add])]
        refine ⟨_, rfl, _, eN, ?_, same_mut s8 nN, ?_⟩
        · rw [List.length_map]
          have := doorsOf_len (p.take j) ((k : Nat) : Int)
          exact small_of (by omega)
        · rw [upd_same, take_snoc hx, doorsOf_snoc, if_pos e, List.map_append, lt, Int.zero_add]
          rfl
      · rw [decide_eq_false (fun q' => e (by have := V.int.inj q'; omega))]
        refine ⟨s8, ?_⟩
        rw [take_snoc hx, doorsOf_snoc, if_neg e, List.append_nil]
        exact eN
    · rintro H8 ⟨s8, eN⟩
      rw [show p.take (1 + d2).toNat = p from List.take_of_length_le (by omega)] at eN
      refine ⟨N, _, rfl, .inl ⟨.inl (.inl eN), fun t nt => ?_⟩⟩
      have eM8 := same_new (o := .tup ((doorsOf p ((k : Nat) : Int)).map V.int)) nt _ _ (s8 _ _ eM)
      have ntM : t ≠ M := fun e => by rw [e, s8 _ _ eM] at nt; cases nt
      refine ⟨_, eM8, ?_, same_mut ((s7.trans s8).trans (same_new nt)) nM, ts ++ [t], ?_, ?_⟩
      · have := its.1
        rw [List.length_map, List.length_range] at this
        rw [List.length_map, this]
        exact small_of (by omega)
      · rw [upd_same, List.map_append]
        rfl
      · rw [List.range_succ, List.map_append]
        refine Its.app ((its.mono (s8.trans (same_new nt))).put eM8) (Its.one ?_)
        show upd _ M _ t = _
        rw [upd_ne ntM, upd_same]
  rintro H7 ⟨s7, ts, eM, its⟩
  refine ⟨M, _, rfl, .inl ⟨.inl (.inl eM), fun ba nba => ?_⟩⟩
  have s68 : Same H6 (upd H7 ba (.tup (ts.map V.ref))) := s7.trans (same_new nba)
  have hbl : TT (upd H7 ba (.tup (ts.map V.ref))) ba (blockList p) := by
    refine ⟨ts, upd_same, ?_, ?_⟩
    · have := its.1
      rw [this, show (mx + 1).toNat = (bc 0 p).toNat by omega]
      rfl
    · have := (its.mono (same_new (o := .tup (ts.map V.ref)) nba)).2
      rw [show (mx + 1).toNat = (bc 0 p).toNat by omega] at this
      exact this
  generalize hH8 : upd H7 ba (.tup (ts.map V.ref)) = H8 at s68 hbl
  have hp8 := hp6.mono s68
  have hr8 := hr6.mono s68
  have ms8 := ms6.mono s68
  have eL8 := s68 _ _ eL
  clear hp6 hr6 ms6 eL eM its s7 s68 hH8 nba nM
  rw [show (mx + 1).toNat = (bc 0 p).toNat by omega] at lcs ms8
  have hcode : ∀ x : Int, 0 ≤ x → x < bc 0 p → ∃ v, cs[x.toNat]? = some v ∧ Code x v := by
    intro x x0 x1
    obtain ⟨v, hv⟩ := at_some (xs := cs) (i := x.toNat) (by omega)
    have := hcs _ _ hv
    rw [show ((x.toNat : Nat) : Int) = x by omega] at this
    exact ⟨v, hv, this⟩
  refine ⟨_, rfl, fa, rfl, ⟨_, hp8.seq⟩, fun N nN => ?_⟩
  refine lc_tup (K := K) (a := fa) (xs := p.map V.int) (fun k H9 => Same H8 H9 ∧ H9 N = some (.lst (((p.take k).map fun b : Int => cs.getD b.toNat 0).map V.int)))
    ⟨same_new nN, upd_same⟩ (fun k H9 _ ⟨s9, _⟩ => (hp8.mono s9).seq) ?_ ?_
  · rintro k v H9 hk ⟨s9, eN⟩
    obtain ⟨x, hx, rfl⟩ := map_at hk
    have xm := mem x (List.mem_of_getElem? hx)
    obtain ⟨v, hv, _⟩ := hcode x xm.1 xm.2
    refine ⟨rfl, _, rfl, _, rfl, L, _, x, .int v, rfl, rfl, sqL (s9 _ _ eL8), atI_of (j := x.toNat) (by omega) (at_map hv), _, eN, ?_, same_mut s9 nN, ?_⟩
    · rw [List.length_map, List.length_map, List.length_take]
      exact small_of (by omega)
    · rw [upd_same, take_snoc hx, List.map_append, List.map_append]
      show _ = some (HO.lst (_ ++ [V.int (cs.getD x.toNat 0)]))
      rw [List.getD_eq_getElem?_getD, hv]
      rfl
  rintro H9 ⟨s9, eN⟩
  rw [List.length_map, List.take_length] at eN
  have hcod : num (p.map fun b : Int => cs.getD b.toNat 0) = p := by
    refine num_codes par.rg par.le (by rw [List.length_map]) (fun i x v hx hv => ?_) (fun i j x u v hi hj hu hv => ?_)
    · rw [at_map hx] at hv
      obtain rfl := Option.some.inj hv
      have xm := mem x (List.mem_of_getElem? hx)
      obtain ⟨v, hv, hc⟩ := hcode x xm.1 xm.2
      rw [List.getD_eq_getElem?_getD, hv]
      exact hc
    · rw [at_map hi] at hu
      rw [at_map hj] at hv
      rw [← Option.some.inj hu, ← Option.some.inj hv]
  refine ⟨N, _, rfl, .inl ⟨.inl (.inl eN), fun ct nct => ?_⟩⟩
  refine ⟨ct, p.map fun b : Int => cs.getD b.toNat 0, rfl, ti_new, ?_, by rw [List.length_map]; exact g2, fun H10 pt s10 hpt => ?_⟩
  · intro e
    exact par.ne (List.map_eq_nil_iff.mp e)
  rw [hcod] at hpt
  have s810 : Same H8 H10 := (s9.trans (same_new nct)).trans s10
  have hp10 := hp8.mono s810
  refine ⟨_, rfl, fa, p, rfl, hp10, par, fun H11 bt s11 hbt => ⟨_, rfl, fa, p, rfl, hp10.mono s11, par, fun H12 s12 => ⟨_, rfl, fa, p, rfl, (hp10.mono s11).mono s12, par, fun H13 s13 => ?_⟩⟩⟩
  refine ⟨by show 4 ≤ sizeLine; decide, fun tl ntl => ?_⟩
  have s813 : Same H8 (upd H13 tl (.lst [.ref pt, .ref bt, .int (bc 0 p), .ref fa])) := ((s810.trans s11).trans (s12.trans s13)).trans (same_new ntl)
  have sL : Same H10 (upd H13 tl (.lst [.ref pt, .ref bt, .int (bc 0 p), .ref fa])) := (s11.trans (s12.trans s13)).trans (same_new ntl)
  have hpt13 : TI (upd H13 tl (.lst [.ref pt, .ref bt, .int (bc 0 p), .ref fa])) pt p := hpt.mono sL
  have hbt13 : TT (upd H13 tl (.lst [.ref pt, .ref bt, .int (bc 0 p), .ref fa])) bt (blockList p) := hbt.mono ((s12.trans s13).trans (same_new ntl))
  have etl : (upd H13 tl (.lst [.ref pt, .ref bt, .int (bc 0 p), .ref fa])) tl = some (.lst [.ref pt, .ref bt, .int (bc 0 p), .ref fa]) := upd_same
  generalize hH14 : upd H13 tl (.lst [.ref pt, .ref bt, .int (bc 0 p), .ref fa]) = H14 at s813 hpt13 hbt13 etl sL
  have hp14 := hp8.mono s813
  have hr14 := hr8.mono s813
  have ms14 := ms8.mono s813
  have hbl14 := hbl.mono s813
  clear s810 s10 s11 s12 s13 hpt hbt hp10 eN s9 hp8 hr8 ms8 hbl eL8 sL nN nct
  have ncp : Nc 1 660 (.tuple (p.map PyData.int)) := nc_ti (par_small par.rg par.le) par.le
  have ncb : Nc 2 39660 (.tuple ((blockList p).map fun xs => PyData.tuple (xs.map PyData.int))) := by
    have lb : (blockList p).length ≤ 60 := by
      unfold blockList
      rw [List.length_map, List.length_range]
      omega
    refine (nc_tt 60 fun xs hx => ?_).le (Nat.le_refl _) (Nat.mul_le_mul (Nat.le_refl 661) lb)
    unfold blockList at hx
    obtain ⟨b, _, rfl⟩ := List.mem_map.mp hx
    refine ⟨fun x hx => ?_, Nat.le_trans (doorsOf_len _ _) g2⟩
    have := doorsOf_small p _ x hx
    omega
  have ncn : Nc 0 10 (.int (bc 0 p)) := nc_int g0 (by omega)
  refine ⟨_, rfl, _, rfl, _, rfl, _, rfl, _, rfl, by show 4 ≤ sizeLine; decide, fun dl ndl => ?_⟩
  have sdl := same_new (o := .lst [.ref fa, .ref ba, .int (mx + 1), .ref fa]) ndl
  refine ⟨.ref tl, .ref dl, .list [.tuple (p.map PyData.int), .tuple ((blockList p).map fun xs => PyData.tuple (xs.map PyData.int)), .int (bc 0 p), .tuple (p.map PyData.int)], rfl,
    .lst (sqL (sdl _ _ etl)) (.cons (dp_ti (hpt13.mono sdl)) (.cons (dp_tt (hbt13.mono sdl)) (.cons (.int _) (.cons (dp_ti (hp14.mono sdl)) .nil)))),
    .lst (sqL upd_same) (.cons (dp_ti (hp14.mono sdl)) (.cons (dp_tt (hbl14.mono sdl)) (.cons (by rw [← em]; exact .int _) (.cons (dp_ti (hp14.mono sdl)) .nil)))), rfl,
    (nc_lst (nc_cons (ncp.le (k' := 2) (by decide) (Nat.le_refl _)) (nc_cons ncb (nc_cons (ncn.le (k' := 2) (by decide) (Nat.le_refl _)) (nc_cons (ncp.le (k' := 2) (by decide) (Nat.le_refl _)) (nc_nil 2)))))).le (by decide) (by decide), ?_⟩
  refine ⟨true, rfl, _, rfl, fa, p, rfl, hp14.mono sdl, par, fun H15 s15 => ⟨true, true, rfl, rfl, _, rfl, ?_⟩⟩
  have hp15 := (hp14.mono sdl).mono s15
  have hr15 := (hr14.mono sdl).mono s15
  have ms15 := (ms14.mono sdl).mono s15
  clear hp14 hr14 ms14 hpt13 hbt13 hbl14 etl sdl s15 hH14 s813
  exact k2 _ _ H15 ⟨m, c, g, fa, sa, 1 + d2, mx + 1, p, r, _, _, _, _, _, _, _, _, _, _, _, _, _, _, rfl, ms15.le (by omega), hp15, hr15, par, parr, lr, by omega, em, fun H' => q H'⟩
end
end KQ
namespace KQ
open PySem PySem.Spec PyProof.Rows L2 KR KM StX
section
variable {P : Program} {w : World} {K : PySem.W.Frag} {mg : Str → Option Value} {h : Heap} {Goal : Prop}
/-- a def that the top has -/
theorem step_def {x : Str} {st : Stmt} {f : Addr} {oc : Value} {od an : Option Addr} {osl : Array (Option Value)} {kV doc pm cdv ct : Value} (X : K.In h) (G : h.Ns mainGlobals mg)
    (a : PySem.W.nsIn K mainGlobals x = some (some (.ref f))) (l : K.lookup f = some ⟨oc, od, .func (PySem.W.fnOf x x (defArgs st) (defBody st) (defScope st) .none kV doc pm an cdv ct), osl⟩)
    (c : PySem.W.codeIn K cdv x = true) (k : PySem.W.keepIn K (.ref f) = true) (n : DefAt K mg x st → Goal) : Goal :=
  n ⟨f, _, fun_mk (st := st) l c k, PySem.W.mg_of X G a⟩
theorem step_cst {x : Str} {v : Int} {t : Tok} (X : K.In h) (G : h.Ns mainGlobals mg) (a : PySem.W.nsIn K mainGlobals x = some (some (.int v t))) (n : Cst mg x v → Goal) : Goal := n ⟨t, PySem.W.mg_of X G a⟩
theorem step_none {x : Str} (X : K.In h) (G : h.Ns mainGlobals mg) (a : PySem.W.nsIn K mainGlobals x = some none) (n : mg x = none → Goal) : Goal := n (PySem.W.mg_none_of X G a)
theorem step_cls {x : Str} {C : Addr} (X : K.In h) (G : h.Ns mainGlobals mg) (aC : PySem.W.nsIn K mainGlobals x = some (some (.ref C))) (pg : PySem.W.plainGet K C Str.empty = true) (hd : PySem.W.hasDictIn K C = true)
    (po : PySem.W.plainOver K C = true) (sa : PySem.W.findIn K (.ref C) "__setattr__" = some (some (.builtin "object.__setattr__"))) (mk : PySem.W.makesIn K C = true) (kc : PySem.W.keepIn K (.ref C) = true)
    (n : Cls K C → mg x = some (.ref C) → PySem.W.makesIn K C = true → PySem.W.keepIn K (.ref C) = true → Goal) : Goal := n ⟨pg, hd, po, sa⟩ (PySem.W.mg_of X G aC) mk kc
theorem step_init {q : Str} {st : Stmt} {C f : Addr} {oc : Value} {od an : Option Addr} {osl : Array (Option Value)} {kV doc pm cdv ct : Value}
    (a : PySem.W.findIn K (.ref C) "__init__" = some (some (.ref f))) (i : PySem.W.isFn K (.ref f) = true) (l : K.lookup f = some ⟨oc, od, .func (PySem.W.fnOf "__init__" q (defArgs st) (defBody st) (defScope st) .none kV doc pm an cdv ct), osl⟩)
    (c : PySem.W.codeIn K cdv q = true) (k : PySem.W.keepIn K (.ref f) = true) (mk : PySem.W.makesIn K C = true) (kc : PySem.W.keepIn K (.ref C) = true) (n : IAt K C q st → Goal) : Goal :=
  n ⟨f, _, fun_mk (st := st) l c k, ⟨mk, a, i, kc⟩⟩
theorem step_meth {m q : Str} {st : Stmt} {C f : Addr} {oc : Value} {od an : Option Addr} {osl : Array (Option Value)} {kV doc pm cdv ct : Value}
    (_X : Cls K C) (a : PySem.W.findIn K (.ref C) m = some (some (.ref f))) (i : PySem.W.isFn K (.ref f) = true) (l : K.lookup f = some ⟨oc, od, .func (PySem.W.fnOf m q (defArgs st) (defBody st) (defScope st) .none kV doc pm an cdv ct), osl⟩)
    (c : PySem.W.codeIn K cdv q = true) (k : PySem.W.keepIn K (.ref f) = true) (n : MAt K C m q st → Goal) : Goal :=
  n ⟨f, _, fun_mk (st := st) l c k, ⟨a, i, k⟩⟩
theorem step_noattr {x : Str} {C : Addr} (_X : Cls K C) (a : PySem.W.findIn K (.ref C) x = some none) (n : NoAttr K C x → Goal) : Goal := n a
end
section
variable {P : Program} {w : World} {K : PySem.W.Frag} {mg : Str → Option Value} {base : Heap}
structure Defs (K : PySem.W.Frag) (mg : Str → Option Value) : Prop where
  d_is_integer : DefAt K mg "is_integer" s_is_integer
  d_is_integer_within : DefAt K mg "is_integer_within" s_is_integer_within
  d_is_tuple_within : DefAt K mg "is_tuple_within" s_is_tuple_within
  d_first_wrong_block : DefAt K mg "first_wrong_block" s_first_wrong_block
  d_is_parting : DefAt K mg "is_parting" s_is_parting
  d_need_parting : DefAt K mg "need_parting" s_need_parting
  d_need_parting_of : DefAt K mg "need_parting_of" s_need_parting_of
  d_need_two_partings : DefAt K mg "need_two_partings" s_need_two_partings
  d_block_count : DefAt K mg "block_count" s_block_count
  d_size_of : DefAt K mg "size_of" s_size_of
  d_numbered : DefAt K mg "numbered" s_numbered
  d_parting_of : DefAt K mg "parting_of" s_parting_of
  d_need_some_doors : DefAt K mg "need_some_doors" s_need_some_doors
  d_parting_of_some : DefAt K mg "parting_of_some" s_parting_of_some
  d_doors_by_block : DefAt K mg "doors_by_block" s_doors_by_block
  d_blocks_of : DefAt K mg "blocks_of" s_blocks_of
  d_beside : DefAt K mg "beside" s_beside
  d_lies_within : DefAt K mg "lies_within" s_lies_within
  d_is_finer : DefAt K mg "is_finer" s_is_finer
  d_coarsest_below : DefAt K mg "coarsest_below" s_coarsest_below
  d_partings_of_doors : DefAt K mg "partings_of_doors" s_partings_of_doors
  d_all_partings : DefAt K mg "all_partings" s_all_partings
  d_finest_above : DefAt K mg "finest_above" s_finest_above
  d__law_mixed : DefAt K mg "_law_mixed" s__law_mixed
  d__law_draw : DefAt K mg "_law_draw" s__law_draw
  d__law_folded : DefAt K mg "_law_folded" s__law_folded
  d__law_begun : DefAt K mg "_law_begun" s__law_begun
  d__law_like : DefAt K mg "_law_like" s__law_like
  d__law_order : DefAt K mg "_law_order" s__law_order
  d__law_numbered : DefAt K mg "_law_numbered" s__law_numbered
  d__law_any_parting : DefAt K mg "_law_any_parting" s__law_any_parting
  d__law_coarser : DefAt K mg "_law_coarser" s__law_coarser
  d__law_is_finer : DefAt K mg "_law_is_finer" s__law_is_finer
  d__law_partings : DefAt K mg "_law_partings" s__law_partings
  d__law_hung : DefAt K mg "_law_hung" s__law_hung
structure Clu (K : PySem.W.Frag) (mg : Str → Option Value) (C : Addr) : Prop where
  cC : Cls K C
  hm : mg "Clumps" = some (.ref C)
  nH : NoAttr K C "heads"
  nM : NoAttr K C "many"
  i : IAt K C "Clumps.__init__" s_Clumps___init__
  h : MAt K C "head" "Clumps.head" s_Clumps_head
  u : MAt K C "unite" "Clumps.unite" s_Clumps_unite
theorem calls {C : Addr} (D : Defs K mg) (T : Bt mg) (c60 : Cst mg "MOST_DOORS" 60) (c8 : Cst mg "MOST_LISTED_DOORS" 8) (L : Clu K mg C) : Calls P w K mg base := by
  have u_is_integer := ok_is_integer (P := P) (w := w) (base := base) D.d_is_integer T
  have u_is_integer_within := ok_is_integer_within D.d_is_integer_within T u_is_integer
  have u_is_tuple_within := ok_is_tuple_within (P := P) (w := w) (base := base) D.d_is_tuple_within T
  have u_first_wrong_block := ok_first_wrong_block (P := P) (w := w) (base := base) D.d_first_wrong_block T
  have u_is_parting := ok_is_parting D.d_is_parting T c60 u_is_tuple_within u_first_wrong_block
  have u_need_parting := ok_need_parting D.d_need_parting T c60 u_is_tuple_within u_first_wrong_block
  have u_need_parting_of := ok_need_parting_of D.d_need_parting_of T u_need_parting
  have u_need_two_partings := ok_need_two_partings D.d_need_two_partings T u_need_parting u_need_parting_of
  have u_block_count := ok_block_count (P := P) (w := w) (base := base) D.d_block_count T
  have u_size_of := ok_size_of D.d_size_of T u_need_parting u_block_count
  have u_numT := ok_numberedT (P := P) (w := w) (base := base) D.d_numbered T
  have u_numL := ok_numberedL (P := P) (w := w) (base := base) D.d_numbered T
  have u_numP := ok_numberedP (P := P) (w := w) (base := base) D.d_numbered T
  have u_parting_of := ok_parting_of D.d_parting_of T c60 u_is_tuple_within u_is_integer u_numT
  have u_need_some_doors := ok_need_some_doors D.d_need_some_doors T c60 u_is_tuple_within u_is_integer_within
  have u_parting_of_some := ok_parting_of_some D.d_parting_of_some T u_need_parting u_need_some_doors u_numL
  have u_doors_by_block := ok_doors_by_block D.d_doors_by_block T u_block_count
  have u_blocks_of := ok_blocks_of D.d_blocks_of T u_need_parting u_doors_by_block
  have u_beside := ok_beside D.d_beside T c60 u_need_parting u_block_count
  have u_lies_within := ok_lies_within (P := P) (w := w) (base := base) D.d_lies_within T
  have u_is_finer := ok_is_finer D.d_is_finer T u_need_two_partings u_lies_within
  have u_coarsest_below := ok_coarsest_below D.d_coarsest_below T u_need_two_partings u_numP
  have u_partings_of_doors := ok_partings_of_doors (P := P) (w := w) (base := base) D.d_partings_of_doors T
  have u_all_partings := ok_all_partings D.d_all_partings T c60 c8 u_is_integer_within u_partings_of_doors
  have u_Clumps := ok_init (P := P) (w := w) (base := base) L.i T L.cC L.nH L.nM L.hm
  have u_m_head := ok_head (P := P) (w := w) (base := base) L.h T L.cC L.nH
  have u_m_unite := ok_unite L.u T L.cC L.nH L.nM u_m_head
  have u_finest_above := ok_finest_above D.d_finest_above T L.cC u_need_two_partings u_block_count u_Clumps u_m_unite u_m_head u_numL
  have u_mixed := ok_mixed (P := P) (w := w) (base := base) D.d__law_mixed T
  have u_draw := ok_draw D.d__law_draw T u_mixed
  have u_folded := ok_folded (P := P) (w := w) (base := base) D.d__law_folded T
  have u_lnumL := ok_lnumL (P := P) (w := w) (base := base) D.d__law_numbered T
  exact ⟨ ok_begun D.d__law_begun T u_folded, u_draw, ok_any D.d__law_any_parting T u_draw u_lnumL, ok_coarser D.d__law_coarser T u_draw u_lnumL,
    u_parting_of, u_blocks_of, u_size_of, u_need_parting, ok_like D.d__law_like T, u_is_parting, ok_hung D.d__law_hung T,
    u_lnumL, ok_lnumP D.d__law_numbered T, u_finest_above, u_coarsest_below, u_is_finer, ok_lfiner D.d__law_is_finer T, ok_order D.d__law_order T u_draw,
    u_parting_of_some, u_beside, u_all_partings, ok_lparts D.d__law_partings T⟩
theorem finish {l : PySem.W.OpenLaw} {fa : Addr} {C : Addr} (hfa : mg "law" = some (.ref fa)) (DL : DefAt K mg "law" s_law) (D : Defs K mg) (T : Bt mg) (c60 : Cst mg "MOST_DOORS" 60) (c8 : Cst mg "MOST_LISTED_DOORS" 8) (L : Clu K mg C) :
    ∃ fd : FuncData, (∀ (s : Shared) (u : Value), BindsTo s fd ⟨[u], []⟩ [("script", u)]) ∧ ∀ base : Heap, K.In base → base.Ns mainGlobals mg → FnG l.prog w K mg base 8 fa fd ["script"] (spLaw K) := by
  obtain ⟨f, fd, F, hm⟩ := DL
  have e := hfa.symm.trans hm
  cases e
  have F' := F
  obtain ⟨oc, od, kV, doc, pm, an, cdv, ct, osl, rfl, lk, hcd⟩ := F'.ex
  exact ⟨_, fun s v => .of_eq rfl, fun base _ _ => fn_law F T (calls D T c60 c8 L)⟩
theorem walk {l : PySem.W.OpenLaw} {q : Program} {loose : List Str} {XP : (Str → Option Value) → Heap → Prop} {YP : World → Heap → Prop} {d : DefRec} {K : Params → PySem.W.Frag} (hn : l.most = some 63) (hdf : d.params.defaults = [])
    (hY : ∀ (w : World) (h : Heap), YP w h → (K w.params).In h)
    (F : ∀ (w : World) (mg : Str → Option Value) (fa : Addr) (h : Heap), (K w.params).In h → h.Ns mainGlobals mg → mg d.name = some (.ref fa) →
      ∃ fd : FuncData, (∀ (s : Shared) (u : Value), BindsTo s fd ⟨[u], []⟩ [("script", u)]) ∧ ∀ base : Heap, (K w.params).In base → base.Ns mainGlobals mg → FnG l.prog w (K w.params) mg base 8 fa fd ["script"] (spLaw (K w.params))) :
    PySem.W.WalkO q loose XP YP l.row.toRowW d [] (fun f vs => PySem.call f vs) :=
  KR.walk_ofG (n := 63) (k := 8) (x := "script") (sp := fun w => spLaw (K w.params)) hn (by decide) hdf ⟨rfl, by decide, by decide⟩ hY F (fun _ _ a ns hl _ hS => ⟨a, ns, rfl, hS, hl, fun _ => rfl⟩)
end
end KQ
open PySem PySem.W PyProof.Rows
set_option maxHeartbeats 0 in
theorem PySem.Challenge.cw_fittingdoors_k01_whole_partings_beside_o_holds : PySem.Challenge.rw_fittingdoors_k01_whole_partings_beside_o.Holds := by
  w_on; o_law; k_head; (case hw => w_witness2)
  k_fill
  refine KQ.walk (l := PySem.Challenge.rw_fittingdoors_k01_whole_partings_beside_o) rfl rfl (fun w h Y => PySem.W.kIn_of Y) ?F
  case F =>
    intro w mg fa h KX G hmg
    refine' KQ.step_def (x := "is_integer") (st := KQ.s_is_integer) KX G ?a1 ?l1 ?c1 ?k1 ?n1
    (case a1 => k_is); (case l1 => k_is); (case c1 => k_is); (case k1 => k_is)
    intro d_is_integer
    refine' KQ.step_def (x := "is_integer_within") (st := KQ.s_is_integer_within) KX G ?a2 ?l2 ?c2 ?k2 ?n2
    (case a2 => k_is); (case l2 => k_is); (case c2 => k_is); (case k2 => k_is)
    intro d_is_integer_within
    refine' KQ.step_def (x := "is_tuple_within") (st := KQ.s_is_tuple_within) KX G ?a3 ?l3 ?c3 ?k3 ?n3
    (case a3 => k_is); (case l3 => k_is); (case c3 => k_is); (case k3 => k_is)
    intro d_is_tuple_within
    refine' KQ.step_def (x := "first_wrong_block") (st := KQ.s_first_wrong_block) KX G ?a4 ?l4 ?c4 ?k4 ?n4
    (case a4 => k_is); (case l4 => k_is); (case c4 => k_is); (case k4 => k_is)
    intro d_first_wrong_block
    refine' KQ.step_def (x := "is_parting") (st := KQ.s_is_parting) KX G ?a5 ?l5 ?c5 ?k5 ?n5
    (case a5 => k_is); (case l5 => k_is); (case c5 => k_is); (case k5 => k_is)
    intro d_is_parting
    refine' KQ.step_def (x := "need_parting") (st := KQ.s_need_parting) KX G ?a6 ?l6 ?c6 ?k6 ?n6
    (case a6 => k_is); (case l6 => k_is); (case c6 => k_is); (case k6 => k_is)
    intro d_need_parting
    refine' KQ.step_def (x := "need_parting_of") (st := KQ.s_need_parting_of) KX G ?a7 ?l7 ?c7 ?k7 ?n7
    (case a7 => k_is); (case l7 => k_is); (case c7 => k_is); (case k7 => k_is)
    intro d_need_parting_of
    refine' KQ.step_def (x := "need_two_partings") (st := KQ.s_need_two_partings) KX G ?a8 ?l8 ?c8 ?k8 ?n8
    (case a8 => k_is); (case l8 => k_is); (case c8 => k_is); (case k8 => k_is)
    intro d_need_two_partings
    refine' KQ.step_def (x := "block_count") (st := KQ.s_block_count) KX G ?a9 ?l9 ?c9 ?k9 ?n9
    (case a9 => k_is); (case l9 => k_is); (case c9 => k_is); (case k9 => k_is)
    intro d_block_count
    refine' KQ.step_def (x := "size_of") (st := KQ.s_size_of) KX G ?a10 ?l10 ?c10 ?k10 ?n10
    (case a10 => k_is); (case l10 => k_is); (case c10 => k_is); (case k10 => k_is)
    intro d_size_of
    refine' KQ.step_def (x := "numbered") (st := KQ.s_numbered) KX G ?a11 ?l11 ?c11 ?k11 ?n11
    (case a11 => k_is); (case l11 => k_is); (case c11 => k_is); (case k11 => k_is)
    intro d_numbered
    refine' KQ.step_def (x := "parting_of") (st := KQ.s_parting_of) KX G ?a12 ?l12 ?c12 ?k12 ?n12
    (case a12 => k_is); (case l12 => k_is); (case c12 => k_is); (case k12 => k_is)
    intro d_parting_of
    refine' KQ.step_def (x := "need_some_doors") (st := KQ.s_need_some_doors) KX G ?a13 ?l13 ?c13 ?k13 ?n13
    (case a13 => k_is); (case l13 => k_is); (case c13 => k_is); (case k13 => k_is)
    intro d_need_some_doors
    refine' KQ.step_def (x := "parting_of_some") (st := KQ.s_parting_of_some) KX G ?a14 ?l14 ?c14 ?k14 ?n14
    (case a14 => k_is); (case l14 => k_is); (case c14 => k_is); (case k14 => k_is)
    intro d_parting_of_some
    refine' KQ.step_def (x := "doors_by_block") (st := KQ.s_doors_by_block) KX G ?a15 ?l15 ?c15 ?k15 ?n15
    (case a15 => k_is); (case l15 => k_is); (case c15 => k_is); (case k15 => k_is)
    intro d_doors_by_block
    refine' KQ.step_def (x := "blocks_of") (st := KQ.s_blocks_of) KX G ?a16 ?l16 ?c16 ?k16 ?n16
    (case a16 => k_is); (case l16 => k_is); (case c16 => k_is); (case k16 => k_is)
    intro d_blocks_of
    refine' KQ.step_def (x := "beside") (st := KQ.s_beside) KX G ?a17 ?l17 ?c17 ?k17 ?n17
    (case a17 => k_is); (case l17 => k_is); (case c17 => k_is); (case k17 => k_is)
    intro d_beside
    refine' KQ.step_def (x := "lies_within") (st := KQ.s_lies_within) KX G ?a18 ?l18 ?c18 ?k18 ?n18
    (case a18 => k_is); (case l18 => k_is); (case c18 => k_is); (case k18 => k_is)
    intro d_lies_within
    refine' KQ.step_def (x := "is_finer") (st := KQ.s_is_finer) KX G ?a19 ?l19 ?c19 ?k19 ?n19
    (case a19 => k_is); (case l19 => k_is); (case c19 => k_is); (case k19 => k_is)
    intro d_is_finer
    refine' KQ.step_def (x := "coarsest_below") (st := KQ.s_coarsest_below) KX G ?a20 ?l20 ?c20 ?k20 ?n20
    (case a20 => k_is); (case l20 => k_is); (case c20 => k_is); (case k20 => k_is)
    intro d_coarsest_below
    refine' KQ.step_def (x := "partings_of_doors") (st := KQ.s_partings_of_doors) KX G ?a21 ?l21 ?c21 ?k21 ?n21
    (case a21 => k_is); (case l21 => k_is); (case c21 => k_is); (case k21 => k_is)
    intro d_partings_of_doors
    refine' KQ.step_def (x := "all_partings") (st := KQ.s_all_partings) KX G ?a22 ?l22 ?c22 ?k22 ?n22
    (case a22 => k_is); (case l22 => k_is); (case c22 => k_is); (case k22 => k_is)
    intro d_all_partings
    refine' KQ.step_def (x := "finest_above") (st := KQ.s_finest_above) KX G ?a23 ?l23 ?c23 ?k23 ?n23
    (case a23 => k_is); (case l23 => k_is); (case c23 => k_is); (case k23 => k_is)
    intro d_finest_above
    refine' KQ.step_def (x := "_law_mixed") (st := KQ.s__law_mixed) KX G ?a24 ?l24 ?c24 ?k24 ?n24
    (case a24 => k_is); (case l24 => k_is); (case c24 => k_is); (case k24 => k_is)
    intro d__law_mixed
    refine' KQ.step_def (x := "_law_draw") (st := KQ.s__law_draw) KX G ?a25 ?l25 ?c25 ?k25 ?n25
    (case a25 => k_is); (case l25 => k_is); (case c25 => k_is); (case k25 => k_is)
    intro d__law_draw
    refine' KQ.step_def (x := "_law_folded") (st := KQ.s__law_folded) KX G ?a26 ?l26 ?c26 ?k26 ?n26
    (case a26 => k_is); (case l26 => k_is); (case c26 => k_is); (case k26 => k_is)
    intro d__law_folded
    refine' KQ.step_def (x := "_law_begun") (st := KQ.s__law_begun) KX G ?a27 ?l27 ?c27 ?k27 ?n27
    (case a27 => k_is); (case l27 => k_is); (case c27 => k_is); (case k27 => k_is)
    intro d__law_begun
    refine' KQ.step_def (x := "_law_like") (st := KQ.s__law_like) KX G ?a28 ?l28 ?c28 ?k28 ?n28
    (case a28 => k_is); (case l28 => k_is); (case c28 => k_is); (case k28 => k_is)
    intro d__law_like
    refine' KQ.step_def (x := "_law_order") (st := KQ.s__law_order) KX G ?a29 ?l29 ?c29 ?k29 ?n29
    (case a29 => k_is); (case l29 => k_is); (case c29 => k_is); (case k29 => k_is)
    intro d__law_order
    refine' KQ.step_def (x := "_law_numbered") (st := KQ.s__law_numbered) KX G ?a30 ?l30 ?c30 ?k30 ?n30
    (case a30 => k_is); (case l30 => k_is); (case c30 => k_is); (case k30 => k_is)
    intro d__law_numbered
    refine' KQ.step_def (x := "_law_any_parting") (st := KQ.s__law_any_parting) KX G ?a31 ?l31 ?c31 ?k31 ?n31
    (case a31 => k_is); (case l31 => k_is); (case c31 => k_is); (case k31 => k_is)
    intro d__law_any_parting
    refine' KQ.step_def (x := "_law_coarser") (st := KQ.s__law_coarser) KX G ?a32 ?l32 ?c32 ?k32 ?n32
    (case a32 => k_is); (case l32 => k_is); (case c32 => k_is); (case k32 => k_is)
    intro d__law_coarser
    refine' KQ.step_def (x := "_law_is_finer") (st := KQ.s__law_is_finer) KX G ?a33 ?l33 ?c33 ?k33 ?n33
    (case a33 => k_is); (case l33 => k_is); (case c33 => k_is); (case k33 => k_is)
    intro d__law_is_finer
    refine' KQ.step_def (x := "_law_partings") (st := KQ.s__law_partings) KX G ?a34 ?l34 ?c34 ?k34 ?n34
    (case a34 => k_is); (case l34 => k_is); (case c34 => k_is); (case k34 => k_is)
    intro d__law_partings
    refine' KQ.step_def (x := "_law_hung") (st := KQ.s__law_hung) KX G ?a35 ?l35 ?c35 ?k35 ?n35
    (case a35 => k_is); (case l35 => k_is); (case c35 => k_is); (case k35 => k_is)
    intro d__law_hung
    refine' KQ.step_def (x := "law") (st := KQ.s_law) KX G ?a36 ?l36 ?c36 ?k36 ?n36
    (case a36 => k_is); (case l36 => k_is); (case c36 => k_is); (case k36 => k_is)
    intro d_law
    refine' KQ.step_cst (x := "MOST_DOORS") (v := 60) KX G ?a37 ?n37
    (case a37 => k_is)
    intro c_MOST_DOORS
    refine' KQ.step_cst (x := "MOST_LISTED_DOORS") (v := 8) KX G ?a38 ?n38
    (case a38 => k_is)
    intro c_MOST_LISTED_DOORS
    refine' KQ.step_none (x := "len") KX G ?a39 ?n39
    (case a39 => k_is)
    intro z_len
    refine' KQ.step_none (x := "range") KX G ?a40 ?n40
    (case a40 => k_is)
    intro z_range
    refine' KQ.step_none (x := "enumerate") KX G ?a41 ?n41
    (case a41 => k_is)
    intro z_enumerate
    refine' KQ.step_none (x := "zip") KX G ?a42 ?n42
    (case a42 => k_is)
    intro z_zip
    refine' KQ.step_none (x := "isinstance") KX G ?a43 ?n43
    (case a43 => k_is)
    intro z_isinstance
    refine' KQ.step_none (x := "int") KX G ?a44 ?n44
    (case a44 => k_is)
    intro z_int
    refine' KQ.step_none (x := "bool") KX G ?a45 ?n45
    (case a45 => k_is)
    intro z_bool
    refine' KQ.step_none (x := "tuple") KX G ?a46 ?n46
    (case a46 => k_is)
    intro z_tuple
    refine' KQ.step_none (x := "list") KX G ?a47 ?n47
    (case a47 => k_is)
    intro z_list
    refine' KQ.step_none (x := "max") KX G ?a48 ?n48
    (case a48 => k_is)
    intro z_max
    refine' KQ.step_none (x := "min") KX G ?a49 ?n49
    (case a49 => k_is)
    intro z_min
    refine' KQ.step_none (x := "repr") KX G ?a50 ?n50
    (case a50 => k_is)
    intro z_repr
    refine' KQ.step_none (x := "set") KX G ?a51 ?n51
    (case a51 => k_is)
    intro z_set
    refine' KQ.step_none (x := "sum") KX G ?a52 ?n52
    (case a52 => k_is)
    intro z_sum
    refine' KQ.step_none (x := "sorted") KX G ?a53 ?n53
    (case a53 => k_is)
    intro z_sorted
    refine' KQ.step_cls (x := "Clumps") KX G ?aC54 ?pg54 ?hd54 ?po54 ?sa54 ?mk54 ?kc54 ?n54
    (case aC54 => k_is); (case pg54 => k_is); (case hd54 => k_is); (case po54 => k_is); (case sa54 => k_is); (case mk54 => k_is); (case kc54 => k_is)
    intro cC hm mk kc
    refine' KQ.step_init (q := "Clumps.__init__") (st := KQ.s_Clumps___init__) ?a55 ?i55 ?l55 ?c55 ?k55 mk kc ?n55
    (case a55 => k_is); (case i55 => k_is); (case l55 => k_is); (case c55 => k_is); (case k55 => k_is)
    intro iC
    refine' KQ.step_meth (m := "head") (q := "Clumps.head") (st := KQ.s_Clumps_head) cC ?a56 ?i56 ?l56 ?c56 ?k56 ?n56
    (case a56 => k_is); (case i56 => k_is); (case l56 => k_is); (case c56 => k_is); (case k56 => k_is)
    intro hC
    refine' KQ.step_meth (m := "unite") (q := "Clumps.unite") (st := KQ.s_Clumps_unite) cC ?a57 ?i57 ?l57 ?c57 ?k57 ?n57
    (case a57 => k_is); (case i57 => k_is); (case l57 => k_is); (case c57 => k_is); (case k57 => k_is)
    intro uC
    refine' KQ.step_noattr (x := "heads") cC ?a58 ?n58
    (case a58 => k_is)
    intro nH
    refine' KQ.step_noattr (x := "many") cC ?a59 ?n59
    (case a59 => k_is)
    intro nM
    exact KQ.finish hmg d_law ⟨d_is_integer, d_is_integer_within, d_is_tuple_within, d_first_wrong_block, d_is_parting, d_need_parting, d_need_parting_of, d_need_two_partings, d_block_count, d_size_of, d_numbered, d_parting_of, d_need_some_doors, d_parting_of_some, d_doors_by_block, d_blocks_of, d_beside, d_lies_within, d_is_finer, d_coarsest_below, d_partings_of_doors, d_all_partings, d_finest_above, d__law_mixed, d__law_draw, d__law_folded, d__law_begun, d__law_like, d__law_order, d__law_numbered, d__law_any_parting, d__law_coarser, d__law_is_finer, d__law_partings, d__law_hung⟩ ⟨z_len, z_range, z_enumerate, z_zip, z_isinstance, z_int, z_bool, z_tuple, z_list, z_max, z_min, z_repr, z_set, z_sum, z_sorted⟩ c_MOST_DOORS c_MOST_LISTED_DOORS ⟨cC, hm, nH, nM, iC, hC, uC⟩
#print axioms PySem.Challenge.cw_fittingdoors_k01_whole_partings_beside_o_holds
